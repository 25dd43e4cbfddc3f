/-
  Contract of layer 6's Split.
-/
import Derived.Test.YtemafhaeppifoaaLInfo
import Derived.Test.YtemafhaeppifoaaFenK
import Derived.Test.YtemafhaeppifoaaLBox
import Derived.Test.YtemafhaeppifoaaClone
namespace Go.Proofs.Ytemafhaeppifoaa
open Go.RowKit Go.Shelf
set_option maxRecDepth 100000
attribute [local go_sem] Oper.semAt_some

/-- what Split leaves -/
def SplitR (w : World) (zs : List Int) (e : Ending) (w' : World) : Prop :=
  ∃ A1 c1 A2 c2, e = .returned (.tuple #[.slice A1 (Fc.segs zs).length c1, .slice A2 (Fc.opn [] zs).length c2]) ∧ (Fc.segs zs).length ≤ c1 ∧ (Fc.opn [] zs).length ≤ c2 ∧
    ListAt .u8 w' w'.heap.size A1 (Fc.segs zs) ∧ Nums .u8 w' w'.heap.size A2 (Fc.opn [] zs) ∧ Below w.heap.size w w'

set_option maxHeartbeats 4000000 in
theorem split_any (a : Option Addr) (n c : Nat) (zs : List Int) (w : World) (hn : zs.length = n) (hl : n ≤ 1000000) (hz : Bytes zs) (h1 : Nums .u8 w w.heap.size a zs) :
    Calls Try.prog 7 #[.slice a n c] w (SplitR w zs) := by
  obtain ⟨j0, hj0', hj0, hj1, hj2⟩ := info_parts listInfo
  have hC := clone_any a n c zs w hn hl h1
  refine (callsIn_wide (n := 3)).1 ?_
  refine callsIn_of_wp_marks Try.func7 rfl trivial ?_ rfl
  simp only [Try.ntmps7, List.size_toArray, List.length_cons, List.length_nil, Nat.reduceAdd, Nat.reduceSub, Array.replicate_succ, Array.replicate_zero, List.push_toArray, List.append_toArray, List.nil_append, List.cons_append]
  gi_wp2_with fail
  refine ⟨trivial, ?_⟩
  refine (callsIn_wide.2 hC).mono ?_
  rintro e w1 ⟨v1, rfl, hm1⟩
  clear hC h1
  obtain ⟨A1, c1, rfl, hc1, _⟩ := hm1.slice
  have hb1 := hm1.2
  have hnu1 := hm1.numsS rfl
  rw [hn] at hc1 ⊢
  have hs1 := hb1.size
  gi_wp2_with fail
  refine ⟨trivial, ?_⟩
  refine (callsIn_wide.2 (closed_any A1 n c1 _)).mono ?_
  rintro e w2 ⟨rfl, hw2⟩
  rw [World.size_alloc]
  have hs2 : w2.heap.size = w1.heap.size + 2 := by rw [hw2]; simp
  have bL : Boxed w2 w1.heap.size 23 (.slice none 0 0) := by rw [hw2]; exact (Boxed.new w1 _ _).alloc _
  have bC : Boxed w2 (w1.heap.size + 1) 22 (.slice A1 n c1) := by
    rw [hw2]
    have := Boxed.new (w1.alloc (.cells #[.slice none 0 0] 23)) 22 (.slice A1 n c1)
    rwa [World.size_alloc] at this
  have hb12 : Below w1.heap.size w1 w2 := by rw [hw2]; exact ((Below.refl _ w1).alloc (Nat.le_refl _) _).alloc (by simp) _
  have hb2 := hb1.trans (hb12.mono hs1)
  obtain ⟨S, hSd⟩ : ∃ S : Nat → Prop, S = fun k => (w.heap.size ≤ k ∧ k < w1.heap.size) ∨ k = w1.heap.size + 1 := ⟨_, rfl⟩
  have hSlt : ∀ k, S k → k < w2.heap.size := fun k hk => by rw [hSd] at hk; rcases hk with h | h <;> omega
  have hSn : ¬ S w1.heap.size := fun hk => by rw [hSd] at hk; rcases hk with h | h <;> omega
  have hSC : S (w1.heap.size + 1) := by rw [hSd]; exact .inr rfl
  have hN2 : NumsS .u8 w2 S A1 zs := (hnu1.keeps (KeepS.of_below hb12 (fun k hk => hk.2))).more (fun k hk => by rw [hSd]; exact .inl hk)
  have hbl : w1.heap.size < w2.heap.size := by omega
  have hKo : ∀ (V : World) (l' : Nat) (o' : Obj), w2.heap.size ≤ l' → KeepS S V (V.putObj l' o') := fun V l' o' hl' => ⟨by simp [World.putObj], fun k hk => World.putObj_heap_other (by have := hSlt k hk; omega)⟩
  obtain ⟨sg, hsg⟩ : ∃ sg, Fc.scan 0 [] zs = sg := ⟨_, rfl⟩
  have hsgl : sg.length ≤ 1000000 := by have := Fc.scan_length zs 0 []; rw [hsg] at this; omega
  have hDp : ∀ (j : Nat) (V : World) (l : Nat) (o o' : Obj), (∃ v xs, Boxed V w1.heap.size 23 v ∧ LsS 22 .u8 w2.heap.size w2 S V v xs ((sg.take j).map (·.2)) ∧ Off (fun k => k = w1.heap.size) w2 V) → w2.heap.size ≤ l → V.heap[l]? = some o → o.isCells = false →
      ∃ v xs, Boxed (V.putObj l o') w1.heap.size 23 v ∧ LsS 22 .u8 w2.heap.size w2 S (V.putObj l o') v xs ((sg.take j).map (·.2)) ∧ Off (fun k => k = w1.heap.size) w2 (V.putObj l o') := by
    rintro j V l o o' ⟨v, xs, bV, hL, hO⟩ hl ho hc'
    exact ⟨v, xs, (World.putObj_heap_other (by omega)).trans bV, ⟨ownsRow_putObj hL.out _ ho hc', hL.els⟩, off_below hO (below_put V o' hl)⟩
  have hD0 : ∀ o, ∃ v xs, Boxed ((w2.alloc (.deferred (some []))).alloc o) w1.heap.size 23 v ∧ LsS 22 .u8 w2.heap.size w2 S ((w2.alloc (.deferred (some []))).alloc o) v xs ((sg.take 0).map (·.2)) ∧ Off (fun k => k = w1.heap.size) w2 ((w2.alloc (.deferred (some []))).alloc o) := fun o =>
    ⟨_, [], (bL.alloc _).alloc _, LsS.start _ _ _ _ _ _, off_below (Off.refl _ _) (((Below.refl w2.heap.size w2).alloc (Nat.le_refl _) _).alloc (by simp) _)⟩
  clear hw2 hSd hm1 hnu1 hb12
  gi_wp2_with fail
  refine range_stops rfl (by omega) (gf := 25) (lb := #[.pointer (some ⟨w1.heap.size + 1, 0, none⟩)]) rfl trivial (enters_of Try.func25 (by kernel_rfl) rfl)
    (fun x : Nat × Option Addr × List Int => #[Value.int .i64 (x.1 : Int), Value.slice x.2.1 x.2.2.length x.2.2.length]) (fun _ => rfl)
    (fun j x V => (∃ v xs, Boxed V w1.heap.size 23 v ∧ LsS 22 .u8 w2.heap.size w2 S V v xs ((sg.take j).map (·.2)) ∧ Off (fun k => k = w1.heap.size) w2 V) ∧ sg[j]? = some (x.1, x.2.2) ∧ NumsS .u8 w2 S x.2.1 x.2.2)
    (fun j V => ∃ v xs, Boxed V w1.heap.size 23 v ∧ LsS 22 .u8 w2.heap.size w2 S V v xs ((sg.take j).map (·.2)) ∧ Off (fun k => k = w1.heap.size) w2 V) (fun _ _ => False) (KeepS S) sg.length
    ?rp ?dp
    (fun _ _ _ _ _ h _ _ _ => h)
    (fun _ _ _ h k => h.trans k) (fun V l o o' hl ho hc' => hKo V l o' hl)
    ?d0 ?a1 ?assign ?body ?iter ?done ?stop
  case rp => exact fun j x V l o o' h hl ho hc' => ⟨hDp j V l o o' h.1 hl ho hc', h.2⟩
  case dp => exact hDp
  case d0 =>
    intro o
    exact hD0 o
  case assign =>
    intro l x V K hK
    gi_wp2
    exact hK
  case body =>
    rintro l j x V hl ⟨⟨v, xs, bV, hL, hO⟩, hx, hnx⟩ hj
    have kL := bV.cell
    have fL := bV.frozen
    have hlen : ((sg.take j).map (·.2)).length = j := by rw [List.length_map, List.length_take]; omega
    have hOV := hO.size
    have hto : (sg.take (j + 1)).map (·.2) = (sg.take j).map (·.2) ++ [x.2.2] := by rw [List.take_add_one, hx]; simp
    have HR := Lib.hid hL.out
    rw [hlen] at HR
    have HA := Lib.hid (fun v1 w4 hown hg => list_appended (t := 23) (e := 22) (v' := v1) (w1 := w4) (m := j + 1) (ys := xs ++ [Value.slice x.2.1 x.2.2.length x.2.2.length]) bV HR.out hbl hOV hown hg)
    have HL := Lib.hid hL
    have HO := Lib.hid hO
    have HT := Lib.hid hto
    have HX := Lib.hid hlen
    clear hL hO hto hlen hDp hD0 bL bC hN2 hb2 hs2
    gi_wp2_with (gi_at_builtin; refine wpListIn_append_vals rfl (.tmp 15) (.tmp 17) 23 rfl w2.heap.size 22 j0 (.slice none 0 0) 24 Try.underlying23 hj0' hj0 hj1 hj2 rfl j xs [Value.slice x.2.1 x.2.2.length x.2.2.length] v rfl (HR.out.alloc _) ⟨V.heap.size, 0, none⟩ 1 1 rfl rfl (cell_one_new _ _ _) (by simp [Value.oneCell']) ?c1 ?c2 ?c3 ?_)
    case c1 => unfold maxLen; omega
    case c2 => omega
    case c3 => first | omega | (rw [World.size_alloc]; omega)
    intro v1 w4 hown hg
    obtain ⟨g1, cap1, rfl⟩ := ownsRow_succ hown
    obtain ⟨bV4, hA4⟩ := HA.out _ w4 hown (grown_of_alloc hg)
    have fL4 := bV4.frozen
    have kL4 := bV4.cell
    have hfin := Lib.hid (show _ ∧ _ ∧ _ from ⟨(hA4.others.from w2.heap.size : KeepsFrom w2.heap.size V _), (⟨_, _, hA4.out, by rw [HT.out]; exact HL.out.more (by rw [HX.out]; exact hA4.row) (Nat.le_refl _) hnx, hA4.off w2 rfl HO.out⟩ :
      ∃ v xs, Boxed (w4.setCell ⟨w1.heap.size, 0, none⟩ (.slice (some ⟨g1, 0, none⟩) (j + 1) cap1)) w1.heap.size 23 v ∧ LsS 22 .u8 w2.heap.size w2 S (w4.setCell ⟨w1.heap.size, 0, none⟩ (.slice (some ⟨g1, 0, none⟩) (j + 1) cap1)) v xs ((sg.take (j + 1)).map (·.2)) ∧ Off (fun k => k = w1.heap.size) w2 (w4.setCell ⟨w1.heap.size, 0, none⟩ (.slice (some ⟨g1, 0, none⟩) (j + 1) cap1))), hA4.keep S hSn hSlt⟩)
    clear hown hg HA hA4 HL HO HR
    gi_wp2
    exact hfin.out
  case iter =>
    intro Bk X l V hBk hBlt hX hlw hD hB hY
    have hKV : KeepS S w2 V := by
      obtain ⟨v, xs, _, _, hO⟩ := hD
      exact ⟨hO.size, fun k hk => hO.block k (hSlt k hk) (fun e => hSn (by rw [← e]; exact hk))⟩
    refine (closed_in 2 (by omega) 1 l (w1.heap.size + 1) n c1 S w2 hSlt A1 zs hn hl hz hc1 (fun j V => (∃ v xs, Boxed V w1.heap.size 23 v ∧ LsS 22 .u8 w2.heap.size w2 S V v xs ((sg.take j).map (·.2)) ∧ Off (fun k => k = w1.heap.size) w2 V) ∧ Bk V) X ?_ V hSC bC.cell hKV hN2 ⟨hD, hB⟩).mono ?_
    · rintro j p A' b V1 ⟨h1, h2⟩ hk hx hnx
      rw [hsg] at hx
      refine (hY j (p, A', b) V1 ⟨h1, hx, hnx⟩ h2 (by
        rcases Nat.lt_or_ge j sg.length with h | h
        · exact h
        · rw [List.getElem?_eq_none h] at hx; cases hx)).mono ?_
      rintro e V2 (⟨rfl, hd, hkk, _⟩ | ⟨rfl, hx, _⟩)
      · exact .inl ⟨rfl, hd, hkk⟩
      · exact .inr ⟨rfl, hx⟩
    · rintro e V2 ⟨hv, ⟨h1, _⟩ | h⟩
      · rw [hsg] at h1; exact ⟨hv, .inl h1⟩
      · exact ⟨hv, .inr h⟩
  case done =>
    rintro D V hD ⟨v, xs, bV, hL, hO⟩ hK
    have kL := bV.cell
    have hKV : KeepS S w2 V := ⟨hO.size, fun k hk => hO.block k (hSlt k hk) (fun e => hSn (by rw [← e]; exact hk))⟩
    have hnV : Nums .u8 V V.heap.size A1 zs := (hN2.keeps hKV).nums (fun k hk => by have := hSlt k hk; have := hO.size; omega)
    have hbV : Below w.heap.size w V := hb2.trans (hO.below (fun k hk => by omega) (by omega))
    obtain ⟨AL, cL, rfl, hcL, hLA⟩ := hL.lies hKV hSlt
    rw [List.take_length] at hcL hLA kL
    have hfin : Hid (∀ q : Nat, ListAt .u8 ((V.drewN q).putObj D (.deferred none)) ((V.drewN q).putObj D (.deferred none)).heap.size AL (Fc.segs zs) ∧ Nums .u8 ((V.drewN q).putObj D (.deferred none)) ((V.drewN q).putObj D (.deferred none)).heap.size A1 zs ∧ Below w.heap.size w ((V.drewN q).putObj D (.deferred none))) := fun q => by
      have hd := below_drewN (Below.refl V.heap.size V) q
      have hKq : (V.drewN q).heap[D]? = some (.deferred (some [])) := hK
      have hsz : ((V.drewN q).putObj D (.deferred none)).heap.size = V.heap.size := by simp [World.putObj, World.drewN]
      rw [hsz]
      exact ⟨by have := (hLA.below hd).putObj hKq rfl (.deferred none); rw [← hsg] at this; exact this, (hnV.below hd).putObj hKq rfl _, (below_drewN hbV q).trans (below_put _ _ (by omega))⟩
    have hsl : (sg.map (·.2)).length = (Fc.segs zs).length := by rw [← hsg]; rfl
    rw [hsl] at kL hcL
    clear hL hO hKV hLA hbV bV hDp hD0 bL bC hN2 hb2
    gi_wp2_with fail
    refine ⟨trivial, ?_⟩
    refine (callsIn_wide.2 (last_any V.heap.size A1 n c1 zs V hn (by omega) hnV)).mono ?_
    rintro e w3 ⟨⟨k, hk, rfl, hko⟩, rfl⟩
    have hk1 : (k : Int) - 1 + 1 = (k : Int) := by omega
    have hkn : (k : Int) ≤ (n : Int) := by omega
    have hnc : (n : Int) ≤ (c1 : Int) := by omega
    gi_wp2
    refine wpIn_wide.2 ?_
    go_quiet (fail)
    have hKq : (w3.drewN nq).heap[D]? = some (.deferred (some [])) := hK
    have hol : (Fc.opn [] zs).length = n - k := by rw [hko, List.length_drop, hn]
    have hF := hfin.out nq
    have hnD : Nums .u8 ((w3.drewN nq).putObj D (.deferred none)) ((w3.drewN nq).putObj D (.deferred none)).heap.size (if c1 = k then A1 else A1.map (·.add k)) (Fc.opn [] zs) := by
      rw [hko]; exact hF.2.1.drop (by omega)
    have HF := Lib.hid hF
    have HD := Lib.hid hnD
    have HO := Lib.hid hol
    have HKq := Lib.hid hKq
    clear hfin hF hnD hol hKq
    gi_wp2
    all_goals refine ⟨by simp, .inl ⟨_, _, rfl, run_takeDeferred HKq.out, ?_⟩⟩
    all_goals refine ⟨_, results_tmp2 rfl _ _ _, ?_⟩
    all_goals have hD2 := HD.out
    all_goals split at hD2
    all_goals first
      | (exfalso; omega)
      | exact ⟨AL, cL, _, _, by rw [HO.out]; rfl, hcL, by rw [HO.out]; omega, HF.out.1, hD2, HF.out.2.2⟩
  case stop =>
    rintro D cd W' _ h _
    exact h.elim
end Go.Proofs.Ytemafhaeppifoaa
