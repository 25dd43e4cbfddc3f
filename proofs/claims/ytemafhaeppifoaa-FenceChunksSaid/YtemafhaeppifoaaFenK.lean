/-
  Contracts of layer 6: closed, Count, bytes.LastIndexByte at 0.
-/
import Derived.Test.YtemafhaeppifoaaFenC
import Derived.Test.YtemafhaeppifoaaLd
import Derived.OpenShut
namespace Go.Proofs.Ytemafhaeppifoaa
open Go.RowKit Go.Shelf
set_option maxRecDepth 100000
attribute [local go_sem] Oper.semAt_some

theorem closed_any (a : Option Addr) (n c : Nat) (w : World) :
    Calls Try.prog 18 #[.slice a n c] w fun e w' => e = .returned (.func (.func 25) #[] #[.pointer (some ⟨w.heap.size, 0, none⟩)]) ∧ w' = w.alloc (.cells #[.slice a n c] 22) := by
  go_enter Try.func18, Try.ntmps18
  go_wp2
  go_ret
  exact ⟨rfl, rfl⟩

/-- the place of the last 0, of numbers of which none behind the k-th is 0 -/
theorem lastIdx_any (B : Nat) (a : Option Addr) (n c : Nat) (zs : List Int) (w : World) (hn : zs.length = n) (hl : n ≤ 1000000000) (h1 : Nums .u8 w B a zs) :
    Calls Try.prog 27 #[.slice a n c, .int .u8 0] w fun e w' => (∃ k : Nat, k ≤ n ∧ e = .returned (.int .i64 ((k : Int) - 1)) ∧ Fc.opn [] zs = zs.drop k) ∧ w' = w := by
  have HL := Lib.hid hn
  clear hn
  go_enter Try.func27, Try.ntmps27
  go_wp2
  go_loopw [5] (fun v wr => ∃ k : Nat, k ≤ n ∧ v = .int .i64 ((k : Int) - 1) ∧ Hid (Cb.NZ (zs.drop k)) ∧ wr = w) (fun v _ => (intOf v + 1).toNat)
  case atStart => exact ⟨n, by omega, rfl, by show Cb.NZ _; rw [List.drop_eq_nil_of_le (by rw [HL.out]; omega)]; exact fun c hc => by simp at hc, rfl⟩
  case round =>
    obtain ⟨k, hk, rfl, HN, rfl⟩ := hrel
    rcases Nat.eq_zero_or_pos k with h0 | h0
    · subst h0
      have h2 : ((0 : Nat) : Int) - 1 = -1 := by omega
      have HF : Hid (Fc.opn [] zs = zs.drop 0) := Fc.opn_drop (.inl rfl) HN.out
      rw [h2]
      go_wp2
      go_ret
      exact ⟨⟨0, by omega, rfl, HF.out⟩, rfl⟩
    · obtain ⟨i, rfl⟩ : ∃ i, k = i + 1 := ⟨k - 1, by omega⟩
      obtain ⟨z, hz⟩ : ∃ z, zs[i]? = some z := ⟨_, List.getElem?_eq_getElem (by rw [HL.out]; omega)⟩
      obtain ⟨b1, o1, rfl, hb1, hc1⟩ := h1.open hz
      have h2 : ((i + 1 : Nat) : Int) - 1 = (i : Int) := by omega
      have hlt : (i : Int) < (n : Int) := by omega
      rw [h2]
      by_cases hz0 : z = 0
      · subst hz0
        have HF : Hid (Fc.opn [] zs = zs.drop (i + 1)) := Fc.opn_drop (.inr ⟨i, rfl, hz⟩) HN.out
        clear hz h1
        go_wp2
        go_ret
        exact ⟨⟨i + 1, by omega, ret_int (by omega), HF.out⟩, rfl⟩
      · have hz1 : (z == 0) = false := by simp [hz0]
        have HF : Hid (Cb.NZ (zs.drop i)) := by
          show Cb.NZ _
          have hd : zs.drop i = z :: zs.drop (i + 1) := by
            rw [List.getElem?_eq_getElem (by rw [HL.out]; omega)] at hz
            injection hz with hz
            rw [← hz, List.getElem_cons_drop]
          rw [hd]
          intro c hc
          rcases List.mem_cons.1 hc with rfl | hc
          · exact hz0
          · exact HN.out c hc
        clear hz h1
        go_wp2
        go_roundw
        case rel => exact ⟨i, by omega, by go_num, HF, trivial⟩
        case measure => simp [intOf]
theorem last_any (B : Nat) (a : Option Addr) (n c : Nat) (zs : List Int) (w : World) (hn : zs.length = n) (hl : n ≤ 1000000000) (h1 : Nums .u8 w B a zs) :
    Calls Try.prog 19 #[.slice a n c, .int .u8 0] w fun e w' => (∃ k : Nat, k ≤ n ∧ e = .returned (.int .i64 ((k : Int) - 1)) ∧ Fc.opn [] zs = zs.drop k) ∧ w' = w := by
  have I := lastIdx_any B a n c zs w hn hl h1
  clear h1
  go_enter Try.func19, Try.ntmps19
  go_wp2_with (go_at_call 27; refine I.mono ?_; rintro e w' ⟨⟨k, hk, rfl, hko⟩, rfl⟩)
  go_ret
  exact ⟨⟨k, hk, rfl, hko⟩, rfl⟩

theorem Ld.next {w V V1 : World} {b : Nat} {t : TypeId} {j : Nat} (h : Ld w b t j V) (hb : b < w.heap.size) (h1 : Below w.heap.size V V1) : Ld w b t (j + 1) (V1.setCell ⟨b, 0, none⟩ (.int .i64 ((j : Int) + 1))) :=
  ⟨by have := Boxed.set (.int .i64 ((j : Int) + 1)) ((h1.block b hb).trans h.1 : Boxed V1 b t _); rw [Int.natCast_succ]; exact this, (off_below h.2 h1).setCell (p := ⟨b, 0, none⟩) rfl _⟩
theorem Ld.keepS {S : Nat → Prop} {V : World} {b : Nat} (hb : ¬ S b) (v : Value) : KeepS S V (V.setCell ⟨b, 0, none⟩ v) := (KeepS.refl S V).set hb v

set_option maxHeartbeats 2000000 in
theorem count_any (a : Option Addr) (n c : Nat) (zs : List Int) (w : World) (hn : zs.length = n) (hc : n ≤ c) (hl : n ≤ 1000000) (hz : Bytes zs) (h1 : Nums .u8 w w.heap.size a zs) :
    Calls Try.prog 13 #[.slice a n c] w fun e w' => e = .returned (.int .i64 ((Fc.scan 0 [] zs).length : Nat)) ∧ Below w.heap.size w w' := by
  refine (callsIn_wide (n := 3)).1 ?_
  refine callsIn_of_wp_marks Try.func13 rfl trivial ?_ rfl
  simp only [Try.ntmps13, List.size_toArray, List.length_cons, List.length_nil, Nat.reduceAdd, Nat.reduceSub, Array.replicate_succ, Array.replicate_zero, List.push_toArray, List.append_toArray, List.nil_append, List.cons_append]
  gi_wp2_with fail
  refine ⟨trivial, ?_⟩
  refine (callsIn_wide.2 (closed_any a n c _)).mono ?_
  rintro e w2 ⟨rfl, hw2⟩
  rw [World.size_alloc]
  have hs2 : w2.heap.size = w.heap.size + 2 := by rw [hw2]; simp
  have bI : Boxed w2 w.heap.size 3 (.int .i64 ((0 : Nat) : Int)) := by rw [hw2]; exact (Boxed.new w _ _).alloc _
  have bC : Boxed w2 (w.heap.size + 1) 22 (.slice a n c) := by
    rw [hw2]
    have := Boxed.new (w.alloc (.cells #[.int .i64 0] 3)) 22 (.slice a n c)
    rwa [World.size_alloc] at this
  have hb2 : Below w.heap.size w w2 := by rw [hw2]; exact ((Below.refl _ w).alloc (Nat.le_refl _) _).alloc (by simp) _
  obtain ⟨S, hSd⟩ : ∃ S : Nat → Prop, S = fun k => k < w.heap.size ∨ k = w.heap.size + 1 := ⟨_, rfl⟩
  have hSlt : ∀ k, S k → k < w2.heap.size := fun k hk => by rw [hSd] at hk; rcases hk with h | h <;> omega
  have hSn : ¬ S w.heap.size := fun hk => by rw [hSd] at hk; rcases hk with h | h <;> omega
  have hSC : S (w.heap.size + 1) := by rw [hSd]; exact .inr rfl
  have hN2 : NumsS .u8 w2 S a zs := ((h1.below hb2).numsS (fun k hk => by rw [hSd]; exact .inl hk))
  have hbl : w.heap.size < w2.heap.size := by omega
  have hKo : ∀ (V : World) (l' : Nat) (o' : Obj), w2.heap.size ≤ l' → KeepS S V (V.putObj l' o') := fun V l' o' hl' => ⟨by simp [World.putObj], fun k hk => World.putObj_heap_other (by have := hSlt k hk; omega)⟩
  clear hw2 hSd h1
  gi_wp2_with fail
  refine range_stops rfl (by omega) (gf := 25) (lb := #[.pointer (some ⟨w.heap.size + 1, 0, none⟩)]) rfl trivial (enters_of Try.func25 (by kernel_rfl) rfl)
    (fun x : Nat × Option Addr × List Int => #[Value.int .i64 (x.1 : Int), Value.slice x.2.1 x.2.2.length x.2.2.length]) (fun _ => rfl)
    (fun j x V => Ld w2 w.heap.size 3 j V)
    (fun j V => Ld w2 w.heap.size 3 j V) (fun _ _ => False) (KeepS S) (Fc.scan 0 [] zs).length
    (fun j x V l o o' h hl ho hc' => h.below hbl (below_put V o' hl))
    (fun j V l o o' h hl ho hc' => h.below hbl (below_put V o' hl))
    (fun _ _ _ _ _ h _ _ _ => h)
    (fun _ _ _ h k => h.trans k) (fun V l o o' hl ho hc' => hKo V l o' hl)
    (fun o => Ld.below ⟨bI, Off.refl _ _⟩ hbl (((Below.refl w2.heap.size w2).alloc (Nat.le_refl _) _).alloc (by simp) _)) ?a1 ?assign ?body ?iter ?done ?stop
  case assign =>
    intro l x V K hK
    gi_wp2
    exact hK
  case body =>
    rintro l j x V hl hLd hj
    have kI := hLd.1.cell
    have fI := hLd.1.frozen
    have hj2 : (j : Int) ≤ 1000000 := by have := Fc.scan_length zs 0 []; omega
    have hfin := Lib.hid (show _ ∧ _ ∧ _ from ⟨((KeepsOthers.setCell V ⟨w.heap.size, 0, none⟩ (.int .i64 ((j : Int) + 1))).from w2.heap.size : KeepsFrom w2.heap.size V _), hLd.next hbl (Below.refl _ V), Ld.keepS (S := S) (V := V) hSn (.int .i64 ((j : Int) + 1))⟩)
    clear hLd
    gi_wp2
    exact hfin.out
  case iter =>
    intro Bk X l V hBk hBlt hX hlw hD hB hY
    have hKV : KeepS S w2 V := ⟨hD.2.size, fun k hk => hD.2.block k (hSlt k hk) (fun e => hSn (by rw [← e]; exact hk))⟩
    refine (closed_in 2 (by omega) 1 l (w.heap.size + 1) n c S w2 hSlt a zs hn hl hz hc (fun j V => Ld w2 w.heap.size 3 j V ∧ Bk V) X ?_ V hSC bC.cell hKV hN2 ⟨hD, hB⟩).mono ?_
    · rintro j p A' b V1 ⟨h1, h2⟩ hk hx hnx
      refine (hY j (p, A', b) V1 h1 h2 (by
        rcases Nat.lt_or_ge j (Fc.scan 0 [] zs).length with h | h
        · exact h
        · rw [List.getElem?_eq_none h] at hx; cases hx)).mono ?_
      rintro e V2 (⟨rfl, hd, hkk, _⟩ | ⟨rfl, hx, _⟩)
      · exact .inl ⟨rfl, hd, hkk⟩
      · exact .inr ⟨rfl, hx⟩
    · rintro e V2 ⟨hv, ⟨h1, _⟩ | h⟩
      · exact ⟨hv, .inl h1⟩
      · exact ⟨hv, .inr h⟩
  case done =>
    rintro D V hD ⟨hI, hO⟩ hK
    have kI := hI.cell
    have hbV : Below w.heap.size w V := hb2.trans (hO.below (fun k hk => by omega) (by omega))
    have hfin := Lib.hid (hbV.trans (below_put (B := w.heap.size) V (.deferred none) (by omega : w.heap.size ≤ D)))
    clear bI bC hb2 hI hO hbV
    gi_wp2
    refine ⟨by simp, .inl ⟨_, _, rfl, run_takeDeferred hK, ?_⟩⟩
    refine ⟨_, results_tmp rfl _ _ _, ?_⟩
    exact ⟨rfl, hfin.out⟩
  case stop =>
    rintro D cd W' _ h _
    exact h.elim
end Go.Proofs.Ytemafhaeppifoaa
