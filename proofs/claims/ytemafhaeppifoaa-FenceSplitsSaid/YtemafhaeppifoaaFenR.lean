/-
  Contract of the document's Split.
-/
import Derived.Test.YtemafhaeppifoaaIInfo
import Derived.Test.YtemafhaeppifoaaFenS
import Derived.Test.YtemafhaeppifoaaLists
namespace Go.Proofs.Ytemafhaeppifoaa
open Go.RowKit Go.Shelf
set_option maxRecDepth 100000
attribute [local go_sem] Oper.semAt_some

section
variable {te tl : TypeId} {k : IntKind} {base : Nat} {W w1 : World} {v v' u u' x : Value} {xs : List Value} {O : List (List Int)} {N b : List Int} {o : Obj}
/-- a row of a third type has grown -/
theorem Ls.far {e3 : TypeId} {n : Nat} {v3 : Value} {ys : List Value} (h : Ls te tl k base W v u xs O N) (h3 : W.ownsRow base e3 1 v3 n ys) (hne : te ≠ e3) (hne2 : tl ≠ e3) (hg : (W.alloc o).grownBy w1 v3.ownBlock) : Ls te tl k base w1 v u xs O N := by
  refine ⟨(h.out.alloc o).kept hg (own_far h.out h3 hne2), fun i b hb => ?_, (h.now.alloc o).kept hg (own_far h.now h3 hne)⟩
  obtain ⟨x, hx, A, c, rfl, hc, hcell⟩ := h.els i b hb
  refine ⟨_, hx, A, c, rfl, hc, fun hn => ?_⟩
  obtain ⟨g, cur, rfl, hbg, hh, hu, hz⟩ := hcell hn
  have hlt := (Array.getElem?_eq_some_iff.1 hh).1
  refine ⟨g, cur, rfl, hbg, ?_, hu, hz⟩
  rw [hg.block g (by rw [World.size_alloc]; omega) (fun e => ?_)]
  · exact (Below.heap_alloc W o g hlt).trans hh
  · rcases h3.2 with ⟨rfl, _⟩ | ⟨g2, cap2, cur2, rfl, _, hh2, _⟩
    · simp [Value.ownBlock] at e
    · simp only [Value.ownBlock, Option.some.injEq] at e
      subst e
      rw [hh] at hh2
      injection hh2 with hh2
      injection hh2 with _ ht
      exact hne ht
theorem Ls.renil (h : Ls te tl k base W v u xs O []) : Ls te tl k base W v (.slice none 0 0) xs O [] := by
  refine ⟨h.out, fun i b hb => ?_, World.ownsRow_nil _ _ _ _⟩
  obtain ⟨x, hx, A, c, rfl, hc, hcell⟩ := h.els i b hb
  refine ⟨_, hx, A, c, rfl, hc, fun hn => ?_⟩
  obtain ⟨g, cur, rfl, hbg, hh, _, hz⟩ := hcell hn
  exact ⟨g, cur, rfl, hbg, hh, by simp [Value.ownBlock], hz⟩
end

theorem own_slice_le {w : World} {base : Nat} {e : TypeId} {size n : Nat} {v : Value} {xs : List Value} (h : w.ownsRow base e size v n xs) : ∃ A c, v = .slice A n c ∧ n ≤ c := by
  rcases h.2 with ⟨rfl, h0⟩ | ⟨g, cap, cur, rfl, _, _, hle, _⟩
  · subst h0; exact ⟨none, 0, rfl, Nat.le_refl _⟩
  · exact ⟨_, cap, rfl, hle⟩

/-- the places, as the program's numbers -/
def plc (l : List (Nat × List Int)) : List Int := l.map fun x => (x.1 : Int)
theorem plc_append (a b : List (Nat × List Int)) : plc (a ++ b) = plc a ++ plc b := by simp [plc]
/-- what the document's Split leaves -/
def RSplit (w : World) (zs : List Int) (e : Ending) (w' : World) : Prop :=
  ∃ A1 c1 A2 c2 A3 c3, e = .returned (.tuple #[.slice A1 (Fc.segs zs).length c1, .slice A2 (Fc.segs zs).length c2, .slice A3 (Fc.opn [] zs).length c3]) ∧ (Fc.segs zs).length ≤ c1 ∧ (Fc.segs zs).length ≤ c2 ∧ (Fc.opn [] zs).length ≤ c3 ∧
    ListAt .u8 w' w'.heap.size A1 (Fc.segs zs) ∧ Nums .i64 w' w'.heap.size A2 (plc (Fc.scan 0 [] zs)) ∧ Nums .u8 w' w'.heap.size A3 (Fc.opn [] zs) ∧ Below w.heap.size w w'

set_option maxHeartbeats 4000000 in
theorem rsplit_any (a : Option Addr) (n c : Nat) (zs : List Int) (w : World) (hn : zs.length = n) (hl : n ≤ 1000000) (h1 : Nums .u8 w w.heap.size a zs) :
    Calls Try.prog 8 #[.slice a n c] w (RSplit w zs) := by
  obtain ⟨i0, hi, hz0, hz1, hz2⟩ := info_parts byteInfo
  obtain ⟨j0, hj, hj0, hj1, hj2⟩ := info_parts listInfo
  obtain ⟨m0, hm, hm0, hm1, hm2⟩ := info_parts intInfo
  have HL := Lib.hid hn
  clear hn
  go_enter Try.func8, Try.ntmps8
  go_wp2
  go_loopw [5, 6, 7, 8] (fun v p u iv wr => ∃ (k : Nat) (xs : List Value) (pre : List (Nat × List Int)) (N : List Int), k ≤ n ∧ iv = .int .i64 k ∧ pre.length ≤ k ∧ N.length ≤ k ∧
      Hid (Fc.scan 0 [] zs = pre ++ Fc.scan k N (zs.drop k)) ∧ Hid (Fc.opn [] zs = Fc.opn N (zs.drop k)) ∧ Hid (Ls 5 22 .u8 w.heap.size wr v u xs (pre.map (·.2)) N) ∧ Hid (wr.ownsRow w.heap.size 3 1 p pre.length ((plc pre).map (Value.int .i64))) ∧ Hid (Below w.heap.size w wr))
    (fun _ _ _ iv _ => n - (intOf iv).toNat)
  case atStart => exact ⟨0, [], [], [], by omega, rfl, by simp, by simp, rfl, rfl, Ls.start _ _ _ _ _, World.ownsRow_nil _ _ _ _, Below.refl _ _⟩
  case round =>
    obtain ⟨k, xs, pre, N, hk, rfl, hpk, hNk, HS, HO, HLs, HP, HBe⟩ := hrel
    by_cases hlt : k < n
    · obtain ⟨z, hzk⟩ : ∃ z, zs[k]? = some z := ⟨_, List.getElem?_eq_getElem (by rw [HL.out]; exact hlt)⟩
      have hbe := HBe.out
      obtain ⟨b1, o1, rfl, hb1, hc1⟩ := (h1.below hbe).open hzk
      have hlt' : (k : Int) < (n : Int) := by omega
      have hdrop : zs.drop k = z :: zs.drop (k + 1) := by
        rw [List.getElem?_eq_getElem (by rw [HL.out]; exact hlt)] at hzk
        injection hzk with hzk
        rw [← hzk, List.getElem_cons_drop]
      have hsz := hbe.size
      obtain ⟨Au, cu, rfl, hcu⟩ := own_slice_le HLs.out.now
      by_cases hz00 : z = 0
      · subst hz00
        by_cases hN0 : N.length = 0
        · have hN : N = [] := List.eq_nil_of_length_eq_zero hN0
          subst hN
          have HS2 : Hid (Fc.scan 0 [] zs = pre ++ Fc.scan (k + 1) [] (zs.drop (k + 1))) := by
            show _ = _
            rw [HS.out, hdrop, Fc.scan_zero, if_pos rfl, List.nil_append]
          have HO2 : Hid (Fc.opn [] zs = Fc.opn [] (zs.drop (k + 1))) := by show _ = _; rw [HO.out, hdrop, Fc.opn_zero]
          have HL2 := Lib.hid HLs.out.renil
          have hn0 : ¬ (0 : Int) < (([] : List Int).length : Int) := by simp
          clear hdrop hzk
          go_wp2
          go_roundw
          case rel => exact ⟨k + 1, xs, pre, [], by omega, by go_num, by omega, by simp, HS2, HO2, HL2, HP, HBe⟩
          case measure => simp [intOf]; omega
        · have hN : N ≠ [] := fun e => hN0 (by rw [e]; rfl)
          have HS2 : Hid (Fc.scan 0 [] zs = (pre ++ [(k - N.length, N)]) ++ Fc.scan (k + 1) [] (zs.drop (k + 1))) := by
            show _ = _
            rw [HS.out, hdrop, Fc.scan_zero, if_neg hN, List.append_assoc]
          have HO2 : Hid (Fc.opn [] zs = Fc.opn [] (zs.drop (k + 1))) := by show _ = _; rw [HO.out, hdrop, Fc.opn_zero]
          have hn0 : (0 : Int) < (N.length : Int) := by omega
          have HX1 : Hid ((pre.map (·.2)).length + 1 ≤ maxLen) := by show _ ≤ _; unfold maxLen; rw [List.length_map]; omega
          have HX2 : Hid (((pre.map (·.2)).length + 1) * 24 ≤ 140737488355328) := by show _ ≤ _; rw [List.length_map]; omega
          have HX3 : Hid (w.heap.size ≤ (wr.alloc (.cells #[.slice Au N.length cu] 22)).heap.size) := by show _ ≤ _; rw [World.size_alloc]; omega
          have HN := Lib.hid hN
          obtain ⟨O, hO⟩ : ∃ O, pre.map (·.2) = O := ⟨_, rfl⟩
          rw [hO] at HX1 HX2 HLs
          have HOe := Lib.hid hO
          obtain ⟨q, hq⟩ : ∃ q, N.length = q := ⟨_, rfl⟩
          have HQ := Lib.hid hq
          rw [hq] at hn0 hNk HX3 HLs ⊢
          clear hdrop hzk hO hN0 hN hq
          go_wp2_with (at_builtin; refine wpList_append_own_at _ rfl (.tmp 30) (.tmp 32) 23 rfl w.heap.size 22 j0 (.slice none 0 0) 1 24 Try.underlying23 hj hj0 hj1 hj2 rfl (by decide) _ _ _ rfl (HLs.out.out.alloc _) ⟨wr.heap.size, 0, none⟩ 1 1 [_] rfl rfl (cell_one_new _ _ _) (by simp [Value.oneCell']) HX1.out HX2.out HX3.out ?_)
          intro v1 w1 hown hg _ _
          have HL1 := Lib.hid (HLs.out.push (by decide) hown hg)
          have HP1 := Lib.hid ((HP.out.alloc (.cells #[.slice Au q cu] 22)).kept hg (own_far HP.out HLs.out.out (by decide)))
          have HB1 := Lib.hid ((hbe.alloc hsz (.cells #[.slice Au q cu] 22)).grown hg (by rw [World.size_alloc]; omega) (fun g hk => (HLs.out.out.lt g hk).1))
          have hs1 := HB1.out.size
          have HY1 : Hid (pre.length + 1 ≤ maxLen) := by show _ ≤ _; unfold maxLen; omega
          have HY2 : Hid ((pre.length + 1) * 8 ≤ 140737488355328) := by show _ ≤ _; omega
          have HY3 : Hid (w.heap.size ≤ (w1.alloc (.cells #[.int .i64 ((k : Int) - (q : Int))] 3)).heap.size) := by show _ ≤ _; rw [World.size_alloc]; omega
          clear hown hg HX1 HX2 HX3 HLs HP hbe HBe
          go_wp2_with (at_builtin; refine wpList_append_own_at _ rfl (.tmp 34) (.tmp 39) 26 rfl w.heap.size 3 m0 (.int .i64 0) 1 8 Try.underlying26 hm hm0 hm1 hm2 rfl (by decide) _ _ _ rfl (HP1.out.alloc _) ⟨w1.heap.size, 0, none⟩ 1 1 [_] rfl rfl (cell_one_new _ _ _) (by simp [Value.oneCell']) HY1.out HY2.out HY3.out ?_)
          intro p1 w2 hown hg _ _
          have HL2 := Lib.hid (HL1.out.far HP1.out (by decide) (by decide) hg)
          have HB2 := Lib.hid ((HB1.out.alloc hs1 (.cells #[.int .i64 ((k : Int) - (q : Int))] 3)).grown hg (by rw [World.size_alloc]; omega) (fun g hk => (HP1.out.lt g hk).1))
          have HLF : Hid (Ls 5 22 .u8 w.heap.size w2 v1 (.slice none 0 0) (xs ++ [.slice Au q cu]) ((pre ++ [(k - N.length, N)]).map (·.2)) []) := by
            show Ls _ _ _ _ _ _ _ _ _ _
            rw [List.map_append, HOe.out]; exact HL2.out
          have HPF : Hid (w2.ownsRow w.heap.size 3 1 p1 (pre ++ [(k - N.length, N)]).length ((plc (pre ++ [(k - N.length, N)])).map (Value.int .i64))) := by
            show World.ownsRow _ _ _ _ _ _ _
            rw [plc_append, List.map_append, List.length_append, List.length_singleton]
            have : (plc [(k - N.length, N)]).map (Value.int .i64) = [.int .i64 ((k : Int) - (q : Int))] := by
              simp only [plc, List.map_cons, List.map_nil, HQ.out]
              congr 2; omega
            rw [this]; exact hown
          clear hown hg HL1 HP1 HB1 HY1 HY2 HY3
          go_wp2
          go_roundw
          case rel => exact ⟨k + 1, _, pre ++ [(k - N.length, N)], [], by omega, by go_num, by rw [List.length_append, List.length_singleton]; omega, by simp, HS2, HO2, HLF, HPF, HB2⟩
          case measure => simp [intOf]; omega
      · have hz01 : (z != 0) = true := by simp [hz00]
        have hz02 : ¬ z = 0 := hz00
        have HS2 : Hid (Fc.scan 0 [] zs = pre ++ Fc.scan (k + 1) (N ++ [z]) (zs.drop (k + 1))) := by
          show _ = _
          rw [HS.out, hdrop, Fc.scan_ne hz00]
        have HO2 : Hid (Fc.opn [] zs = Fc.opn (N ++ [z]) (zs.drop (k + 1))) := by show _ = _; rw [HO.out, hdrop, Fc.opn_ne hz00]
        have HX1 : Hid (N.length + 1 ≤ maxLen) := by show _ ≤ _; unfold maxLen; omega
        have HX2 : Hid ((N.length + 1) * 1 ≤ 140737488355328) := by show _ ≤ _; omega
        have HX3 : Hid (w.heap.size ≤ (wr.alloc (.cells #[.int .u8 z] 5)).heap.size) := by show _ ≤ _; rw [World.size_alloc]; omega
        clear hdrop hzk hz00
        go_wp2_with (at_builtin; refine wpList_append_own_at _ rfl (.tmp 20) (.tmp 25) 22 rfl w.heap.size 5 i0 (.int .u8 0) 1 1 Try.underlying22 hi hz0 hz1 hz2 rfl (by decide) _ _ _ rfl (HLs.out.now.alloc _) ⟨wr.heap.size, 0, none⟩ 1 1 [.int .u8 z] rfl rfl (cell_one_new _ _ _) (by simp [Value.oneCell']) HX1.out HX2.out HX3.out ?_)
        intro u1 w1 hown hg _ hat
        have HL1 := Lib.hid (HLs.out.grow (z := z) (by decide) hown hg (by rw [World.size_alloc]; exact hat))
        have HP1 := Lib.hid ((HP.out.alloc (.cells #[.int .u8 z] 5)).kept hg (own_far HP.out HLs.out.now (by decide)))
        have HB1 := Lib.hid (((hbe.alloc hsz _).grown hg (by rw [World.size_alloc]; omega) (fun g hk => (HLs.out.now.lt g hk).1)))
        clear hown hg hat HX1 HX2 HX3 HLs HBe HP
        go_wp2
        go_roundw
        case rel => exact ⟨k + 1, xs, pre, N ++ [z], by omega, by go_num, by omega, by rw [List.length_append, List.length_singleton]; omega, HS2, HO2, HL1, HP1, HB1⟩
        case measure => simp [intOf]; omega
    · have hkn : k = n := by omega
      have hdr : zs.drop k = [] := List.drop_eq_nil_of_le (by rw [HL.out]; omega)
      have hF1 : Fc.scan 0 [] zs = pre := by rw [HS.out, hdr, Fc.scan, List.append_nil]
      have hF2 : Fc.opn [] zs = N := by rw [HO.out, hdr, Fc.opn]
      have hF3 : Fc.segs zs = pre.map (·.2) := by unfold Fc.segs; rw [hF1]
      obtain ⟨A1, c1, rfl, hc1, hLA⟩ := HLs.out.lies
      obtain ⟨A2, c2, rfl, hc2⟩ := own_slice_le HP.out
      obtain ⟨A3, c3, rfl, hc3⟩ := own_slice_le HLs.out.now
      have hpl : pre.length = (plc pre).length := by simp [plc]
      have HN2 : Hid (Nums .i64 wr wr.heap.size A2 (plc pre)) := by
        have h := HP.out
        rw [hpl] at h
        exact Nums.of_own h
      have HN3 : Hid (Nums .u8 wr wr.heap.size A3 N) := Nums.of_own HLs.out.now
      have HF1 := Lib.hid hF1
      have HF2 := Lib.hid hF2
      have HF3 := Lib.hid hF3
      have HLA := Lib.hid hLA
      have HC := Lib.hid (And.intro hc1 (And.intro hc2 hc3))
      clear hF1 hF2 hF3 hLA hdr hpl hc1 hc2 hc3 HS HO HLs HP
      go_wp2
      go_ret3
      refine ⟨A1, c1, A2, c2, A3, c3, ?_, ?_, ?_, ?_, ?_, ?_, ?_, HBe.out⟩
      · rw [HF3.out, HF2.out, List.length_map]; rfl
      · rw [HF3.out]; exact HC.out.1
      · rw [HF3.out, List.length_map]; exact HC.out.2.1
      · rw [HF2.out]; exact HC.out.2.2
      · rw [HF3.out]; exact HLA.out
      · rw [HF1.out]; exact HN2.out
      · rw [HF2.out]; exact HN3.out
end Go.Proofs.Ytemafhaeppifoaa
