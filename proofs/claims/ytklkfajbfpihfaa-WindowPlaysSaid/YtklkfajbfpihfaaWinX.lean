/-
  The document's window: Mark.
-/
import Derived.Test.YtklkfajbfpihfaaWinW
import Derived.Test.YtklkfajbfpihfaaQ11
namespace Go.Proofs.Ytklkfajbfpihfaa
open Go.RowKit
set_option maxRecDepth 100000

/-- 64 truths -/
def bC (p : Nat → Bool) : Array Value := ((List.range 64).map fun i => Value.bool (p i)).toArray
theorem bC_size (p : Nat → Bool) : (bC p).size = 64 := by simp [bC]
theorem bC_at (p : Nat → Bool) (i : Nat) (h : i < 64) : (bC p)[i]? = some (.bool (p i)) := by simp [bC, h]
theorem bC_one (p : Nat → Bool) : (bC p).all (·.oneCell') = true := by
  rw [Array.all_eq_true_iff_forall_mem]
  intro v hv
  have hv : v ∈ (List.range 64).map fun i => Value.bool (p i) := by simpa [bC] using hv
  obtain ⟨i, _, rfl⟩ := List.mem_map.1 hv
  rfl
theorem bC_congr {p p' : Nat → Bool} (h : ∀ i, i < 64 → p i = p' i) : bC p = bC p' := by
  unfold bC
  congr 1
  exact List.map_congr_left fun i hi => by rw [h i (List.mem_range.1 hi)]
theorem bC_set (p : Nat → Bool) (i : Nat) (b : Bool) (h : i < 64) : (bC p).setIfInBounds i (.bool b) = bC (fun j => if j = i then b else p j) := by
  apply Array.ext_getElem?
  intro j
  rw [Array.getElem?_setIfInBounds]
  by_cases hj : j < 64
  · by_cases hij : i = j
    · subst hij
      rw [if_pos rfl, if_pos (by rw [bC_size]; omega), bC_at _ i h, if_pos rfl]
    · rw [if_neg hij, bC_at p j hj, bC_at _ j hj, if_neg (Ne.symm hij)]
  · rw [if_neg (by omega), Array.getElem?_eq_none (by rw [bC_size]; omega), Array.getElem?_eq_none (by rw [bC_size]; omega)]
theorem wC_parts (t : Int) (p p' : Nat → Bool) : ((wC t p).toList.take 1 ++ (bC p').toList).toArray = wC t p' := by simp [wC, bC]
theorem bInfo : (Try.prog.info? 26).map (·.size) = some 64 := by kernel_rfl
theorem bZero : (Try.prog.info? 26).map (fun i => (i.zero, i.size)) = some (some (.agg (bC (fun _ => false))), 64) := by kernel_rfl
/-- the 64 truths of a window, stored whole -/
theorem run_store_come (W : World) (r : Nat) (t : Int) (p p' : Nat → Bool) (h : W.heap[r]? = some (.cells (wC t p) 28 (0, 0))) :
    (Instr.storeAt 26 (.pointer (some ⟨r, 1, none⟩)) (.agg (bC p'))).run Try.prog W = .ok () (W.setRow r (wC t p')) := by
  have hst := run_storeCells_at (P := Try.prog) r 1 28 (bC p').toList 0 (wC t p) W h (by rw [wC_size, Array.length_toList, bC_size]; omega) (fun v hv => (Array.all_eq_true_iff_forall_mem.1 (bC_one p')) v (by simpa using hv))
  rw [Nat.add_zero, List.drop_eq_nil_of_le (by rw [Array.length_toList, wC_size, Array.length_toList, bC_size]; omega), List.append_nil, wC_parts] at hst
  have hi := bInfo
  have hsz := bC_size p'
  generalize bC p' = NB at *
  cases hq : Try.prog.info? 26 with
  | none => simp [hq] at hi
  | some i =>
    have hs : NB.size = i.size := by simp [hq] at hi; omega
    simp only [Instr.storeAt, Instr.sureAddr, Sem.run_bind, Sem.run_pure, Result.andThen_ok]
    simp [storeVar, sizeOf, typeInfo, hq, Value.cells, hs, hst]
/-- a row and a number as the results -/
theorem results_row_tmp {P : Program} {fn : Func} {p s : Tmp} {ty : TypeId} (h : fn.results = #[.cell p ty, .tmp s]) (tmps : Array Value) (w : World) (g : Nat) (t : TypeId) (cs : Array Value) (d : TypeDesc)
    (hp : tmps.getD p undef = .pointer (some ⟨g, 0, none⟩)) (hg : w.heap[g]? = some (.cells cs t (0, 0)))
    (hu : P.underlying ty = some d) (hd : (match d with | .struct _ | .array _ _ => true | _ => false) = true) (hi : (P.info? ty).map (·.size) = some cs.size) :
    (results fn tmps).run P w = .ok (.tuple #[.agg cs, tmps.getD s undef]) w := by
  have hp' : tmps[p]?.getD undef = .pointer (some ⟨g, 0, none⟩) := by simpa using hp
  simp [results, h, hp', asAddr, run_loadVar_row w g t ty cs (0, 0) d hg hu hd hi]
/-- the call's copy of the window in block r, the result's row behind it -/
structure M2 (w wr : World) (r : Nat) (Z C : Array Value) : Prop where
  h0 : wr.heap[r]? = some (.cells C 28 (0, 0))
  h1 : wr.heap[r + 1]? = some (.cells Z 28 (0, 0))
  hr : w.heap.size ≤ r
  b : Below w.heap.size w wr
section
variable {w wr : World} {r : Nat} {Z C : Array Value} {t : Int} {p : Nat → Bool}
theorem M2.later {w' : World} (h : M2 w wr r Z C) (hb : Below wr.heap.size wr w') : M2 w w' r Z C :=
  ⟨(hb.block _ (Array.getElem?_eq_some_iff.1 h.h0).1).trans h.h0, (hb.block _ (Array.getElem?_eq_some_iff.1 h.h1).1).trans h.h1, h.hr, h.b.trans (hb.mono h.b.size)⟩
theorem M2.row (h : M2 w wr r Z C) (D : Array Value) : M2 w (wr.setRow r D) r Z D :=
  ⟨setRow_heap _ _ _ _ _ _ h.h0, (setRow_other _ _ _ _ (by omega)).trans h.h1, h.hr, ⟨h.b.os, h.b.tape, h.b.output, by have := h.b.size; simpa [World.setRow] using this, fun k hk => (setRow_other _ _ _ _ (by have := h.hr; omega)).trans (h.b.block k hk)⟩⟩
theorem M2.set (h : M2 w wr r Z (wC t p)) (i : Nat) (b : Bool) (hi : i < 64) : M2 w (wr.setCell ⟨r, 1 + i, none⟩ (.bool b)) r Z (wC t (fun j => if j = i then b else p j)) := by
  refine ⟨?_, (Below.heap_setCell wr ⟨r, 1 + i, none⟩ _ (r + 1) (by simp)).trans h.h1, h.hr, h.b.setCell (p := ⟨r, 1 + i, none⟩) h.hr _⟩
  rw [← wC_set t p i b hi]
  exact setCell_at h.h0
theorem M2.setTop (h : M2 w wr r Z (wC t p)) (t' : Int) : M2 w (wr.setCell ⟨r, 0, none⟩ (.int .u32 t')) r Z (wC t' p) := by
  refine ⟨?_, (Below.heap_setCell wr ⟨r, 0, none⟩ _ (r + 1) (by simp)).trans h.h1, h.hr, h.b.setCell (p := ⟨r, 0, none⟩) h.hr _⟩
  rw [← wC_setTop t t' p]
  exact setCell_at h.h0
theorem M2.far (h : M2 w wr r Z C) {g j : Nat} (hg : r + 1 < g) (v : Value) : M2 w (wr.setCell ⟨g, j, none⟩ v) r Z C :=
  ⟨(Below.heap_setCell wr ⟨g, j, none⟩ _ r (by simp; omega)).trans h.h0, (Below.heap_setCell wr ⟨g, j, none⟩ _ (r + 1) (by simp; omega)).trans h.h1, h.hr, h.b.setCell (p := ⟨g, j, none⟩) (by have := h.hr; simp; omega) _⟩
theorem M2.drewN (h : M2 w wr r Z C) (d : Nat) : M2 w (wr.drewN d) r Z C := ⟨h.h0, h.h1, h.hr, below_drewN h.b d⟩
theorem M2.top (h : M2 w wr r Z (wC t p)) : wr.cell? ⟨r, 0, none⟩ = some (.int .u32 t) ∧ wr.frozen? ⟨r, 0, none⟩ = false := by
  refine ⟨?_, by simp [World.frozen?, h.h0]⟩
  rw [cell_of_row wr r 0 _ _ _ h.h0]; exact wC_top t p
theorem M2.at' (h : M2 w wr r Z (wC t p)) {i : Nat} (hi : i < 64) : wr.cell? ⟨r, 1 + i, none⟩ = some (.bool (p i)) ∧ wr.frozen? ⟨r, 1 + i, none⟩ = false := by
  refine ⟨?_, by simp [World.frozen?, h.h0]⟩
  rw [cell_of_row wr r (1 + i) _ _ _ h.h0]; exact wC_at t p i hi
end

/-- .. and the truths that the call makes anew, in block g -/
structure N2 (w wr : World) (r g : Nat) (Z C N : Array Value) : Prop where
  m : M2 w wr r Z C
  hb : wr.heap[g]? = some (.cells N 26 (0, 0))
  lt : r + 1 < g
theorem N2.drewN {w wr : World} {r g : Nat} {Z C N : Array Value} (h : N2 w wr r g Z C N) (d : Nat) : N2 w (wr.drewN d) r g Z C N := ⟨h.m.drewN d, h.hb, h.lt⟩
theorem N2.set {w wr : World} {r g : Nat} {Z C : Array Value} {p : Nat → Bool} (h : N2 w wr r g Z C (bC p)) (i : Nat) (b : Bool) (hi : i < 64) : N2 w (wr.setCell ⟨g, i, none⟩ (.bool b)) r g Z C (bC (fun j => if j = i then b else p j)) := by
  refine ⟨h.m.far h.lt _, ?_, h.lt⟩
  rw [← bC_set p i b hi]
  exact setCell_at h.hb
set_option maxHeartbeats 4000000 in
theorem rmark_any (t : Int) (q : Nat) (n : Int) (ht : 0 ≤ t ∧ t < 4294967296) (hn : 0 ≤ n ∧ n < 4294967296) (w : World) :
    Calls Try.prog 11 #[refV t q, .int .u32 n] w fun e w' =>
      e = .returned (.tuple #[refV (if Wn.look t q n = 0 then Wn.nt t n else t) (if Wn.look t q n = 0 then Wn.nq t q n else q), .int .i64 (Wn.look t q n)]) ∧ Below w.heap.size w w' := by
  obtain ⟨hz, hzs⟩ := zero_of_info (P := Try.prog) wZero
  obtain ⟨Z, hZ⟩ : ∃ Z, wC 0 (fun _ => false) = Z := ⟨_, rfl⟩
  rw [hZ] at hz
  have hZs : Z.size = 65 := by rw [← hZ]; exact wC_size _ _
  have HZs := Lib.hid hZs
  have HZi := Lib.hid hzs
  clear hZ hZs hzs
  have KL := Lib.hid (fun w => rlook_any t q n ht hn w)
  have HLK : Hid (Wn.look t q n = if Sr.after n t = true then 0 else if 64 ≤ Sr.way n t then 15 else if q.testBit (Sr.way n t).toNat = true then 14 else 0) := rfl
  have HT : Hid (Wn.nt t n = if Sr.after n t = true then n else t) := rfl
  have HQA : Hid (Sr.after n t = true → ∀ d, d < 64 → (Wn.nq t q n).testBit d = (decide (d = 0) || (decide ((Sr.way t n).toNat ≤ d) && q.testBit (d - (Sr.way t n).toNat)))) := fun h d hd => Wn.nq_after h d hd
  have HQI : Hid (¬ Sr.after n t = true → ∀ d, (Wn.nq t q n).testBit d = (decide (d = (Sr.way n t).toNat) || q.testBit d)) := fun h d => Wn.nq_in h d
  obtain ⟨C, hC⟩ : ∃ C, wC t q.testBit = C := ⟨_, rfl⟩
  unfold refV at KL ⊢
  rw [hC] at KL
  rw [hC]
  obtain ⟨R, hR⟩ : ∃ R, wC (if Wn.look t q n = 0 then Wn.nt t n else t) (if Wn.look t q n = 0 then Wn.nq t q n else q).testBit = R := ⟨_, rfl⟩
  rw [hR]
  have HR : Hid ((Wn.look t q n = 0 → wC (Wn.nt t n) (Wn.nq t q n).testBit = R) ∧ (¬ Wn.look t q n = 0 → C = R)) := by
    refine ⟨fun h => ?_, fun h => ?_⟩
    · rw [← hR, if_pos h, if_pos h]
    · rw [← hR, if_neg h, if_neg h, hC]
  clear hR
  generalize Wn.look t q n = L at *
  generalize Wn.nt t n = t' at *
  generalize Wn.nq t q n = q' at *
  have HC := Lib.hid hC
  have hCs : C.size = 65 := by rw [← hC]; exact wC_size _ _
  have hC1 : C.all (·.oneCell') = true := by rw [← hC]; exact wC_one _ _
  have HCs := Lib.hid hCs
  have HC1 := Lib.hid hC1
  clear hC hCs hC1
  obtain ⟨r, hr⟩ : ∃ r, w.heap.size = r := ⟨_, rfl⟩
  obtain ⟨w1, hw1⟩ : ∃ w1, (w.alloc (.cells C 28)).alloc (.cells Z 28) = w1 := ⟨_, rfl⟩
  have hM : M2 w w1 r Z C := by
    refine ⟨?_, ?_, Nat.le_of_eq hr, ?_⟩
    · rw [← hr, ← hw1]; exact heap_alloc2_old w _ _
    · rw [← hr, ← hw1]; exact heap_alloc2_new w _ _
    · rw [← hw1]; exact ((Below.refl _ w).alloc (Nat.le_refl _) _).alloc (by simp) _
  have HM := Lib.hid hM
  have HI : Hid ((Try.prog.info? 28).map (·.size) = some C.size) := by show _ = _; rw [HCs.out]; exact HZi.out
  clear hM
  go_enter Try.func11, Try.ntmps11
  go_wp2_with (refine wpList_load_row rfl 28 (.tmp 2) rfl r rfl 28 C (0, 0) _ HM.out.h0 Try.underlying28 rfl HI.out ?_)
  refine (KL.out _).mono ?_
  rintro e w2 ⟨rfl, hb2⟩
  have hM2 := HM.out.later hb2
  rw [← HC.out] at hM2
  have c0 := hM2.top.1
  have HM2 := Lib.hid hM2
  have KA := Lib.hid (fun w => rafter_any n t w hn ht)
  have KW := Lib.hid (fun w => rway_any t n w ht hn)
  have hvb := Sr.way_lt t n
  clear hb2 hw1 hM2 HM KL hr
  by_cases hL : L = 0
  · subst hL
    have HRe := Lib.hid (HR.out.1 rfl)
    have htU : 0 ≤ t' ∧ t' < 4294967296 := by rw [HT.out]; split <;> assumption
    have KD := Lib.hid (fun (T : Int) (hT : 0 ≤ T ∧ T < 4294967296) (k : Nat) (hk : k < 64) w => sradd_any T (-(k : Int)) w hT (by omega))
    have HWB := Lib.hid (fun T k hk => @way_back T n k hn hk)
    cases ha : Sr.after n t with
    | true =>
      rw [ha] at KA
      have hT : t' = n := by have := HT.out; rwa [ha, if_pos rfl] at this
      have hbits := HQA.out ha
      obtain ⟨v, hv⟩ : ∃ v : Nat, Sr.way t n = (v : Int) := ⟨(Sr.way t n).toNat, by omega⟩
      rw [hv] at KW
      rw [hv, Int.toNat_natCast] at hbits
      have hvb2 : (v : Int) < 4294967296 := by omega
      obtain ⟨hzB, _⟩ := zero_of_info (P := Try.prog) bZero
      obtain ⟨ZB, hZB⟩ : ∃ ZB, bC (fun _ => false) = ZB := ⟨_, rfl⟩
      rw [hZB] at hzB
      have HZB := Lib.hid hZB
      have HBT := Lib.hid hbits
      have HTn := Lib.hid hT
      clear HR HT HLK HQA HQI ha hbits hv hvb hZB hT
      go_wp2_with fail
      refine (KA.out _).mono ?_
      rintro e V ⟨rfl, hV⟩
      rw [hV]
      clear hV KA
      go_wp2_with fail
      refine (KW.out _).mono ?_
      rintro e V ⟨rfl, hV⟩
      rw [hV]
      clear hV KW
      go_wp2
      obtain ⟨w3, hw3⟩ : ∃ w3, w2.alloc (.cells ZB 26) = w3 := ⟨_, rfl⟩
      have hg3 : w3.heap[w2.heap.size]? = some (.cells ZB 26 (0, 0)) := by rw [← hw3]; exact heap_alloc_new _ _
      have hM3 := HM2.out.later (show Below w2.heap.size w2 w3 by rw [← hw3]; exact (Below.refl _ w2).alloc (Nat.le_refl _) _)
      have hrg : r + 1 < w2.heap.size := (Array.getElem?_eq_some_iff.1 HM2.out.h1).1
      obtain ⟨g, hg⟩ : ∃ g, w2.heap.size = g := ⟨_, rfl⟩
      rw [hg] at hg3 hrg
      rw [hw3, hg]
      have HN0 : Hid (N2 w w3 r g Z (wC t q.testBit) (bC (fun j => decide (j < 0) && (decide (v ≤ j) && q.testBit (j - v))))) := by
        refine ⟨hM3, ?_, hrg⟩
        rw [hg3, ← HZB.out, bC_congr (p' := fun j => decide (j < 0) && (decide (v ≤ j) && q.testBit (j - v))) (fun i _ => by simp)]
      clear hg3 hM3 hg hw3 HM2 c0 hzB HZB
      go_loopw [9] (fun i wr => ∃ k : Nat, k ≤ 64 ∧ i = .int .i64 (k : Int) ∧ Hid (N2 w wr r g Z (wC t q.testBit) (bC (fun j => decide (j < k) && (decide (v ≤ j) && q.testBit (j - v)))))) (fun i _ => 64 - (intOf i).toNat)
      case atStart => exact ⟨0, by omega, rfl, HN0⟩
      case round =>
        obtain ⟨k, hk, rfl, HK⟩ := hrel
        rcases Nat.lt_or_ge k 64 with h4 | h4
        · have h5 : (k : Int) < 64 := by omega
          obtain ⟨x0, cx⟩ : ∃ x0, wr.cell? ⟨g, k, none⟩ = some x0 := ⟨_, by rw [cell_of_row wr g k _ _ _ HK.out.hb]; exact bC_at _ k h4⟩
          have fx : wr.frozen? ⟨g, k, none⟩ = false := by simp [World.frozen?, HK.out.hb]
          have HN : Hid (N2 w (wr.setCell ⟨g, k, none⟩ (.bool (decide (v ≤ k) && q.testBit (k - v)))) r g Z (wC t q.testBit) (bC (fun j => decide (j < k + 1) && (decide (v ≤ j) && q.testBit (j - v))))) := by
            have h := HK.out.set k (decide (v ≤ k) && q.testBit (k - v)) h4
            rw [bC_congr (p' := fun j => decide (j < k + 1) && (decide (v ≤ j) && q.testBit (j - v))) (fun i _ => by
              by_cases hik : i = k
              · subst hik; rw [if_pos rfl, decide_eq_true (Nat.lt_succ_self i), Bool.true_and]
              · rw [if_neg hik]; congr 1; exact decide_eq_decide.2 (by omega))] at h
            exact h
          by_cases hvk : v ≤ k
          · have hvk' : (v : Int) ≤ (k : Int) := by omega
            obtain ⟨J, hJ⟩ : ∃ J : Nat, (k : Int) - (v : Int) = (J : Int) := ⟨k - v, by omega⟩
            have hJk : J = k - v := by omega
            have hJ64 : (J : Int) < 64 := by omega
            have cj := (HK.out.m.at' (show J < 64 by omega)).1
            rw [← hJk, decide_eq_true hvk, Bool.true_and] at HN
            clear hJk hvk
            generalize q.testBit J = bj at *
            go_wp2
            go_roundw
            case rel => exact ⟨k + 1, by omega, by go_num, HN⟩
            case measure => simp [intOf]; omega
          · have hvk' : ¬ (v : Int) ≤ (k : Int) := by omega
            rw [decide_eq_false hvk, Bool.false_and] at HN
            clear hvk
            go_wp2
            go_roundw
            case rel => exact ⟨k + 1, by omega, by go_num, HN⟩
            case measure => simp [intOf]; omega
        · obtain rfl : 64 = k := by omega
          rw [show ((64 : Nat) : Int) = 64 from rfl]
          obtain ⟨p1, hp1⟩ : ∃ p1 : Nat → Bool, p1 = fun j => decide (v ≤ j) && q.testBit (j - v) := ⟨_, rfl⟩
          rw [bC_congr (p' := p1) (fun i hi => by rw [hp1]; show (decide (i < 64) && _) = _; rw [decide_eq_true hi, Bool.true_and])] at HK
          have hNi : (Try.prog.info? 26).map (·.size) = some (bC p1).size := by rw [bC_size]; exact bInfo
          have HF : Hid (∀ j, j < 64 → (p1 j || decide (Sr.way n t' = (j : Int))) = q'.testBit j) := fun j hj => by
            rw [HBT.out j hj, hp1, HTn.out, Bool.or_comm]
            congr 1
            have : Sr.way n n = 0 := by unfold Sr.way; omega
            rw [this]
            exact decide_eq_decide.2 (by omega)
          have HST := Lib.hid (fun (W : World) (hW : W.heap[r]? = some (.cells (wC n q.testBit) 28 (0, 0))) => run_store_come W r n q.testBit p1 hW)
          clear hp1 HBT
          obtain ⟨NB, hNB⟩ : ∃ NB, bC p1 = NB := ⟨_, rfl⟩
          rw [hNB] at HK hNi HST
          clear hNB
          go_wp2
          refine wp_region_order4 (0 :: 1 :: 2 :: 3 :: 4 :: 5 :: []) (fun W => W.heap[g]? = some (.cells NB 26 (0, 0))) (C := fun W => N2 w W r g Z (wC t q.testBit) NB) (by kernel_rfl) (by kernel_rfl) (HK.out.drewN 1) (fun W hW => hW.hb) ?_
          refine wpO4_pure rfl rfl ?_
          go_big_quiet_step (fail)
          refine wpQuiet_nil ?_
          refine wpO4_load (ad := ⟨g, 0, none⟩) (.agg NB) rfl rfl rfl (by rfl) (fun W hW => ?_) ?_
          · exact run_loadVar_row W g 26 26 NB (0, 0) _ hW Try.underlying26 (by rfl) hNi
          simp only [Act.put, List.setIfInBounds_toArray, List.set_cons_succ, List.set_cons_zero]
          refine wpO4_pure rfl rfl ?_
          go_big_quiet_step (fail)
          refine wpQuiet_nil ?_
          refine wpO4_store (fun W => N2 w W r g Z (wC n q.testBit) NB) rfl rfl rfl rfl ⟨r, 0, none⟩ (.int .u32 n) (by rfl) (by rfl) (fun W hW => hW.hb) (fun W hW => ?_) ?_
          · obtain ⟨k0, k1⟩ := hW.m.top
            refine ⟨W.setCell ⟨r, 0, none⟩ (.int .u32 n), by simp [Instr.storeAt, go_sem, k0, k1], hW.m.setTop n, ?_, hW.lt⟩
            exact (Below.heap_setCell W ⟨r, 0, none⟩ _ g (by have := hW.lt; simp; omega)).trans hW.hb
          refine wpO4_pure rfl rfl ?_
          go_big_quiet_step (fail)
          refine wpQuiet_nil ?_
          refine wpO4_store (fun W => N2 w W r g Z (wC n p1) NB) rfl rfl rfl rfl ⟨r, 1, none⟩ (.agg NB) (by rfl) (by rfl) (fun W hW => hW.hb) (fun W hW => ?_) ?_
          · exact ⟨W.setRow r (wC n p1), HST.out W hW.m.h0, hW.m.row _, (setRow_other _ _ _ _ (by have := hW.lt; omega)).trans hW.hb, hW.lt⟩
          intro w4 hM4
          rw [← HTn.out] at hM4
          have HM4 := Lib.hid hM4.m
          clear HK HST hM4 HTn
          go_wp2
          go_loopw [10] (fun i wr => ∃ k : Nat, k ≤ 64 ∧ i = .int .i64 (k : Int) ∧ Hid (M2 w wr r Z (wC t' (fun j => p1 j || (decide (j < k) && decide (Sr.way n t' = (j : Int))))))) (fun i _ => 64 - (intOf i).toNat)
          case atStart => exact ⟨0, by omega, rfl, by have h := HM4.out; rw [wC_congr (p' := fun j => p1 j || (decide (j < 0) && decide (Sr.way n t' = (j : Int)))) (fun i _ => by simp)] at h; exact h⟩
          case round =>
            obtain ⟨k, hk, rfl, HK⟩ := hrel
            rcases Nat.lt_or_ge k 64 with h4 | h4
            · have h5 : (k : Int) < 64 := by omega
              have K := KD.out t' htU k h4 wr
              have hwb := HWB.out t' k h4
              obtain ⟨c0, _⟩ := HK.out.top
              obtain ⟨ck, fk⟩ := HK.out.at' h4
              have hset := HK.out.set k true h4
              generalize Sr.add t' (-(k : Int)) = x at *
              by_cases hx : x = n
              · have huk := hwb.1 hx
                have e1 : (x == n) = true := by rw [beq_iff_eq]; exact hx
                have HN : Hid (M2 w (wr.setCell ⟨r, 1 + k, none⟩ (.bool true)) r Z (wC t' (fun j => p1 j || (decide (j < k + 1) && decide (Sr.way n t' = (j : Int)))))) := by
                  rw [wC_congr (p' := fun j => p1 j || (decide (j < k + 1) && decide (Sr.way n t' = (j : Int)))) (fun i _ => by
                    by_cases hik : i = k
                    · subst hik; rw [if_pos rfl, decide_eq_true (Nat.lt_succ_self i), decide_eq_true huk, Bool.true_and, Bool.or_true]
                    · rw [if_neg hik]; congr 2; exact decide_eq_decide.2 (by omega))] at hset
                  exact hset
                clear hx huk hwb hset
                go_wp2_with fail
                refine K.mono ?_
                rintro e V ⟨rfl, hV⟩
                rw [hV]
                clear hV K
                go_wp2
                go_roundw
                case rel => exact ⟨k + 1, by omega, by go_num, HN⟩
                case measure => simp [intOf]; omega
              · have huk : ¬ Sr.way n t' = (k : Int) := fun h => hx (hwb.2 h)
                have e1 : (x == n) = false := by rw [beq_eq_false_iff_ne]; exact hx
                have HN : Hid (M2 w wr r Z (wC t' (fun j => p1 j || (decide (j < k + 1) && decide (Sr.way n t' = (j : Int)))))) := by
                  have h := HK.out
                  rw [wC_congr (p' := fun j => p1 j || (decide (j < k + 1) && decide (Sr.way n t' = (j : Int)))) (fun i _ => by
                    by_cases hik : i = k
                    · subst hik; rw [decide_eq_false huk, Bool.and_false, Bool.and_false]
                    · congr 2; exact decide_eq_decide.2 (by omega))] at h
                  exact h
                clear hx huk hwb hset ck fk
                go_wp2_with fail
                refine K.mono ?_
                rintro e V ⟨rfl, hV⟩
                rw [hV]
                clear hV K
                go_wp2
                go_roundw
                case rel => exact ⟨k + 1, by omega, by go_num, HN⟩
                case measure => simp [intOf]; omega
            · obtain rfl : 64 = k := by omega
              have h64 := HK.out
              rw [wC_congr (p' := q'.testBit) (fun i hi => by rw [decide_eq_true hi, Bool.true_and]; exact HF.out i hi), HRe.out] at h64
              have H0 := Lib.hid h64.h0
              have H1 := Lib.hid h64.h1
              have HRs : Hid (R.size = 65) := by show _ = _; rw [← HRe.out]; exact wC_size _ _
              have HR1 : Hid (R.all (·.oneCell') = true) := by show _ = _; rw [← HRe.out]; exact wC_one _ _
              have HRi : Hid ((Try.prog.info? 28).map (·.size) = some R.size) := by show _ = _; rw [HRs.out]; exact HZi.out
              have HB : Hid (Below w.heap.size w (wr.setRow (r + 1) R)) := by
                have hb := h64.b
                have hrr := h64.hr
                exact ⟨hb.os, hb.tape, hb.output, by have := hb.size; simpa [World.setRow] using this, fun k hk => (setRow_other _ _ _ _ (by omega)).trans (hb.block k hk)⟩
              clear h64 HK HM4 HF KD HWB
              go_wp2_with (first
                | (refine wpList_load_row rfl 28 (.tmp 2) rfl r rfl 28 R (0, 0) _ H0.out Try.underlying28 rfl HRi.out ?_)
                | (refine wpList_store_row rfl 28 (.tmp 4) (.tmp 62) rfl (r + 1) R rfl rfl 28 _ H1.out HRi.out (HZs.out.trans HRs.out.symm) HR1.out ?_))
              refine bodyPost_ret (results_row_tmp (P := Try.prog) (fn := Try.f11) rfl _ _ (r + 1) 28 R _ (by rfl) (setRow_heap _ _ _ _ _ _ H1.out) Try.underlying28 (by rfl) HRi.out) rfl ?_
              exact ⟨rfl, HB.out⟩
    | false =>
      rw [ha] at KA
      have hT : t' = t := by have := HT.out; rwa [ha, if_neg (by decide)] at this
      have hbits := HQI.out (by rw [ha]; decide)
      have hnt := Sr.way_lt n t
      have hq64 : Sr.way n t < 64 := by
        have h := HLK.out
        rw [ha, if_neg (by decide)] at h
        rcases Int.lt_or_le (Sr.way n t) 64 with h1 | h1
        · exact h1
        · rw [if_pos h1] at h; exact absurd h (by decide)
      obtain ⟨p1, hp1⟩ : ∃ p1 : Nat → Bool, q.testBit = p1 := ⟨_, rfl⟩
      have HF : Hid (∀ j, j < 64 → (p1 j || decide (Sr.way n t' = (j : Int))) = q'.testBit j) := fun j hj => by
        rw [hbits j, hT, ← hp1, Bool.or_comm]
        congr 1
        exact decide_eq_decide.2 (by omega)
      have HM4 : Hid (M2 w w2 r Z (wC t' p1)) := by show M2 _ _ _ _ _; rw [hT, ← hp1]; exact HM2.out
      clear HR HT HLK HQA HQI ha hbits hvb hnt hq64 hT hp1 HM2
      go_wp2_with fail
      refine (KA.out _).mono ?_
      rintro e V ⟨rfl, hV⟩
      rw [hV]
      clear hV KA c0
      go_wp2
      go_loopw [10] (fun i wr => ∃ k : Nat, k ≤ 64 ∧ i = .int .i64 (k : Int) ∧ Hid (M2 w wr r Z (wC t' (fun j => p1 j || (decide (j < k) && decide (Sr.way n t' = (j : Int))))))) (fun i _ => 64 - (intOf i).toNat)
      case atStart => exact ⟨0, by omega, rfl, by have h := HM4.out; rw [wC_congr (p' := fun j => p1 j || (decide (j < 0) && decide (Sr.way n t' = (j : Int)))) (fun i _ => by simp)] at h; exact h⟩
      case round =>
        obtain ⟨k, hk, rfl, HK⟩ := hrel
        rcases Nat.lt_or_ge k 64 with h4 | h4
        · have h5 : (k : Int) < 64 := by omega
          have K := KD.out t' htU k h4 wr
          have hwb := HWB.out t' k h4
          obtain ⟨c0, _⟩ := HK.out.top
          obtain ⟨ck, fk⟩ := HK.out.at' h4
          have hset := HK.out.set k true h4
          generalize Sr.add t' (-(k : Int)) = x at *
          by_cases hx : x = n
          · have huk := hwb.1 hx
            have e1 : (x == n) = true := by rw [beq_iff_eq]; exact hx
            have HN : Hid (M2 w (wr.setCell ⟨r, 1 + k, none⟩ (.bool true)) r Z (wC t' (fun j => p1 j || (decide (j < k + 1) && decide (Sr.way n t' = (j : Int)))))) := by
              rw [wC_congr (p' := fun j => p1 j || (decide (j < k + 1) && decide (Sr.way n t' = (j : Int)))) (fun i _ => by
                by_cases hik : i = k
                · subst hik; rw [if_pos rfl, decide_eq_true (Nat.lt_succ_self i), decide_eq_true huk, Bool.true_and, Bool.or_true]
                · rw [if_neg hik]; congr 2; exact decide_eq_decide.2 (by omega))] at hset
              exact hset
            clear hx huk hwb hset
            go_wp2_with fail
            refine K.mono ?_
            rintro e V ⟨rfl, hV⟩
            rw [hV]
            clear hV K
            go_wp2
            go_roundw
            case rel => exact ⟨k + 1, by omega, by go_num, HN⟩
            case measure => simp [intOf]; omega
          · have huk : ¬ Sr.way n t' = (k : Int) := fun h => hx (hwb.2 h)
            have e1 : (x == n) = false := by rw [beq_eq_false_iff_ne]; exact hx
            have HN : Hid (M2 w wr r Z (wC t' (fun j => p1 j || (decide (j < k + 1) && decide (Sr.way n t' = (j : Int)))))) := by
              have h := HK.out
              rw [wC_congr (p' := fun j => p1 j || (decide (j < k + 1) && decide (Sr.way n t' = (j : Int)))) (fun i _ => by
                by_cases hik : i = k
                · subst hik; rw [decide_eq_false huk, Bool.and_false, Bool.and_false]
                · congr 2; exact decide_eq_decide.2 (by omega))] at h
              exact h
            clear hx huk hwb hset ck fk
            go_wp2_with fail
            refine K.mono ?_
            rintro e V ⟨rfl, hV⟩
            rw [hV]
            clear hV K
            go_wp2
            go_roundw
            case rel => exact ⟨k + 1, by omega, by go_num, HN⟩
            case measure => simp [intOf]; omega
        · obtain rfl : 64 = k := by omega
          have h64 := HK.out
          rw [wC_congr (p' := q'.testBit) (fun i hi => by rw [decide_eq_true hi, Bool.true_and]; exact HF.out i hi), HRe.out] at h64
          have H0 := Lib.hid h64.h0
          have H1 := Lib.hid h64.h1
          have HRs : Hid (R.size = 65) := by show _ = _; rw [← HRe.out]; exact wC_size _ _
          have HR1 : Hid (R.all (·.oneCell') = true) := by show _ = _; rw [← HRe.out]; exact wC_one _ _
          have HRi : Hid ((Try.prog.info? 28).map (·.size) = some R.size) := by show _ = _; rw [HRs.out]; exact HZi.out
          have HB : Hid (Below w.heap.size w (wr.setRow (r + 1) R)) := by
            have hb := h64.b
            have hrr := h64.hr
            exact ⟨hb.os, hb.tape, hb.output, by have := hb.size; simpa [World.setRow] using this, fun k hk => (setRow_other _ _ _ _ (by omega)).trans (hb.block k hk)⟩
          clear h64 HK HM4 HF KD HWB
          go_wp2_with (first
            | (refine wpList_load_row rfl 28 (.tmp 2) rfl r rfl 28 R (0, 0) _ H0.out Try.underlying28 rfl HRi.out ?_)
            | (refine wpList_store_row rfl 28 (.tmp 4) (.tmp 62) rfl (r + 1) R rfl rfl 28 _ H1.out HRi.out (HZs.out.trans HRs.out.symm) HR1.out ?_))
          refine bodyPost_ret (results_row_tmp (P := Try.prog) (fn := Try.f11) rfl _ _ (r + 1) 28 R _ (by rfl) (setRow_heap _ _ _ _ _ _ H1.out) Try.underlying28 (by rfl) HRi.out) rfl ?_
          exact ⟨rfl, HB.out⟩
  · have e2 : (L != 0) = true := by rw [bne_iff_ne]; exact hL
    have h1 : w2.heap[r + 1]? = some (.cells Z 28 (0, 0)) := HM2.out.h1
    have h0 : w2.heap[r]? = some (.cells C 28 (0, 0)) := by rw [← HC.out]; exact HM2.out.h0
    have H0 := Lib.hid h0
    have H1 := Lib.hid h1
    have hCR := HR.out.2 hL
    have HCR := Lib.hid hCR
    have HB : Hid (Below w.heap.size w (w2.setRow (r + 1) C)) := by
      have hb := HM2.out.b
      have hrr := HM2.out.hr
      exact ⟨hb.os, hb.tape, hb.output, by have := hb.size; simpa [World.setRow] using this, fun k hk => (setRow_other _ _ _ _ (by omega)).trans (hb.block k hk)⟩
    clear h0 h1 hL hCR HT HLK HQA HQI
    go_wp2_with (first
      | (refine wpList_load_row rfl 28 (.tmp 2) rfl r rfl 28 C (0, 0) _ H0.out Try.underlying28 rfl HI.out ?_)
      | (refine wpList_store_row rfl 28 (.tmp 4) (.tmp 16) rfl (r + 1) C rfl rfl 28 _ H1.out HI.out (HZs.out.trans HCs.out.symm) HC1.out ?_))
    refine bodyPost_ret (results_row_tmp (P := Try.prog) (fn := Try.f11) rfl _ _ (r + 1) 28 C _ (by rfl) (setRow_heap _ _ _ _ _ _ H1.out) Try.underlying28 (by rfl) HI.out) rfl ?_
    exact ⟨by rw [← HCR.out]; rfl, HB.out⟩
end Go.Proofs.Ytklkfajbfpihfaa
