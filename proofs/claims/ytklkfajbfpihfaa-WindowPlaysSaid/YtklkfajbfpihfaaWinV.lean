/-
  The document's window: New.
-/
import Derived.Test.YtklkfajbfpihfaaWinL
import Derived.Test.YtklkfajbfpihfaaRows
import Derived.Deep.WholeRow
import Derived.Deep.MidRow
import Derived.Laws.CopyRow
namespace Go.Proofs.Ytklkfajbfpihfaa
open Go.RowKit
set_option maxRecDepth 100000

/-- the cells of a window of the document's: its top, and of each of the 64 whether it has come -/
def wC (t : Int) (p : Nat → Bool) : Array Value := (Value.int .u32 t :: (List.range 64).map fun i => Value.bool (p i)).toArray
theorem wC_size (t : Int) (p : Nat → Bool) : (wC t p).size = 65 := by simp [wC]
theorem wC_top (t : Int) (p : Nat → Bool) : (wC t p)[0]? = some (.int .u32 t) := rfl
theorem wC_at (t : Int) (p : Nat → Bool) (i : Nat) (h : i < 64) : (wC t p)[1 + i]? = some (.bool (p i)) := by
  rw [Nat.add_comm]
  simp [wC, h]
theorem wC_one (t : Int) (p : Nat → Bool) : (wC t p).all (·.oneCell') = true := by
  rw [Array.all_eq_true_iff_forall_mem]
  intro v hv
  have hv : v ∈ Value.int .u32 t :: (List.range 64).map fun i => Value.bool (p i) := by simpa [wC] using hv
  rcases List.mem_cons.1 hv with rfl | hv
  · rfl
  · obtain ⟨i, _, rfl⟩ := List.mem_map.1 hv
    rfl
theorem wC_ext {C : Array Value} {t : Int} {p : Nat → Bool} (hs : C.size = 65) (h0 : C[0]? = some (.int .u32 t)) (h : ∀ i, i < 64 → C[1 + i]? = some (.bool (p i))) : C = wC t p := by
  apply Array.ext_getElem?
  intro j
  rcases Nat.lt_or_ge j 65 with hj | hj
  · cases j with
    | zero => rw [h0, wC_top]
    | succ i => rw [Nat.add_comm, h i (by omega), wC_at t p i (by omega)]
  · rw [Array.getElem?_eq_none (by omega), Array.getElem?_eq_none (by rw [wC_size]; omega)]
theorem wC_congr {t : Int} {p p' : Nat → Bool} (h : ∀ i, i < 64 → p i = p' i) : wC t p = wC t p' := wC_ext (wC_size _ _) (wC_top _ _) fun i hi => by rw [wC_at t p i hi, h i hi]
theorem wC_set (t : Int) (p : Nat → Bool) (i : Nat) (b : Bool) (_h : i < 64) : (wC t p).setIfInBounds (1 + i) (.bool b) = wC t (fun j => if j = i then b else p j) := by
  apply wC_ext (by simp [wC_size])
  · rw [Array.getElem?_setIfInBounds, if_neg (by omega)]; exact wC_top t p
  · intro j hj
    rw [Array.getElem?_setIfInBounds]
    by_cases hij : j = i
    · subst hij
      rw [if_pos rfl, if_pos (by rw [wC_size]; omega), if_pos rfl]
    · rw [if_neg (by omega), if_neg hij]
      exact wC_at t p j hj
theorem wC_setTop (t t' : Int) (p : Nat → Bool) : (wC t p).setIfInBounds 0 (.int .u32 t') = wC t' p := by
  apply wC_ext (by simp [wC_size])
  · rw [Array.getElem?_setIfInBounds, if_pos rfl, if_pos (by rw [wC_size]; omega)]
  · intro j hj
    rw [Array.getElem?_setIfInBounds, if_neg (by omega)]
    exact wC_at t p j hj
theorem wInfo : (Try.prog.info? 28).map (·.size) = some 65 := by kernel_rfl
theorem wZero : (Try.prog.info? 28).map (fun i => (i.zero, i.size)) = some (some (.agg (wC 0 (fun _ => false))), 65) := by kernel_rfl

/-- two rows that the call made: the result's, in block r, and a variable's, in block r + 1 -/
structure W2 (w wr : World) (r : Nat) (Z C : Array Value) : Prop where
  h0 : wr.heap[r]? = some (.cells Z 28 (0, 0))
  h1 : wr.heap[r + 1]? = some (.cells C 28 (0, 0))
  hr : w.heap.size ≤ r
  b : Below w.heap.size w wr
theorem W2.set {w wr : World} {r : Nat} {Z : Array Value} {t : Int} {p : Nat → Bool} (h : W2 w wr r Z (wC t p)) (i : Nat) (b : Bool) (hi : i < 64) : W2 w (wr.setCell ⟨r + 1, 1 + i, none⟩ (.bool b)) r Z (wC t (fun j => if j = i then b else p j)) := by
  refine ⟨(Below.heap_setCell wr ⟨r + 1, 1 + i, none⟩ _ r (by simp)).trans h.h0, ?_, h.hr, h.b.setCell (p := ⟨r + 1, 1 + i, none⟩) (by have := h.hr; simp; omega) _⟩
  rw [← wC_set t p i b hi]
  exact setCell_at h.h1
set_option maxHeartbeats 1000000 in
theorem rnew_any (s : Int) (hs : 0 ≤ s ∧ s < 4294967296) (w : World) :
    Calls Try.prog 8 #[.int .u32 s] w fun e w' => e = .returned (.agg (wC (Sr.add s (-1)) (fun _ => true))) ∧ Below w.heap.size w w' := by
  have K := fun w => sradd_any s (-1) w hs (by omega)
  obtain ⟨hz, hzs⟩ := zero_of_info (P := Try.prog) wZero
  obtain ⟨Z, hZ⟩ : ∃ Z, wC 0 (fun _ => false) = Z := ⟨_, rfl⟩
  rw [hZ] at hz
  have hZs : Z.size = 65 := by rw [← hZ]; exact wC_size _ _
  have hZn : ¬ Z = #[] := fun h => by rw [h] at hZs; cases hZs
  have HZ := Lib.hid hZ
  have HZs := Lib.hid hZs
  have HZi := Lib.hid hzs
  clear hZ hZs hzs
  generalize Sr.add s (-1) = t at *
  go_enter Try.func8, Try.ntmps8
  go_wp2_with fail
  refine (K _).mono ?_
  rintro e w1 ⟨rfl, rfl⟩
  simp only []
  rename ∀ (a : Act) (w : World), wpList _ _ _ _ a w → _ => hK
  refine hK _ _ ?_
  clear hK
  go_step
  go_step
  go_step
  go_step
  rw [show Z.setIfInBounds 0 (.int .u32 t) = wC t (fun _ => false) by rw [← HZ.out, wC_setTop]]
  have hCs : (wC t (fun _ => false)).size = 65 := wC_size _ _
  have hC1 := wC_one t (fun _ => false)
  obtain ⟨C0, hC0⟩ : ∃ C0, wC t (fun _ => false) = C0 := ⟨_, rfl⟩
  rw [hC0] at hCs hC1 ⊢
  go_step
  go_step
  refine wpList_store_row (by rfl) _ _ _ (by rfl) (w.heap.size + 1) C0 (by rfl) (by rfl) 28 Z (heap_alloc2_new w _ _) (by rw [hCs]; exact HZi.out) (by rw [HZs.out, hCs]) hC1 ?_
  have hW : W2 w (((w.alloc (.cells Z 28)).alloc (.cells Z 28)).setRow (w.heap.size + 1) C0) w.heap.size Z C0 :=
    ⟨(setRow_other _ _ _ _ (by omega)).trans (heap_alloc2_old w _ _), setRow_heap _ _ _ _ _ _ (heap_alloc2_new w _ _), Nat.le_refl _,
      ⟨rfl, rfl, rfl, by simp; omega, fun k hk => (setRow_other _ _ _ _ (by omega)).trans ((((Below.refl w.heap.size w).alloc (Nat.le_refl _) _).alloc (by simp) _).block k hk)⟩⟩
  generalize World.setRow _ (w.heap.size + 1) C0 = W at *
  rw [← hC0] at hW
  have HWW := Lib.hid hW
  clear hW hC1 hCs hC0 hz hZn
  obtain ⟨r, hr⟩ : ∃ r, w.heap.size = r := ⟨_, rfl⟩
  rw [hr] at HWW ⊢
  have HRr := Lib.hid hr
  clear hr
  go_wp2
  go_loopw [4] (fun i wr => ∃ k : Nat, k ≤ 64 ∧ i = .int .i64 (k : Int) ∧ Hid (W2 w wr r Z (wC t (fun j => decide (j < k))))) (fun i _ => 64 - (intOf i).toNat)
  case atStart => exact ⟨0, by omega, rfl, by have h := HWW.out; rw [wC_congr (p' := fun j => decide (j < 0)) (fun i _ => by simp)] at h; exact h⟩
  case round =>
    obtain ⟨k, hk, rfl, HK⟩ := hrel
    rcases Nat.lt_or_ge k 64 with h4 | h4
    · have h5 : (k : Int) < 64 := by omega
      have hc : wr.cell? ⟨r + 1, 1 + k, none⟩ = some (.bool (decide (k < k))) := by
        rw [cell_of_row wr (r + 1) (1 + k) _ _ _ HK.out.h1]
        exact wC_at t _ k h4
      have hf : wr.frozen? ⟨r + 1, 1 + k, none⟩ = false := by simp [World.frozen?, HK.out.h1]
      have HN : Hid (W2 w (wr.setCell ⟨r + 1, 1 + k, none⟩ (.bool true)) r Z (wC t (fun j => decide (j < k + 1)))) := by
        have h := HK.out.set k true h4
        rw [wC_congr (p' := fun j => decide (j < k + 1)) (fun i _ => by
          by_cases hik : i = k
          · subst hik; simp
          · rw [if_neg hik]; exact decide_eq_decide.2 (by omega))] at h
        exact h
      go_wp2
      go_roundw
      case rel => exact ⟨k + 1, by omega, by go_num, HN⟩
      case measure => simp [intOf]; omega
    · obtain rfl : 64 = k := by omega
      have hC : wC t (fun j => decide (j < 64)) = wC t (fun _ => true) := wC_congr fun i hi => decide_eq_true hi
      have hCs : (wC t (fun _ => true)).size = 65 := wC_size _ _
      have hC1 := wC_one t (fun _ => true)
      rw [hC] at HK
      clear hC
      obtain ⟨C, hCe⟩ : ∃ C, wC t (fun _ => true) = C := ⟨_, rfl⟩
      rw [hCe] at HK hCs hC1
      have HCe := Lib.hid hCe
      clear hCe
      rename ∀ (a : Act) (w : World), Code.wp _ _ _ a w → _ => hK
      have HKK := Lib.hid hK
      clear hK
      have hlt' : ¬ ((64 : Nat) : Int) < 64 := by omega
      have hsi : (Try.prog.info? 28).map (·.size) = some C.size := by rw [hCs]; exact HZi.out
      go_wp2
      refine HKK.out _ _ ?_
      go_step
      go_step
      refine wpList_load_row (by rfl) _ _ (by rfl) (r + 1) (by rfl) 28 C (0, 0) _ HK.out.h1 Try.underlying28 (by rfl) hsi ?_
      refine wpList_store_row (by rfl) _ _ _ (by rfl) r C (by rfl) (by rfl) 28 Z HK.out.h0 hsi (by rw [HZs.out, hCs]) hC1 ?_
      have HF := setRow_heap wr r Z C 28 (0, 0) HK.out.h0
      have hb2 : Below w.heap.size w (wr.setRow r C) := ⟨HK.out.b.os, HK.out.b.tape, HK.out.b.output, by have := HK.out.b.size; simpa [World.setRow] using this, fun k hk => (setRow_other _ _ _ _ (by have := HK.out.hr; omega)).trans (HK.out.b.block k hk)⟩
      generalize wr.setRow r C = W2' at *
      have HFH := Lib.hid HF
      clear HF
      go_wp2
      refine bodyPost_ret (results_cell_row (P := Try.prog) (fn := Try.f8) rfl _ _ r 28 C (0, 0) _ (by rfl) HFH.out Try.underlying28 (by rfl) hsi) rfl ⟨by rw [HCe.out], hb2⟩
end Go.Proofs.Ytklkfajbfpihfaa
