/-
  The document's words as bits: Of, Word, Xor, Shift.
-/
import Derived.Test.YtbhdffefjphphaaRows
import Derived.Test.YtbhdffefjphphaaMem
import Derived.Test.YtbhdffefjphphaaRow
import Derived.Test.YtbhdffefjphphaaCrcA
import Derived.Test.YtbhdffefjphphaaQ2
import Derived.Deep.WholeRow
namespace Go.Proofs.Ytbhdffefjphphaa
open Go.RowKit
set_option maxRecDepth 100000

/-- a word's bits -/
def bitsV (n : Nat) : List Value := (List.range 32).map fun i => Value.bool (n.testBit i)
theorem bitsV_len (n : Nat) : (bitsV n).length = 32 := by simp [bitsV]
theorem bitsV_at (n i : Nat) (h : i < 32) : (bitsV n)[i]? = some (.bool (n.testBit i)) := by
  simp [bitsV, h]

theorem bitsV_one (n : Nat) : ((bitsV n).toArray).all (·.oneCell') = true := by
  rw [Array.all_eq_true_iff_forall_mem]
  intro v hv
  have hv : v ∈ bitsV n := by simpa using hv
  obtain ⟨i, _, rfl⟩ := List.mem_map.1 hv
  rfl
theorem wSize : (Try.prog.info? 30).map (·.size) = some 32 := by kernel_rfl
/-- bits that are told so far -/
def BitsTo (cs : Array Value) (p : Nat → Bool) : Prop := cs.size = 32 ∧ ∀ j, j < 32 → cs[j]? = some (.bool (p j))
theorem BitsTo.eq {cs : Array Value} {n : Nat} (h : BitsTo cs (fun j => n.testBit j)) : cs = (bitsV n).toArray := by
  apply Array.ext_getElem?
  intro j
  by_cases hj : j < 32
  · rw [h.2 j hj, List.getElem?_toArray, bitsV_at n j hj]
  · rw [Array.getElem?_eq_none (by rw [h.1]; omega), List.getElem?_toArray, List.getElem?_eq_none (by rw [bitsV_len]; omega)]
theorem BitsTo.set {cs : Array Value} {p q : Nat → Bool} (h : BitsTo cs p) (i : Nat) (x : Bool) (hq : ∀ j, j < 32 → q j = if i = j then x else p j) : BitsTo (cs.setIfInBounds i (.bool x)) q := by
  refine ⟨by simp [h.1], fun j hj => ?_⟩
  rw [Array.getElem?_setIfInBounds, hq j hj]
  by_cases hij : i = j
  · subst hij
    rw [if_pos rfl, if_pos rfl, if_pos (by rw [h.1]; omega)]
  · rw [if_neg hij, if_neg hij]
    exact h.2 j hj
theorem BitsTo.of (n : Nat) : BitsTo (bitsV n).toArray (fun j => n.testBit j) := ⟨by simp [bitsV_len], fun j hj => by rw [List.getElem?_toArray, bitsV_at n j hj]⟩

theorem testBit_div (n i : Nat) : (n / 2 ^ i % 2 == 1) = n.testBit i := by
  rw [Nat.testBit_eq_decide_div_mod_eq]
  by_cases h : n / 2 ^ i % 2 = 1 <;> simp [h]

set_option maxHeartbeats 1000000 in
theorem of_any (n : Nat) (w : World) (h : n < 4294967296) :
    Calls Try.prog 12 #[.int .u32 n] w fun e w' => e = .returned (.agg (bitsV n).toArray) ∧ Below w.heap.size w w' := by
  go_enter Try.func12, Try.ntmps12
  go_wp2
  generalize hA0 : (Obj.cells _ 30 : Obj) = A0
  obtain ⟨cs0, h0, rfl⟩ : ∃ cs0 : Array Value, cs0 = Array.replicate 32 (.bool false) ∧ A0 = .cells cs0 30 := ⟨_, rfl, hA0.symm⟩
  have H0 := Lib.hid h0
  clear hA0 h0
  go_loopw [0, 4] (fun x i wr => ∃ (k p : Nat) (cs : Array Value), k ≤ 32 ∧ i = .int .i64 k ∧ x = .int .u32 p ∧ p < 4294967296 ∧ Hid (p = n / 2 ^ k) ∧ Hid (BitsTo cs (fun j => decide (j < k) && n.testBit j)) ∧ wr = (w.alloc (.cells cs0 30)).alloc (.cells cs 30)) (fun _ i _ => 32 - (intOf i).toNat)
  case atStart =>
    refine ⟨0, n, Array.replicate 32 (Value.bool false), by omega, rfl, rfl, h, by show n = n / 1; omega, ⟨by simp, fun j hj => by simp [hj]⟩, by rw [H0.out]⟩
  case round =>
    obtain ⟨k, p, cs, hk, rfl, rfl, hp, HP, HB, rfl⟩ := hrel
    by_cases hlt : k < 32
    · have hlt' : (k : Int) < 32 := by omega
      have hcs := HB.out.1
      have hx : ((p : Int) % 2 == 1) = n.testBit k := by
        rw [← testBit_div, ← HP.out]
        rcases Nat.mod_two_eq_zero_or_one p with h | h <;> (rw [h]; simp; omega)
      have HX := Lib.hid hx
      have HB' : Hid (BitsTo (cs.setIfInBounds k (.bool (n.testBit k))) (fun j => decide (j < k + 1) && n.testBit j)) := HB.out.set k _ fun j hj => by
        by_cases hjk : k = j
        · subst hjk; simp
        · have : decide (j < k + 1) = decide (j < k) := by simp; omega
          rw [if_neg hjk, this]
      go_wp2
      go_roundw
      case rel => exact ⟨k + 1, p / 2, _, by omega, by go_num, by go_num, by omega, by show _ = _; rw [HP.out, Nat.pow_succ, Nat.div_div_eq_div_mul], HB', rfl⟩
      case measure => simp [intOf]; omega
    · obtain rfl : k = 32 := by omega
      have hC : cs = (bitsV n).toArray := BitsTo.eq ⟨HB.out.1, fun j hj => by rw [HB.out.2 j hj]; simp [hj]⟩
      have h1 := bitsV_one n
      have hsz : (bitsV n).toArray.size = 32 := by simp [bitsV_len]
      rw [hC]
      clear hC HB
      generalize hCe : (bitsV n).toArray = C at *
      have HCe := Lib.hid hCe
      clear hCe
      rename ∀ (a : Act) (w : World), Code.wp _ _ _ a w → _ => hK
      have HK := Lib.hid hK
      clear hK
      have hlt' : ¬ ((32 : Nat) : Int) < 32 := by omega
      have HR := Lib.hid (show ((w.alloc (.cells cs0 30)).alloc (.cells C 30)).heap[w.heap.size]? = some (.cells cs0 30) from heap_alloc2_old w _ _)
      have HR2 := Lib.hid (show ((w.alloc (.cells cs0 30)).alloc (.cells C 30)).heap[w.heap.size + 1]? = some (.cells C 30) from heap_alloc2_new w _ _)
      have hb : Below w.heap.size w ((w.alloc (.cells cs0 30)).alloc (.cells C 30)) := ((Below.refl _ w).alloc (Nat.le_refl _) _).alloc (by simp) _
      generalize (w.alloc (.cells cs0 30)).alloc (.cells C 30) = W at *
      have hsi : (Try.prog.info? 30).map (·.size) = some C.size := by rw [hsz]; exact wSize
      go_wp2
      refine HK.out _ _ ?_
      go_step
      go_step
      refine wpList_load_row (by rfl) _ _ (by rfl) (w.heap.size + 1) (by rfl) 30 C (0, 0) _ HR2.out Try.underlying30 (by rfl) hsi ?_
      refine wpList_store_row (by rfl) _ _ _ (by rfl) w.heap.size C (by rfl) (by rfl) 30 cs0 HR.out hsi (by rw [H0.out, hsz]; rfl) h1 ?_
      have HF := setRow_heap W w.heap.size cs0 C 30 (0, 0) HR.out
      have hb2 : Below w.heap.size w (W.setRow w.heap.size C) := ⟨hb.os, hb.tape, hb.output, by simp [hb.size], fun k hk => (setRow_other _ _ _ _ (by omega)).trans (hb.block k hk)⟩
      generalize W.setRow w.heap.size C = W2 at *
      have HFH := Lib.hid HF
      clear HF HR HR2
      go_wp2
      refine bodyPost_ret (results_cell_row (P := Try.prog) (fn := Try.f12) rfl _ _ w.heap.size 30 C (0, 0) _ (by rfl) HFH.out Try.underlying30 (by rfl) hsi) rfl ⟨by rw [HCe.out], hb2⟩
end Go.Proofs.Ytbhdffefjphphaa
