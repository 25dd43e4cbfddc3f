/-
  The document's words as bits: Word, Xor.
-/
import Derived.Test.YtbhdffefjphphaaRfA
namespace Go.Proofs.Ytbhdffefjphphaa
open Go.RowKit
set_option maxRecDepth 100000

theorem div_bit (N j : Nat) : N / 2 ^ j = 2 * (N / 2 ^ (j + 1)) + (if N.testBit j then 1 else 0) := by
  rw [← testBit_div, Nat.pow_succ, ← Nat.div_div_eq_div_mul]
  rcases Nat.mod_two_eq_zero_or_one (N / 2 ^ j) with h | h <;> (rw [h]; simp; omega)

theorem word_any (N : Nat) (w : World) (h : N < 4294967296) :
    Calls Try.prog 10 #[.agg (bitsV N).toArray] w fun e w' => e = .returned (.int .u32 N) ∧ Below w.heap.size w w' := by
  have hB := Lib.hid (BitsTo.of N)
  generalize (bitsV N).toArray = C at *
  go_enter Try.func10, Try.ntmps10
  go_wp2
  go_loopw [3, 4] (fun x i wr => ∃ (k m : Nat), k ≤ 32 ∧ i = .int .i64 ((k : Int) - 1) ∧ x = .int .u32 m ∧ m < 4294967296 ∧ Hid (m = N / 2 ^ k) ∧ wr = w.alloc (.cells C 30)) (fun _ i _ => (intOf i + 1).toNat)
  case atStart => exact ⟨32, 0, by omega, rfl, rfl, by omega, (Nat.div_eq_of_lt (by omega)).symm, rfl⟩
  case round =>
    obtain ⟨k, m, hk, rfl, rfl, hm, HM, rfl⟩ := hrel
    by_cases hlt : k = 0
    · subst hlt
      obtain rfl : m = N := by rw [HM.out]; show N / 1 = N; omega
      go_wp2
      go_ret
      exact ⟨rfl, (Below.refl _ w).alloc (Nat.le_refl _) _⟩
    · obtain ⟨j, rfl⟩ : ∃ j, k = j + 1 := ⟨k - 1, by omega⟩
      rw [show ((j + 1 : Nat) : Int) - 1 = (j : Int) by omega]
      have hj := hB.out.2 j (by omega)
      have hjs : j < C.size := by rw [hB.out.1]; omega
      have hcell : (w.alloc (.cells C 30)).cell? ⟨w.heap.size, j, none⟩ = some (.bool (N.testBit j)) := by
        rw [World.cell?_alloc_at _ _ _ _ rfl]
        exact hj
      have hD := div_bit N j
      rw [← HM.out] at hD
      have hlt2 : N / 2 ^ j ≤ N := Nat.div_le_self _ _
      have HD := Lib.hid hD
      have hj31 : (j : Int) < 32 := by omega
      have hj0 : (0 : Int) ≤ (j : Int) := by omega
      clear hj
      generalize hbb : N.testBit j = bb at *
      cases bb
      · have hm2 : 2 * m < 4294967296 := by simp at hD; omega
        have HD2 : Hid (2 * m = N / 2 ^ j) := by simp at hD; exact hD.symm
        clear hD hbb HD
        go_wp2
        go_roundw
        case rel => exact ⟨j, 2 * m, by omega, by go_num, by go_num, hm2, HD2, trivial⟩
        case measure => simp [intOf]; try omega
      · have hm2 : 2 * m + 1 < 4294967296 := by simp at hD; omega
        have HD2 : Hid (2 * m + 1 = N / 2 ^ j) := by simp at hD; exact hD.symm
        clear hD hbb HD
        go_wp2
        go_roundw
        case rel => exact ⟨j, 2 * m + 1, by omega, by go_num, by go_num, hm2, HD2, trivial⟩
        case measure => simp [intOf]; try omega

/-- three rows: the one that is turned, another one, the result's -/
structure X3 (w wr : World) (cs C2 R : Array Value) : Prop where
  h0 : wr.heap[w.heap.size]? = some (.cells cs 30 (0, 0))
  h1 : wr.heap[w.heap.size + 1]? = some (.cells C2 30 (0, 0))
  h2 : wr.heap[w.heap.size + 2]? = some (.cells R 30 (0, 0))
  b : Below w.heap.size w wr
theorem X3.drewN {w wr : World} {cs C2 R : Array Value} (h : X3 w wr cs C2 R) (n : Nat) : X3 w (wr.drewN n) cs C2 R := ⟨h.h0, h.h1, h.h2, below_drewN h.b n⟩
theorem X3.set {w wr : World} {cs C2 R : Array Value} (h : X3 w wr cs C2 R) (j : Nat) (v : Value) : X3 w (wr.setCell ⟨w.heap.size, j, none⟩ v) (cs.setIfInBounds j v) C2 R :=
  ⟨setCell_at h.h0, (heap_setCell_other _ _ _ _ (by simp)).trans h.h1, (heap_setCell_other _ _ _ _ (by simp)).trans h.h2, h.b.setCell (Nat.le_refl _) _⟩
theorem X3.start (w : World) (C1 C2 R : Array Value) : X3 w (((w.alloc (.cells C1 30)).alloc (.cells C2 30)).alloc (.cells R 30)) C1 C2 R := by
  refine ⟨?_, ?_, ?_, (((Below.refl _ w).alloc (Nat.le_refl _) _).alloc (by simp) _).alloc (by simp; omega) _⟩
  · rw [heap_alloc_old _ _ (by simp; omega), heap_alloc2_old]
  · rw [heap_alloc_old _ _ (by simp), heap_alloc2_new]
  · have := heap_alloc_new ((w.alloc (.cells C1 30)).alloc (.cells C2 30)) (.cells R 30)
    simpa using this
theorem bool_ne (a b : Bool) : (a != b) = (a ^^ b) := by cases a <;> cases b <;> rfl

set_option maxHeartbeats 1000000 in
theorem xor_any (a b : Nat) (w : World) :
    Calls Try.prog 26 #[.agg (bitsV a).toArray, .agg (bitsV b).toArray] w fun e w' => e = .returned (.agg (bitsV (a ^^^ b)).toArray) ∧ Below w.heap.size w w' := by
  have hB1 := BitsTo.of a
  have HB2 := Lib.hid (BitsTo.of b)
  have H1 : Hid (BitsTo (bitsV a).toArray (fun j => if j < 0 then (a ^^^ b).testBit j else a.testBit j)) := ⟨hB1.1, fun j hj => by rw [hB1.2 j hj]; simp⟩
  clear hB1
  generalize (bitsV a).toArray = C1 at *
  generalize (bitsV b).toArray = C2 at *
  go_enter Try.func26, Try.ntmps26
  go_wp2
  generalize hA0 : (Obj.cells (Array.mk (Value.bool false :: _)) 30 : Obj) = A0
  obtain ⟨cs0, h0, rfl⟩ : ∃ cs0 : Array Value, cs0 = Array.replicate 32 (.bool false) ∧ A0 = .cells cs0 30 := ⟨_, rfl, hA0.symm⟩
  have H0 := Lib.hid (show cs0.size = 32 by rw [h0]; rfl)
  clear hA0 h0
  have HX := Lib.hid (X3.start w C1 C2 cs0)
  generalize World.alloc _ _ = W at *
  go_loopw [5] (fun i wr => ∃ (k : Nat) (cs : Array Value), k ≤ 32 ∧ i = .int .i64 k ∧ Hid (X3 w wr cs C2 cs0) ∧ Hid (BitsTo cs (fun j => if j < k then (a ^^^ b).testBit j else a.testBit j))) (fun i _ => 32 - (intOf i).toNat)
  case atStart => exact ⟨0, C1, by omega, rfl, HX, H1⟩
  case round =>
    obtain ⟨k, cs, hk, rfl, HR, HB⟩ := hrel
    by_cases hlt : k < 32
    · have hlt' : (k : Int) < 32 := by omega
      have c1 : wr.cell? ⟨w.heap.size, k, none⟩ = some (.bool (a.testBit k)) := by
        rw [cell_of_row _ _ _ _ _ _ HR.out.h0, HB.out.2 k hlt]
        simp
      have c2 : wr.cell? ⟨w.heap.size + 1, k, none⟩ = some (.bool (b.testBit k)) := by
        rw [cell_of_row _ _ _ _ _ _ HR.out.h1, HB2.out.2 k hlt]
      have c3 : wr.frozen? ⟨w.heap.size, k, none⟩ = false := frozen_of_row _ _ _ _ _ HR.out.h0
      have HB' : Hid (BitsTo (cs.setIfInBounds k (.bool (a.testBit k != b.testBit k))) (fun j => if j < k + 1 then (a ^^^ b).testBit j else a.testBit j)) := HB.out.set k _ fun j hj => by
        by_cases hjk : k = j
        · subst hjk; simp [Nat.testBit_xor, bool_ne]
        · rw [if_neg hjk]
          by_cases h2 : j < k
          · rw [if_pos h2, if_pos (by omega)]
          · rw [if_neg h2, if_neg (by omega)]
      generalize a.testBit k = x at *
      generalize b.testBit k = y at *
      go_wp2
      refine wp_region_lex2 (C := fun w' => ∃ n, w' = wr.drewN n) (by kernel_rfl) (by kernel_rfl) ⟨1, rfl⟩ ?_
      repeat (first
        | (refine wpQ2_pure rfl ?_; go_big_quiet_step (fail); refine wpQuiet_nil ?_)
        | (refine wpQ2_look rfl ?_; go_big_quiet_step (fail); refine wpQuiet_nil ?_))
      refine wpQ2_store (fun w' => ∃ n, w' = (wr.setCell ⟨w.heap.size, k, none⟩ (.bool (x != y))).drewN n) rfl rfl rfl ⟨w.heap.size, k, none⟩ (.bool (x != y)) rfl rfl ?_ ?_
      · rintro w5 ⟨n5, rfl⟩
        refine ⟨(wr.drewN n5).setCell ⟨w.heap.size, k, none⟩ (.bool (x != y)), ?_, n5, rfl⟩
        simp [Instr.storeAt, go_sem, *]
      rintro w5 ⟨n5, rfl⟩
      have HN : Hid (X3 w ((wr.setCell ⟨w.heap.size, k, none⟩ (.bool (x != y))).drewN n5) (cs.setIfInBounds k (.bool (x != y))) C2 cs0) := (HR.out.set k _).drewN n5
      generalize World.drewN _ n5 = w6 at *
      go_wp2
      go_roundw
      case rel => exact ⟨k + 1, _, by omega, by go_num, HN, HB'⟩
      case measure => simp [intOf]; omega
    · obtain rfl : k = 32 := by omega
      have hC : cs = (bitsV (a ^^^ b)).toArray := BitsTo.eq ⟨HB.out.1, fun j hj => by rw [HB.out.2 j hj]; simp [hj]⟩
      have h1 := bitsV_one (a ^^^ b)
      have hsz : (bitsV (a ^^^ b)).toArray.size = 32 := by simp [bitsV_len]
      rw [hC] at HR
      clear hC HB
      generalize hCe : (bitsV (a ^^^ b)).toArray = C at *
      have HCe := Lib.hid hCe
      clear hCe
      rename ∀ (a : Act) (w : World), Code.wp _ _ _ a w → _ => hK
      have HK := Lib.hid hK
      clear hK
      have hlt' : ¬ ((32 : Nat) : Int) < 32 := by omega
      have hsi : (Try.prog.info? 30).map (·.size) = some C.size := by rw [hsz]; exact wSize
      go_wp2
      refine HK.out _ _ ?_
      go_step
      go_step
      refine wpList_load_row (by rfl) _ _ (by rfl) w.heap.size (by rfl) 30 C (0, 0) _ HR.out.h0 Try.underlying30 (by rfl) hsi ?_
      refine wpList_store_row (by rfl) _ _ _ (by rfl) (w.heap.size + 2) C (by rfl) (by rfl) 30 cs0 HR.out.h2 hsi (by rw [H0.out, hsz]) h1 ?_
      have HF := setRow_heap wr (w.heap.size + 2) cs0 C 30 (0, 0) HR.out.h2
      have hb := HR.out.b
      have hb2 : Below w.heap.size w (wr.setRow (w.heap.size + 2) C) := ⟨hb.os, hb.tape, hb.output, by simp [hb.size], fun k hk => (setRow_other _ _ _ _ (by omega)).trans (hb.block k hk)⟩
      generalize wr.setRow (w.heap.size + 2) C = W2 at *
      have HFH := Lib.hid HF
      clear HF HR
      go_wp2
      refine bodyPost_ret (results_cell_row (P := Try.prog) (fn := Try.f26) rfl _ _ (w.heap.size + 2) 30 C (0, 0) _ (by rfl) HFH.out Try.underlying30 (by rfl) hsi) rfl ⟨by rw [HCe.out], hb2⟩
end Go.Proofs.Ytbhdffefjphphaa
