/-
  Contract of layer 7's Line.
-/
import Derived.Test.YtmmffifndheafaaDoorHdN
import Derived.Test.YtmmffifndheafaaDoorIto
import Derived.Test.YtmmffifndheafaaDoorQ6
import Derived.Test.YtmmffifndheafaaDoorMem
namespace Go.Proofs.YtmmffifndheafaaDoor
open Go.RowKit
set_option maxRecDepth 100000

/-- the line of a head, of its numerals -/
def lineB (a b c d e : ByteArray) : ByteArray := ({ data := #[118, 32] } : ByteArray) ++ a ++ { data := #[32, 107, 32] } ++ b ++ { data := #[32] } ++ c ++ { data := #[32] } ++ d ++ { data := #[47] } ++ e
/-- .. of its numbers -/
def lineZ (v k s i c : Int) : ByteArray := lineB ⟨(Lib.itoa v).toArray⟩ ⟨(Lib.itoa k).toArray⟩ ⟨(Lib.itoa s).toArray⟩ ⟨(Lib.itoa i).toArray⟩ ⟨(Lib.itoa c).toArray⟩

theorem nDigits_le {u : Nat} (h : u < 18446744073709551616) : Lib.nDigits u ≤ 20 := by
  rcases Nat.eq_zero_or_pos u with h0 | h0
  · subst h0; rw [Lib.nDigits_small (by omega)]; omega
  · have := Lib.numDigits_eq u h0 h
    split at this <;> omega
theorem itoa_len {n : Int} (h : -9223372036854775808 ≤ n ∧ n ≤ 9223372036854775807) : (⟨(Lib.itoa n).toArray⟩ : ByteArray).size ≤ 21 := by
  show (Lib.itoa n).toArray.size ≤ 21
  simp only [List.size_toArray]
  unfold Lib.itoa
  split
  · rw [List.length_cons, Lib.decDigits_length]; have := @nDigits_le n.natAbs (by omega); omega
  · rw [Lib.decDigits_length]; have := @nDigits_le n.toNat (by omega); omega
theorem dec_len {u : Nat} (h : u < 18446744073709551616) : (⟨(Lib.decDigits u).toArray⟩ : ByteArray).size ≤ 21 := by
  show (Lib.decDigits u).toArray.size ≤ 21
  simp only [List.size_toArray]
  rw [Lib.decDigits_length]; have := nDigits_le h; omega

set_option maxHeartbeats 4000000 in
theorem hline_any (v k s i c : Int) (hv : -9223372036854775808 ≤ v ∧ v ≤ 9223372036854775807) (hk : -9223372036854775808 ≤ k ∧ k ≤ 9223372036854775807) (hi : -9223372036854775808 ≤ i ∧ i ≤ 9223372036854775807) (hc : -9223372036854775808 ≤ c ∧ c ≤ 9223372036854775807)
    (hs : 0 ≤ s ∧ s ≤ 4294967295) (B : Nat) (w : World) (ht : Tens w B) (hB : B ≤ w.heap.size) :
    Calls Tryd.prog 9 #[hdV v k s i c] w fun e w' => e = .returned (.string (lineZ v k s i c)) ∧ Below w.heap.size w w' := by
  unfold hdV
  obtain ⟨w0, hw0⟩ : ∃ w0, w.alloc (.cells #[.int .i64 v, .int .i64 k, .int .u32 s, .int .i64 i, .int .i64 c] 24) = w0 := ⟨_, rfl⟩
  have hs0 : w0.heap.size = w.heap.size + 1 := by rw [← hw0]; simp
  have hb0 : Below w.heap.size w w0 := by rw [← hw0]; exact (Below.refl _ w).alloc (Nat.le_refl _) _
  have hd : ∀ W, Below w0.heap.size w0 W → W.cell? ⟨w.heap.size, 0, none⟩ = some (.int .i64 v) ∧ W.cell? ⟨w.heap.size, 1, none⟩ = some (.int .i64 k) ∧ W.cell? ⟨w.heap.size, 2, none⟩ = some (.int .u32 s) ∧ W.cell? ⟨w.heap.size, 3, none⟩ = some (.int .i64 i) ∧ W.cell? ⟨w.heap.size, 4, none⟩ = some (.int .i64 c) := fun W hW => by
    rw [← hw0] at hW; exact hd_cells hW
  have hT : ∀ W, Below w0.heap.size w0 W → Tens W B := fun W hW => (ht.below (hb0.mono hB)).below (hW.mono (by omega))
  have HW := Lib.hid hw0
  have cv := fun W hW => itoa_any v hv.1 hv.2 B W (hT W hW)
  have ck := fun W hW => itoa_any k hk.1 hk.2 B W (hT W hW)
  have ci := fun W hW => itoa_any i hi.1 hi.2 B W (hT W hW)
  have cc := fun W hW => itoa_any c hc.1 hc.2 B W (hT W hW)
  have lv := itoa_len hv
  have lk := itoa_len hk
  have li := itoa_len hi
  have lc := itoa_len hc
  clear hw0
  obtain ⟨u, rfl⟩ : ∃ u : Nat, s = (u : Int) := ⟨s.toNat, by omega⟩
  have hu : u < 18446744073709551616 := by omega
  have cs := fun W hW => fmtu_any u hu B W (hT W hW)
  have ls := dec_len hu
  have hz : lineZ v k (u : Int) i c = lineB ⟨(Lib.itoa v).toArray⟩ ⟨(Lib.itoa k).toArray⟩ ⟨(Lib.decDigits u).toArray⟩ ⟨(Lib.itoa i).toArray⟩ ⟨(Lib.itoa c).toArray⟩ := by unfold lineZ; rw [Lib.itoa_nonneg]
  rw [hz]
  unfold lineB
  clear hz
  generalize (⟨(Lib.itoa v).toArray⟩ : ByteArray) = tv at *
  generalize (⟨(Lib.itoa k).toArray⟩ : ByteArray) = tk at *
  generalize (⟨(Lib.itoa i).toArray⟩ : ByteArray) = ti at *
  generalize (⟨(Lib.itoa c).toArray⟩ : ByteArray) = tc at *
  generalize (⟨(Lib.decDigits u).toArray⟩ : ByteArray) = ts at *
  go_enter Tryd.func9, Tryd.ntmps9
  go_wp2_with fail
  rw [HW.out]
  refine wp_region_F 28 [] (fun _ _ _ => False) (fun W => Below w0.heap.size w0 W) (by kernel_rfl) (by kernel_rfl) (by rfl) (by simp) (fun W W' h hb => h.trans (hb.mono h.size)) (fun s v W W' h hb => h) (Below.refl _ _).drew ?_
  refine wpF_pure rfl rfl ?_; go_big_quiet_step (fail); refine wpQuiet_nil ?_
  refine wpF_load (.int .i64 v) rfl (by rfl) (by rfl) (by rfl) (fun W hW => by have := (hd W hW).1; simp [Instr.loadAt, go_sem, this]) ?_
  simp only [Act.put, List.setIfInBounds_toArray, List.set_cons_succ, List.set_cons_zero]
  refine wpF_call (f := 19) (args := #[.int .i64 v]) (.string tv) rfl rfl (fun x => by first | rfl | (simp [go_sem]; done)) (fun W hW => cv W hW) ?_
  simp only [Act.put, List.setIfInBounds_toArray, List.set_cons_succ, List.set_cons_zero]
  refine wpF_pure rfl rfl ?_; go_big_quiet_step (fail); refine wpQuiet_nil ?_
  refine wpF_pure rfl rfl ?_; go_big_quiet_step (fail); refine wpQuiet_nil ?_
  refine wpF_pure rfl rfl ?_; go_big_quiet_step (fail); refine wpQuiet_nil ?_
  refine wpF_load (.int .i64 k) rfl (by rfl) (by rfl) (by rfl) (fun W hW => by have := (hd W hW).2.1; simp [Instr.loadAt, go_sem, this]) ?_
  simp only [Act.put, List.setIfInBounds_toArray, List.set_cons_succ, List.set_cons_zero]
  refine wpF_call (f := 19) (args := #[.int .i64 k]) (.string tk) rfl rfl (fun x => by first | rfl | (simp [go_sem]; done)) (fun W hW => ck W hW) ?_
  simp only [Act.put, List.setIfInBounds_toArray, List.set_cons_succ, List.set_cons_zero]
  refine wpF_pure rfl rfl ?_; go_big_quiet_step (fail); refine wpQuiet_nil ?_
  refine wpF_pure rfl rfl ?_; go_big_quiet_step (fail); refine wpQuiet_nil ?_
  refine wpF_pure rfl rfl ?_; go_big_quiet_step (fail); refine wpQuiet_nil ?_
  refine wpF_load (.int .u32 (u : Int)) rfl (by rfl) (by rfl) (by rfl) (fun W hW => by have := (hd W hW).2.2.1; simp [Instr.loadAt, go_sem, this]) ?_
  simp only [Act.put, List.setIfInBounds_toArray, List.set_cons_succ, List.set_cons_zero]
  refine wpF_pure rfl rfl ?_; go_big_quiet_step (fail); refine wpQuiet_nil ?_
  refine wpF_call (f := 20) (args := #[.int .u64 (u : Int), .int .i64 10]) (.string ts) rfl rfl (fun x => by first | rfl | (simp [go_sem]; done)) (fun W hW => cs W hW) ?_
  simp only [Act.put, List.setIfInBounds_toArray, List.set_cons_succ, List.set_cons_zero]
  refine wpF_pure rfl rfl ?_; go_big_quiet_step (fail); refine wpQuiet_nil ?_
  refine wpF_pure rfl rfl ?_; go_big_quiet_step (fail); refine wpQuiet_nil ?_
  refine wpF_pure rfl rfl ?_; go_big_quiet_step (fail); refine wpQuiet_nil ?_
  refine wpF_load (.int .i64 i) rfl (by rfl) (by rfl) (by rfl) (fun W hW => by have := (hd W hW).2.2.2.1; simp [Instr.loadAt, go_sem, this]) ?_
  simp only [Act.put, List.setIfInBounds_toArray, List.set_cons_succ, List.set_cons_zero]
  refine wpF_call (f := 19) (args := #[.int .i64 i]) (.string ti) rfl rfl (fun x => by first | rfl | (simp [go_sem]; done)) (fun W hW => ci W hW) ?_
  simp only [Act.put, List.setIfInBounds_toArray, List.set_cons_succ, List.set_cons_zero]
  refine wpF_pure rfl rfl ?_; go_big_quiet_step (fail); refine wpQuiet_nil ?_
  refine wpF_pure rfl rfl ?_; go_big_quiet_step (fail); refine wpQuiet_nil ?_
  refine wpF_pure rfl rfl ?_; go_big_quiet_step (fail); refine wpQuiet_nil ?_
  refine wpF_load (.int .i64 c) rfl (by rfl) (by rfl) (by rfl) (fun W hW => by have := (hd W hW).2.2.2.2; simp [Instr.loadAt, go_sem, this]) ?_
  simp only [Act.put, List.setIfInBounds_toArray, List.set_cons_succ, List.set_cons_zero]
  refine wpF_call (f := 19) (args := #[.int .i64 c]) (.string tc) rfl rfl (fun x => by first | rfl | (simp [go_sem]; done)) (fun W hW => cc W hW) ?_
  simp only [Act.put, List.setIfInBounds_toArray, List.set_cons_succ, List.set_cons_zero]
  refine wpF_pure rfl rfl ?_; go_big_quiet_step (fail); refine wpQuiet_nil ?_
  refine wpF_pure rfl rfl ?_; go_big_quiet_step (fail); refine wpQuiet_nil ?_
  intro xs W hW _
  simp only [fill]
  go_wp2
  go_ret
  exact ⟨rfl, hb0.trans (hW.mono (by omega))⟩
end Go.Proofs.YtmmffifndheafaaDoor
