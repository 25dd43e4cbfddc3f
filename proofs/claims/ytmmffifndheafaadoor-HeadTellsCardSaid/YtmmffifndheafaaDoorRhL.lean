/-
  Contract of the document's Line of layer 7.
-/
import Derived.Test.YtmmffifndheafaaDoorRhD
namespace Go.Proofs.YtmmffifndheafaaDoor
open Go.RowKit
set_option maxRecDepth 100000

set_option maxHeartbeats 4000000 in
theorem rline_any (v k s i c : Int) (hv : -9223372036854775808 ≤ v ∧ v ≤ 9223372036854775807) (hk : -9223372036854775808 ≤ k ∧ k ≤ 9223372036854775807) (hi : -9223372036854775808 ≤ i ∧ i ≤ 9223372036854775807) (hc : -9223372036854775808 ≤ c ∧ c ≤ 9223372036854775807)
    (hs : 0 ≤ s ∧ s ≤ 4294967295) (w : World) :
    Calls Tryd.prog 10 #[hdV v k s i c] w fun e w' => e = .returned (.string (lineZ v k s i c)) ∧ Below w.heap.size w w' := by
  unfold hdV
  obtain ⟨w0, hw0⟩ : ∃ w0, w.alloc (.cells #[.int .i64 v, .int .i64 k, .int .u32 s, .int .i64 i, .int .i64 c] 30) = w0 := ⟨_, rfl⟩
  have hs0 : w0.heap.size = w.heap.size + 1 := by rw [← hw0]; simp
  have hb0 : Below w.heap.size w w0 := by rw [← hw0]; exact (Below.refl _ w).alloc (Nat.le_refl _) _
  have hd : ∀ W, Below w0.heap.size w0 W → W.cell? ⟨w.heap.size, 0, none⟩ = some (.int .i64 v) ∧ W.cell? ⟨w.heap.size, 1, none⟩ = some (.int .i64 k) ∧ W.cell? ⟨w.heap.size, 2, none⟩ = some (.int .u32 s) ∧ W.cell? ⟨w.heap.size, 3, none⟩ = some (.int .i64 i) ∧ W.cell? ⟨w.heap.size, 4, none⟩ = some (.int .i64 c) := fun W hW => by
    rw [← hw0] at hW; exact hd_cells hW
  have HW := Lib.hid hw0
  have cv := rdigits_any v hv
  have ck := rdigits_any k hk
  have cs := rdigits_any s (by omega)
  have ci := rdigits_any i hi
  have cc := rdigits_any c hc
  have lv := itoa_len hv
  have lk := itoa_len hk
  have ls := itoa_len (n := s) (by omega)
  have li := itoa_len hi
  have lc := itoa_len hc
  clear hw0
  unfold lineZ lineB
  generalize (⟨(Lib.itoa v).toArray⟩ : ByteArray) = tv at *
  generalize (⟨(Lib.itoa k).toArray⟩ : ByteArray) = tk at *
  generalize (⟨(Lib.itoa s).toArray⟩ : ByteArray) = ts at *
  generalize (⟨(Lib.itoa i).toArray⟩ : ByteArray) = ti at *
  generalize (⟨(Lib.itoa c).toArray⟩ : ByteArray) = tc at *
  go_enter Tryd.func10, Tryd.ntmps10
  go_wp2_with fail
  rw [HW.out]
  refine wp_region_F 28 [] (fun _ _ _ => False) (fun W => Below w0.heap.size w0 W) (by kernel_rfl) (by kernel_rfl) (by rfl) (by simp) (fun W W' h hb => h.trans (hb.mono h.size)) (fun s v W W' h hb => h) (Below.refl _ _).drew ?_
  refine wpF_pure rfl rfl ?_; go_big_quiet_step (fail); refine wpQuiet_nil ?_
  refine wpF_load (.int .i64 v) rfl (by rfl) (by rfl) (by rfl) (fun W hW => by have := (hd W hW).1; simp [Instr.loadAt, go_sem, this]) ?_
  simp only [Act.put, List.setIfInBounds_toArray, List.set_cons_succ, List.set_cons_zero]
  refine wpF_call (f := 21) (args := #[.int .i64 v]) (.string tv) rfl rfl (fun x => by first | rfl | (simp [go_sem]; done)) (fun W _ => cv W) ?_
  simp only [Act.put, List.setIfInBounds_toArray, List.set_cons_succ, List.set_cons_zero]
  refine wpF_pure rfl rfl ?_; go_big_quiet_step (fail); refine wpQuiet_nil ?_
  refine wpF_pure rfl rfl ?_; go_big_quiet_step (fail); refine wpQuiet_nil ?_
  refine wpF_pure rfl rfl ?_; go_big_quiet_step (fail); refine wpQuiet_nil ?_
  refine wpF_load (.int .i64 k) rfl (by rfl) (by rfl) (by rfl) (fun W hW => by have := (hd W hW).2.1; simp [Instr.loadAt, go_sem, this]) ?_
  simp only [Act.put, List.setIfInBounds_toArray, List.set_cons_succ, List.set_cons_zero]
  refine wpF_call (f := 21) (args := #[.int .i64 k]) (.string tk) rfl rfl (fun x => by first | rfl | (simp [go_sem]; done)) (fun W _ => ck W) ?_
  simp only [Act.put, List.setIfInBounds_toArray, List.set_cons_succ, List.set_cons_zero]
  refine wpF_pure rfl rfl ?_; go_big_quiet_step (fail); refine wpQuiet_nil ?_
  refine wpF_pure rfl rfl ?_; go_big_quiet_step (fail); refine wpQuiet_nil ?_
  refine wpF_pure rfl rfl ?_; go_big_quiet_step (fail); refine wpQuiet_nil ?_
  refine wpF_load (.int .u32 s) rfl (by rfl) (by rfl) (by rfl) (fun W hW => by have := (hd W hW).2.2.1; simp [Instr.loadAt, go_sem, this]) ?_
  simp only [Act.put, List.setIfInBounds_toArray, List.set_cons_succ, List.set_cons_zero]
  refine wpF_pure rfl rfl ?_; go_big_quiet_step (fail); refine wpQuiet_nil ?_
  refine wpF_call (f := 21) (args := #[.int .i64 s]) (.string ts) rfl rfl (fun x => by first | rfl | (simp [go_sem]; done)) (fun W _ => cs W) ?_
  simp only [Act.put, List.setIfInBounds_toArray, List.set_cons_succ, List.set_cons_zero]
  refine wpF_pure rfl rfl ?_; go_big_quiet_step (fail); refine wpQuiet_nil ?_
  refine wpF_pure rfl rfl ?_; go_big_quiet_step (fail); refine wpQuiet_nil ?_
  refine wpF_pure rfl rfl ?_; go_big_quiet_step (fail); refine wpQuiet_nil ?_
  refine wpF_load (.int .i64 i) rfl (by rfl) (by rfl) (by rfl) (fun W hW => by have := (hd W hW).2.2.2.1; simp [Instr.loadAt, go_sem, this]) ?_
  simp only [Act.put, List.setIfInBounds_toArray, List.set_cons_succ, List.set_cons_zero]
  refine wpF_call (f := 21) (args := #[.int .i64 i]) (.string ti) rfl rfl (fun x => by first | rfl | (simp [go_sem]; done)) (fun W _ => ci W) ?_
  simp only [Act.put, List.setIfInBounds_toArray, List.set_cons_succ, List.set_cons_zero]
  refine wpF_pure rfl rfl ?_; go_big_quiet_step (fail); refine wpQuiet_nil ?_
  refine wpF_pure rfl rfl ?_; go_big_quiet_step (fail); refine wpQuiet_nil ?_
  refine wpF_pure rfl rfl ?_; go_big_quiet_step (fail); refine wpQuiet_nil ?_
  refine wpF_load (.int .i64 c) rfl (by rfl) (by rfl) (by rfl) (fun W hW => by have := (hd W hW).2.2.2.2; simp [Instr.loadAt, go_sem, this]) ?_
  simp only [Act.put, List.setIfInBounds_toArray, List.set_cons_succ, List.set_cons_zero]
  refine wpF_call (f := 21) (args := #[.int .i64 c]) (.string tc) rfl rfl (fun x => by first | rfl | (simp [go_sem]; done)) (fun W _ => cc W) ?_
  simp only [Act.put, List.setIfInBounds_toArray, List.set_cons_succ, List.set_cons_zero]
  refine wpF_pure rfl rfl ?_; go_big_quiet_step (fail); refine wpQuiet_nil ?_
  refine wpF_pure rfl rfl ?_; go_big_quiet_step (fail); refine wpQuiet_nil ?_
  intro xs W hW _
  simp only [fill]
  go_wp2
  go_ret
  exact ⟨rfl, hb0.trans (hW.mono (by omega))⟩
end Go.Proofs.YtmmffifndheafaaDoor
