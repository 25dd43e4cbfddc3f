/-
  A window in memory; contracts of its small calls: New, old, with, look, Look, Mark, Top, Bits, Copy.
-/
import Derived.Test.YtklkfajbfpihfaaWinN
import Derived.Test.YtklkfajbfpihfaaSerA
import Derived.Test.YtklkfajbfpihfaaRow
import Derived.Test.YtklkfajbfpihfaaQ2
import Derived.Laws.ShiftsVarLaws
import Derived.RangeFuncNested
namespace Go.Proofs.Ytklkfajbfpihfaa
open Go.RowKit
set_option maxRecDepth 100000

/-- block b is a window: its top and bits -/
def WinAt (w : World) (b : Nat) (t : Int) (q : Nat) : Prop := w.heap[b]? = some (.cells #[.int .u32 t, .int .u64 (q : Int)] 56 (0, 0))
section
variable {w w' : World} {b : Nat} {t : Int} {q : Nat}
theorem WinAt.size (h : WinAt w b t q) : b < w.heap.size := (Array.getElem?_eq_some_iff.1 h).1
theorem WinAt.cells (h : WinAt w b t q) : w.cell? ⟨b, 0, none⟩ = some (.int .u32 t) ∧ w.cell? ⟨b, 1, none⟩ = some (.int .u64 (q : Int)) := by
  have : w.heap[b]? = _ := h
  simp [World.cell?, this]
theorem WinAt.thaw (h : WinAt w b t q) (j : Nat) : w.frozen? ⟨b, j, none⟩ = false := by
  have : w.heap[b]? = _ := h
  simp [World.frozen?, this]
theorem WinAt.below (h : WinAt w b t q) (hb : Below w.heap.size w w') : WinAt w' b t q := (hb.block b h.size).trans h
theorem WinAt.off {S : Nat → Prop} (h : WinAt w b t q) (hf : Off S w w') (hn : ¬ S b) : WinAt w' b t q := (hf.block b h.size hn).trans h
end
/-- a row by value -/
def rowV (t : Int) (q : Nat) : Value := .agg #[.int .u32 t, .int .u64 (q : Int)]

/-- the shifts as the walk spells them -/
theorem shl_val (q n : Nat) : IntKind.u64.wrap ((q : Int) * 2 ^ min n 64) = ((Wn.shl q n : Nat) : Int) := by
  rw [IntKind.wrap_u64]
  unfold Wn.shl
  split
  · rename_i h
    rw [show min n 64 = 64 by omega]
    exact Int.mul_emod_left _ _
  · rename_i h
    rw [show min n 64 = n by omega]
    simp
theorem shl_or (q n : Nat) : bits .or .u64 (IntKind.u64.wrap ((q : Int) * 2 ^ min n 64)) 1 = ((Wn.shl q n ||| 1 : Nat) : Int) := by
  rw [shl_val]
  exact u64_or_nat _ 1 (Wn.shl_lt _ _) (by omega)
theorem one_or (q n : Nat) (hq : q < 18446744073709551616) (h : n < 64) : bits .or .u64 (q : Int) (IntKind.u64.wrap (2 ^ min n 64)) = ((q ||| 2 ^ n : Nat) : Int) := by
  rw [IntKind.wrap_u64, show min n 64 = n by omega, show ((2 : Int) ^ n) = ((2 ^ n : Nat) : Int) by simp, Int.emod_eq_of_lt (Int.natCast_nonneg _) (by have := Wn.pow_lt h; omega)]
  exact u64_or_nat _ _ hq (Wn.pow_lt h)
/-- a row's store behind a drawn region -/
theorem row_store {W : World} {b : Nat} {cs : Array Value} {t : Int} {q : Nat} (c : W.heap[b]? = some (.cells cs 54 (0, 0))) (hs : cs.size = 2) (n : Nat) :
    (Instr.storeAt 54 (.pointer (some ⟨b, 0, none⟩)) (rowV t q)).run Try.prog (W.drewN n) = .ok () (((W.setCell ⟨b, 0, none⟩ (.int .u32 t)).setCell ⟨b, 1, none⟩ (.int .u64 (q : Int))).drewN n) := by
  match cs, hs with
  | ⟨[x0, x1]⟩, _ =>
    have d0 : W.cell? ⟨b, 0, none⟩ = some x0 := by simp [World.cell?, c]
    have d1 : W.cell? ⟨b, 1, none⟩ = some x1 := by simp [World.cell?, c]
    have f0 : W.frozen? ⟨b, 0, none⟩ = false := by simp [World.frozen?, c]
    have f1 : W.frozen? ⟨b, 1, none⟩ = false := by simp [World.frozen?, c]
    simp [rowV, Instr.storeAt, go_sem, d0, d1, f0, f1]
    rfl
theorem wquiet_of {f : FuncId} {args : Array Value} {w : World} {n : Nat} {v : Value} (h : Calls Try.prog f args (w.drewN n) fun e w' => e = .returned v ∧ w' = w.drewN n) : Calls Try.prog f args (w.drewN n) fun e w' => e = .returned v ∧ ∃ m, w' = w.drewN m :=
  h.mono fun _ _ h => ⟨h.1, n, h.2⟩
theorem wnew_any (s : Int) (hs : 0 ≤ s ∧ s < 4294967296) (w : World) : Calls Try.prog 7 #[.int .u32 s] w fun e w' => e = .returned (.pointer (some ⟨w.heap.size, 0, none⟩)) ∧ WinAt w' w.heap.size (Sr.add s (-1)) 18446744073709551615 ∧ Below w.heap.size w w' ∧ w'.heap.size = w.heap.size + 1 := by
  have K := sadd_any s (-1) w hs
  generalize Sr.add s (-1) = t at *
  go_enter Try.func7, Try.ntmps7
  go_wp2_with fail
  refine K.mono ?_
  rintro e w1 ⟨rfl, rfl⟩
  go_wp2
  go_ret
  exact ⟨rfl, World.alloc_heap_new _ _, (Below.refl _ w1).alloc (Nat.le_refl _) _, by simp⟩
section
variable {w : World} {b : Nat} {t : Int} {q : Nat}
theorem wtop_any (h : WinAt w b t q) : Calls Try.prog 16 #[.pointer (some ⟨b, 0, none⟩)] w fun e w' => e = .returned (.int .u32 t) ∧ w' = w := by
  obtain ⟨c0, c1⟩ := h.cells
  clear h
  go_enter Try.func16, Try.ntmps16
  go_wp2
  go_ret
  exact ⟨rfl, rfl⟩
theorem wbits_any (h : WinAt w b t q) : Calls Try.prog 17 #[.pointer (some ⟨b, 0, none⟩)] w fun e w' => e = .returned (.int .u64 (q : Int)) ∧ w' = w := by
  obtain ⟨c0, c1⟩ := h.cells
  clear h
  go_enter Try.func17, Try.ntmps17
  go_wp2
  go_ret
  exact ⟨rfl, rfl⟩
theorem wcopy_any (h : WinAt w b t q) : Calls Try.prog 10 #[.pointer (some ⟨b, 0, none⟩)] w fun e w' => e = .returned (.pointer (some ⟨w.heap.size, 0, none⟩)) ∧ WinAt w' w.heap.size t q ∧ Below w.heap.size w w' ∧ w'.heap.size = w.heap.size + 1 := by
  obtain ⟨c0, c1⟩ := h.cells
  clear h
  go_enter Try.func10, Try.ntmps10
  go_wp2
  go_ret
  exact ⟨rfl, World.alloc_heap_new _ _, (Below.refl _ w).alloc (Nat.le_refl _) _, by simp⟩
end
theorem wtop_nil (w : World) : Calls Try.prog 16 #[.pointer none] w fun e w' => e = .returned (.int .u32 0) ∧ w' = w := by
  go_enter Try.func16, Try.ntmps16
  go_wp2
  go_ret
  exact ⟨rfl, rfl⟩
theorem wbits_nil (w : World) : Calls Try.prog 17 #[.pointer none] w fun e w' => e = .returned (.int .u64 0) ∧ w' = w := by
  go_enter Try.func17, Try.ntmps17
  go_wp2
  go_ret
  exact ⟨rfl, rfl⟩
theorem wcopy_nil (w : World) : Calls Try.prog 10 #[.pointer none] w fun e w' => e = .returned (.pointer none) ∧ w' = w := by
  go_enter Try.func10, Try.ntmps10
  go_wp2
  go_ret
  exact ⟨rfl, rfl⟩

/-- is a number neither after the top nor one of the 64? -/
theorem wold_any (t : Int) (q : Nat) (n : Int) (ht : 0 ≤ t ∧ t < 4294967296) (hn : 0 ≤ n ∧ n < 4294967296) (w : World) :
    Calls Try.prog 29 #[rowV t q, .int .u32 n] w fun e w' => e = .returned (.bool (!Sr.after n t && decide (64 ≤ Sr.way n t))) ∧ Below w.heap.size w w' := by
  have K := Lib.hid (fun w => after_any n t w hn ht)
  have KW := Lib.hid (fun w => way_any n t w hn ht)
  have hw := Sr.way_lt n t
  generalize Sr.after n t = a at *
  generalize Sr.way n t = v at *
  unfold rowV
  go_enter Try.func29, Try.ntmps29
  go_wp2_with fail
  refine (K.out _).mono ?_
  rintro e w1 ⟨rfl, rfl⟩
  cases a with
  | true =>
    go_wp2
    go_ret
    exact ⟨rfl, (Below.refl _ w).alloc (Nat.le_refl _) _⟩
  | false =>
    go_wp2_with fail
    refine (KW.out _).mono ?_
    rintro e w1 ⟨rfl, rfl⟩
    by_cases h1 : 64 ≤ v
    · go_wp2
      go_ret
      exact ⟨ret_bool (by rw [decide_eq_true h1]; rfl), (Below.refl _ w).alloc (Nat.le_refl _) _⟩
    · go_wp2
      go_ret
      exact ⟨ret_bool (by rw [decide_eq_false (by omega)]; rfl), (Below.refl _ w).alloc (Nat.le_refl _) _⟩
/-- the row behind the coming of a number that isn't old -/
theorem wwith_any (t : Int) (q : Nat) (n : Int) (ht : 0 ≤ t ∧ t < 4294967296) (hn : 0 ≤ n ∧ n < 4294967296) (hq : q < 18446744073709551616) (hu : Sr.after n t = true ∨ Sr.way n t < 64) (w : World) :
    Calls Try.prog 30 #[rowV t q, .int .u32 n] w fun e w' => e = .returned (rowV (Wn.nt t n) (Wn.nq t q n)) ∧ Below w.heap.size w w' := by
  have K := Lib.hid (fun w => after_any n t w hn ht)
  have KW := Lib.hid (fun w => way_any n t w hn ht)
  have KV := Lib.hid (fun w => way_any t n w ht hn)
  have hw := Sr.way_lt n t
  have hv := Sr.way_lt t n
  have HT := Lib.hid (show Wn.nt t n = if Sr.after n t = true then n else t from rfl)
  have HQ := Lib.hid (show Wn.nq t q n = if Sr.after n t = true then Wn.shl q (Sr.way t n).toNat ||| 1 else q ||| 2 ^ (Sr.way n t).toNat from rfl)
  generalize Wn.nt t n = t' at *
  generalize Wn.nq t q n = q' at *
  generalize Sr.after n t = a at *
  generalize Sr.way n t = u at *
  generalize Sr.way t n = v at *
  unfold rowV
  go_enter Try.func30, Try.ntmps30
  go_wp2_with fail
  refine (K.out _).mono ?_
  rintro e w1 ⟨rfl, rfl⟩
  obtain ⟨W, hW⟩ : ∃ W, (w.alloc (Obj.cells #[Value.int .u32 t, Value.int .u64 (q : Int)] 54)).alloc (Obj.cells #[Value.int .u32 0, Value.int .u64 0] 54) = W := ⟨_, rfl⟩
  have b0 : W.heap[w.heap.size]? = some (.cells #[Value.int .u32 t, Value.int .u64 (q : Int)] 54 (0, 0)) := by rw [← hW]; exact (Below.heap_alloc _ _ _ (by simp)).trans (World.alloc_heap_new _ _)
  have b1 : W.heap[w.heap.size + 1]? = some (.cells #[Value.int .u32 0, Value.int .u64 0] 54 (0, 0)) := by
    have := World.alloc_heap_new (w.alloc (Obj.cells #[Value.int .u32 t, Value.int .u64 (q : Int)] 54)) (Obj.cells #[Value.int .u32 0, Value.int .u64 0] 54)
    rw [World.size_alloc] at this
    rw [← hW]; exact this
  have hb : Below w.heap.size w W := by rw [← hW]; exact ((Below.refl _ w).alloc (Nat.le_refl _) _).alloc (by simp) _
  have HW := Lib.hid hW
  have c0 : W.cell? ⟨w.heap.size, 0, none⟩ = some (.int .u32 t) := by simp [World.cell?, b0]
  have c1 : W.cell? ⟨w.heap.size, 1, none⟩ = some (.int .u64 (q : Int)) := by simp [World.cell?, b0]
  have d0 : W.cell? ⟨w.heap.size + 1, 0, none⟩ = some (.int .u32 0) := by simp [World.cell?, b1]
  have d1 : W.cell? ⟨w.heap.size + 1, 1, none⟩ = some (.int .u64 0) := by simp [World.cell?, b1]
  have f0 : W.frozen? ⟨w.heap.size + 1, 0, none⟩ = false := by simp [World.frozen?, b1]
  have f1 : W.frozen? ⟨w.heap.size + 1, 1, none⟩ = false := by simp [World.frozen?, b1]
  have b1 := Lib.hid b1
  have HU := Lib.hid hu
  clear hW b0 hu
  cases a with
  | true =>
    go_wp2
    rw [HW.out]
    refine wp_region_lex2 (C := fun w' => ∃ n, w' = W.drewN n) (by kernel_rfl) (by kernel_rfl) ⟨1, rfl⟩ ?_
    repeat (first
      | (refine wpQ2_pure rfl ?_; go_big_quiet_step (fail); refine wpQuiet_nil ?_)
      | (refine wpQ2_look rfl ?_; go_big_quiet_step (fail); refine wpQuiet_nil ?_))
    refine wpQ2_look rfl ?_
    go_big_quiet_step ((go_at_call 33; exact wquiet_of (KV.out _)))
    refine wpQuiet_nil ?_
    repeat (first
      | (refine wpQ2_pure rfl ?_; go_big_quiet_step (fail); refine wpQuiet_nil ?_))
    refine wpQ2_look rfl ?_
    go_big_quiet_step (fail)
    refine wpQuiet_nil ?_
    rw [shl_or]
    refine wpQ2_store (fun w' => ∃ d, w' = ((W.setCell ⟨w.heap.size + 1, 0, none⟩ (.int .u32 n)).setCell ⟨w.heap.size + 1, 1, none⟩ (.int .u64 ((Wn.shl q v.toNat ||| 1 : Nat) : Int))).drewN d) rfl rfl rfl ⟨w.heap.size + 1, 0, none⟩ (rowV n (Wn.shl q v.toNat ||| 1)) rfl rfl ?_ ?_
    · rintro w5 ⟨n5, rfl⟩
      exact ⟨_, row_store b1.out rfl n5, n5, rfl⟩
    rintro w6 ⟨n6, rfl⟩
    have hR := setCell_at (j := 1) (u := .int .u64 ((Wn.shl q v.toNat ||| 1 : Nat) : Int)) (setCell_at (j := 0) (u := .int .u32 n) b1.out)
    have hBf := Lib.hid (below_drewN ((hb.setCell (p := ⟨w.heap.size + 1, 0, none⟩) (Nat.le_succ _) (.int .u32 n)).setCell (p := ⟨w.heap.size + 1, 1, none⟩) (Nat.le_succ _) (.int .u64 ((Wn.shl q v.toNat ||| 1 : Nat) : Int))) n6)
    have hRd : (((W.setCell ⟨w.heap.size + 1, 0, none⟩ (.int .u32 n)).setCell ⟨w.heap.size + 1, 1, none⟩ (.int .u64 ((Wn.shl q v.toNat ||| 1 : Nat) : Int))).drewN n6).heap[w.heap.size + 1]? = some (.cells #[.int .u32 n, .int .u64 ((Wn.shl q v.toNat ||| 1 : Nat) : Int)] 54 (0, 0)) := hR
    generalize ((W.setCell ⟨w.heap.size + 1, 0, none⟩ (.int .u32 n)).setCell ⟨w.heap.size + 1, 1, none⟩ (.int .u64 ((Wn.shl q v.toNat ||| 1 : Nat) : Int))).drewN n6 = W6 at *
    have g0 : W6.cell? ⟨w.heap.size + 1, 0, none⟩ = some (.int .u32 n) := by simp [World.cell?, hRd]
    have g1 : W6.cell? ⟨w.heap.size + 1, 1, none⟩ = some (.int .u64 ((Wn.shl q v.toNat ||| 1 : Nat) : Int)) := by simp [World.cell?, hRd]
    clear hR hRd c0 c1 d0 d1 f0 f1 hb
    go_wp2
    refine bodyPost_ret (by simp [results, Try.results30, go_sem, g0, g1]; try rfl) rfl ?_
    exact ⟨by rw [HT.out, HQ.out]; rfl, hBf.out⟩
  | false =>
    go_wp2
    rw [HW.out]
    refine wp_region_lex2 (C := fun w' => ∃ n, w' = W.drewN n) (by kernel_rfl) (by kernel_rfl) ⟨1, rfl⟩ ?_
    repeat (first
      | (refine wpQ2_pure rfl ?_; go_big_quiet_step (fail); refine wpQuiet_nil ?_)
      | (refine wpQ2_look rfl ?_; go_big_quiet_step (fail); refine wpQuiet_nil ?_))
    refine wpQ2_look rfl ?_
    go_big_quiet_step ((go_at_call 33; exact wquiet_of (KW.out _)))
    refine wpQuiet_nil ?_
    repeat (first
      | (refine wpQ2_pure rfl ?_; go_big_quiet_step (fail); refine wpQuiet_nil ?_)
      | (refine wpQ2_look rfl ?_; go_big_quiet_step (fail); refine wpQuiet_nil ?_))
    rw [one_or q u.toNat hq (by have := HU.out; simp at this; omega)]
    refine wpQ2_store (fun w' => ∃ d, w' = ((W.setCell ⟨w.heap.size + 1, 0, none⟩ (.int .u32 t)).setCell ⟨w.heap.size + 1, 1, none⟩ (.int .u64 ((q ||| 2 ^ u.toNat : Nat) : Int))).drewN d) rfl rfl rfl ⟨w.heap.size + 1, 0, none⟩ (rowV t (q ||| 2 ^ u.toNat)) rfl rfl ?_ ?_
    · rintro w5 ⟨n5, rfl⟩
      exact ⟨_, row_store b1.out rfl n5, n5, rfl⟩
    rintro w6 ⟨n6, rfl⟩
    have hR := setCell_at (j := 1) (u := .int .u64 ((q ||| 2 ^ u.toNat : Nat) : Int)) (setCell_at (j := 0) (u := .int .u32 t) b1.out)
    have hBf := Lib.hid (below_drewN ((hb.setCell (p := ⟨w.heap.size + 1, 0, none⟩) (Nat.le_succ _) (.int .u32 t)).setCell (p := ⟨w.heap.size + 1, 1, none⟩) (Nat.le_succ _) (.int .u64 ((q ||| 2 ^ u.toNat : Nat) : Int))) n6)
    have hRd : (((W.setCell ⟨w.heap.size + 1, 0, none⟩ (.int .u32 t)).setCell ⟨w.heap.size + 1, 1, none⟩ (.int .u64 ((q ||| 2 ^ u.toNat : Nat) : Int))).drewN n6).heap[w.heap.size + 1]? = some (.cells #[.int .u32 t, .int .u64 ((q ||| 2 ^ u.toNat : Nat) : Int)] 54 (0, 0)) := hR
    generalize ((W.setCell ⟨w.heap.size + 1, 0, none⟩ (.int .u32 t)).setCell ⟨w.heap.size + 1, 1, none⟩ (.int .u64 ((q ||| 2 ^ u.toNat : Nat) : Int))).drewN n6 = W6 at *
    have g0 : W6.cell? ⟨w.heap.size + 1, 0, none⟩ = some (.int .u32 t) := by simp [World.cell?, hRd]
    have g1 : W6.cell? ⟨w.heap.size + 1, 1, none⟩ = some (.int .u64 ((q ||| 2 ^ u.toNat : Nat) : Int)) := by simp [World.cell?, hRd]
    clear hR hRd c0 c1 d0 d1 f0 f1 hb
    go_wp2
    refine bodyPost_ret (by simp [results, Try.results30, go_sem, g0, g1]; try rfl) rfl ?_
    exact ⟨by rw [HT.out, HQ.out]; rfl, hBf.out⟩
end Go.Proofs.Ytklkfajbfpihfaa
