/-
  Contract of layer 7's Parse, of eight bytes.
-/
import Derived.Test.YtmmffifndheafaaDoorHdR
import Derived.Test.YtmmffifndheafaaDoorLd
namespace Go.Proofs.YtmmffifndheafaaDoor
open Go.RowKit
set_option maxRecDepth 100000

/-- between two reads: the lens stands at p, the head so far lies in block B, the result in block R -/
def PSt (w : World) (R lo b B : Nat) (zs : List Int) (p : Nat) (cs : Array Value) (W : World) : Prop :=
  LensAt W lo b zs p 0 ∧ W.heap[B]? = some (.cells cs 24 (0, 0)) ∧ W.heap[R]? = some (.cells #[.int .i64 0, .int .i64 0, .int .u32 0, .int .i64 0, .int .i64 0] 24 (0, 0)) ∧ Below w.heap.size w W
section
variable {w W W' : World} {R lo b B p p' : Nat} {zs : List Int} {cs : Array Value}
theorem PSt.read (h : PSt w R lo b B zs p cs W) (hl : LensAt W' lo b zs p' 0) (ho : Off (fun j => j = b) W W') (hB : B ≠ b) (hR : R ≠ b) (hb : w.heap.size ≤ b) : PSt w R lo b B zs p' cs W' := by
  have l1 : B < W.heap.size := (Array.getElem?_eq_some_iff.1 h.2.1).1
  have l2 : R < W.heap.size := (Array.getElem?_eq_some_iff.1 h.2.2.1).1
  exact ⟨hl, (ho.block B l1 hB).trans h.2.1, (ho.block R l2 hR).trans h.2.2.1, h.2.2.2.trans (ho.below (B := w.heap.size) (fun k hk => by omega) h.2.2.2.size)⟩
theorem PSt.set (h : PSt w R lo b B zs p cs W) (j : Nat) (v : Value) (hbB : b < B) (hR : R ≠ B) (hB : w.heap.size ≤ B) : PSt w R lo b B zs p (cs.setIfInBounds j v) (W.setCell ⟨B, j, none⟩ v) := by
  have ho : Off (fun k => k = B) W (W.setCell ⟨B, j, none⟩ v) := (Off.refl (fun k => k = B) W).setCell (p := ⟨B, j, none⟩) rfl v
  exact ⟨h.1.off ho (fun k _ hk => by omega), setCell_at h.2.1, (Below.heap_setCell _ _ _ _ (by simp only; omega)).trans h.2.2.1, h.2.2.2.setCell (p := ⟨B, j, none⟩) hB v⟩
theorem PSt.cell (h : PSt w R lo b B zs p cs W) {j : Nat} {v : Value} (hv : cs[j]? = some v) : W.cell? ⟨B, j, none⟩ = some v ∧ W.frozen? ⟨B, j, none⟩ = false := by
  have h1 := h.2.1
  constructor
  · simp [World.cell?, h1, hv]
  · simp [World.frozen?, h1]
end

set_option maxHeartbeats 4000000 in
theorem hparse_8 (a : Option Addr) (cap : Nat) (z0 z1 z2 z3 z4 z5 z6 z7 : Int) (w : World) (hz : ∀ x ∈ [z0, z1, z2, z3, z4, z5, z6, z7], 0 ≤ x ∧ x ≤ 255) (h1 : Nums .u8 w w.heap.size a [z0, z1, z2, z3, z4, z5, z6, z7]) :
    Calls Tryd.prog 12 #[.slice a 8 cap] w fun e w' => e = .returned (.tuple #[hdP (prs [z0, z1, z2, z3, z4, z5, z6, z7]).1, .int .i64 (prs [z0, z1, z2, z3, z4, z5, z6, z7]).2]) ∧ Below w.heap.size w w' := by
  obtain ⟨w0, hw0⟩ : ∃ w0, w.alloc (.cells #[.int .i64 0, .int .i64 0, .int .u32 0, .int .i64 0, .int .i64 0] 24) = w0 := ⟨_, rfl⟩
  have hs0 : w0.heap.size = w.heap.size + 1 := by rw [← hw0]; simp
  have hb0 : Below w.heap.size w w0 := by rw [← hw0]; exact (Below.refl _ w).alloc (Nat.le_refl _) _
  have hR0 : w0.heap[w.heap.size]? = some (.cells #[.int .i64 0, .int .i64 0, .int .u32 0, .int .i64 0, .int .i64 0] 24 (0, 0)) := by rw [← hw0]; exact World.alloc_heap_new _ _
  have HN := Lib.hid (lnew_any a 8 cap [z0, z1, z2, z3, z4, z5, z6, z7] w0 rfl (by omega) ((h1.below hb0).mono hb0.size))
  have HW := Lib.hid hw0
  have HZ := Lib.hid hz
  have r0 := hz z0 (by simp); have r1 := hz z1 (by simp); have r6 := hz z6 (by simp); have r7 := hz z7 (by simp)
  clear hw0 hz h1
  go_enter Tryd.func12, Tryd.ntmps12
  go_wp2_with fail
  rw [HW.out]
  refine HN.out.mono ?_
  rintro e w1 ⟨b, rfl, hL, hb1⟩
  have hlo := hL.lo_le
  have hlt := hL.lt
  have hs1 := hb1.size
  have P0 : PSt w w.heap.size w0.heap.size b w1.heap.size [z0, z1, z2, z3, z4, z5, z6, z7] 0 #[.int .i64 0, .int .i64 0, .int .u32 0, .int .i64 0, .int .i64 0] (w1.alloc (.cells #[.int .i64 0, .int .i64 0, .int .u32 0, .int .i64 0, .int .i64 0] 24)) :=
    ⟨hL.below ((Below.refl _ w1).alloc (Nat.le_refl _) _), World.alloc_heap_new _ _, (Below.heap_alloc _ _ _ (by omega)).trans ((hb1.block _ (by omega)).trans hR0), (hb0.trans (hb1.mono (by omega))).alloc (by omega) _⟩
  clear HN HW hL hR0 hb0 hb1
  go_wp2_with fail
  generalize w1.alloc (.cells #[.int .i64 0, .int .i64 0, .int .u32 0, .int .i64 0, .int .i64 0] 24) = V0 at P0 ⊢
  refine (u8_at P0.1 (by simp) HZ.out (z := z0) rfl).mono ?_
  rintro e W0 ⟨rfl, hl, ho⟩
  have R0 := P0.read hl ho (by omega) (by omega) (by omega)
  clear hl ho P0
  obtain ⟨ca0, cb0⟩ := R0.cell (j := 0) (v := .int .i64 0) rfl
  have P1 := R0.set 0 (.int .i64 z0) (by omega) (by omega) (by omega)
  simp only [List.setIfInBounds_toArray, List.set_cons_zero] at P1
  have Q := Lib.hid P1
  clear R0 P1
  go_wp2_with fail
  have P1 := Q.out
  clear Q ca0 cb0
  generalize W0.setCell ⟨w1.heap.size, 0, none⟩ (.int .i64 z0) = V1 at P1 ⊢
  refine (u8_at P1.1 (by simp) HZ.out (z := z1) rfl).mono ?_
  rintro e W1 ⟨rfl, hl, ho⟩
  have R1 := P1.read hl ho (by omega) (by omega) (by omega)
  clear hl ho P1
  obtain ⟨ca1, cb1⟩ := R1.cell (j := 1) (v := .int .i64 0) rfl
  have P2 := R1.set 1 (.int .i64 z1) (by omega) (by omega) (by omega)
  simp only [List.setIfInBounds_toArray, List.set_cons_succ, List.set_cons_zero] at P2
  have Q := Lib.hid P2
  clear R1 P2
  go_wp2_with fail
  have P2 := Q.out
  clear Q ca1 cb1
  generalize W1.setCell ⟨w1.heap.size, 1, none⟩ (.int .i64 z1) = V2 at P2 ⊢
  refine (u32_at P2.1 (by simp) HZ.out (by simp)).mono ?_
  rintro e W2 ⟨rfl, hl, ho⟩
  have R2 := P2.read hl ho (by omega) (by omega) (by omega)
  clear hl ho P2
  obtain ⟨ca2, cb2⟩ := R2.cell (j := 2) (v := .int .u32 0) rfl
  have P3 := R2.set 2 (.int .u32 (le [z2, z3, z4, z5])) (by omega) (by omega) (by omega)
  simp only [List.setIfInBounds_toArray, List.set_cons_succ, List.set_cons_zero] at P3
  have Q := Lib.hid P3
  clear R2 P3
  simp only [List.drop_succ_cons, List.drop_zero, List.take_succ_cons, List.take_zero]
  go_wp2_with fail
  have P3 := Q.out
  clear Q ca2 cb2
  generalize W2.setCell ⟨w1.heap.size, 2, none⟩ (.int .u32 (le [z2, z3, z4, z5])) = V3 at P3 ⊢
  refine (u8_at P3.1 (by simp) HZ.out (z := z6) rfl).mono ?_
  rintro e W3 ⟨rfl, hl, ho⟩
  have R3 := P3.read hl ho (by omega) (by omega) (by omega)
  clear hl ho P3
  obtain ⟨ca3, cb3⟩ := R3.cell (j := 3) (v := .int .i64 0) rfl
  have P4 := R3.set 3 (.int .i64 z6) (by omega) (by omega) (by omega)
  simp only [List.setIfInBounds_toArray, List.set_cons_succ, List.set_cons_zero] at P4
  have Q := Lib.hid P4
  clear R3 P4
  go_wp2_with fail
  have P4 := Q.out
  clear Q ca3 cb3
  generalize W3.setCell ⟨w1.heap.size, 3, none⟩ (.int .i64 z6) = V4 at P4 ⊢
  refine (u8_at P4.1 (by simp) HZ.out (z := z7) rfl).mono ?_
  rintro e W4 ⟨rfl, hl, ho⟩
  have R4 := P4.read hl ho (by omega) (by omega) (by omega)
  clear hl ho P4
  obtain ⟨ca4, cb4⟩ := R4.cell (j := 4) (v := .int .i64 0) rfl
  have e0 := (R4.cell (j := 0) (v := .int .i64 z0) rfl).1
  have e1 := (R4.cell (j := 1) (v := .int .i64 z1) rfl).1
  have e2 := (R4.cell (j := 2) (v := .int .u32 (le [z2, z3, z4, z5])) rfl).1
  have e3 := (R4.cell (j := 3) (v := .int .i64 z6) rfl).1
  have P5 := R4.set 4 (.int .i64 z7) (by omega) (by omega) (by omega)
  simp only [List.setIfInBounds_toArray, List.set_cons_succ, List.set_cons_zero] at P5
  have Q := Lib.hid P5
  clear R4 P5
  go_wp2_with fail
  have P5 := Q.out
  clear Q ca4 cb4 e0 e1 e2 e3
  generalize W4.setCell ⟨w1.heap.size, 4, none⟩ (.int .i64 z7) = V5 at P5 ⊢
  have HC := check_any z0 z1 (le [z2, z3, z4, z5]) z6 z7 V5
  unfold hdV at HC
  refine HC.mono ?_
  rintro e W6 ⟨rfl, hb6⟩
  clear HC
  have l1 : w1.heap.size < V5.heap.size := (Array.getElem?_eq_some_iff.1 P5.2.1).1
  have hB := (hb6.block w1.heap.size (by omega)).trans P5.2.1
  have hR := (hb6.block w.heap.size (by omega)).trans P5.2.2.1
  have HB := Lib.hid (P5.2.2.2.trans (hb6.mono P5.2.2.2.size))
  obtain ⟨d0, d1, d2, d3, d4⟩ : W6.cell? ⟨w1.heap.size, 0, none⟩ = some (.int .i64 z0) ∧ W6.cell? ⟨w1.heap.size, 1, none⟩ = some (.int .i64 z1) ∧ W6.cell? ⟨w1.heap.size, 2, none⟩ = some (.int .u32 (le [z2, z3, z4, z5])) ∧ W6.cell? ⟨w1.heap.size, 3, none⟩ = some (.int .i64 z6) ∧ W6.cell? ⟨w1.heap.size, 4, none⟩ = some (.int .i64 z7) := by
    simp [World.cell?, hB]
  obtain ⟨c0, c1, c2, c3, c4⟩ : W6.cell? ⟨w.heap.size, 0, none⟩ = some (.int .i64 0) ∧ W6.cell? ⟨w.heap.size, 1, none⟩ = some (.int .i64 0) ∧ W6.cell? ⟨w.heap.size, 2, none⟩ = some (.int .u32 0) ∧ W6.cell? ⟨w.heap.size, 3, none⟩ = some (.int .i64 0) ∧ W6.cell? ⟨w.heap.size, 4, none⟩ = some (.int .i64 0) := by
    simp [World.cell?, hR]
  have fz : ∀ j, W6.frozen? ⟨w.heap.size, j, none⟩ = false := fun j => by simp [World.frozen?, hR]
  have f0 := fz 0; have f1 := fz 1; have f2 := fz 2; have f3 := fz 3; have f4 := fz 4
  have hsR : w.heap.size < W6.heap.size := (Array.getElem?_eq_some_iff.1 hR).1
  clear P5 hb6 hB fz
  by_cases h0 : chk z0 z1 z6 z7 = 0
  · have hp : prs [z0, z1, z2, z3, z4, z5, z6, z7] = ((z0, z1, le [z2, z3, z4, z5], z6, z7), 0) := by rw [prs_8, if_pos h0]
    rw [h0]
    clear h0
    go_wp2
    rw [hp]
    have hK := set5 (.int .i64 z0) (.int .i64 z1) (.int .u32 (le [z2, z3, z4, z5])) (.int .i64 z6) (.int .i64 z7) hR
    have hBf := below5 (.int .i64 z0) (.int .i64 z1) (.int .u32 (le [z2, z3, z4, z5])) (.int .i64 z6) (.int .i64 z7) (Nat.le_refl _) HB.out
    generalize ((((W6.setCell ⟨w.heap.size, 0, none⟩ (.int .i64 z0)).setCell ⟨w.heap.size, 1, none⟩ (.int .i64 z1)).setCell ⟨w.heap.size, 2, none⟩ (.int .u32 (le [z2, z3, z4, z5]))).setCell ⟨w.heap.size, 3, none⟩ (.int .i64 z6)).setCell ⟨w.heap.size, 4, none⟩ (.int .i64 z7) = Wf at hK hBf ⊢
    obtain ⟨g0, g1, g2, g3, g4⟩ := hd_block hK
    exact bodyPost_ret (v := .tuple #[hdV z0 z1 (le [z2, z3, z4, z5]) z6 z7, .int .i64 0]) (by simp [results, Tryd.results12, go_sem, hdV, g0, g1, g2, g3, g4]) rfl ⟨rfl, hBf⟩
  · have hp : prs [z0, z1, z2, z3, z4, z5, z6, z7] = ((0, 0, 0, 0, 0), chk z0 z1 z6 z7) := by rw [prs_8, if_neg h0]
    have h1 : (chk z0 z1 z6 z7 != 0) = true := by simpa using h0
    go_wp2
    rw [hp]
    have hK := set5 (.int .i64 0) (.int .i64 0) (.int .u32 0) (.int .i64 0) (.int .i64 0) hR
    have hBf := below5 (.int .i64 0) (.int .i64 0) (.int .u32 0) (.int .i64 0) (.int .i64 0) (Nat.le_refl _) HB.out
    generalize ((((W6.setCell ⟨w.heap.size, 0, none⟩ (.int .i64 0)).setCell ⟨w.heap.size, 1, none⟩ (.int .i64 0)).setCell ⟨w.heap.size, 2, none⟩ (.int .u32 0)).setCell ⟨w.heap.size, 3, none⟩ (.int .i64 0)).setCell ⟨w.heap.size, 4, none⟩ (.int .i64 0) = Wf at hK hBf ⊢
    obtain ⟨g0, g1, g2, g3, g4⟩ := hd_block hK
    exact bodyPost_ret (v := .tuple #[hdV 0 0 0 0 0, .int .i64 (chk z0 z1 z6 z7)]) (by simp [results, Tryd.results12, go_sem, hdV, g0, g1, g2, g3, g4]) rfl ⟨rfl, hBf⟩
end Go.Proofs.YtmmffifndheafaaDoor
