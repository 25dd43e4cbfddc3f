/-
  Contract of the document's Parse of layer 7.
-/
import Derived.Test.YtmmffifndheafaaDoorRhC
import Derived.Test.YtmmffifndheafaaDoorHdR
import Derived.BigRegion
namespace Go.Proofs.YtmmffifndheafaaDoor
open Go.RowKit
set_option maxRecDepth 100000

theorem rparse_short (a : Option Addr) (n cap : Nat) (w : World) (hn : n < 8) :
    Calls Tryd.prog 16 #[.slice a n cap] w fun e w' => e = .returned (.tuple #[hdV 0 0 0 0 0, .int .i64 13]) ∧ Below w.heap.size w w' := by
  have h1 : (n : Int) < 8 := by omega
  go_enter Tryd.func16, Tryd.ntmps16
  go_wp2
  refine bodyPost_ret (v := .tuple #[hdV 0 0 0 0 0, .int .i64 13]) (by simp [results, Tryd.results16, go_sem, hdV]) rfl ⟨rfl, (Below.refl _ w).alloc (Nat.le_refl _) _⟩
theorem rparse_long (a : Option Addr) (n cap : Nat) (w : World) (hn : 8 < n) :
    Calls Tryd.prog 16 #[.slice a n cap] w fun e w' => e = .returned (.tuple #[hdV 0 0 0 0 0, .int .i64 3]) ∧ Below w.heap.size w w' := by
  have h1 : ¬ (n : Int) < 8 := by omega
  have h2 : 8 < (n : Int) := by omega
  go_enter Tryd.func16, Tryd.ntmps16
  go_wp2
  refine bodyPost_ret (v := .tuple #[hdV 0 0 0 0 0, .int .i64 3]) (by simp [results, Tryd.results16, go_sem, hdV]) rfl ⟨rfl, (Below.refl _ w).alloc (Nat.le_refl _) _⟩

set_option maxHeartbeats 4000000 in
theorem rparse_8 (a : Option Addr) (cap : Nat) (z0 z1 z2 z3 z4 z5 z6 z7 : Int) (w : World) (hz : ∀ x ∈ [z0, z1, z2, z3, z4, z5, z6, z7], 0 ≤ x ∧ x ≤ 255) (h1 : Nums .u8 w w.heap.size a [z0, z1, z2, z3, z4, z5, z6, z7]) :
    Calls Tryd.prog 16 #[.slice a 8 cap] w fun e w' => e = .returned (.tuple #[hdP (prs [z0, z1, z2, z3, z4, z5, z6, z7]).1, .int .i64 (prs [z0, z1, z2, z3, z4, z5, z6, z7]).2]) ∧ Below w.heap.size w w' := by
  obtain ⟨w0, hw0⟩ : ∃ w0, w.alloc (.cells #[.int .i64 0, .int .i64 0, .int .u32 0, .int .i64 0, .int .i64 0] 30) = w0 := ⟨_, rfl⟩
  have hs0 : w0.heap.size = w.heap.size + 1 := by rw [← hw0]; simp
  have hb0 : Below w.heap.size w w0 := by rw [← hw0]; exact (Below.refl _ w).alloc (Nat.le_refl _) _
  have hR0 : w0.heap[w.heap.size]? = some (.cells #[.int .i64 0, .int .i64 0, .int .u32 0, .int .i64 0, .int .i64 0] 30 (0, 0)) := by rw [← hw0]; exact World.alloc_heap_new _ _
  obtain ⟨g, o, rfl, hg, hc⟩ := (h1.below hb0) (by simp)
  have k0 := hc 0 z0 rfl; have k1 := hc 1 z1 rfl; have k2 := hc 2 z2 rfl; have k3 := hc 3 z3 rfl
  have k4 := hc 4 z4 rfl; have k5 := hc 5 z5 rfl; have k6 := hc 6 z6 rfl; have k7 := hc 7 z7 rfl
  rw [Nat.add_zero] at k0
  have r0 := hz z0 (by simp); have r1 := hz z1 (by simp); have r2 := hz z2 (by simp); have r3 := hz z3 (by simp)
  have r4 := hz z4 (by simp); have r5 := hz z5 (by simp); have r6 := hz z6 (by simp); have r7 := hz z7 (by simp)
  have HW := Lib.hid hw0
  clear hw0 hz h1 hc
  go_enter Tryd.func16, Tryd.ntmps16
  go_wp2
  rw [HW.out]
  clear HW
  go_loopw [4, 5] (fun v i wr => ∃ (j : Nat) (S : Int), j ≤ 4 ∧ v = .int .u32 S ∧ i = .int .i64 (5 - (j : Int)) ∧ Hid (S = le ([z2, z3, z4, z5].drop (4 - j))) ∧ wr = w0) (fun _ i _ => (intOf i).toNat)
  case atStart => exact ⟨0, 0, by omega, rfl, rfl, rfl, rfl⟩
  case round =>
    obtain ⟨j, S, hj, rfl, rfl, HS, rfl⟩ := hrel
    by_cases h4 : j = 4
    · subst h4
      simp only [Nat.sub_self, List.drop_zero] at HS
      go_wp2
      go_region
      have hbw : Below wr.heap.size wr (wr.alloc (.cells #[.int .i64 z0, .int .i64 z1, .int .u32 S, .int .i64 z6, .int .i64 z7] 30)).drew := ((Below.refl _ wr).alloc (Nat.le_refl _) _).drew
      have hB : (wr.alloc (.cells #[.int .i64 z0, .int .i64 z1, .int .u32 S, .int .i64 z6, .int .i64 z7] 30)).drew.heap[w.heap.size + 1]? = some (.cells #[.int .i64 z0, .int .i64 z1, .int .u32 S, .int .i64 z6, .int .i64 z7] 30 (0, 0)) := by rw [← hs0]; exact World.alloc_heap_new _ _
      generalize (wr.alloc (.cells #[.int .i64 z0, .int .i64 z1, .int .u32 S, .int .i64 z6, .int .i64 z7] 30)).drew = W1 at hbw hB ⊢
      have hs1 := hbw.size
      have hl1 : w.heap.size + 1 < W1.heap.size := (Array.getElem?_eq_some_iff.1 hB).1
      have hR := (hbw.block w.heap.size (by omega)).trans hR0
      have HB := Lib.hid (hb0.trans (hbw.mono (by omega)))
      clear hbw hR0 hb0 k0 k1 k2 k3 k4 k5 k6 k7
      have hs0' := Lib.hid hs0
      clear hs0
      obtain ⟨d0, d1, d2, d3, d4⟩ := hd_block hB
      go_wp2_with fail
      have HC := rcheck_any z0 z1 S z6 z7 W1
      unfold hdV at HC
      refine HC.mono ?_
      rintro e W2 ⟨rfl, hb2⟩
      clear HC d0 d1 d2 d3 d4
      have hB := (hb2.block (w.heap.size + 1) (by omega)).trans hB
      have hR := (hb2.block w.heap.size (by omega)).trans hR
      have HB := Lib.hid (HB.out.trans (hb2.mono HB.out.size))
      have hs2 := hb2.size
      clear hb2
      obtain ⟨d0, d1, d2, d3, d4⟩ := hd_block hB
      by_cases h0 : chk z0 z1 z6 z7 = 0
      · have hp : prs [z0, z1, z2, z3, z4, z5, z6, z7] = ((z0, z1, S, z6, z7), 0) := by rw [prs_8, if_pos h0, HS.out]
        rw [h0]
        clear h0 HS
        obtain ⟨c0, c1, c2, c3, c4⟩ := hd_block hR
        have fz : ∀ j, W2.frozen? ⟨w.heap.size, j, none⟩ = false := fun j => by simp [World.frozen?, hR]
        have f0 := fz 0; have f1 := fz 1; have f2 := fz 2; have f3 := fz 3; have f4 := fz 4
        clear fz
        go_wp2
        rw [hp]
        have hK := set5 (.int .i64 z0) (.int .i64 z1) (.int .u32 S) (.int .i64 z6) (.int .i64 z7) hR
        have hBf := below5 (.int .i64 z0) (.int .i64 z1) (.int .u32 S) (.int .i64 z6) (.int .i64 z7) (Nat.le_refl _) HB.out
        generalize ((((W2.setCell ⟨w.heap.size, 0, none⟩ (.int .i64 z0)).setCell ⟨w.heap.size, 1, none⟩ (.int .i64 z1)).setCell ⟨w.heap.size, 2, none⟩ (.int .u32 S)).setCell ⟨w.heap.size, 3, none⟩ (.int .i64 z6)).setCell ⟨w.heap.size, 4, none⟩ (.int .i64 z7) = Wf at hK hBf ⊢
        obtain ⟨g0, g1, g2, g3, g4⟩ := hd_block hK
        exact bodyPost_ret (v := .tuple #[hdV z0 z1 S z6 z7, .int .i64 0]) (by simp [results, Tryd.results16, go_sem, hdV, g0, g1, g2, g3, g4]) rfl ⟨rfl, hBf⟩
      · have hp : prs [z0, z1, z2, z3, z4, z5, z6, z7] = ((0, 0, 0, 0, 0), chk z0 z1 z6 z7) := by rw [prs_8, if_neg h0]
        have h1 : (chk z0 z1 z6 z7 != 0) = true := by simpa using h0
        clear HS
        go_wp2_with fail
        have HC := rcheck_any z0 z1 S z6 z7 W2
        unfold hdV at HC
        refine HC.mono ?_
        rintro e W3 ⟨rfl, hb3⟩
        clear HC d0 d1 d2 d3 d4
        have hB := (hb3.block (w.heap.size + 1) (by omega)).trans hB
        have hR := (hb3.block w.heap.size (by omega)).trans hR
        have HB := Lib.hid (HB.out.trans (hb3.mono HB.out.size))
        have hs3 := hb3.size
        clear hb3
        obtain ⟨c0, c1, c2, c3, c4⟩ := hd_block hR
        have fz : ∀ j, W3.frozen? ⟨w.heap.size, j, none⟩ = false := fun j => by simp [World.frozen?, hR]
        have f0 := fz 0; have f1 := fz 1; have f2 := fz 2; have f3 := fz 3; have f4 := fz 4
        clear fz
        go_wp2
        rw [hp]
        have hK := set5 (.int .i64 0) (.int .i64 0) (.int .u32 0) (.int .i64 0) (.int .i64 0) hR
        have hBf := below5 (.int .i64 0) (.int .i64 0) (.int .u32 0) (.int .i64 0) (.int .i64 0) (Nat.le_refl _) HB.out
        generalize ((((W3.setCell ⟨w.heap.size, 0, none⟩ (.int .i64 0)).setCell ⟨w.heap.size, 1, none⟩ (.int .i64 0)).setCell ⟨w.heap.size, 2, none⟩ (.int .u32 0)).setCell ⟨w.heap.size, 3, none⟩ (.int .i64 0)).setCell ⟨w.heap.size, 4, none⟩ (.int .i64 0) = Wf at hK hBf ⊢
        obtain ⟨g0, g1, g2, g3, g4⟩ := hd_block hK
        exact bodyPost_ret (v := .tuple #[hdV 0 0 0 0 0, .int .i64 (chk z0 z1 z6 z7)]) (by simp [results, Tryd.results16, go_sem, hdV, g0, g1, g2, g3, g4]) rfl ⟨rfl, hBf⟩
    · have hj3 : j < 4 := by omega
      obtain ⟨S0, hS0, b0⟩ : ∃ S0, S = S0 ∧ 0 ≤ S0 ∧ S0 ≤ 16777215 := by
        refine ⟨S, rfl, ?_⟩
        rw [HS.out]
        obtain rfl | rfl | rfl | rfl : j = 0 ∨ j = 1 ∨ j = 2 ∨ j = 3 := by omega
        all_goals first | (simp [le]; done) | (simp [le]; omega)
      subst hS0
      obtain rfl | rfl | rfl | rfl : j = 0 ∨ j = 1 ∨ j = 2 ∨ j = 3 := by omega
      · go_wp2
        go_roundw
        case rel => exact ⟨1, z5 + 256 * S, by omega, by congr 1; omega, by go_num, by show _ = _; rw [HS.out]; simp [le], trivial⟩
        case measure => simp [intOf]
      · go_wp2
        go_roundw
        case rel => exact ⟨2, z4 + 256 * S, by omega, by congr 1; omega, by go_num, by show _ = _; rw [HS.out]; simp [le], trivial⟩
        case measure => simp [intOf]
      · go_wp2
        go_roundw
        case rel => exact ⟨3, z3 + 256 * S, by omega, by congr 1; omega, by go_num, by show _ = _; rw [HS.out]; simp [le], trivial⟩
        case measure => simp [intOf]
      · go_wp2
        go_roundw
        case rel => exact ⟨4, z2 + 256 * S, by omega, by congr 1; omega, by go_num, by show _ = _; rw [HS.out]; simp [le], trivial⟩
        case measure => simp [intOf]
end Go.Proofs.YtmmffifndheafaaDoor
