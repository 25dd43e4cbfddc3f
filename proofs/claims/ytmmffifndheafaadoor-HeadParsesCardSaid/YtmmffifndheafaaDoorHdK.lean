/-
  Contracts of layer 7's law: known; and of head's Last and Mates.
-/
import Derived.Test.YtmmffifndheafaaDoorHdB
import Derived.Test.YtmmffifndheafaaDoorHdL
import Derived.Test.YtmmffifndheafaaDoorSame
namespace Go.Proofs.YtmmffifndheafaaDoor
open Go.RowKit
set_option maxRecDepth 100000

theorem line77 : lineZ 2 4 77 0 3 = { data := #[118, 32, 50, 32, 107, 32, 52, 32, 55, 55, 32, 48, 47, 51] } := by
  unfold lineZ
  rw [show (2 : Int) = ((2 : Nat) : Int) from rfl, show (4 : Int) = ((4 : Nat) : Int) from rfl, show (77 : Int) = ((77 : Nat) : Int) from rfl, show (0 : Int) = ((0 : Nat) : Int) from rfl, show (3 : Int) = ((3 : Nat) : Int) from rfl]
  rw [Lib.itoa_nonneg, Lib.itoa_nonneg, Lib.itoa_nonneg, Lib.itoa_nonneg, Lib.itoa_nonneg, Lib.decDigits_one (by omega), Lib.decDigits_one (by omega), Lib.decDigits_two (by omega) (by omega), Lib.decDigits_one (by omega), Lib.decDigits_one (by omega)]
  rfl

set_option maxHeartbeats 2000000 in
theorem known_any (B : Nat) (w : World) (ht : Tens w B) (hB : B ≤ w.heap.size) : Calls Tryd.prog 11 #[] w fun e w' => e = .returned (.bool true) ∧ Below w.heap.size w w' := by
  go_enter Tryd.func11, Tryd.ntmps11
  go_wp2_with fail
  refine (hbytes_any 2 4 258 0 3 (by omega) _).mono ?_
  rintro e w1 ⟨hr, hb1⟩
  rcases hr with ⟨h, _⟩ | ⟨_, g, hg, rfl, hn⟩
  · exact absurd (by decide) h
  have hblk : w1.heap[w.heap.size]? = some (.cells #[.int .i64 2, .int .i64 4, .int .u32 258, .int .i64 0, .int .i64 3] 24 (0, 0)) := (hb1.block _ (by simp)).trans (World.alloc_heap_new _ _)
  have d2 : w1.cell? ⟨w.heap.size, 2, none⟩ = some (.int .u32 258) := by simp [World.cell?, hblk]
  have f2 : w1.frozen? ⟨w.heap.size, 2, none⟩ = false := by simp [World.frozen?, hblk]
  have hblk2 := setCell_at (j := 2) (u := .int .u32 77) hblk
  simp only [List.setIfInBounds_toArray, List.set_cons_succ, List.set_cons_zero] at hblk2
  have hb01 : Below w.heap.size w w1 := ((Below.refl _ w).alloc (Nat.le_refl _) (.cells #[.int .i64 2, .int .i64 4, .int .u32 258, .int .i64 0, .int .i64 3] 24)).trans (hb1.mono (by simp))
  have hb02 := hb01.setCell (p := ⟨w.heap.size, 2, none⟩) (Nat.le_refl _) (.int .u32 77)
  have hs1 := hb1.size
  rw [World.size_alloc] at hs1 hg
  have hn2 : Nums .u8 (w1.setCell ⟨w.heap.size, 2, none⟩ (.int .u32 77)) w1.heap.size (some ⟨g, 0, none⟩) [2, 4, 2, 1, 0, 0, 0, 3] := fun _ => by
    obtain ⟨b, o, e, hb, hc⟩ := hn (by simp [hdB])
    injection e with e
    injection e with e1 e2
    subst e1 e2
    exact ⟨g, 0, rfl, hb, fun j z hj => (World.cell?_of_block (Below.heap_setCell w1 ⟨w.heap.size, 2, none⟩ _ _ (by simp only; omega))).trans (hc j z hj)⟩
  have HN := Lib.hid hn2
  have HB := Lib.hid hb02
  have HK := Lib.hid hblk2
  have hsz : (w1.setCell ⟨w.heap.size, 2, none⟩ (.int .u32 77)).heap.size = w1.heap.size := by simp [World.setCell]
  clear hn hn2 hb1 hb01 hb02 hblk2 hblk
  go_wp2_with fail
  generalize w1.setCell ⟨w.heap.size, 2, none⟩ (.int .u32 77) = w2 at *
  rw [← hsz] at HN hs1 ⊢
  clear hsz d2 f2 hg
  have ha := (Below.refl _ w2).alloc (Nat.le_refl _) (.cells #[.int .u8 2, .int .u8 4, .int .u8 2, .int .u8 1, .int .u8 0, .int .u8 0, .int .u8 0, .int .u8 3] 5)
  refine (same_len (w2.heap.size + 1) (some ⟨g, 0, none⟩) (some ⟨w2.heap.size, 0, none⟩) 8 8 8 8 [2, 4, 2, 1, 0, 0, 0, 3] [2, 4, 2, 1, 0, 0, 0, 3] _ rfl rfl rfl (by omega) ((HN.out.below ha).mono (by omega)) (Nums.new .u8 w2 5 [2, 4, 2, 1, 0, 0, 0, 3] _ rfl)).mono ?_
  rintro e w3 ⟨rfl, d, hw3⟩
  have hb3 : Below w2.heap.size w2 w3 := by rw [hw3]; exact below_drewN ha d
  have hblk3 := (hb3.block w.heap.size (by omega)).trans HK.out
  have HB3 := Lib.hid (HB.out.trans (hb3.mono (by omega)))
  have hT : Hid (Tens w3 B) := (ht.below (HB.out.mono hB)).below (hb3.mono (by omega))
  have d0 : w3.cell? ⟨w.heap.size, 0, none⟩ = some (.int .i64 2) := by simp [World.cell?, hblk3]
  have d1 : w3.cell? ⟨w.heap.size, 1, none⟩ = some (.int .i64 4) := by simp [World.cell?, hblk3]
  have d2 : w3.cell? ⟨w.heap.size, 2, none⟩ = some (.int .u32 77) := by simp [World.cell?, hblk3]
  have d3 : w3.cell? ⟨w.heap.size, 3, none⟩ = some (.int .i64 0) := by simp [World.cell?, hblk3]
  have d4 : w3.cell? ⟨w.heap.size, 4, none⟩ = some (.int .i64 3) := by simp [World.cell?, hblk3]
  have hs3 := hb3.size
  clear hw3 hb3 hblk3 ha HN HK HB
  go_wp2_with fail
  refine (hline_any 2 4 77 0 3 (by omega) (by omega) (by omega) (by omega) (by omega) B w3 hT.out (by omega)).mono ?_
  rintro e w4 ⟨rfl, hb4⟩
  rw [line77]
  have HF := Lib.hid (HB3.out.trans (hb4.mono (by omega)))
  clear hb4
  go_wp2
  go_ret
  exact ⟨rfl, HF.out⟩

theorem ret_bool {a b : Bool} (h : a = b) : Ending.returned (.bool a) = Ending.returned (.bool b) := by rw [h]
theorem last_any (v k s i c : Int) (hi : 0 ≤ i ∧ i ≤ 255) (w : World) :
    Calls Tryd.prog 15 #[hdV v k s i c] w fun e w' => e = .returned (.bool (i == c - 1)) ∧ Below w.heap.size w w' := by
  unfold hdV
  by_cases h : i < c
  · go_enter Tryd.func15, Tryd.ntmps15
    go_wp2
    go_ret
    exact ⟨ret_bool (by rw [Bool.eq_iff_iff]; simp; omega), (Below.refl _ w).alloc (Nat.le_refl _) _⟩
  · go_enter Tryd.func15, Tryd.ntmps15
    go_wp2
    go_ret
    exact ⟨ret_bool (by rw [Bool.eq_iff_iff]; simp; omega), (Below.refl _ w).alloc (Nat.le_refl _) _⟩

/-- whether two heads are alike but for the index -/
def mateZ (v k s c v' k' s' c' : Int) : Bool := decide (v = v' ∧ k = k' ∧ s = s' ∧ c = c')
theorem mates_any (v k s i c v' k' s' i' c' : Int) (w : World) :
    Calls Tryd.prog 17 #[hdV v k s i c, hdV v' k' s' i' c'] w fun e w' => e = .returned (.bool (mateZ v k s c v' k' s' c')) ∧ Below w.heap.size w w' := by
  unfold hdV
  go_enter Tryd.func17, Tryd.ntmps17
  go_wp2
  all_goals
    go_ret
    exact ⟨ret_bool (by simp [mateZ, *]), ((Below.refl _ w).alloc (Nat.le_refl _) _).alloc (by simp) _⟩
end Go.Proofs.YtmmffifndheafaaDoor
