/-
  Contract of the document's Check of layer 7.
-/
import Derived.Test.YtmmffifndheafaaDoorHdN
import Derived.Test.YtmmffifndheafaaDoorRows
import Derived.WalkLawsBesides
import Derived.WalkMore
import Derived.Lib.Hide
namespace Go.Proofs.YtmmffifndheafaaDoor
open Go.RowKit
set_option maxRecDepth 100000

set_option maxHeartbeats 8000000 in
theorem rcheck_any (v k s i c : Int) (w : World) :
    Calls Tryd.prog 7 #[hdV v k s i c] w fun e w' => e = .returned (.int .i64 (chk v k i c)) ∧ Below w.heap.size w w' := by
  unfold hdV
  rcases chk_cases v k i c with ⟨h, h1⟩ | ⟨h, h1, h2, h3⟩ | ⟨h, h1, h2, h3, h4, h5⟩ | ⟨h, h1, h2, h3, h4, h5, h6, h7⟩ | ⟨h, h1, h2, h3, h4, h5, h6, h7, h8⟩
  · rw [h]
    have a1 : (v != 1) = true := by simp; omega
    have a2 : (v != 2) = true := by simp; omega
    clear h h1
    go_enter Tryd.func7, Tryd.ntmps7
    go_wp2
    go_ret
    exact ⟨rfl, (Below.refl _ w).alloc (Nat.le_refl _) _⟩
  · rw [h]
    obtain rfl | rfl : v = 1 ∨ v = 2 := by omega
    all_goals
      rcases h3 with h3 | h3
      all_goals
        go_enter Tryd.func7, Tryd.ntmps7
        go_wp2
        all_goals
          go_ret
          exact ⟨rfl, (Below.refl _ w).alloc (Nat.le_refl _) _⟩
  · rw [h]
    obtain rfl | rfl : v = 1 ∨ v = 2 := by omega
    all_goals
      rcases h5 with h5 | h5
      all_goals
        go_enter Tryd.func7, Tryd.ntmps7
        go_wp2
        all_goals
          go_ret
          exact ⟨rfl, (Below.refl _ w).alloc (Nat.le_refl _) _⟩
  · rw [h]
    obtain rfl | rfl : v = 1 ∨ v = 2 := by omega
    all_goals
      rcases h7 with h7 | h7
      all_goals
        go_enter Tryd.func7, Tryd.ntmps7
        go_wp2
        all_goals
          go_ret
          exact ⟨rfl, (Below.refl _ w).alloc (Nat.le_refl _) _⟩
  · rw [h]
    obtain rfl | rfl : v = 1 ∨ v = 2 := by omega
    all_goals
      go_enter Tryd.func7, Tryd.ntmps7
      go_wp2
      all_goals
        go_ret
        exact ⟨rfl, (Below.refl _ w).alloc (Nat.le_refl _) _⟩
end Go.Proofs.YtmmffifndheafaaDoor
