/-
  Contracts of layer 7: the parts of a head of which something may be wrong, and the iterator over them.
-/
import Derived.Test.YtmmffifndheafaaDoorHdN
import Derived.Test.YtmmffifndheafaaDoorRows
import Derived.Test.YtmmffifndheafaaDoorStops
import Derived.Test.YtmmffifndheafaaDoorKeep
import Derived.WalkLawsBesides
import Derived.WalkMore
import Derived.Lib.Hide
import Derived.WalkSpells
import Derived.RangeFuncBound
import Derived.RangeFuncCalls
import Derived.RangeFuncLeaves
import Derived.Shelf.Abstract
import Derived.Shelf.RegionOpen
import Derived.OwnWalkIn
import Derived.TacticsInMore
import Derived.LoopNIn
import Derived.LoopIn
namespace Go.Proofs.YtmmffifndheafaaDoor
open Go.RowKit Go.Shelf
set_option maxRecDepth 100000
attribute [local go_sem] Oper.semAt_some

/-- the cells of the four parts -/
def ptC (v k i c m : Int) : Array Value := #[.int .i64 v, .int .i64 1, .int .i64 2, .int .i64 10, .int .i64 k, .int .i64 1, .int .i64 5, .int .i64 9, .int .i64 c, .int .i64 1, .int .i64 255, .int .i64 3, .int .i64 i, .int .i64 0, .int .i64 m, .int .i64 3]

theorem parts_any (v k s i c : Int) (w : World) :
    Calls Tryd.prog 18 #[hdV v k s i c] w fun e w' => ∃ g, e = .returned (.func (.func 26) #[] #[.pointer (some ⟨g, 0, none⟩)]) ∧ w.heap.size ≤ g ∧ w'.heap[g]? = some (.cells (ptC v k i c (wrap64 (c - 1))) 59 (0, 0)) ∧ Below w.heap.size w w' := by
  unfold hdV
  go_enter Tryd.func18, Tryd.ntmps18
  go_wp2
  go_ret
  exact ⟨_, rfl, Nat.le_succ _, by rw [show w.heap.size + 1 = (w.alloc (.cells #[.int .i64 v, .int .i64 k, .int .u32 s, .int .i64 i, .int .i64 c] 24)).heap.size by simp]; exact World.alloc_heap_new _ _, ((Below.refl _ w).alloc (Nat.le_refl _) _).alloc (by simp) _⟩

end Go.Proofs.YtmmffifndheafaaDoor
