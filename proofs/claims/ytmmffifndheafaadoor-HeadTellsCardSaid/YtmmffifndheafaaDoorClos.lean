/-
  Contracts of the closures that a lens reads by: Number, Signed, Raw, Field.
-/
import Derived.Test.YtmmffifndheafaaDoorLens
import Derived.Test.YtmmffifndheafaaDoorRead
import Derived.Test.YtmmffifndheafaaDoorZag
namespace Go.Proofs.YtmmffifndheafaaDoor
open Go.RowKit
set_option maxRecDepth 100000

/-- what a read's closure hands on: where nothing is wrong, the value and its bytes' number -/
def ClosI (k : IntKind) (x : Int × Nat × Nat) (r : Ending) : Prop :=
  ∃ (v s : Int), r = .returned (.tuple #[.int k v, .int .i64 s, .int .i64 x.2.2]) ∧ (x.2.2 = 0 → v = x.1 ∧ s = x.2.1)
theorem ClosI.bad {k : IntKind} {x : Int × Nat × Nat} {v s : Int} {e : Int} (h : x.2.2 ≠ 0) (he : e = x.2.2) : ClosI k x (.returned (.tuple #[.int k v, .int .i64 s, .int .i64 e])) := by
  subst he; exact ⟨v, s, rfl, fun h0 => absurd h0 h⟩
theorem ClosI.ok {k : IntKind} {x : Int × Nat × Nat} {v s : Int} {e : Int} (hv : v = x.1) (hs : s = x.2.1) (he : e = x.2.2) : ClosI k x (.returned (.tuple #[.int k v, .int .i64 s, .int .i64 e])) := by
  subst he; exact ⟨v, s, rfl, fun _ => ⟨hv, hs⟩⟩

section
variable (B : Nat) (a : Option Addr) (n cap c : Nat) (l : List Int) (w : World)
/-- what a closure that makes bytes hands on -/
def ClosB (x : List Int × Nat × Nat) (w : World) (r : Ending) (w' : World) : Prop :=
  ∃ (v : Value) (s : Int), r = .returned (.tuple #[v, .int .i64 s, .int .i64 x.2.2]) ∧ MadeK 5 .u8 w w' x.1 v ∧ (x.2.2 = 0 → s = x.2.1)
theorem ClosB.mk {x : List Int × Nat × Nat} {w w' : World} {v : Value} {s e : Int} (hm : MadeK 5 .u8 w w' x.1 v) (he : e = x.2.2) (hs : x.2.2 = 0 → s = x.2.1) : ClosB x w (.returned (.tuple #[v, .int .i64 s, .int .i64 e])) w' := by
  subst he; exact ⟨v, s, rfl, hm, hs⟩
end
end Go.Proofs.YtmmffifndheafaaDoor
