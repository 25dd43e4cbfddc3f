/-
  Contract of layer 16's Kind: a word's.
-/
import Derived.Test.YtnbhiamnoapmlaaFldK
import Derived.Test.YtnbhiamnoapmlaaLd
namespace Go.Proofs.Ytnbhiamnoapmlaa
open Go.RowKit Go.Shelf
set_option maxRecDepth 100000
attribute [local go_sem] Oper.semAt_some

/-- the kind of a word -/
def kd (x : ByteArray) : Int := if x = wd 1 then 1 else if x = wd 2 then 2 else if x = wd 3 then 3 else if x = wd 4 then 4 else if x = wd 5 then 5 else 0
theorem kd_wd {j : Nat} (hj : j < 5) : kd (wd ((j : Int) + 1)) = (j : Int) + 1 := by
  obtain rfl | rfl | rfl | rfl | rfl : j = 0 ∨ j = 1 ∨ j = 2 ∨ j = 3 ∨ j = 4 := by omega
  all_goals decide
theorem kd_none {x : ByteArray} (h : ∀ j : Nat, j < 5 → wd ((j : Int) + 1) ≠ x) : kd x = 0 := by
  have h0 := h 0 (by omega); have h1 := h 1 (by omega); have h2 := h 2 (by omega); have h3 := h 3 (by omega); have h4 := h 4 (by omega)
  unfold kd
  rw [if_neg (fun e => h0 e.symm), if_neg (fun e => h1 e.symm), if_neg (fun e => h2 e.symm), if_neg (fun e => h3 e.symm), if_neg (fun e => h4 e.symm)]

end Go.Proofs.Ytnbhiamnoapmlaa
