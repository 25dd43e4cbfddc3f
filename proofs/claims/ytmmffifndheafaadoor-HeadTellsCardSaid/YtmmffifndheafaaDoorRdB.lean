/-
  Contracts of read at bytes.
-/
import Derived.Test.YtmmffifndheafaaDoorLens
import Derived.Deep.RegionWith
namespace Go.Proofs.YtmmffifndheafaaDoor
open Go.RowKit
set_option maxRecDepth 100000
section
variable (lo b : Nat) (zs : List Int) (p e : Nat) (w : World)
end
end Go.Proofs.YtmmffifndheafaaDoor
