/-
  Contracts of varint.Zag and the document's Zag.
-/
import Derived.Test.YtmmffifndheafaaDoorZig
import Derived.Test.YtmmffifndheafaaDoorRdM
namespace Go.Proofs.YtmmffifndheafaaDoor
open Go.RowKit
set_option maxRecDepth 100000

end Go.Proofs.YtmmffifndheafaaDoor
