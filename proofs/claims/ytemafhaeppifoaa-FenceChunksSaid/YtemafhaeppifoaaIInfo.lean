/-
  What the program's types say of an int. No function is named.
-/
import Derived.Test.YtemafhaeppifoaaRows
import Derived.Test.YtemafhaeppifoaaMem
namespace Go.Proofs.Ytemafhaeppifoaa
open Go.RowKit
set_option maxRecDepth 100000
theorem intInfo : (Try.prog.info? 3).map (fun i => (i.zero, i.size, i.bytes)) = some (some (.int .i64 0), 1, 8) := by kernel_rfl
end Go.Proofs.Ytemafhaeppifoaa
