/-
  Contracts of layer 16's Kinds: an iterator over the five kinds and their words.
-/
import Derived.Test.YtnbhiamnoapmlaaFldI
namespace Go.Proofs.Ytnbhiamnoapmlaa
open Go.RowKit Go.Shelf
set_option maxRecDepth 100000
attribute [local go_sem] Oper.semAt_some

end Go.Proofs.Ytnbhiamnoapmlaa
