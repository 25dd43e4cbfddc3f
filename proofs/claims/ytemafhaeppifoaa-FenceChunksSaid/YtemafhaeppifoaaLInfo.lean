/-
  What the program's types say of a list of lists of bytes; a row that the call made is a slice. No function is named.
-/
import Derived.Test.YtemafhaeppifoaaRows
import Derived.Test.YtemafhaeppifoaaMem
namespace Go.Proofs.Ytemafhaeppifoaa
open Go.RowKit
set_option maxRecDepth 100000
theorem listInfo : (Try.prog.info? 22).map (fun i => (i.zero, i.size, i.bytes)) = some (some (.slice none 0 0), 1, 24) := by kernel_rfl
theorem own_slice {w : World} {base : Nat} {e : TypeId} {size n : Nat} {v : Value} {xs : List Value} (h : w.ownsRow base e size v n xs) : ∃ A c, v = .slice A n c := by
  rcases h.2 with ⟨rfl, h0⟩ | ⟨g, cap, cur, rfl, _⟩
  · subst h0; exact ⟨none, 0, rfl⟩
  · exact ⟨_, cap, rfl⟩
end Go.Proofs.Ytemafhaeppifoaa
