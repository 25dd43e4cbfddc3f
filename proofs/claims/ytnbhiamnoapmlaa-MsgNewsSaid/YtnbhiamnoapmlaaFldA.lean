/-
  Contracts of layer 16: old, added, Word and the document's Word.
-/
import Derived.Test.YtnbhiamnoapmlaaProg
import Derived.Test.YtnbhiamnoapmlaaFldN
import Derived.Test.YtnbhiamnoapmlaaStops
import Derived.Test.YtnbhiamnoapmlaaKeep
import Derived.WalkLawsBesides
import Derived.WalkMore
import Derived.Lib.Hide
import Derived.WalkSpells
import Derived.Shelf.RegionOpen
import Derived.OwnWalkIn
import Derived.TacticsInMore
import Derived.Handy
import Derived.LoopNIn
import Derived.LoopIn
namespace Go.Proofs.Ytnbhiamnoapmlaa
open Go.RowKit Go.Shelf
set_option maxRecDepth 100000
attribute [local go_sem] Oper.semAt_some

theorem kind_ways (k : Int) : k = 1 ∨ k = 2 ∨ k = 3 ∨ k = 4 ∨ k = 5 ∨ (k ≠ 1 ∧ k ≠ 2 ∧ k ≠ 3 ∧ k ≠ 4 ∧ k ≠ 5) := by omega

theorem old_any (nm : ByteArray) (so le mo : Int) (w : World) :
    Calls Try.prog 43 #[.string nm, .int .i64 so, .int .i64 le, .int .i64 mo] w fun e w' => e = .returned (Fd.v ⟨nm, so, 0, le, mo, 1, 0⟩) ∧ Below w.heap.size w w' := by
  unfold Fd.v Fd.cs
  go_enter Try.func43, Try.ntmps43
  go_wp2
  refine bodyPost_ret (v := .agg #[.string nm, .int .i64 so, .int .i64 0, .int .i64 le, .int .i64 mo, .int .i64 1, .int .i64 0]) (by simp [results, Try.results43, go_sem]) rfl ?_
  exact ⟨rfl, (Below.refl _ w).alloc (Nat.le_refl _) _⟩

theorem added_any (f : Fd) (ab : Int) (w : World) :
    Calls Try.prog 45 #[f.v, .int .i64 ab] w fun e w' => e = .returned (Fd.v { f with si := 2, ab := ab }) ∧ Below w.heap.size w w' := by
  unfold Fd.v Fd.cs
  go_enter Try.func45, Try.ntmps45
  go_wp2
  refine bodyPost_ret (v := .agg #[.string f.nm, .int .i64 f.so, .int .i64 f.pl, .int .i64 f.le, .int .i64 f.mo, .int .i64 2, .int .i64 ab]) (by simp [results, Try.results45, go_sem]) rfl ?_
  exact ⟨rfl, ((Below.refl _ w).alloc (Nat.le_refl _) _).alloc (by simp) _⟩

theorem word_any (k : Int) (w : World) :
    Calls Try.prog 24 #[.int .i64 k] w fun e w' => e = .returned (.string (wd k)) ∧ w = w' := by
  rcases kind_ways k with rfl | rfl | rfl | rfl | rfl | ⟨h1, h2, h3, h4, h5⟩
  all_goals simp only [wd, *, if_false, if_true, Int.reduceEq]
  case' inr.inr.inr.inr.inr =>
    have n1 : (k == 1) = false := by simpa using h1
    have n2 : (k == 2) = false := by simpa using h2
    have n3 : (k == 3) = false := by simpa using h3
    have n4 : (k == 4) = false := by simpa using h4
    have n5 : (k == 5) = false := by simpa using h5
  all_goals
    go_enter Try.func24, Try.ntmps24
    go_wp2
    go_ret
    exact ⟨rfl, rfl⟩

end Go.Proofs.Ytnbhiamnoapmlaa
