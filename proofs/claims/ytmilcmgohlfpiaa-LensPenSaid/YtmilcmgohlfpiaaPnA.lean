/-
  Pens that lie above a block.
-/
import Derived.Test.YtmilcmgohlfpiaaSigned
namespace Go.Proofs.Ytmilcmgohlfpiaa
open Go.RowKit
set_option maxRecDepth 100000

/-- a pen above block B; below it all is as in w0 -/
def Pn (B : Nat) (w0 : World) (b : Nat) (room : Int) (L : List Int) (full : Bool) (w : World) : Prop := ∃ g, PenAt w b g room L full ∧ B ≤ b ∧ B ≤ g ∧ Below B w0 w
section
variable {B b g : Nat} {w0 w w' : World} {room : Int} {L new : List Int} {full : Bool} {e : Ending}
theorem Pn.size (h : Pn B w0 b room L full w) : B ≤ w.heap.size := by
  obtain ⟨g, h1, h2, _⟩ := h
  have := h1.lt
  omega
theorem Pn.base (h : Pn B w0 b room L full w) : Below B w0 w := by
  obtain ⟨g, _, _, _, h⟩ := h
  exact h
theorem Pn.below (h : Pn B w0 b room L full w) (hb : Below w.heap.size w w') : Pn B w0 b room L full w' := by
  have hs := h.size
  obtain ⟨g, h1, h2, h3, h4⟩ := h
  exact ⟨g, h1.below hb, h2, h3, h4.trans (hb.mono hs)⟩
theorem Pn.wrote (hr : WroteR b g room L full new w e w') (h1 : PenAt w b g room L full) (h2 : B ≤ b) (h3 : B ≤ g) (h4 : Below B w0 w) :
    e = .returned (.int .i64 (codeOf (fullNext room L full new.length))) ∧ Pn B w0 b room (bytesNext room L full new) (fullNext room L full new.length) w' := by
  obtain ⟨he, g', q1, q2, q3⟩ := hr
  have := h1.lt
  refine ⟨he, g', q1, h2, by rcases q3 with q3 | q3 <;> omega, h4.trans (q2.below ?_ (by omega))⟩
  rintro k (rfl | rfl) <;> assumption
/-- what came in is none of the pen's -/
theorem Pn.arg {a : Option Addr} {k : IntKind} {zs : List Int} {wa : World} (ha : Nums k wa B a zs) (hb : B ≤ b) (hg : B ≤ g) (hz : zs ≠ []) : ∀ q, blockOf a q → ¬ penS b g q := by
  obtain ⟨b1, o1, rfl, hlt, _⟩ := ha hz
  rintro q ⟨o, s, hq⟩ hp
  injection hq with hq; injection hq with hq
  rcases hp with hp | hp <;> omega
end
end Go.Proofs.Ytmilcmgohlfpiaa
