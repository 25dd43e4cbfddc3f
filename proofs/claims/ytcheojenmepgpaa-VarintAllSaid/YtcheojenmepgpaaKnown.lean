/-
  The chapter's examples of layer 1 hold: the contract of known.
-/
import Derived.Test.YtcheojenmepgpaaPut
import Derived.Test.YtcheojenmepgpaaLeaf
import Derived.Outline
namespace Go.Proofs.Ytcheojenmepgpaa
open Go.RowKit
set_option maxRecDepth 100000

theorem known_any (w : World) : Calls Try.prog 16 #[] w fun e w' => e = .returned (.bool true) ∧ Below w.heap.size w w' := by
  have g1 : Vi.get [128, 0] = (0, 0, 3) := by decide +kernel
  have g2 : puts [5, 300] = [5, 172, 2] := by decide +kernel
  have hn1 := Nums.new .u8 w 5 [128, 0] _ rfl
  go_enter Try.func16, Try.ntmps16
  go_wp2_with fail
  refine (get_any (w.heap.size + 1) _ _ [128, 0] _ (by simp) (by simp) hn1).mono ?_
  rintro e w1 ⟨he, rfl⟩
  rw [g1] at he
  obtain rfl := he
  go_wp2_with fail
  have hn2 := Nums.new .u64 (w.alloc (.cells #[.int .u8 128, .int .u8 0] 5)) 27 [5, 300] _ rfl
  rw [World.size_alloc] at hn2
  refine (put_any (w.heap.size + 1 + 1) _ _ [5, 300] _ (by simp) (by simp) (by simp) hn2).mono ?_
  rintro e w1 ⟨v, rfl, hm⟩
  rw [g2] at hm
  obtain ⟨A, c, rfl, hc, hn3⟩ := hm.slice
  clear hn1 hn2 g1 g2
  have hb : Below w.heap.size w w1 := (((Below.refl _ w).alloc (Nat.le_refl _) _).alloc (by simp) _).trans (hm.2.mono (by simp; omega))
  clear hm
  have hn4 := Nums.new .u8 w1 5 [5, 172, 2] _ rfl
  go_wp2_with fail
  refine (same_eq (w1.heap.size + 1) _ _ _ _ [5, 172, 2] _ (by simp) ((hn3.below ((Below.refl _ _).alloc (Nat.le_refl _) _)).mono (by omega)) hn4).mono ?_
  rintro e w2 ⟨rfl, n, rfl⟩
  go_wp2_with (go_at_call 10; refine (zig_neg _ _ (by omega) (by omega)).mono ?_; rintro e w3 ⟨rfl, rfl⟩)
  go_ret
  exact ⟨rfl, below_drewN (hb.alloc hb.size _) n⟩

end Go.Proofs.Ytcheojenmepgpaa
