/-
  The chapter's examples of layer 4 hold: the contract of known.
-/
import Derived.Test.YtbhdffefjphphaaCrcS
import Derived.Outline
import Derived.Lib.SlBytesConst
import Derived.Laws.Rows
namespace Go.Proofs.Ytbhdffefjphphaa
open Go.RowKit
set_option maxRecDepth 100000

theorem txt_sum : Cr.sum (flat [⟨none, 0, [49, 50, 51, 52, 53, 54, 55, 56, 57]⟩]) = 3421780262 := by decide +kernel
theorem txt_sum' (a : Option Addr) (c : Nat) : Cr.sum (flat [⟨a, c, [49, 50, 51, 52, 53, 54, 55, 56, 57]⟩]) = 3421780262 := txt_sum
theorem no_sum : Cr.sum (flat []) = 0 := by decide +kernel
theorem entry_one : Cr.shn 8 1 = 1996959894 := by decide +kernel
theorem txt_bytes : Bytes [49, 50, 51, 52, 53, 54, 55, 56, 57] := by
  intro z hz
  simp only [List.mem_cons, List.not_mem_nil, or_false] at hz
  omega

theorem Nums.newF (k : IntKind) (w : World) (t : TypeId) (zs : List Int) (cs : Array Value) (fr : Nat × Nat) (h : cs = (zs.map (Value.int k)).toArray) : Nums k (w.alloc (.cells cs t fr)) (w.heap.size + 1) (some ⟨w.heap.size, 0, none⟩) zs := fun _ => by
  refine ⟨w.heap.size, 0, rfl, by omega, fun j c hj => ?_⟩
  rw [cell_of_row _ _ _ cs t fr (heap_alloc_new w _), h]
  simp [hj]

theorem known_any (w : World) : Calls Try.prog 15 #[] w fun e w' => e = .returned (.bool true) ∧ Below w.heap.size w w' := by
  have kc := fun (w : World) (C : Array Value) (n c : Nat) => Lib.run_convert_bytes_const (P := Try.prog) w 22 5 C n c Try.underlying22 Try.underlying5
  go_enter Try.func15, Try.ntmps15
  go_wp2_with fail
  refine (new_any _).mono ?_
  rintro e w1 ⟨rfl, ht, hb, hsz⟩
  rw [← hsz] at ht
  clear hsz
  have hn1 := Nums.newF .u8 w1 5 [49, 50, 51, 52, 53, 54, 55, 56, 57] _ (9, 10) rfl
  have hp := Parts.new (w := w1.alloc (.cells ([49, 50, 51, 52, 53, 54, 55, 56, 57].map (Value.int .u8)).toArray 5 (9, 10))) (B := w1.heap.size + 1) (ps := [⟨some ⟨w1.heap.size, 0, none⟩, 9, [49, 50, 51, 52, 53, 54, 55, 56, 57]⟩]) 22 _ (by
    intro p hp
    simp only [List.mem_singleton] at hp
    subst hp
    exact ⟨by simp, by simp, txt_bytes, hn1⟩) (by simp) rfl
  have b2 := (((Below.refl _ w1).alloc (Nat.le_refl w1.heap.size) (.cells ([49, 50, 51, 52, 53, 54, 55, 56, 57].map (Value.int .u8)).toArray 5 (9, 10))).alloc (by simp) (.cells #[.slice (some ⟨w1.heap.size, 0, none⟩) 9 9] 22))
  have K1 := sum_any _ _ _ _ 1 _ _ ((ht.below b2).mono (show w1.heap.size ≤ w1.heap.size + 1 by omega)) rfl (by simp) hp
  rw [txt_sum'] at K1
  clear hn1 hp
  simp only [List.map_cons, List.map_nil, World.size_alloc, List.length_singleton] at K1 b2
  go_wp2_with fail
  refine K1.mono ?_
  rintro e w2 ⟨rfl, d, rfl⟩
  clear K1
  replace b2 := below_drewN b2 d
  generalize World.drewN _ d = w2 at *
  have hb2 : Below w.heap.size w w2 := hb.trans (b2.mono hb.size)
  have ht2 : TabAt w2 w2.heap.size w.heap.size := (ht.below b2).mono b2.size
  clear hb b2 ht
  go_wp2_with fail
  refine (sum_any _ _ _ 0 0 [] _ ht2 rfl (by simp) (Parts.nil _ _ _)).mono ?_
  rintro e w3 ⟨rfl, d, rfl⟩
  rw [no_sum]
  go_wp2_with fail
  refine (entry_any _ _ 1 _ (TabAt.below ht2 (below_drewN (Below.refl _ _) d)) (by omega)).mono ?_
  rintro e w3 ⟨rfl, rfl⟩
  rw [entry_one]
  have hb3 := below_drewN hb2 d
  generalize World.drewN _ d = w3 at *
  clear hb2 ht2
  have hn1 := Nums.newF .u8 w3 5 [49, 50, 51, 52, 53, 54, 55, 56, 57] _ (9, 10) rfl
  simp only [List.map_cons, List.map_nil] at hn1
  have K2 := slow_any _ _ 9 9 _ _ rfl (by simp) txt_bytes hn1
  rw [show Cr.sum [49, 50, 51, 52, 53, 54, 55, 56, 57] = 3421780262 from txt_sum] at K2
  clear hn1
  go_wp2_with fail
  refine K2.mono ?_
  rintro e w4 ⟨rfl, rfl⟩
  clear K2
  go_wp2
  go_ret
  exact ⟨rfl, hb3.alloc hb3.size _⟩
end Go.Proofs.Ytbhdffefjphphaa
