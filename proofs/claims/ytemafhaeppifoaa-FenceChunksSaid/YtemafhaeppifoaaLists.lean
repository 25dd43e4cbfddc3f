/-
  Words for memory: a slice of slices of numbers that the call makes, and a row that it fills beside; a slice of slices that lies. No program is imported.
-/
import Derived.Test.YtemafhaeppifoaaApp
import Derived.Maps.AppendAt
namespace Go.Proofs.Ytemafhaeppifoaa
open Go.RowKit

/-- x is a slice of the numbers b, in a block of the call's own with elements of type te, which is not u's -/
def El (te : TypeId) (k : IntKind) (base : Nat) (W : World) (u x : Value) (b : List Int) : Prop :=
  ∃ (A : Option Addr) (c : Nat), x = .slice A b.length c ∧ b.length ≤ c ∧ (b ≠ [] → ∃ (g : Nat) (cur : Array Value), A = some ⟨g, 0, none⟩ ∧ base ≤ g ∧ W.heap[g]? = some (.cells cur te (0, 0)) ∧ u.ownBlock ≠ some g ∧ ∀ (j : Nat) (z : Int), b[j]? = some z → cur[j]? = some (Value.int k z))
/-- the slice v of slices, the lists O; the row u, the numbers N -/
structure Ls (te tl : TypeId) (k : IntKind) (base : Nat) (W : World) (v u : Value) (xs : List Value) (O : List (List Int)) (N : List Int) : Prop where
  out : W.ownsRow base tl 1 v O.length xs
  els : ∀ (i : Nat) (b : List Int), O[i]? = some b → ∃ x, xs[i]? = some x ∧ El te k base W u x b
  now : W.ownsRow base te 1 u N.length (N.map (Value.int k))
section
variable {te tl : TypeId} {k : IntKind} {base : Nat} {W w1 : World} {v v' u u' x : Value} {xs : List Value} {O : List (List Int)} {N b : List Int} {o : Obj}
theorem own_far {e e2 : TypeId} {n m : Nat} {ys : List Value} (h : W.ownsRow base e 1 v n xs) (h2 : W.ownsRow base e2 1 u m ys) (hne : e ≠ e2) : v.ownBlock = none ∨ v.ownBlock ≠ u.ownBlock := by
  rcases h.2 with ⟨rfl, _⟩ | ⟨g, cap, cur, rfl, _, hh, _⟩
  · exact .inl rfl
  · right
    rcases h2.2 with ⟨rfl, _⟩ | ⟨g2, cap2, cur2, rfl, _, hh2, _⟩
    · simp [Value.ownBlock]
    · intro e
      simp only [Value.ownBlock, Option.some.injEq] at e
      subst e
      rw [hh] at hh2
      injection hh2 with hh2
      injection hh2 with _ ht
      exact hne ht
theorem Ls.start (te tl : TypeId) (k : IntKind) (base : Nat) (W : World) : Ls te tl k base W (.slice none 0 0) (.slice none 0 0) [] [] [] :=
  ⟨World.ownsRow_nil _ _ _ _, fun i b h => by simp at h, World.ownsRow_nil _ _ _ _⟩
/-- a number more in the row -/
theorem Ls.grow {z : Int} (h : Ls te tl k base W v u xs O N) (hne : te ≠ tl) (hown : w1.ownsRow base te 1 u' (N.length + 1) (N.map (Value.int k) ++ [.int k z])) (hg : (W.alloc o).grownBy w1 u.ownBlock) (hat : u'.ownBlock = u.ownBlock ∨ u'.ownBlock = some (W.alloc o).heap.size) :
    Ls te tl k base w1 v u' xs O (N ++ [z]) := by
  refine ⟨(h.out.alloc o).kept hg (own_far h.out h.now (Ne.symm hne)), fun i b hb => ?_, by simpa using hown⟩
  obtain ⟨x, hx, A, c, rfl, hc, hcell⟩ := h.els i b hb
  refine ⟨_, hx, A, c, rfl, hc, fun hn => ?_⟩
  obtain ⟨g, cur, rfl, hbg, hh, hu, hz⟩ := hcell hn
  have hlt := (Array.getElem?_eq_some_iff.1 hh).1
  refine ⟨g, cur, rfl, hbg, ?_, ?_, hz⟩
  · rw [hg.block g (by rw [World.size_alloc]; omega) (fun e => hu e.symm)]
    exact (Below.heap_alloc W o g hlt).trans hh
  · rcases hat with e | e
    · rw [e]; exact hu
    · rw [e, World.size_alloc]; intro e2; injection e2 with e2; omega
/-- the row is put to the lists, and begun anew -/
theorem Ls.push (h : Ls te tl k base W v u xs O N) (hne : te ≠ tl) (hown : w1.ownsRow base tl 1 v' (O.length + 1) (xs ++ [u])) (hg : (W.alloc o).grownBy w1 v.ownBlock) :
    Ls te tl k base w1 v' (.slice none 0 0) (xs ++ [u]) (O ++ [N]) [] := by
  have hxl : xs.length = O.length := by have := h.out.1; omega
  have hfar : ∀ (g : Nat) (cur : Array Value), W.heap[g]? = some (Obj.cells cur te (0, 0)) → w1.heap[g]? = some (Obj.cells cur te (0, 0)) := fun g cur hh => by
    have hlt := (Array.getElem?_eq_some_iff.1 hh).1
    rw [hg.block g (by rw [World.size_alloc]; omega) (fun e => ?_)]
    · exact (Below.heap_alloc W o g hlt).trans hh
    · rcases h.out.2 with ⟨rfl, _⟩ | ⟨g2, cap2, cur2, rfl, _, hh2, _⟩
      · simp [Value.ownBlock] at e
      · simp only [Value.ownBlock, Option.some.injEq] at e
        subst e
        rw [hh] at hh2
        injection hh2 with hh2
        injection hh2 with _ ht
        exact hne ht
  refine ⟨by simpa using hown, fun i b hb => ?_, World.ownsRow_nil _ _ _ _⟩
  rcases Nat.lt_or_ge i O.length with hi | hi
  · rw [List.getElem?_append_left hi] at hb
    obtain ⟨x, hx, A, c, rfl, hc, hcell⟩ := h.els i b hb
    refine ⟨_, by rw [List.getElem?_append_left (by omega)]; exact hx, A, c, rfl, hc, fun hn => ?_⟩
    obtain ⟨g, cur, rfl, hbg, hh, hu, hz⟩ := hcell hn
    exact ⟨g, cur, rfl, hbg, hfar g cur hh, by simp [Value.ownBlock], hz⟩
  · rw [List.getElem?_append_right hi] at hb
    have hi0 : i - O.length = 0 := by
      rcases Nat.eq_zero_or_pos (i - O.length) with h0 | h0
      · exact h0
      · rw [List.getElem?_eq_none (by simp only [List.length_singleton]; omega)] at hb; simp at hb
    rw [hi0] at hb
    simp only [List.getElem?_cons_zero, Option.some.injEq] at hb
    subst hb
    refine ⟨u, by rw [List.getElem?_append_right (by omega), show i - xs.length = 0 by omega]; rfl, ?_⟩
    rcases h.now.2 with ⟨rfl, h0⟩ | ⟨g, cap, cur, rfl, hbg, hh, hle, _, _, htk⟩
    · rw [List.eq_nil_of_length_eq_zero h0]
      exact ⟨none, 0, rfl, Nat.le_refl _, fun hn => absurd rfl hn⟩
    · refine ⟨_, cap, rfl, hle, fun _ => ⟨g, cur, rfl, hbg, hfar g cur hh, by simp [Value.ownBlock], fun j z hj => ?_⟩⟩
      have h1 : (N.map (Value.int k))[j]? = some (.int k z) := by rw [List.getElem?_map, hj]; rfl
      rw [← htk, List.getElem?_take] at h1
      split at h1
      · rw [← Array.getElem?_toList]; exact h1
      · simp at h1
end

/-- a slice of slices of numbers that lies at A, below B -/
def ListAt (k : IntKind) (w : World) (B : Nat) (A : Option Addr) (bl : List (List Int)) : Prop :=
  ∀ (i : Nat) (b : List Int), bl[i]? = some b → ∃ (g : Nat) (Ai : Option Addr) (ci : Nat), A = some ⟨g, 0, none⟩ ∧ g < B ∧ w.cell? ⟨g, i, none⟩ = some (.slice Ai b.length ci) ∧ b.length ≤ ci ∧ Nums k w B Ai b
theorem ListAt.below {k : IntKind} {w w' : World} {B : Nat} {A : Option Addr} {bl : List (List Int)} (h : ListAt k w B A bl) (hb : Below B w w') : ListAt k w' B A bl := fun i b hi => by
  obtain ⟨g, Ai, ci, e, hg, hc, hl, hn⟩ := h i b hi
  exact ⟨g, Ai, ci, e, hg, (hb.cell (p := ⟨g, i, none⟩) hg).trans hc, hl, hn.below hb⟩
theorem ListAt.mono {k : IntKind} {w : World} {B B' : Nat} {A : Option Addr} {bl : List (List Int)} (h : ListAt k w B A bl) (hB : B ≤ B') : ListAt k w B' A bl := fun i b hi => by
  obtain ⟨g, Ai, ci, e, hg, hc, hl, hn⟩ := h i b hi
  exact ⟨g, Ai, ci, e, Nat.lt_of_lt_of_le hg hB, hc, hl, hn.mono hB⟩
theorem Ls.lies {te tl : TypeId} {k : IntKind} {base : Nat} {W : World} {v u : Value} {xs : List Value} {O : List (List Int)} {N : List Int} (h : Ls te tl k base W v u xs O N) : ∃ A c, v = .slice A O.length c ∧ O.length ≤ c ∧ ListAt k W W.heap.size A O := by
  rcases h.out.2 with ⟨rfl, h0⟩ | ⟨g, cap, cur, rfl, hbg, hh, hle, _⟩
  · rw [List.eq_nil_of_length_eq_zero h0]
    exact ⟨none, 0, rfl, Nat.le_refl _, fun i b hi => by simp at hi⟩
  · refine ⟨_, cap, rfl, hle, fun i b hi => ?_⟩
    obtain ⟨x, hx, A, c, rfl, hc, hcell⟩ := h.els i b hi
    have h1 := h.out.cells (g := g) rfl i _ hx
    rw [Addr.add_lit, Nat.zero_add] at h1
    refine ⟨g, A, c, rfl, (Array.getElem?_eq_some_iff.1 hh).1, h1, hc, fun hn => ?_⟩
    obtain ⟨g2, cur2, rfl, _, hh2, _, hz⟩ := hcell hn
    refine ⟨g2, 0, rfl, (Array.getElem?_eq_some_iff.1 hh2).1, fun j z hj => ?_⟩
    rw [Nat.zero_add]
    simp [World.cell?, hh2, hz j z hj]
end Go.Proofs.Ytemafhaeppifoaa
