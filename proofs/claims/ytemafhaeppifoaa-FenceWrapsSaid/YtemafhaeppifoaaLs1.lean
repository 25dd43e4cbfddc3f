/-
  Words for memory: a slice of slices that the call makes, each element a row that the call made before; two such lists beside one another. No program is imported.
-/
import Derived.Test.YtemafhaeppifoaaLists
namespace Go.Proofs.Ytemafhaeppifoaa
open Go.RowKit

/-- x is a slice of the numbers b, in a block of the call's own with elements of type te -/
def El1 (te : TypeId) (k : IntKind) (base : Nat) (W : World) (x : Value) (b : List Int) : Prop :=
  ∃ (A : Option Addr) (c : Nat), x = .slice A b.length c ∧ b.length ≤ c ∧ (b ≠ [] → ∃ (g : Nat) (cur : Array Value), A = some ⟨g, 0, none⟩ ∧ base ≤ g ∧ W.heap[g]? = some (.cells cur te (0, 0)) ∧ ∀ (j : Nat) (z : Int), b[j]? = some z → cur[j]? = some (Value.int k z))
/-- the slice v of slices, the lists O -/
structure L1 (te tl : TypeId) (k : IntKind) (base : Nat) (W : World) (v : Value) (xs : List Value) (O : List (List Int)) : Prop where
  out : W.ownsRow base tl 1 v O.length xs
  els : ∀ (i : Nat) (b : List Int), O[i]? = some b → ∃ x, xs[i]? = some x ∧ El1 te k base W x b
section
variable {te tl : TypeId} {k : IntKind} {base : Nat} {W w1 W' : World} {v v' u x : Value} {xs ys : List Value} {O P : List (List Int)} {b : List Int} {o : Obj}
theorem L1.start (te tl : TypeId) (k : IntKind) (base : Nat) (W : World) : L1 te tl k base W (.slice none 0 0) [] [] := ⟨World.ownsRow_nil _ _ _ _, fun i b h => by simp at h⟩
theorem own_below {e : TypeId} {n : Nat} (h : W.ownsRow base e 1 v n xs) (hb : Below W.heap.size W W') : W'.ownsRow base e 1 v n xs := by
  refine ⟨h.1, ?_⟩
  rcases h.2 with h | ⟨g, cap, cur, hv, hg, hh, r⟩
  · exact .inl h
  · exact .inr ⟨g, cap, cur, hv, hg, (hb.block g (Array.getElem?_eq_some_iff.1 hh).1).trans hh, r⟩
theorem El1.below (h : El1 te k base W x b) (hb : Below W.heap.size W W') : El1 te k base W' x b := by
  obtain ⟨A, c, rfl, hc, hz⟩ := h
  refine ⟨A, c, rfl, hc, fun hn => ?_⟩
  obtain ⟨g, cur, rfl, hg, hh, hj⟩ := hz hn
  exact ⟨g, cur, rfl, hg, (hb.block g (Array.getElem?_eq_some_iff.1 hh).1).trans hh, hj⟩
theorem L1.below (h : L1 te tl k base W v xs O) (hb : Below W.heap.size W W') : L1 te tl k base W' v xs O :=
  ⟨own_below h.out hb, fun i b hi => by obtain ⟨x, hx, he⟩ := h.els i b hi; exact ⟨x, hx, he.below hb⟩⟩
/-- what a row that the call has just made is -/
theorem El1.of_made {w : World} (h : MadeK te k w W b x) (hb : base ≤ w.heap.size) : El1 te k base W x b := by
  have h1 := h.1
  rcases h1.2 with ⟨rfl, h0⟩ | ⟨g, cap, cur, rfl, hbg, hh, hle, _, _, htk⟩
  · rw [List.eq_nil_of_length_eq_zero h0]
    exact ⟨none, 0, rfl, Nat.le_refl _, fun hn => absurd rfl hn⟩
  · refine ⟨_, cap, rfl, hle, fun _ => ⟨g, cur, rfl, by omega, hh, fun j z hj => ?_⟩⟩
    have h1 : (b.map (Value.int k))[j]? = some (.int k z) := by rw [List.getElem?_map, hj]; rfl
    rw [← htk, List.getElem?_take] at h1
    split at h1
    · rw [← Array.getElem?_toList]; exact h1
    · simp at h1
theorem El1.slice (h : El1 te k base W x b) : ∃ A c, x = .slice A b.length c := by
  obtain ⟨A, c, e, _⟩ := h
  exact ⟨A, c, e⟩
/-- a row of another element type has grown -/
theorem El1.grown {n : Nat} (h : El1 te k base W x b) (hne : te ≠ tl) (hown : W.ownsRow base tl 1 v n xs) (hg : (W.alloc o).grownBy w1 v.ownBlock) : El1 te k base w1 x b := by
  obtain ⟨A, c, rfl, hc, hz⟩ := h
  refine ⟨A, c, rfl, hc, fun hn => ?_⟩
  obtain ⟨g, cur, rfl, hbg, hh, hj⟩ := hz hn
  have hlt := (Array.getElem?_eq_some_iff.1 hh).1
  refine ⟨g, cur, rfl, hbg, ?_, hj⟩
  rw [hg.block g (by rw [World.size_alloc]; omega) (fun e => ?_)]
  · exact (Below.heap_alloc W o g hlt).trans hh
  · rcases hown.2 with ⟨rfl, _⟩ | ⟨g2, cap2, cur2, rfl, _, hh2, _⟩
    · simp [Value.ownBlock] at e
    · simp only [Value.ownBlock, Option.some.injEq] at e
      subst e
      rw [hh] at hh2
      injection hh2 with hh2
      injection hh2 with _ ht
      exact hne ht
/-- an element more -/
theorem L1.push (h : L1 te tl k base W v xs O) (hne : te ≠ tl) (hx : El1 te k base W x b) (hown : w1.ownsRow base tl 1 v' (O.length + 1) (xs ++ [x])) (hg : (W.alloc o).grownBy w1 v.ownBlock) :
    L1 te tl k base w1 v' (xs ++ [x]) (O ++ [b]) := by
  have hxl : xs.length = O.length := by have := h.out.1; omega
  refine ⟨by simpa using hown, fun i b2 hb => ?_⟩
  rcases Nat.lt_or_ge i O.length with hi | hi
  · rw [List.getElem?_append_left hi] at hb
    obtain ⟨x2, hx2, he⟩ := h.els i b2 hb
    exact ⟨x2, by rw [List.getElem?_append_left (by omega)]; exact hx2, he.grown hne h.out hg⟩
  · rw [List.getElem?_append_right hi] at hb
    have hi0 : i - O.length = 0 := by
      rcases Nat.eq_zero_or_pos (i - O.length) with h0 | h0
      · exact h0
      · rw [List.getElem?_eq_none (by simp only [List.length_singleton]; omega)] at hb; simp at hb
    rw [hi0] at hb
    simp only [List.getElem?_cons_zero, Option.some.injEq] at hb
    subst hb
    exact ⟨x, by rw [List.getElem?_append_right (by omega), show i - xs.length = 0 by omega]; rfl, hx.grown hne h.out hg⟩
/-- .. beside another list -/
theorem L1.beside {n : Nat} (h : L1 te tl k base W u ys P) (hne : te ≠ tl) (hsep : u.ownBlock = none ∨ u.ownBlock ≠ v.ownBlock) (hown : W.ownsRow base tl 1 v n xs) (hg : (W.alloc o).grownBy w1 v.ownBlock) : L1 te tl k base w1 u ys P :=
  ⟨(h.out.alloc o).kept hg hsep, fun i b hi => by obtain ⟨x, hx, he⟩ := h.els i b hi; exact ⟨x, hx, he.grown hne hown hg⟩⟩
/-- .. which stays apart -/
theorem apart_grown {n : Nat} {e : TypeId} (h : W.ownsRow base e 1 u n ys) (hsep : u.ownBlock = none ∨ u.ownBlock ≠ v.ownBlock) (hat : v'.ownBlock = v.ownBlock ∨ v'.ownBlock = some (W.alloc o).heap.size) : u.ownBlock = none ∨ u.ownBlock ≠ v'.ownBlock := by
  rcases hsep with h0 | h0
  · exact .inl h0
  · right
    rcases hat with e | e
    · rw [e]; exact h0
    · intro e2
      rw [e, World.size_alloc] at e2
      rcases h.2 with ⟨rfl, _⟩ | ⟨g, cap, cur, rfl, _, hh, _⟩
      · simp [Value.ownBlock] at e2
      · simp only [Value.ownBlock, Option.some.injEq] at e2
        have := (Array.getElem?_eq_some_iff.1 hh).1
        omega
theorem apart_symm {n m : Nat} {e : TypeId} (_h : W.ownsRow base e 1 v n xs) (_h2 : W.ownsRow base e 1 u m ys) (hsep : u.ownBlock = none ∨ u.ownBlock ≠ v.ownBlock) : v.ownBlock = none ∨ v.ownBlock ≠ u.ownBlock := by
  rcases hsep with h0 | h0
  · cases hv : v.ownBlock with
    | none => exact .inl rfl
    | some g => right; rw [h0]; simp
  · exact .inr (Ne.symm h0)
theorem L1.lies (h : L1 te tl k base W v xs O) : ∃ A c, v = .slice A O.length c ∧ O.length ≤ c ∧ ListAt k W W.heap.size A O := by
  rcases h.out.2 with ⟨rfl, h0⟩ | ⟨g, cap, cur, rfl, hbg, hh, hle, _⟩
  · rw [List.eq_nil_of_length_eq_zero h0]
    exact ⟨none, 0, rfl, Nat.le_refl _, fun i b hi => by simp at hi⟩
  · refine ⟨_, cap, rfl, hle, fun i b hi => ?_⟩
    obtain ⟨x, hx, A, c, rfl, hc, hcell⟩ := h.els i b hi
    have h1 := h.out.cells (g := g) rfl i _ hx
    rw [Addr.add_lit, Nat.zero_add] at h1
    refine ⟨g, A, c, rfl, (Array.getElem?_eq_some_iff.1 hh).1, h1, hc, fun hn => ?_⟩
    obtain ⟨g2, cur2, rfl, _, hh2, hz⟩ := hcell hn
    refine ⟨g2, 0, rfl, (Array.getElem?_eq_some_iff.1 hh2).1, fun j z hj => ?_⟩
    rw [Nat.zero_add]
    simp [World.cell?, hh2, hz j z hj]
end
end Go.Proofs.Ytemafhaeppifoaa
