/-
  Numbers that are turned about within blocks of 32. No program is imported.
-/
import Derived.Test.YtklkfajbfpihfaaWinN
namespace Go.Proofs.Ytklkfajbfpihfaa
open Go.RowKit
namespace Wn
section
variable (r : Nat → Nat)
/-- the place that comes at place p, turned about within its block -/
def rot (p : Nat) : Nat := 32 * (p / 32) + (p % 32 + r (p / 32)) % 32
/-- .. of which those from c on are left -/
def pl (c p : Nat) : Nat := if p < c then rot r p else p
def lo (s : Int) (n c : Nat) : List Int := (List.range n).map fun p => Sr.add s (pl r c p)
end
section
variable {r : Nat → Nat} {s : Int} {n c p : Nat}
theorem lo_len : (lo r s n c).length = n := by simp [lo]
theorem lo_at (h : p < n) : (lo r s n c)[p]? = some (Sr.add s (pl r c p)) := by
  rw [lo, List.getElem?_map, List.getElem?_range h]
  rfl
theorem lo_set (h : c < n) : (lo r s n c).set c (Sr.add s (rot r c)) = lo r s n (c + 1) := by
  apply List.ext_getElem?
  intro p
  rcases Nat.lt_or_ge p n with hp | hp
  · rw [List.getElem?_set, lo_at hp, lo_at hp, lo_len]
    by_cases hcp : c = p
    · subst hcp
      rw [if_pos rfl, if_pos h, pl, if_pos (Nat.lt_succ_self _)]
    · rw [if_neg hcp]
      unfold pl
      by_cases h1 : p < c
      · rw [if_pos h1, if_pos (by omega)]
      · rw [if_neg h1, if_neg (by omega)]
  · rw [List.getElem?_eq_none (by rw [List.length_set, lo_len]; exact hp), List.getElem?_eq_none (by rw [lo_len]; exact hp)]
theorem lo_U : Sr.U (lo r s n c) := fun z hz => by
  obtain ⟨p, _, rfl⟩ := List.mem_map.1 hz
  exact Sr.add_lt _ _
theorem lo_grow (k : Nat) : lo r s (k + 1) 0 = lo r s k 0 ++ [Sr.add s (k : Int)] := by
  unfold lo
  rw [List.range_succ, List.map_append]
  rfl
theorem rot_block (r : Nat → Nat) (p : Nat) : 32 * (p / 32) ≤ rot r p ∧ rot r p < 32 * (p / 32) + 32 := by unfold rot; omega
theorem pl_block (r : Nat → Nat) (c p : Nat) : 32 * (p / 32) ≤ pl r c p ∧ pl r c p < 32 * (p / 32) + 32 := by
  unfold pl
  have := rot_block r p
  split <;> omega
theorem pl_lt (hc : c % 32 = 0) (hcn : c ≤ n) (h : p < n) : pl r c p < n := by
  unfold pl
  have := rot_block r p
  split <;> omega
theorem pl_inj {p' : Nat} (hc : c % 32 = 0) (h : pl r c p = pl r c p') : p = p' := by
  have h1 := pl_block r c p
  have h2 := pl_block r c p'
  have h3 : p / 32 = p' / 32 := by omega
  unfold pl at h
  by_cases h4 : p < c
  · rw [if_pos h4, if_pos (by omega)] at h
    unfold rot at h
    rw [h3] at h
    omega
  · rw [if_neg h4, if_neg (by omega)] at h
    exact h
theorem pl_sur (hc : c % 32 = 0) (hcn : c ≤ n) (h : p < n) : ∃ j, j < n ∧ pl r c j = p := by
  by_cases h4 : p < c
  · refine ⟨32 * (p / 32) + (p % 32 + (32 - r (p / 32) % 32)) % 32, by omega, ?_⟩
    have e1 : (32 * (p / 32) + (p % 32 + (32 - r (p / 32) % 32)) % 32) / 32 = p / 32 := by omega
    unfold pl
    rw [if_pos (by omega)]
    unfold rot
    rw [e1]
    omega
  · exact ⟨p, h, if_neg h4⟩
/-- what has come behind i of them -/
def came (r : Nat → Nat) (c i : Nat) (x : Int) : Prop := x < 0 ∨ ∃ j : Nat, j < i ∧ x = (pl r c j : Int)
structure Ord (s : Int) (r : Nat → Nat) (c i : Nat) (t : Int) (q : Nat) : Prop where
  inv : ∃ P : Int, Inv s P (came r c i) t q ∧ (P = -1 ∨ ∃ j : Nat, j < i ∧ P = (pl r c j : Int))
variable {i : Nat} {t : Int} {q : Nat}
theorem Ord.start (s : Int) (r : Nat → Nat) (c : Nat) : Ord s r c 0 (Sr.add s (-1)) 18446744073709551615 :=
  ⟨-1, (Inv.start s).congr (fun _ => ⟨fun h => h.elim id (fun ⟨j, hj, _⟩ => absurd hj (Nat.not_lt_zero j)), .inl⟩), .inl rfl⟩
theorem Ord.lt (h : Ord s r c i t q) : q < 18446744073709551616 := by
  obtain ⟨P, h1, _⟩ := h.inv
  exact h1.lt
theorem Ord.top (h : Ord s r c i t q) : 0 ≤ t ∧ t < 4294967296 := by
  obtain ⟨P, h1, _⟩ := h.inv
  rw [h1.top]; exact Sr.add_lt _ _
theorem Ord.new (hc : c % 32 = 0) (hi : i < 300) (h : Ord s r c i t q) : look t q (Sr.add s (pl r c i)) = 0 ∧ Ord s r c (i + 1) (nt t (Sr.add s (pl r c i))) (nq t q (Sr.add s (pl r c i))) := by
  obtain ⟨P, h1, h2⟩ := h.inv
  have hb := pl_block r c i
  have hp : -1000 ≤ (pl r c i : Int) ∧ (pl r c i : Int) < 1000000 := by omega
  have hnew : look t q (Sr.add s (pl r c i)) = 0 := by
    rw [h1.look_new hp]
    rcases h2 with rfl | ⟨j, hj, rfl⟩
    · exact .inl (by omega)
    · have hb2 := pl_block r c j
      by_cases h3 : (pl r c j : Int) < (pl r c i : Int)
      · exact .inl h3
      · refine .inr ⟨by omega, fun hcm => ?_⟩
        rcases hcm with hcm | ⟨j', hj', e⟩
        · omega
        · have := pl_inj hc (show pl r c i = pl r c j' by omega)
          omega
  refine ⟨hnew, max P (pl r c i), (h1.come hp hnew).congr (fun x => ?_), ?_⟩
  · constructor
    · rintro (h | ⟨j, hj, e⟩)
      · exact .inl (.inl h)
      · rcases Nat.lt_or_ge j i with h3 | h3
        · exact .inl (.inr ⟨j, h3, e⟩)
        · have : j = i := by omega
          subst this; exact .inr e
    · rintro ((h | ⟨j, hj, e⟩) | h)
      · exact .inl h
      · exact .inr ⟨j, by omega, e⟩
      · exact .inr ⟨i, by omega, h⟩
  · rcases Int.le_total P (pl r c i) with h3 | h3
    · exact .inr ⟨i, by omega, by omega⟩
    · rcases h2 with h2 | ⟨j, hj, e⟩
      · omega
      · exact .inr ⟨j, by omega, by omega⟩
/-- when all have come -/
theorem Ord.all (hc : c % 32 = 0) (hcn : c ≤ n) (hn : 0 < n) (h : Ord s r c n t q) : t = Sr.add s ((n : Int) - 1) ∧ cnt q false 64 = 0 := by
  obtain ⟨P, h1, h2⟩ := h.inv
  obtain ⟨j, hj, e⟩ := pl_sur (r := r) hc hcn (show n - 1 < n by omega)
  have h3 := h1.le (pl r c j) (.inr ⟨j, hj, rfl⟩)
  have hP : P = (n : Int) - 1 := by
    rcases h2 with h2 | ⟨j', hj', e'⟩
    · omega
    · have := pl_lt (r := r) hc hcn hj'
      omega
  refine ⟨by rw [h1.top, hP], cnt_zero fun d hd => (h1.bit d hd).2 ?_⟩
  rcases Int.lt_or_le (P - d) 0 with h4 | h4
  · exact .inl h4
  · obtain ⟨j, hj, e⟩ := pl_sur (r := r) (p := (P - d).toNat) hc hcn (by omega)
    exact .inr ⟨j, hj, by omega⟩
end
end Wn
end Go.Proofs.Ytklkfajbfpihfaa
