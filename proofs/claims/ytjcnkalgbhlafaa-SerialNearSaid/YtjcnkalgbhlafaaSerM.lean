/-
  Numbers within less than half a round of one another: the newest one is the one farthest on, whatever the order. No program is imported.
-/
import Derived.Test.YtjcnkalgbhlafaaSerN
namespace Go.Proofs.Ytjcnkalgbhlafaa
open Go.RowKit
namespace Sr
/-- less than half a round -/
def H (os : List Int) : Prop := ∀ o ∈ os, 0 ≤ o ∧ o < 2147483648
theorem after_off (s : Int) {o p : Int} (ho : 0 ≤ o ∧ o < 2147483648) (hp : 0 ≤ p ∧ p < 2147483648) : after (add s o) (add s p) = decide (p < o) := by
  have h1 : way (add s p) (add s o) = ((s + o) % 4294967296 - (s + p) % 4294967296) % 4294967296 := rfl
  unfold after
  rw [h1]
  exact decide_eq_decide.2 (by omega)
theorem best_off (s : Int) (f : Bool) : ∀ (os : List Int) (p : Int), H os → (0 ≤ p ∧ p < 2147483648) →
    ∃ q, (q = p ∨ q ∈ os) ∧ best f (add s p) (os.map (add s)) = add s q ∧ (∀ o, (o = p ∨ o ∈ os) → if f then o ≤ q else q ≤ o)
  | [], p, _, _ => ⟨p, .inl rfl, rfl, fun o h => by
      have : o = p := by simpa using h
      subst this
      cases f <;> simp⟩
  | o :: os, p, hos, hp => by
    have ho := hos o (by simp)
    have hos' : H os := fun x hx => hos x (List.mem_cons_of_mem _ hx)
    rw [List.map_cons, best]
    by_cases hs : st f (add s o) (add s p) = true
    · rw [if_pos hs]
      obtain ⟨q, hq, he, hm⟩ := best_off s f os o hos' ho
      refine ⟨q, .inr (by simpa using hq), he, fun x hx => ?_⟩
      rcases hx with rfl | hx
      · have h2 := hm o (.inl rfl)
        cases f with
        | true =>
          have h3 : decide (x < o) = true := by rw [← after_off s ho hp]; exact hs
          have h3 := of_decide_eq_true h3
          simp only [if_true] at h2 ⊢; omega
        | false =>
          have h3 : decide (o < x) = true := by rw [← after_off s hp ho]; exact hs
          have h3 := of_decide_eq_true h3
          simp only [Bool.false_eq_true, if_false] at h2 ⊢; omega
      · exact hm x (by simpa using hx)
    · rw [if_neg hs]
      obtain ⟨q, hq, he, hm⟩ := best_off s f os p hos' hp
      refine ⟨q, by rcases hq with h | h; exact .inl h; exact .inr (List.mem_cons_of_mem _ h), he, fun x hx => ?_⟩
      rcases hx with rfl | hx
      · exact hm x (.inl rfl)
      · rcases List.mem_cons.1 hx with rfl | hx
        · have h2 := hm p (.inl rfl)
          cases f with
          | true =>
            have h3 : decide (p < x) = false := by rw [← after_off s ho hp]; simpa [st] using hs
            have h3 := of_decide_eq_false h3
            simp only [if_true] at h2 ⊢; omega
          | false =>
            have h3 : decide (x < p) = false := by rw [← after_off s hp ho]; simpa [st] using hs
            have h3 := of_decide_eq_false h3
            simp only [Bool.false_eq_true, if_false] at h2 ⊢; omega
        · exact hm x (.inr hx)
theorem bst_off (s : Int) (f : Bool) {os : List Int} (h : H os) (hn : os ≠ []) : ∃ q ∈ os, bst f (os.map (add s)) = add s q ∧ ∀ o ∈ os, if f then o ≤ q else q ≤ o := by
  cases os with
  | nil => exact absurd rfl hn
  | cons o os =>
    obtain ⟨q, hq, he, hm⟩ := best_off s f os o (fun x hx => h x (List.mem_cons_of_mem _ hx)) (h o (by simp))
    exact ⟨q, by simpa using hq, he, fun x hx => hm x (by simpa using hx)⟩
/-- whatever the order -/
theorem bst_back (s : Int) (f : Bool) {os : List Int} (h : H os) : bst f (os.map (add s)).reverse = bst f (os.map (add s)) := by
  by_cases hn : os = []
  · subst hn; rfl
  obtain ⟨q, hq, he, hm⟩ := bst_off s f h hn
  obtain ⟨q', hq', he', hm'⟩ := bst_off s f (os := os.reverse) (fun x hx => h x (List.mem_reverse.1 hx)) (by simpa using hn)
  rw [← List.map_reverse, he, he']
  have h1 := hm q' (List.mem_reverse.1 hq')
  have h2 := hm' q (List.mem_reverse.2 hq)
  have : q = q' := by cases f <;> simp at h1 h2 <;> omega
  rw [this]
/-- all others are ahead of the newest one -/
theorem near_new (s : Int) {os : List Int} (h : H os) {x : Int} (hx : x ∈ os.map (add s)) (hne : x ≠ bst true (os.map (add s))) : after (bst true (os.map (add s))) x = true := by
  obtain ⟨o, ho, rfl⟩ := List.mem_map.1 hx
  obtain ⟨q, hq, he, hm⟩ := bst_off s true h (by intro e; subst e; simp at ho)
  rw [he] at hne ⊢
  rw [after_off s (h q hq) (h o ho)]
  have h1 := hm o ho
  simp only [if_true] at h1
  have h2 : o ≠ q := fun e => hne (by rw [e])
  exact decide_eq_true (by omega)
/-- .. and after the oldest one -/
theorem near_old (s : Int) {os : List Int} (h : H os) {x : Int} (hx : x ∈ os.map (add s)) (hne : x ≠ bst false (os.map (add s))) : after x (bst false (os.map (add s))) = true := by
  obtain ⟨o, ho, rfl⟩ := List.mem_map.1 hx
  obtain ⟨q, hq, he, hm⟩ := bst_off s false h (by intro e; subst e; simp at ho)
  rw [he] at hne ⊢
  rw [after_off s (h o ho) (h q hq)]
  have h1 := hm o ho
  simp only [Bool.false_eq_true, if_false] at h1
  have h2 : o ≠ q := fun e => hne (by rw [e])
  exact decide_eq_true (by omega)
end Sr
end Go.Proofs.Ytjcnkalgbhlafaa
