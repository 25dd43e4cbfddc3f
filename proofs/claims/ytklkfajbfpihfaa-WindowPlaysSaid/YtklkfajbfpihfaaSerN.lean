/-
  Numbers that go round: way, add, after, diff; the newest and the oldest one of a list. No program is imported.
-/
import Derived.Test.YtklkfajbfpihfaaBts
namespace Go.Proofs.Ytklkfajbfpihfaa
open Go.RowKit
namespace Sr
def way (a b : Int) : Int := (b - a) % 4294967296
def add (a n : Int) : Int := (a + n) % 4294967296
def after (a b : Int) : Bool := decide (1 ≤ way b a ∧ way b a < 2147483648)
def diff (a b : Int) : Int := if 2147483648 ≤ way b a then way b a - 4294967296 else way b a
theorem way_lt (a b : Int) : 0 ≤ way a b ∧ way a b < 4294967296 := by unfold way; omega
theorem add_lt (a b : Int) : 0 ≤ add a b ∧ add a b < 4294967296 := by unfold add; omega
theorem diff_lt (a b : Int) : -2147483648 ≤ diff a b ∧ diff a b < 2147483648 := by
  have := way_lt b a
  unfold diff
  split <;> omega
/-- numbers of 32 bits -/
def U (zs : List Int) : Prop := ∀ z ∈ zs, 0 ≤ z ∧ z < 4294967296
/-- is n to be taken in the stead of now? -/
def st (nw : Bool) (n now : Int) : Bool := if nw then after n now else after now n
/-- those that are taken, one behind the other -/
def tk (nw : Bool) : Bool → Int → List Int → List Int
  | _, _, [] => []
  | f, now, z :: zs => if (f || st nw z now) = true then z :: tk nw false z zs else tk nw false now zs
def best (nw : Bool) : Int → List Int → Int
  | now, [] => now
  | now, z :: zs => best nw (if st nw z now = true then z else now) zs
/-- the one that is taken last; 0 without any -/
def bst (nw : Bool) : List Int → Int
  | [] => 0
  | z :: zs => best nw z zs
theorem tk_last (nw : Bool) : ∀ (zs : List Int) (now : Int), (tk nw false now zs).getLastD now = best nw now zs
  | [], _ => rfl
  | z :: zs, now => by
    unfold tk best
    by_cases h : st nw z now = true
    · rw [if_pos (by simp [h]), if_pos h, ← tk_last nw zs z, List.getLastD_cons]
    · rw [if_neg (by simp [h]), if_neg h, tk_last nw zs now]
theorem tk_bst (nw : Bool) : ∀ (zs : List Int), (tk nw true 0 zs).getLastD 0 = bst nw zs
  | [] => rfl
  | z :: zs => by
    show (z :: tk nw false z zs).getLastD 0 = best nw z zs
    rw [List.getLastD_cons, tk_last]
theorem tk_pos (nw : Bool) (zs : List Int) : decide (0 < (tk nw true 0 zs).length) = decide (0 < zs.length) := by
  cases zs with
  | nil => rfl
  | cons z zs => rw [tk, if_pos (by simp)]; simp
theorem tk_len (nw : Bool) : ∀ (zs : List Int) (f : Bool) (now : Int), (tk nw f now zs).length ≤ zs.length
  | [], _, _ => Nat.le_refl _
  | z :: zs, f, now => by
    unfold tk
    split
    · simpa using tk_len nw zs false z
    · have := tk_len nw zs false now; simp; omega
/-- one step of the loop over the list -/
theorem tk_step {zs : List Int} {k : Nat} {z : Int} (nw f : Bool) (now : Int) (h : zs[k]? = some z) :
    tk nw f now (zs.drop k) = if (f || st nw z now) = true then z :: tk nw false z (zs.drop (k + 1)) else tk nw false now (zs.drop (k + 1)) := by
  have hd : zs.drop k = z :: zs.drop (k + 1) := by
    have hk : k < zs.length := by
      rcases Nat.lt_or_ge k zs.length with h1 | h1
      · exact h1
      · rw [List.getElem?_eq_none h1] at h; cases h
    rw [List.getElem?_eq_getElem hk] at h
    injection h with h
    rw [← h, List.getElem_cons_drop]
  rw [hd, tk]
theorem best_step {zs : List Int} {k : Nat} {z : Int} (nw : Bool) (now : Int) (h : zs[k]? = some z) :
    best nw now (zs.drop k) = best nw (if st nw z now = true then z else now) (zs.drop (k + 1)) := by
  have hd : zs.drop k = z :: zs.drop (k + 1) := by
    have hk : k < zs.length := by
      rcases Nat.lt_or_ge k zs.length with h1 | h1
      · exact h1
      · rw [List.getElem?_eq_none h1] at h; cases h
    rw [List.getElem?_eq_getElem hk] at h
    injection h with h
    rw [← h, List.getElem_cons_drop]
  rw [hd, best]
theorem last_next {L : List Int} {j : Nat} {x d : Int} (h : L[j]? = some x) : (L.take (j + 1)).getLastD d = x := by
  rw [List.take_add_one, h]
  simp
theorem bst_mem (nw : Bool) : ∀ (zs : List Int) (now : Int), best nw now zs = now ∨ best nw now zs ∈ zs
  | [], _ => .inl rfl
  | z :: zs, now => by
    unfold best
    rcases bst_mem nw zs (if st nw z now = true then z else now) with h | h
    · rw [h]
      by_cases hs : st nw z now = true
      · rw [if_pos hs]; exact .inr (by simp)
      · rw [if_neg hs]; exact .inl rfl
    · exact .inr (List.mem_cons_of_mem _ h)
theorem best_U {nw : Bool} {zs : List Int} {now : Int} (h : U zs) (hn : 0 ≤ now ∧ now < 4294967296) : 0 ≤ best nw now zs ∧ best nw now zs < 4294967296 := by
  rcases bst_mem nw zs now with e | e
  · rw [e]; exact hn
  · exact h _ e
theorem bst_U {nw : Bool} {zs : List Int} (h : U zs) : 0 ≤ bst nw zs ∧ bst nw zs < 4294967296 := by
  cases zs with
  | nil => exact ⟨Int.le_refl _, (by decide : (0 : Int) < 4294967296)⟩
  | cons z zs => exact best_U (fun c hc => h c (List.mem_cons_of_mem _ hc)) (h z (by simp))
end Sr
end Go.Proofs.Ytklkfajbfpihfaa
