/-
  Plain mathematics of layer 1 (varint): the numbers of bytes, and where they are. No program is imported.
-/
import Derived.Test.YtcheojenmepgpaaNumGet
namespace Go.Proofs.Ytcheojenmepgpaa
namespace Vi

theorem get_size_pos {l : List Int} (h : (get l).2.2 = 0) : 0 < (get l).2.1 ∧ l ≠ [] := by
  refine ⟨?_, fun e => by subst e; simp [get, high] at h⟩
  unfold get at h ⊢
  split
  · rename_i h1; rw [if_pos h1] at h; simp at h
  · rename_i h1
    rw [if_neg h1] at h
    split
    · rename_i h2; rw [if_pos h2] at h; simp at h
    · rename_i h2
      rw [if_neg h2] at h
      split
      · rename_i h3; rw [if_pos h3] at h; simp at h
      · simp

/-- the numbers of bytes, and where they are, the first at p -/
def tl (l : List Int) (p : Nat) : List (Nat × Nat) :=
  if _h : (get l).2.2 = 0 then (p, (get l).1) :: tl (l.drop (get l).2.1) (p + (get l).2.1) else []
termination_by l.length
decreasing_by
  have h1 := get_size_pos ‹_›
  have h2 : 0 < l.length := List.length_pos_iff.2 h1.2
  rw [List.length_drop]; omega

/-- the error behind them, if bytes are left -/
def er (l : List Int) : Nat :=
  if l = [] then 0 else if _h : (get l).2.2 = 0 then er (l.drop (get l).2.1) else (get l).2.2
termination_by l.length
decreasing_by
  have h1 := get_size_pos ‹_›
  have h2 : 0 < l.length := List.length_pos_iff.2 h1.2
  rw [List.length_drop]; omega

theorem tl_ok {l : List Int} {p : Nat} (h : (get l).2.2 = 0) : tl l p = (p, (get l).1) :: tl (l.drop (get l).2.1) (p + (get l).2.1) := by
  rw [tl, dif_pos h]
theorem tl_no {l : List Int} {p : Nat} (h : (get l).2.2 ≠ 0) : tl l p = [] := by
  rw [tl, dif_neg h]
theorem tl_nil (p : Nat) : tl [] p = [] := tl_no (by decide)
theorem er_nil : er [] = 0 := by rw [er, if_pos rfl]
theorem er_ok {l : List Int} (h : (get l).2.2 = 0) : er l = er (l.drop (get l).2.1) := by
  rw [er, if_neg (get_size_pos h).2, dif_pos h]
theorem er_no {l : List Int} (h : (get l).2.2 ≠ 0) (hn : l ≠ []) : er l = (get l).2.2 := by
  rw [er, if_neg hn, dif_neg h]

theorem tl_length (l : List Int) (p : Nat) : (tl l p).length ≤ l.length := by
  generalize hn : l.length = n
  induction n using Nat.strongRecOn generalizing l p with
  | _ n ih =>
    by_cases h : (get l).2.2 = 0
    · have h1 := get_size_pos h
      have h2 : 0 < l.length := List.length_pos_iff.2 h1.2
      rw [tl_ok h, List.length_cons]
      have := ih (l.drop (get l).2.1).length (by rw [List.length_drop]; omega) (l.drop (get l).2.1) (p + (get l).2.1) rfl
      rw [List.length_drop] at this
      omega
    · rw [tl_no h]; simp

/-- where the next one stands behind those that have come -/
def after : List (Nat × Nat) → Nat
  | [] => 0
  | [x] => x.1 + (enc x.2).length
  | _ :: y :: r => after (y :: r)
theorem after_snoc (pre : List (Nat × Nat)) (x : Nat × Nat) : after (pre ++ [x]) = x.1 + (enc x.2).length := by
  induction pre with
  | nil => rfl
  | cons a pre ih =>
    cases pre with
    | nil => rfl
    | cons b pre => exact ih

/-- the numbers pre of zs have come, p bytes are gone by -/
def Gone (zs : List Int) (pre : List (Nat × Nat)) (p : Nat) : Prop :=
  p ≤ zs.length ∧ tl zs 0 = pre ++ tl (zs.drop p) p ∧ er zs = er (zs.drop p) ∧ after pre = p
theorem gone_nil (zs : List Int) : Gone zs [] 0 := ⟨by omega, by simp, by simp, rfl⟩
theorem gone_more {zs : List Int} (hz : ∀ c ∈ zs, 0 ≤ c ∧ c ≤ 255) {pre : List (Nat × Nat)} {p : Nat} (h : Gone zs pre p) (hg : (get (zs.drop p)).2.2 = 0) :
    Gone zs (pre ++ [(p, (get (zs.drop p)).1)]) (p + (get (zs.drop p)).2.1) ∧ (enc (get (zs.drop p)).1).length = (get (zs.drop p)).2.1 ∧ 0 < (get (zs.drop p)).2.1 ∧ p + (get (zs.drop p)).2.1 ≤ zs.length := by
  obtain ⟨h1, h2, h3, h4⟩ := h
  have hp := get_put (fun c hc => hz c (List.mem_of_mem_drop hc)) hg
  have hl := hp.2.2.1
  rw [List.length_drop] at hl
  refine ⟨⟨by omega, ?_, ?_, ?_⟩, hp.2.2.2.2, hp.2.1, by omega⟩
  · rw [h2, tl_ok hg, List.drop_drop, List.append_assoc]; rfl
  · rw [h3, er_ok hg, List.drop_drop]
  · rw [after_snoc, hp.2.2.2.2]
theorem gone_stop {zs : List Int} {pre : List (Nat × Nat)} {p : Nat} (h : Gone zs pre p) (hg : (get (zs.drop p)).2.2 ≠ 0) : tl zs 0 = pre := by
  rw [h.2.1, tl_no hg, List.append_nil]
theorem gone_end {zs : List Int} {pre : List (Nat × Nat)} {p : Nat} (h : Gone zs pre p) (hp : p = zs.length) : tl zs 0 = pre ∧ er zs = 0 := by
  subst hp
  have := h.2.2.1
  rw [List.drop_length, er_nil] at this
  refine ⟨gone_stop h ?_, this⟩
  rw [List.drop_length]; decide
theorem gone_err {zs : List Int} {pre : List (Nat × Nat)} {p : Nat} (h : Gone zs pre p) (hg : (get (zs.drop p)).2.2 ≠ 0) (hp : p < zs.length) : er zs = (get (zs.drop p)).2.2 := by
  rw [h.2.2.1, er_no hg]
  intro e
  have := congrArg List.length e
  simp at this; omega
theorem gone_len {zs : List Int} {pre : List (Nat × Nat)} {p : Nat} (h : Gone zs pre p) : pre.length ≤ zs.length := by
  have := tl_length zs 0
  rw [h.2.1, List.length_append] at this
  omega

theorem gone_full_from {zs : List Int} (hz : ∀ c ∈ zs, 0 ≤ c ∧ c ≤ 255) (m : Nat) : ∀ (pre : List (Nat × Nat)) (p : Nat), zs.length - p ≤ m → Gone zs pre p → ∃ q, Gone zs (tl zs 0) q ∧ (get (zs.drop q)).2.2 ≠ 0 := by
  induction m with
  | zero =>
    intro pre p hm h
    have hp := h.1
    have hg : (get (zs.drop p)).2.2 ≠ 0 := by
      rw [List.drop_eq_nil_of_le (by omega)]; decide
    exact ⟨p, by rw [gone_stop h hg]; exact h, hg⟩
  | succ m ih =>
    intro pre p hm h
    by_cases hg : (get (zs.drop p)).2.2 = 0
    · have h2 := gone_more hz h hg
      exact ih _ _ (by have := h2.2.2.1; omega) h2.1
    · exact ⟨p, by rw [gone_stop h hg]; exact h, hg⟩
theorem gone_full {zs : List Int} (hz : ∀ c ∈ zs, 0 ≤ c ∧ c ≤ 255) : ∃ q, Gone zs (tl zs 0) q ∧ (get (zs.drop q)).2.2 ≠ 0 :=
  gone_full_from hz zs.length [] 0 (by omega) (gone_nil zs)

end Vi
end Go.Proofs.Ytcheojenmepgpaa
