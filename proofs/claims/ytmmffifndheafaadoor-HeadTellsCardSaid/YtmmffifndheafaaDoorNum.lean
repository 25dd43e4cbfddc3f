/-
  Plain mathematics of layer 1 (varint): the bytes of a number, the number that bytes begin with. No program is imported.
-/
import Derived.Laws.BitsAllLaws
import Derived.Laws.BitsLemmas
namespace Go.Proofs.YtmmffifndheafaaDoor
namespace Vi

/-- the bytes of a number: seven bits each, the lowest first -/
def enc (n : Nat) : List Int := if n < 128 then [(n : Int)] else ((n % 128 + 128 : Nat) : Int) :: enc (n / 128)
termination_by n
decreasing_by omega

theorem enc_small {n : Nat} (h : n < 128) : enc n = [(n : Int)] := by rw [enc, if_pos h]
theorem enc_big {n : Nat} (h : 128 ≤ n) : enc n = ((n % 128 + 128 : Nat) : Int) :: enc (n / 128) := by rw [enc, if_neg (by omega)]

theorem enc_pos (n : Nat) : 0 < (enc n).length := by
  by_cases h : n < 128
  · simp [enc_small h]
  · simp [enc_big (Nat.le_of_not_lt h)]

theorem enc_le (k : Nat) : ∀ n : Nat, n < 128 ^ (k + 1) → (enc n).length ≤ k + 1 := by
  induction k with
  | zero => intro n h; rw [enc_small (by simpa using h)]; simp
  | succ k ih =>
    intro n h
    by_cases hn : n < 128
    · simp [enc_small hn]
    · rw [enc_big (Nat.le_of_not_lt hn)]
      have := ih (n / 128) (by rw [Nat.pow_succ] at h; omega)
      simp only [List.length_cons]; omega

theorem enc_le10 {n : Nat} (h : n < 18446744073709551616) : (enc n).length ≤ 10 := enc_le 9 n (by omega)

/-- n has k bytes: then n < 128 ^ k, and at k > 1 at least 128 ^ (k - 1) -/
theorem enc_lt (n : Nat) : n < 128 ^ (enc n).length := by
  induction n using Nat.strongRecOn with
  | _ n ih =>
    by_cases hn : n < 128
    · simp [enc_small hn]; exact hn
    · have h := ih (n / 128) (by omega)
      rw [enc_big (Nat.le_of_not_lt hn), List.length_cons, Nat.pow_succ]
      omega

theorem enc_ge (n : Nat) (h : 1 < (enc n).length) : 128 ^ ((enc n).length - 1) ≤ n := by
  induction n using Nat.strongRecOn with
  | _ n ih =>
    by_cases hn : n < 128
    · simp [enc_small hn] at h
    · have hb := enc_big (Nat.le_of_not_lt hn)
      rw [hb, List.length_cons, Nat.add_sub_cancel]
      by_cases h1 : 1 < (enc (n / 128)).length
      · have hi := ih (n / 128) (by omega) h1
        have hp := enc_pos (n / 128)
        have e : (enc (n / 128)).length = (enc (n / 128)).length - 1 + 1 := by omega
        rw [e, Nat.pow_succ]; omega
      · have hp := enc_pos (n / 128)
        have e : (enc (n / 128)).length = 1 := by omega
        rw [e]; omega

theorem enc_mono {a b : Nat} (h : a ≤ b) : (enc a).length ≤ (enc b).length := by
  by_cases h1 : 1 < (enc a).length
  · have h2 := enc_ge a h1
    have h3 := enc_lt b
    have h4 : 128 ^ ((enc a).length - 1) < 128 ^ (enc b).length := by omega
    have := (Nat.pow_lt_pow_iff_right (by decide : 1 < 128)).1 h4
    omega
  · have := enc_pos b; omega

theorem enc_byte (n : Nat) : ∀ c ∈ enc n, 0 ≤ c ∧ c ≤ 255 := by
  induction n using Nat.strongRecOn with
  | _ n ih =>
    by_cases hn : n < 128
    · rw [enc_small hn]; intro c hc; simp at hc; subst hc; omega
    · rw [enc_big (Nat.le_of_not_lt hn)]
      intro c hc
      simp only [List.mem_cons] at hc
      rcases hc with rfl | hc
      · omega
      · exact ih (n / 128) (by omega) c hc

/-! ### sizes by the length of the bits -/
theorem log2_div128 {n : Nat} (h : 128 ≤ n) : n.log2 = (n / 128).log2 + 7 := by
  have hd : 1 ≤ n / 128 := by omega
  have e : ∀ m : Nat, 2 ≤ m → m.log2 = (m / 2).log2 + 1 := fun m hm => by rw [Nat.log2_def, if_pos hm]
  rw [e n (by omega), e (n / 2) (by omega), e (n / 2 / 2) (by omega), e (n / 2 / 2 / 2) (by omega), e (n / 2 / 2 / 2 / 2) (by omega), e (n / 2 / 2 / 2 / 2 / 2) (by omega), e (n / 2 / 2 / 2 / 2 / 2 / 2) (by omega)]
  rw [show n / 2 / 2 / 2 / 2 / 2 / 2 / 2 = n / 128 by omega]

theorem log2_small {n : Nat} (h : n < 128) : n.log2 ≤ 6 := by
  by_cases h0 : n = 0
  · subst h0; decide
  · have := (Nat.log2_lt h0).2 (show n < 2 ^ 7 by omega); omega

theorem enc_log2 (n : Nat) : (enc n).length = n.log2 / 7 + 1 := by
  induction n using Nat.strongRecOn with
  | _ n ih =>
    by_cases hn : n < 128
    · have := log2_small hn
      rw [enc_small hn]; simp only [List.length_singleton]; omega
    · have h := ih (n / 128) (by omega)
      rw [enc_big (Nat.le_of_not_lt hn), List.length_cons, h, log2_div128 (Nat.le_of_not_lt hn)]
      omega

theorem or_one (n : Nat) : n ||| 1 = n + (1 - n % 2) := by
  have h : n ||| 1 = n / 2 * 2 + 1 := by
    have h1 : n ||| 1 = (n / 2 * 2) ||| 1 := by
      apply Nat.eq_of_testBit_eq
      intro i
      cases i with
      | zero => simp
      | succ i =>
        rw [Nat.testBit_or, Nat.testBit_or, Nat.testBit_succ, Nat.testBit_succ (n / 2 * 2)]
        rw [show n / 2 * 2 / 2 = n / 2 by omega]
    rw [h1]
    exact nat_join 1 (n / 2 * 2) 1 (by omega) (by omega)
  omega

theorem enc_or_one (n : Nat) : (enc (n ||| 1)).length = (enc n).length := by
  have h := or_one n
  by_cases hn : n < 128
  · rw [enc_small hn, enc_small (by omega)]; rfl
  · rw [enc_big (Nat.le_of_not_lt hn), enc_big (by omega), List.length_cons, List.length_cons, show (n ||| 1) / 128 = n / 128 by omega]

theorem size_log2 (n : Nat) : ((n ||| 1).log2 + 1 + 7 - 1) / 7 = (enc n).length := by
  rw [← enc_or_one, enc_log2]; omega

theorem log2_lt64 {n : Nat} (h : n < 18446744073709551616) : n.log2 ≤ 63 := by
  by_cases h0 : n = 0
  · subst h0; decide
  · have := (Nat.log2_lt h0).2 (show n < 2 ^ 64 by omega); omega

end Vi
end Go.Proofs.YtmmffifndheafaaDoor
