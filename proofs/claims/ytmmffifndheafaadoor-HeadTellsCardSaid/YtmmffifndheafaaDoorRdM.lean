/-
  What a read of a lens answers, how many bytes it takes, and its error: reckoned on the bytes that are left. No program is imported.
-/
import Derived.Test.YtmmffifndheafaaDoorNumGet
import Derived.Laws.BitsAllLaws
import Derived.Test.YtmmffifndheafaaDoorMem
namespace Go.Proofs.YtmmffifndheafaaDoor
open Go.RowKit

/-- the number of bytes, the lowest one first -/
def le : List Int → Int
  | [] => 0
  | c :: l => c + 256 * le l
theorem le_bound : ∀ {l : List Int}, (∀ c ∈ l, 0 ≤ c ∧ c ≤ 255) → 0 ≤ le l ∧ le l < 256 ^ l.length
  | [], _ => by simp [le]
  | c :: l, h => by
    have h1 := le_bound (l := l) fun d hd => h d (by simp [hd])
    have h2 := h c (by simp)
    simp only [le, List.length_cons, Int.pow_succ]
    omega
theorem le_bound4 {l : List Int} (h : ∀ c ∈ l, 0 ≤ c ∧ c ≤ 255) {n : Nat} (hl : l.length = n) (hn : n ≤ 4) : 0 ≤ le l ∧ le l ≤ 4294967295 := by
  have h1 := le_bound h
  rw [hl] at h1
  have h2 : (256 : Int) ^ n ≤ 4294967296 := by
    match n, hn with
    | 0, _ => decide
    | 1, _ => decide
    | 2, _ => decide
    | 3, _ => decide
    | 4, _ => decide
  omega
theorem le_bound2 {l : List Int} (h : ∀ c ∈ l, 0 ≤ c ∧ c ≤ 255) {n : Nat} (hl : l.length = n) (hn : n ≤ 2) : 0 ≤ le l ∧ le l ≤ 65535 := by
  have h1 := le_bound h
  rw [hl] at h1
  have h2 : (256 : Int) ^ n ≤ 65536 := by
    match n, hn with
    | 0, _ => decide
    | 1, _ => decide
    | 2, _ => decide
  omega
theorem le_bound1 {l : List Int} (h : ∀ c ∈ l, 0 ≤ c ∧ c ≤ 255) (hl : l.length = 1) : 0 ≤ le l ∧ le l ≤ 255 := by
  have h1 := le_bound h
  rw [hl] at h1
  have h2 : (256 : Int) ^ 1 = 256 := by decide
  omega
/-- the next byte below: shifted, and or -/
theorem or_shift (N c : Int) (h0 : 0 ≤ N) (h1 : N < 16777216) (c0 : 0 ≤ c) (c1 : c ≤ 255) : bits .or .u32 (IntKind.u32.wrap (N * 256)) c = c + 256 * N := by
  obtain ⟨m, rfl⟩ := Int.eq_ofNat_of_zero_le h0
  obtain ⟨d, rfl⟩ := Int.eq_ofNat_of_zero_le c0
  have e : IntKind.u32.wrap ((m : Int) * 256) = ((m * 256 : Nat) : Int) := by rw [IntKind.wrap_u32]; omega
  rw [e, u32_or_nat _ _ (by omega) (by omega)]
  have h : m * 256 ||| d = m * 256 + d := by
    rw [show m * 256 = m <<< 8 by rw [Nat.shiftLeft_eq], ← Nat.shiftLeft_add_eq_or_of_lt (by omega)]
  rw [h]; omega

/-- a word of n bytes -/
def wordR (l : List Int) (n : Nat) : Int × Nat × Nat := if l.length < n then (0, 0, 4) else (le (l.take n), n, 0)
/-- a number, not above the most -/
def numR (l : List Int) (most : Int) : Int × Nat × Nat :=
  if (Vi.get l).2.2 ≠ 0 then (0, 0, (Vi.get l).2.2) else if most < ((Vi.get l).1 : Int) then (0, 0, 5) else (((Vi.get l).1 : Int), (Vi.get l).2.1, 0)
/-- the signed one of a number -/
def zagZ (n : Int) : Int := if n % 2 = 1 then -(n / 2) - 1 else n / 2
theorem zagZ_range {n : Int} (h0 : 0 ≤ n) (h1 : n ≤ 18446744073709551615) : -9223372036854775808 ≤ zagZ n ∧ zagZ n ≤ 9223372036854775807 := by
  unfold zagZ; split <;> omega
/-- a signed one, between two -/
def sigR (l : List Int) (least most : Int) : Int × Nat × Nat :=
  if (Vi.get l).2.2 ≠ 0 then (0, 0, (Vi.get l).2.2) else if zagZ ((Vi.get l).1 : Int) < least ∨ most < zagZ ((Vi.get l).1 : Int) then (0, 0, 5) else (zagZ ((Vi.get l).1 : Int), (Vi.get l).2.1, 0)
/-- so many bytes -/
def rawR (l : List Int) (n : Int) : List Int × Nat × Nat := if n < 0 then ([], 0, 5) else if (l.length : Int) < n then ([], 0, 4) else (l.take n.toNat, n.toNat, 0)
/-- bytes, behind how many they are -/
def fldR (l : List Int) (most : Int) : List Int × Nat × Nat :=
  if (Vi.get l).2.2 ≠ 0 then ([], 0, (Vi.get l).2.2) else if max most 0 < ((Vi.get l).1 : Int) then ([], 0, 6) else if l.length - (Vi.get l).2.1 < (Vi.get l).1 then ([], 0, 4)
  else ((l.drop (Vi.get l).2.1).take (Vi.get l).1, (Vi.get l).2.1 + (Vi.get l).1, 0)

section
variable {l : List Int}
theorem wordR_le (n : Nat) : (wordR l n).2.1 ≤ l.length := by unfold wordR; split <;> simp <;> omega
theorem numR_le (most : Int) : (numR l most).2.1 ≤ l.length := by
  have := (Vi.get_le l).2.2.1
  unfold numR; split
  · simp
  · split
    · simp
    · exact this
theorem sigR_le (least most : Int) : (sigR l least most).2.1 ≤ l.length := by
  have := (Vi.get_le l).2.2.1
  unfold sigR; split
  · simp
  · split
    · simp
    · exact this
theorem rawR_le (n : Int) : (rawR l n).2.1 ≤ l.length := by 
  unfold rawR; split
  · simp
  · split
    · simp
    · show n.toNat ≤ l.length
      omega
theorem fldR_le (most : Int) : (fldR l most).2.1 ≤ l.length := by
  have := (Vi.get_le l).2.2.1
  unfold fldR; split
  · simp
  · split
    · simp
    · split
      · simp
      · show (Vi.get l).2.1 + (Vi.get l).1 ≤ l.length
        omega
end
end Go.Proofs.YtmmffifndheafaaDoor
