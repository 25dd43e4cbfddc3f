/-
  Contracts of the leaf functions of layer 1 that only reckon: bits.Len64, varint.Size, Zig, Zag, and the document's Zig, Zag.
-/
import Derived.Test.YtcheojenmepgpaaRows
import Derived.Test.YtcheojenmepgpaaNum
import Derived.WalkKit
import Derived.WalkLawsBesides
namespace Go.Proofs.Ytcheojenmepgpaa
open Go.RowKit
set_option maxRecDepth 100000

theorem ret_int {k : IntKind} {a b : Int} (h : a = b) : Ending.returned (.int k a) = .returned (.int k b) := by rw [h]

theorem u64_not (y : Int) (h0 : 0 ≤ y) (h1 : y ≤ 18446744073709551615) : bits .xor .u64 18446744073709551615 y = 18446744073709551615 - y := by
  obtain ⟨m, rfl⟩ := Int.eq_ofNat_of_zero_le h0
  have h := u64_xor_nat 18446744073709551615 m (by omega) (by omega)
  have e : 18446744073709551615 ^^^ m = 18446744073709551615 - m := by
    have hx := congrArg BitVec.toNat (BitVec.xor_allOnes (x := BitVec.ofNat 64 m))
    rw [BitVec.toNat_xor, BitVec.toNat_not, BitVec.toNat_allOnes, BitVec.toNat_ofNat, Nat.mod_eq_of_lt (by omega)] at hx
    rw [Nat.xor_comm]
    exact hx
  rw [e] at h
  rw [show (18446744073709551615 : Int) = ((18446744073709551615 : Nat) : Int) from rfl, h]
  omega

theorem zig_val (n : Int) (h0 : n < 0) (h1 : -9223372036854775808 ≤ n) : bits .xor .u64 IntKind.u64.max (IntKind.u64.wrap (IntKind.u64.wrap n * 2)) = -2 * n - 1 := by
  rw [show IntKind.u64.max = 18446744073709551615 from rfl, u64_not _ (by rw [IntKind.wrap_u64]; omega) (by rw [IntKind.wrap_u64]; omega), IntKind.wrap_u64, IntKind.wrap_u64]
  omega

theorem zig_neg (n : Int) (w : World) (h0 : n < 0) (h1 : -9223372036854775808 ≤ n) :
    Calls Try.prog 10 #[.int .i64 n] w fun e w' => e = .returned (.int .u64 (-2 * n - 1)) ∧ w = w' := by
  go_enter Try.func10, Try.ntmps10
  go_wp2
  go_ret
  exact ⟨ret_int (zig_val n h0 h1), rfl⟩
theorem zig_pos (n : Int) (w : World) (h0 : 0 ≤ n) (h1 : n ≤ 9223372036854775807) :
    Calls Try.prog 10 #[.int .i64 n] w fun e w' => e = .returned (.int .u64 (2 * n)) ∧ w = w' := by
  go_enter Try.func10, Try.ntmps10
  go_wp2
  go_ret
  exact ⟨ret_int (by omega), rfl⟩
theorem rzig_neg (n : Int) (w : World) (h0 : n < 0) (h1 : -9223372036854775808 ≤ n) :
    Calls Try.prog 11 #[.int .i64 n] w fun e w' => e = .returned (.int .u64 (-2 * n - 1)) ∧ w = w' := by
  go_enter Try.func11, Try.ntmps11
  go_wp2
  go_ret
  exact ⟨ret_int (by omega), rfl⟩
theorem rzig_pos (n : Int) (w : World) (h0 : 0 ≤ n) (h1 : n ≤ 9223372036854775807) :
    Calls Try.prog 11 #[.int .i64 n] w fun e w' => e = .returned (.int .u64 (2 * n)) ∧ w = w' := by
  go_enter Try.func11, Try.ntmps11
  go_wp2
  go_ret
  exact ⟨ret_int (by omega), rfl⟩
theorem zag_odd (n : Int) (w : World) (h0 : 0 ≤ n) (h1 : n ≤ 18446744073709551615) (ho : (n % 2 == 1) = true) :
    Calls Try.prog 12 #[.int .u64 n] w fun e w' => e = .returned (.int .i64 (-(n / 2) - 1)) ∧ w = w' := by
  go_enter Try.func12, Try.ntmps12
  go_wp2
  go_ret
  exact ⟨ret_int (by omega), rfl⟩
theorem zag_even (n : Int) (w : World) (h0 : 0 ≤ n) (h1 : n ≤ 18446744073709551615) (ho : (n % 2 == 1) = false) :
    Calls Try.prog 12 #[.int .u64 n] w fun e w' => e = .returned (.int .i64 (n / 2)) ∧ w = w' := by
  go_enter Try.func12, Try.ntmps12
  go_wp2
  go_ret
  exact ⟨ret_int (by omega), rfl⟩
theorem rzag_odd (n : Int) (w : World) (h0 : 0 ≤ n) (h1 : n ≤ 18446744073709551615) (ho : (n % 2 == 1) = true) :
    Calls Try.prog 15 #[.int .u64 n] w fun e w' => e = .returned (.int .i64 (-(n / 2) - 1)) ∧ w = w' := by
  go_enter Try.func15, Try.ntmps15
  go_wp2
  go_ret
  exact ⟨ret_int (by omega), rfl⟩
theorem rzag_even (n : Int) (w : World) (h0 : 0 ≤ n) (h1 : n ≤ 18446744073709551615) (ho : (n % 2 == 1) = false) :
    Calls Try.prog 15 #[.int .u64 n] w fun e w' => e = .returned (.int .i64 (n / 2)) ∧ w = w' := by
  go_enter Try.func15, Try.ntmps15
  go_wp2
  go_ret
  exact ⟨ret_int (by omega), rfl⟩
/-- how many bits each number below 256 has: the library's table -/
def tab : ByteArray := ⟨#[0, 1, 2, 2, 3, 3, 3, 3, 4, 4, 4, 4, 4, 4, 4, 4, 5, 5, 5, 5, 5, 5, 5, 5, 5, 5, 5, 5, 5, 5, 5, 5, 6, 6, 6, 6, 6, 6, 6, 6, 6, 6, 6, 6, 6, 6, 6, 6, 6, 6, 6, 6, 6, 6, 6, 6, 6, 6, 6, 6, 6, 6, 6, 6, 7, 7, 7, 7, 7, 7, 7, 7, 7, 7, 7, 7, 7, 7, 7, 7, 7, 7, 7, 7, 7, 7, 7, 7, 7, 7, 7, 7, 7, 7, 7, 7, 7, 7, 7, 7, 7, 7, 7, 7, 7, 7, 7, 7, 7, 7, 7, 7, 7, 7, 7, 7, 7, 7, 7, 7, 7, 7, 7, 7, 7, 7, 7, 7, 8, 8, 8, 8, 8, 8, 8, 8, 8, 8, 8, 8, 8, 8, 8, 8, 8, 8, 8, 8, 8, 8, 8, 8, 8, 8, 8, 8, 8, 8, 8, 8, 8, 8, 8, 8, 8, 8, 8, 8, 8, 8, 8, 8, 8, 8, 8, 8, 8, 8, 8, 8, 8, 8, 8, 8, 8, 8, 8, 8, 8, 8, 8, 8, 8, 8, 8, 8, 8, 8, 8, 8, 8, 8, 8, 8, 8, 8, 8, 8, 8, 8, 8, 8, 8, 8, 8, 8, 8, 8, 8, 8, 8, 8, 8, 8, 8, 8, 8, 8, 8, 8, 8, 8, 8, 8, 8, 8, 8, 8, 8, 8, 8, 8, 8, 8, 8, 8, 8, 8, 8, 8, 8, 8, 8, 8, 8, 8]⟩
theorem tab_size : tab.size = 256 := by decide +kernel
theorem tab_log2 : ∀ i : Fin 256, (tab[i.val]'(by rw [tab_size]; exact i.isLt)).toNat = if i.val = 0 then 0 else i.val.log2 + 1 := by decide +kernel
theorem tab_at (i : Nat) (h : i < tab.size) (h0 : i ≠ 0) : (tab[i]'h).toNat = i.log2 + 1 := by
  have := tab_log2 ⟨i, by rw [tab_size] at h; exact h⟩
  rw [if_neg h0] at this
  exact this

theorem log2_shift (k : Nat) : ∀ n : Nat, 2 ^ k ≤ n → n.log2 = (n / 2 ^ k).log2 + k := by
  induction k with
  | zero => intro n _; simp
  | succ k ih =>
    intro n h
    have h1 : 2 ^ k ≤ n / 2 := by rw [Nat.pow_succ] at h; omega
    have h2 : 1 ≤ 2 ^ k := Nat.one_le_two_pow
    rw [Nat.log2_def, if_pos (by omega), ih (n / 2) h1, Nat.div_div_eq_div_mul, Nat.pow_succ, Nat.mul_comm 2]
    omega

/-- the last step of each way of Len64: k bits gone by, y left -/
theorem len64_num (n y : Int) (k m : Nat) (hk : k ≤ 56) (h0 : 1 ≤ n) (hy0 : 1 ≤ y) (hy1 : y ≤ 255) (hy : y = n / (m : Int)) (hm : m = 2 ^ k) (hge : (m : Int) ≤ n) :
    wrap64 ((k : Int) + wrap64 ((y.toNat.log2 + 1 : Nat) : Int)) = ((n.toNat.log2 + 1 : Nat) : Int) := by
  obtain ⟨j, rfl⟩ := Int.eq_ofNat_of_zero_le (show 0 ≤ n by omega)
  have e : y.toNat = j / 2 ^ k := by rw [hy, ← hm, ← Int.natCast_ediv, Int.toNat_natCast]
  have s := log2_shift k j (by rw [← hm]; omega)
  have l : y.toNat.log2 < 8 := (Nat.log2_lt (by omega)).2 (by omega)
  rw [Int.toNat_natCast, s, ← e]
  clear hm e s
  unfold wrap64
  omega
theorem len64_fin (n y : Int) (k m : Nat) (hk : k ≤ 56) (h0 : 1 ≤ n) (hy0 : 1 ≤ y) (hy1 : y ≤ 255) (hy : y = n / (m : Int)) (hm : m = 2 ^ k) (hge : (m : Int) ≤ n) :
    ∀ hb : y.toNat < tab.size, wrap64 ((k : Int) + wrap64 ((tab[y.toNat]'hb).toNat : Int)) = ((n.toNat.log2 + 1 : Nat) : Int) := by
  have hz : y.toNat ≠ 0 := by omega
  have h := len64_num n y k m hk h0 hy0 hy1 hy hm hge
  intro hb
  rw [tab_at y.toNat hb hz]
  exact h

theorem len64_any (n : Int) (w : World) (h0 : 1 ≤ n) (h1 : n ≤ 18446744073709551615) :
    Calls Try.prog 21 #[.int .u64 n] w fun e w' => e = .returned (.int .i64 (n.toNat.log2 + 1 : Nat)) ∧ w = w' := by
  go_enter Try.func21, Try.ntmps21
  go_wp2
  all_goals (go_ret; refine ⟨ret_int ?_, rfl⟩)
  · exact len64_fin n _ 56 72057594037927936 (by omega) h0 (by omega) (by omega) (by omega) (by decide +kernel) (by omega) _
  · exact len64_fin n _ 48 281474976710656 (by omega) h0 (by omega) (by omega) (by omega) (by decide +kernel) (by omega) _
  · exact len64_fin n _ 40 1099511627776 (by omega) h0 (by omega) (by omega) (by omega) (by decide +kernel) (by omega) _
  · exact len64_fin n _ 32 4294967296 (by omega) h0 (by omega) (by omega) (by omega) (by decide +kernel) (by omega) _
  · exact len64_fin n _ 24 16777216 (by omega) h0 (by omega) (by omega) (by omega) (by decide +kernel) (by omega) _
  · exact len64_fin n _ 16 65536 (by omega) h0 (by omega) (by omega) (by omega) (by decide +kernel) (by omega) _
  · exact len64_fin n _ 8 256 (by omega) h0 (by omega) (by omega) (by omega) (by decide +kernel) (by omega) _
  · have := len64_fin n n 0 1 (by omega) h0 (by omega) (by omega) (by omega) (by decide +kernel) (by omega) (Nat.lt_of_lt_of_eq (show n.toNat < 256 by omega) tab_size.symm)
    rw [show ((0 : Nat) : Int) = 0 from rfl, Int.zero_add] at this
    exact this

theorem or1 (n : Int) (h0 : 0 ≤ n) (h1 : n ≤ 18446744073709551615) : bits .or .u64 n 1 = ((n.toNat ||| 1 : Nat) : Int) := by
  obtain ⟨m, rfl⟩ := Int.eq_ofNat_of_zero_le h0
  exact u64_or_nat m 1 (by omega) (by omega)

theorem size_any (n : Int) (w : World) (h0 : 0 ≤ n) (h1 : n ≤ 18446744073709551615) :
    Calls Try.prog 14 #[.int .u64 n] w fun e w' => e = .returned (.int .i64 (Vi.enc n.toNat).length) ∧ w = w' := by
  have ho := Vi.or_one n.toNat
  have hs := Vi.size_log2 n.toNat
  have hl := Vi.log2_lt64 (show n.toNat ||| 1 < 18446744073709551616 by omega)
  have e1 := or1 n h0 h1
  have hm1 : 1 ≤ n.toNat ||| 1 := by omega
  have hm2 : n.toNat ||| 1 ≤ 18446744073709551615 := by omega
  generalize n.toNat ||| 1 = m at *
  have E1 : Hid (bits .or .u64 n 1 = (m : Int)) := e1
  have HS : Hid ((m.log2 + 1 + 7 - 1) / 7 = (Vi.enc n.toNat).length) := hs
  clear e1 hs ho
  go_enter Try.func14, Try.ntmps14
  go_wp2_with fail
  rw [E1.out]
  refine (len64_any _ _ (by omega) (by omega)).mono ?_
  rintro e w' ⟨rfl, rfl⟩
  rw [Int.toNat_natCast]
  go_wp2
  go_ret
  refine ⟨ret_int ?_, rfl⟩
  rw [← HS.out]
  omega
end Go.Proofs.Ytcheojenmepgpaa
