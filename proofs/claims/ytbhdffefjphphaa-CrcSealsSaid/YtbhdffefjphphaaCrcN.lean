/-
  The mathematics of layer 4: a word's shifts, sums, turned bits. No program is imported.
-/
import Derived.WalkKit
namespace Go.Proofs.Ytbhdffefjphphaa
namespace Cr
def poly : Nat := 3988292384
def ones : Nat := 4294967295
/-- a word by one shift -/
def sh1 (n : Nat) : Nat := (n / 2) ^^^ (if n % 2 = 1 then poly else 0)
/-- .. by k shifts -/
def shn : Nat → Nat → Nat
  | 0, n => n
  | k + 1, n => shn k (sh1 n)
/-- the state behind bytes -/
def crc (s : Nat) (zs : List Int) : Nat := zs.foldl (fun s b => shn 8 (s ^^^ b.toNat)) s
/-- the sum of bytes -/
def sum (zs : List Int) : Nat := ones - crc ones zs
/-- a word's bytes, the lowest one first -/
def le4 (n : Nat) : List Int := [((n % 256 : Nat) : Int), ((n / 256 % 256 : Nat) : Int), ((n / 65536 % 256 : Nat) : Int), ((n / 16777216 % 256 : Nat) : Int)]

theorem xor_self (a : Nat) : a ^^^ a = 0 := Nat.xor_self a
theorem xor_div (a b k : Nat) : (a ^^^ b) / 2 ^ k = (a / 2 ^ k) ^^^ (b / 2 ^ k) := by
  rw [← Nat.shiftRight_eq_div_pow, ← Nat.shiftRight_eq_div_pow, ← Nat.shiftRight_eq_div_pow, Nat.shiftRight_xor_distrib]
theorem xor_mod (a b k : Nat) : (a ^^^ b) % 2 ^ k = (a % 2 ^ k) ^^^ (b % 2 ^ k) := Nat.xor_mod_two_pow
theorem xor_lt {a b : Nat} (k : Nat) (ha : a < 2 ^ k) (hb : b < 2 ^ k) : a ^^^ b < 2 ^ k := Nat.xor_lt_two_pow ha hb
theorem xor_left4 (a b c d : Nat) : (a ^^^ b) ^^^ (c ^^^ d) = (a ^^^ c) ^^^ (b ^^^ d) := by
  rw [Nat.xor_assoc, Nat.xor_assoc, ← Nat.xor_assoc b, Nat.xor_comm b, Nat.xor_assoc c]

theorem sh1_xor (a b : Nat) : sh1 (a ^^^ b) = sh1 a ^^^ sh1 b := by
  have h2 := xor_div a b 1
  have hm := xor_mod a b 1
  simp only [Nat.pow_one] at h2 hm
  unfold sh1
  rw [h2, xor_left4]
  congr 1
  rcases Nat.mod_two_eq_zero_or_one a with ha | ha <;> rcases Nat.mod_two_eq_zero_or_one b with hb | hb <;> simp [hm, ha, hb]
theorem sh1_zero : sh1 0 = 0 := by decide
theorem sh1_two (y : Nat) : sh1 (y * 2) = y := by unfold sh1; simp
theorem sh1_lt {n : Nat} (h : n < 2 ^ 32) : sh1 n < 2 ^ 32 := by
  unfold sh1
  refine xor_lt 32 (by omega) ?_
  split <;> simp [poly]
theorem sh1_pos {n : Nat} (h0 : n ≠ 0) (h : n < 2 ^ 32) : sh1 n ≠ 0 := by
  unfold sh1
  split
  · intro e
    have e2 : n / 2 = poly := by
      have h2 := congrArg (· ^^^ poly) e
      simpa [Nat.xor_assoc] using h2
    rw [poly] at e2
    omega
  · simp; omega

theorem shn_add (a b n : Nat) : shn (a + b) n = shn b (shn a n) := by
  induction a generalizing n with
  | zero => simp [shn]
  | succ a ih => rw [Nat.succ_add]; simp only [shn]; exact ih _
theorem shn_xor (k a b : Nat) : shn k (a ^^^ b) = shn k a ^^^ shn k b := by
  induction k generalizing a b with
  | zero => rfl
  | succ k ih => simp only [shn]; rw [sh1_xor, ih]
theorem shn_zero (k : Nat) : shn k 0 = 0 := by
  induction k with
  | zero => rfl
  | succ k ih => simp only [shn]; rw [sh1_zero, ih]
theorem shn_pow (k y : Nat) : shn k (y * 2 ^ k) = y := by
  induction k generalizing y with
  | zero => simp [shn]
  | succ k ih => simp only [shn]; rw [Nat.pow_succ, ← Nat.mul_assoc, sh1_two, ih]
theorem shn_lt {n : Nat} (k : Nat) (h : n < 2 ^ 32) : shn k n < 2 ^ 32 := by
  induction k generalizing n with
  | zero => exact h
  | succ k ih => exact ih (sh1_lt h)
theorem shn_pos {n : Nat} (k : Nat) (h0 : n ≠ 0) (h : n < 2 ^ 32) : shn k n ≠ 0 := by
  induction k generalizing n with
  | zero => exact h0
  | succ k ih => exact ih (sh1_pos h0 h) (sh1_lt h)
theorem add_xor (a b k : Nat) (h : a < 2 ^ k) : a ^^^ (b * 2 ^ k) = b * 2 ^ k + a := by
  apply Nat.eq_of_testBit_eq
  intro i
  rw [Nat.testBit_xor, Nat.mul_comm b, Nat.testBit_two_pow_mul, Nat.testBit_two_pow_mul_add _ h]
  by_cases hi : i < k
  · have : ¬ k ≤ i := by omega
    simp [hi, this]
  · have h1 : k ≤ i := by omega
    have h2 : a.testBit i = false := Nat.testBit_lt_two_pow (Nat.lt_of_lt_of_le h (Nat.pow_le_pow_right (by omega) h1))
    simp [hi, h1, h2]
theorem split (k n : Nat) : (n % 2 ^ k) ^^^ ((n / 2 ^ k) * 2 ^ k) = n := by
  rw [add_xor _ _ _ (Nat.mod_lt _ (Nat.two_pow_pos k))]
  exact Nat.div_add_mod' n (2 ^ k)
theorem shn_split (k n : Nat) : shn k n = shn k (n % 2 ^ k) ^^^ (n / 2 ^ k) := by
  have h := congrArg (shn k) (split k n)
  rw [shn_xor, shn_pow] at h
  exact h.symm

/-- a step by the table -/
theorem step (s : Nat) (b : Nat) (hb : b < 256) : shn 8 (s ^^^ b) = shn 8 ((s % 256) ^^^ b) ^^^ (s / 256) := by
  have h := shn_split 8 (s ^^^ b)
  rw [xor_mod, xor_div] at h
  simp only [Nat.reducePow] at h
  rw [Nat.mod_eq_of_lt hb, Nat.div_eq_of_lt hb, Nat.xor_zero] at h
  exact h
/-- four bytes at a time -/
theorem four (s a b c d : Nat) : shn 8 (shn 8 (shn 8 (shn 8 (s ^^^ a) ^^^ b) ^^^ c) ^^^ d) = shn 32 (s ^^^ (a ^^^ (b * 256) ^^^ (c * 65536) ^^^ (d * 16777216))) := by
  have hb : shn 8 b = shn 16 (b * 256) := by rw [show (16 : Nat) = 8 + 8 from rfl, shn_add, shn_pow 8 b]
  have hc : shn 8 c = shn 24 (c * 65536) := by rw [show (24 : Nat) = 16 + 8 from rfl, shn_add, shn_pow 16 c]
  have hd : shn 8 d = shn 32 (d * 16777216) := by rw [show (32 : Nat) = 24 + 8 from rfl, shn_add, shn_pow 24 d]
  rw [shn_xor 8 _ d, hd, shn_xor 8 _ c, hc, shn_xor 8 _ b, hb]
  simp only [← shn_add, shn_xor 8, Nat.reduceAdd]
  simp only [← shn_xor, Nat.xor_assoc]
theorem tables (x : Nat) : shn 32 x = shn 32 (x % 256) ^^^ shn 24 (x / 256 % 256) ^^^ shn 16 (x / 65536 % 256) ^^^ shn 8 (x / 16777216 % 256) ^^^ (x / 4294967296) := by
  have h1 := shn_split 8 x
  have h2 := shn_split 8 (x / 256)
  have h3 := shn_split 8 (x / 65536)
  have h4 := shn_split 8 (x / 16777216)
  simp only [Nat.reducePow, Nat.div_div_eq_div_mul, Nat.reduceMul] at h1 h2 h3 h4
  have e1 : shn 32 x = shn 32 (x % 256) ^^^ shn 24 (x / 256) := by
    rw [show (32 : Nat) = 8 + 24 from rfl, shn_add, h1, shn_xor, ← shn_add]
  have e2 : shn 24 (x / 256) = shn 24 (x / 256 % 256) ^^^ shn 16 (x / 65536) := by
    rw [show (24 : Nat) = 8 + 16 from rfl, shn_add, h2, shn_xor, ← shn_add]
  have e3 : shn 16 (x / 65536) = shn 16 (x / 65536 % 256) ^^^ shn 8 (x / 16777216) := by
    rw [show (16 : Nat) = 8 + 8 from rfl, shn_add, h3, shn_xor, ← shn_add]
  rw [e1, e2, e3, h4]
  simp only [Nat.xor_assoc]

theorem crc_nil (s : Nat) : crc s [] = s := rfl
theorem crc_cons (s : Nat) (b : Int) (zs : List Int) : crc s (b :: zs) = crc (shn 8 (s ^^^ b.toNat)) zs := rfl
theorem crc_append (s : Nat) (x y : List Int) : crc s (x ++ y) = crc (crc s x) y := by simp [crc]
theorem byte_xor_lt {s : Nat} {b : Nat} (hs : s < 2 ^ 32) (hb : b < 256) : s ^^^ b < 2 ^ 32 := xor_lt 32 hs (by omega)
theorem crc_lt {s : Nat} {zs : List Int} (hs : s < 2 ^ 32) (hz : ∀ z ∈ zs, z < 256) : crc s zs < 2 ^ 32 := by
  induction zs generalizing s with
  | nil => exact hs
  | cons b zs ih =>
    rw [crc_cons]
    refine ih (shn_lt 8 (byte_xor_lt hs ?_)) (fun z h => hz z (List.mem_cons_of_mem _ h))
    have := hz b (List.mem_cons_self ..)
    omega
theorem not_xor {s : Nat} (h : s < 2 ^ 32) : ones - s = s ^^^ ones := by
  have hx := congrArg BitVec.toNat (BitVec.xor_allOnes (x := BitVec.ofNat 32 s))
  rw [BitVec.toNat_xor, BitVec.toNat_not, BitVec.toNat_allOnes, BitVec.toNat_ofNat, Nat.mod_eq_of_lt h] at hx
  simp only [ones]
  rw [show (4294967295 : Nat) = 2 ^ 32 - 1 from rfl, hx]
theorem ones_lt : ones < 2 ^ 32 := by decide
theorem sum_lt (zs : List Int) : sum zs < 2 ^ 32 := by unfold sum ones; omega

/-- three lists, xored -/
def xor3 (x y z : List Int) : List Int := (x.zip (y.zip z)).map fun t => ((t.1.toNat ^^^ t.2.1.toNat ^^^ t.2.2.toNat : Nat) : Int)
theorem crc_xor3 (s1 s2 s3 : Nat) : ∀ x y z : List Int, x.length = y.length → y.length = z.length → crc (s1 ^^^ s2 ^^^ s3) (xor3 x y z) = crc s1 x ^^^ crc s2 y ^^^ crc s3 z := by
  intro x
  induction x generalizing s1 s2 s3 with
  | nil =>
    intro y z h1 h2
    obtain rfl : y = [] := List.eq_nil_of_length_eq_zero (by simpa using h1.symm)
    obtain rfl : z = [] := List.eq_nil_of_length_eq_zero (by simpa using h2.symm)
    rfl
  | cons a x ih =>
    intro y z h1 h2
    cases y with
    | nil => simp at h1
    | cons b y =>
      cases z with
      | nil => simp at h2
      | cons c z =>
        have h := ih (shn 8 (s1 ^^^ a.toNat)) (shn 8 (s2 ^^^ b.toNat)) (shn 8 (s3 ^^^ c.toNat)) y z (by simpa using h1) (by simpa using h2)
        rw [crc_cons, crc_cons, crc_cons, ← h]
        show crc _ (xor3 (a :: x) (b :: y) (c :: z)) = _
        rw [show xor3 (a :: x) (b :: y) (c :: z) = ((a.toNat ^^^ b.toNat ^^^ c.toNat : Nat) : Int) :: xor3 x y z from rfl, crc_cons, Int.toNat_natCast]
        congr 1
        rw [← shn_xor, ← shn_xor]
        congr 1
        rw [xor_left4 (s1 ^^^ s2) s3, xor_left4 s1 s2, ← xor_left4 (s1 ^^^ a.toNat)]
theorem sum_xor3 (x y z : List Int) (h1 : x.length = y.length) (h2 : y.length = z.length) (hx : ∀ v ∈ x, v < 256) (hy : ∀ v ∈ y, v < 256) (hz : ∀ v ∈ z, v < 256) (hw : ∀ v ∈ xor3 x y z, v < 256) :
    sum (xor3 x y z) = sum x ^^^ sum y ^^^ sum z := by
  unfold sum
  rw [not_xor (crc_lt ones_lt hx), not_xor (crc_lt ones_lt hy), not_xor (crc_lt ones_lt hz), not_xor (crc_lt ones_lt hw)]
  have h := crc_xor3 ones ones ones x y z h1 h2
  rw [Nat.xor_self, Nat.zero_xor] at h
  rw [h]
  generalize crc ones x = a
  generalize crc ones y = b
  generalize crc ones z = c
  rw [xor_left4 a ones b ones, Nat.xor_self, Nat.xor_zero, Nat.xor_assoc (a ^^^ b)]

/-! ### turned bits -/
theorem crc_lin (s e : Nat) (zs : List Int) : crc (s ^^^ e) zs = crc s zs ^^^ shn (8 * zs.length) e := by
  induction zs generalizing s e with
  | nil => rfl
  | cons b zs ih =>
    rw [crc_cons, crc_cons, Nat.xor_assoc, Nat.xor_comm e, ← Nat.xor_assoc, shn_xor, ih, ← shn_add]
    congr 2
    simp; omega
theorem shn_bit {b k : Nat} (h : b ≤ k) : shn k (2 ^ b) = shn (k - b) 1 := by
  have e := shn_add b (k - b) (2 ^ b)
  rw [show b + (k - b) = k by omega] at e
  have h1 := shn_pow b 1
  rw [Nat.one_mul] at h1
  rw [e, h1]
/-- a bit turned in a byte -/
theorem crc_flip (s : Nat) (zs : List Int) (j b : Nat) (c : Int) (hb : b < 8) (hj : zs[j]? = some c) :
    crc s (zs.set j ((c.toNat ^^^ 2 ^ b : Nat) : Int)) = crc s zs ^^^ shn (8 * (zs.length - j) - b) 1 := by
  induction zs generalizing s j with
  | nil => simp at hj
  | cons z zs ih =>
    cases j with
    | zero =>
      obtain rfl : z = c := by simpa using hj
      rw [List.set_cons_zero, crc_cons, crc_cons, Int.toNat_natCast, ← Nat.xor_assoc, shn_xor, crc_lin, shn_bit (show b ≤ 8 by omega), ← shn_add]
      congr 2
      simp; omega
    | succ j =>
      rw [List.set_cons_succ, crc_cons, crc_cons, ih _ j (by simpa using hj)]
      congr 2
      simp
/-- what is kept while bits are turned one by one: p is what is left of the pattern, i how many bits are gone by -/
theorem turn_even (i p : Nat) (hp : p % 2 = 0) : p * 2 ^ i = p / 2 * 2 ^ (i + 1) := by
  obtain ⟨q, rfl⟩ : ∃ q, p = 2 * q := ⟨p / 2, by omega⟩
  rw [Nat.mul_div_cancel_left _ (by omega), Nat.pow_succ, Nat.mul_comm 2 q, Nat.mul_assoc, Nat.mul_comm 2]
theorem turn_odd {M i p : Nat} (hp : p % 2 = 1) (hi : i ≤ M) : shn M (p * 2 ^ i) = shn M (p / 2 * 2 ^ (i + 1)) ^^^ shn (M - i) 1 := by
  have e : p * 2 ^ i = 2 ^ i ^^^ (p / 2 * 2 ^ (i + 1)) := by
    rw [add_xor _ _ _ (Nat.pow_lt_pow_right (by omega) (by omega)), Nat.pow_succ]
    obtain ⟨q, rfl⟩ : ∃ q, p = 2 * q + 1 := ⟨p / 2, by omega⟩
    rw [show (2 * q + 1) / 2 = q by omega, Nat.add_mul, Nat.one_mul, Nat.mul_comm 2 q, Nat.mul_assoc, Nat.mul_comm 2]
  rw [e, shn_xor, shn_bit hi, Nat.xor_comm]
theorem le4_crc (s c : Nat) (hc : c < 2 ^ 32) : crc s (le4 c) = shn 32 (s ^^^ c) := by
  simp only [le4, crc_cons, crc_nil, Int.toNat_natCast]
  rw [four]
  congr 2
  have h1 := split 8 c
  have h2 := split 8 (c / 256)
  have h3 := split 8 (c / 65536)
  simp only [Nat.reducePow] at h1 h2 h3
  have a1 := add_xor (c % 256) (c / 256 % 256) 8 (Nat.mod_lt _ (by decide))
  have a2 := add_xor (c / 256 % 256 * 256 + c % 256) (c / 65536 % 256) 16 (by simp only [Nat.reducePow]; omega)
  have a3 := add_xor (c / 65536 % 256 * 65536 + (c / 256 % 256 * 256 + c % 256)) (c / 16777216 % 256) 24 (by simp only [Nat.reducePow]; omega)
  simp only [Nat.reducePow] at a1 a2 a3
  rw [a1, a2, a3]
  omega
theorem sum_xor (zs : List Int) (hz : ∀ z ∈ zs, z < 256) : sum zs = crc ones zs ^^^ ones := not_xor (crc_lt ones_lt hz)
/-- the state behind sealed bytes is always one -/
theorem sealed (zs : List Int) (hz : ∀ z ∈ zs, z < 256) : crc ones (zs ++ le4 (sum zs)) = shn 32 ones := by
  rw [crc_append, le4_crc _ _ (sum_lt zs), sum_xor zs hz, ← Nat.xor_assoc, Nat.xor_self, Nat.zero_xor]
theorem turned {zs cur : List Int} {M t : Nat} (hz : ∀ z ∈ zs, z < 256) (ht : t ≠ 0) (ht2 : t < 2 ^ 32) (h : crc ones cur = crc ones (zs ++ le4 (sum zs)) ^^^ shn M t) (xs : List Int) (hx : ∀ z ∈ xs, z < 256) : xs ++ le4 (sum xs) ≠ cur := by
  intro e
  rw [← e, sealed xs hx, sealed zs hz] at h
  have h2 := congrArg (shn 32 ones ^^^ ·) h
  simp only [← Nat.xor_assoc, Nat.xor_self, Nat.zero_xor] at h2
  exact shn_pos M ht ht2 h2.symm
theorem le4_len (n : Nat) : (le4 n).length = 4 := rfl
theorem le4_lt (n : Nat) : ∀ z ∈ le4 n, z < 256 := by
  intro z hz
  simp only [le4, List.mem_cons, List.not_mem_nil, or_false] at hz
  omega
theorem le4_ge (n : Nat) : ∀ z ∈ le4 n, 0 ≤ z := by
  intro z hz
  simp only [le4, List.mem_cons, List.not_mem_nil, or_false] at hz
  omega
end Cr
end Go.Proofs.Ytbhdffefjphphaa
