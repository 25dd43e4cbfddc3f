/-
  Contracts of layer 10: Way, Add, After, Diff, and the document's.
-/
import Derived.Test.YtklkfajbfpihfaaSerN
import Derived.Test.YtklkfajbfpihfaaRows
import Derived.WalkSpells
import Derived.Lib.Hide
namespace Go.Proofs.Ytklkfajbfpihfaa
open Go.RowKit
set_option maxRecDepth 100000

theorem ret_bool {a b : Bool} (h : a = b) : Ending.returned (.bool a) = .returned (.bool b) := by rw [h]
theorem way_any (a b : Int) (w : World) (_ha : 0 ≤ a ∧ a < 4294967296) (_hb : 0 ≤ b ∧ b < 4294967296) :
    Calls Try.prog 33 #[.int .u32 a, .int .u32 b] w fun e w' => e = .returned (.int .u32 (Sr.way a b)) ∧ w' = w := by
  go_enter Try.func33, Try.ntmps33
  go_wp2
  go_ret
  exact ⟨ret_int rfl, rfl⟩
theorem rway_any (a b : Int) (w : World) (_ha : 0 ≤ a ∧ a < 4294967296) (_hb : 0 ≤ b ∧ b < 4294967296) :
    Calls Try.prog 24 #[.int .u32 a, .int .u32 b] w fun e w' => e = .returned (.int .u32 (Sr.way a b)) ∧ w' = w := by
  go_enter Try.func24, Try.ntmps24
  go_wp2
  go_ret
  exact ⟨ret_int (show (b + 4294967296 - a) % 4294967296 = (b - a) % 4294967296 by omega), rfl⟩
theorem sadd_any (a n : Int) (w : World) (_ha : 0 ≤ a ∧ a < 4294967296) :
    Calls Try.prog 20 #[.int .u32 a, .int .i64 n] w fun e w' => e = .returned (.int .u32 (Sr.add a n)) ∧ w' = w := by
  go_enter Try.func20, Try.ntmps20
  go_wp2
  go_ret
  exact ⟨ret_int (show (a + n % 4294967296) % 4294967296 = (a + n) % 4294967296 by omega), rfl⟩
theorem tmod_round (n : Int) : ∃ r : Int, n.tmod 4294967296 = r ∧ -4294967296 < r ∧ r < 4294967296 ∧ (∀ a : Int, (a + r) % 4294967296 = (a + n) % 4294967296) := by
  refine ⟨_, rfl, ?_⟩
  have h := Int.tmod_add_mul_tdiv n 4294967296
  rcases Int.le_total 0 n with h0 | h0
  · rw [Int.tmod_eq_emod_of_nonneg h0]
    refine ⟨by omega, by omega, fun a => by omega⟩
  · have h1 : n.tmod 4294967296 = -((-n) % 4294967296) := by
      have := Int.neg_tmod (a := -n) (b := 4294967296)
      rw [Int.neg_neg] at this
      rw [this, Int.tmod_eq_emod_of_nonneg (by omega)]
    rw [h1]
    refine ⟨by omega, by omega, fun a => by omega⟩
theorem sradd_any (a n : Int) (w : World) (_ha : 0 ≤ a ∧ a < 4294967296) (_hn : -9223372036854775808 ≤ n ∧ n < 9223372036854775808) :
    Calls Try.prog 21 #[.int .u32 a, .int .i64 n] w fun e w' => e = .returned (.int .u32 (Sr.add a n)) ∧ w' = w := by
  obtain ⟨r, hr, h1, h2, h3⟩ := tmod_round n
  have H3 : Hid ((a + r) % 4294967296 = (a + n) % 4294967296) := h3 a
  clear h3
  go_enter Try.func21, Try.ntmps21
  by_cases h0 : r < 0
  · go_wp2
    go_ret
    exact ⟨ret_int ((by omega : (a + (r + 4294967296)) % 4294967296 = (a + r) % 4294967296).trans H3.out), rfl⟩
  · go_wp2
    go_ret
    exact ⟨ret_int H3.out, rfl⟩

theorem after_any (a b : Int) (w : World) (ha : 0 ≤ a ∧ a < 4294967296) (hb : 0 ≤ b ∧ b < 4294967296) :
    Calls Try.prog 32 #[.int .u32 a, .int .u32 b] w fun e w' => e = .returned (.bool (Sr.after a b)) ∧ w' = w := by
  have K := way_any b a w hb ha
  have hw := Sr.way_lt b a
  have H : Hid (Sr.after a b = decide (1 ≤ Sr.way b a ∧ Sr.way b a < 2147483648)) := rfl
  generalize Sr.way b a = v at *
  generalize Sr.after a b = r at *
  go_enter Try.func32, Try.ntmps32
  go_wp2_with fail
  refine K.mono ?_
  rintro e w' ⟨rfl, rfl⟩
  by_cases h1 : v = 0
  · subst h1
    go_wp2
    go_ret
    exact ⟨ret_bool (by rw [H.out]; rfl), rfl⟩
  · have h2 : 0 < v := by omega
    by_cases h3 : v < 2147483648
    · go_wp2
      go_ret
      exact ⟨ret_bool (by rw [H.out]; symm; apply decide_eq_true; omega), rfl⟩
    · go_wp2
      go_ret
      exact ⟨ret_bool (by rw [H.out]; exact decide_eq_decide.2 (by omega)), rfl⟩
theorem rafter_any (a b : Int) (w : World) (ha : 0 ≤ a ∧ a < 4294967296) (hb : 0 ≤ b ∧ b < 4294967296) :
    Calls Try.prog 23 #[.int .u32 a, .int .u32 b] w fun e w' => e = .returned (.bool (Sr.after a b)) ∧ w' = w := by
  have K := fun w => rway_any b a w hb ha
  have hw := Sr.way_lt b a
  have H : Hid (Sr.after a b = decide (1 ≤ Sr.way b a ∧ Sr.way b a < 2147483648)) := rfl
  generalize Sr.way b a = v at *
  generalize Sr.after a b = r at *
  have KH := Lib.hid K
  clear K
  go_enter Try.func23, Try.ntmps23
  go_wp2_with fail
  refine (KH.out _).mono ?_
  rintro e w' ⟨rfl, rfl⟩
  by_cases h1 : 1 ≤ v
  · go_wp2_with fail
    refine (KH.out _).mono ?_
    rintro e w' ⟨rfl, rfl⟩
    by_cases h3 : v < 2147483648
    · go_wp2
      go_ret
      exact ⟨ret_bool (by rw [H.out]; symm; apply decide_eq_true; omega), rfl⟩
    · go_wp2
      go_ret
      exact ⟨ret_bool (by rw [H.out]; exact decide_eq_decide.2 (by omega)), rfl⟩
  · go_wp2
    go_ret
    exact ⟨ret_bool (by rw [H.out]; symm; apply decide_eq_false; omega), rfl⟩
end Go.Proofs.Ytklkfajbfpihfaa
