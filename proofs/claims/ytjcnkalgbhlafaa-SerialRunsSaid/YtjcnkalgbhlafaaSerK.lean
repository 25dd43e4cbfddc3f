/-
  The chapter's examples; the walks of the laws SerialWays and SerialSigns: they return true.
-/
import Derived.Test.YtjcnkalgbhlafaaSerL
namespace Go.Proofs.Ytjcnkalgbhlafaa
open Go.RowKit
set_option maxRecDepth 100000

theorem sknown_any (w : World) : Calls Try.prog 8 #[] w fun e w' => e = .returned (.bool true) ∧ Below w.heap.size w w' := by
  obtain ⟨w1, hw1⟩ : ∃ w1, w1 = w.alloc (.cells #[.int .u32 4294967294, .int .u32 1, .int .u32 4294967295] 22) := ⟨_, rfl⟩
  have hb : Below w.heap.size w w1 := by rw [hw1]; exact (Below.refl _ w).alloc (Nat.le_refl _) _
  have K := newest_any 3 3 (some ⟨w.heap.size, 0, none⟩) [4294967294, 1, 4294967295] w1 rfl (by omega) (by intro z hz; simp at hz; omega) (Nat.le_refl _) (by rw [hw1]; exact (Nums.new .u32 w 22 [4294967294, 1, 4294967295] _ rfl).mono (by simp))
  have KA := fun w => after_any 2 4294967295 w (by omega) (by omega)
  have KD := fun w => diff_any 2 4294967295 w (by omega) (by omega)
  rw [show Sr.bst true [4294967294, 1, 4294967295] = 1 from by decide, show decide (0 < 3) = true from rfl, hw1] at K
  rw [show Sr.after 2 4294967295 = true from by decide] at KA
  rw [show Sr.diff 2 4294967295 = 3 from by decide] at KD
  rw [hw1] at hb
  clear hw1
  have HA := Lib.hid KA
  have HD := Lib.hid KD
  clear KA KD
  go_enter Try.func8, Try.ntmps8
  go_wp2_with fail
  refine K.mono ?_
  rintro e w2 ⟨rfl, hb2⟩
  go_wp2_with fail
  refine (HA.out _).mono ?_
  rintro e w3 ⟨rfl, rfl⟩
  go_wp2_with fail
  refine (HD.out _).mono ?_
  rintro e w4 ⟨rfl, rfl⟩
  go_wp2
  go_ret
  exact ⟨rfl, hb.trans (hb2.mono (by simp))⟩

theorem sadd_way (a : Int) : Sr.way a (Sr.add a 7) = 7 := by unfold Sr.way Sr.add; omega
theorem sadd_diff (a b : Int) (h : 0 ≤ a ∧ a < 4294967296) : Sr.add b (Sr.diff a b) = a := by
  have h1 : Sr.way b a = (a - b) % 4294967296 := rfl
  unfold Sr.add Sr.diff
  split <;> omega

set_option maxHeartbeats 2000000 in
theorem walk_sways (a b n : Int) (w0 : (Lit.int .u32 a).wf = true) (w1 : (Lit.int .u32 b).wf = true) (w2 : (Lit.int .i64 n).wf = true) (w : World) :
    Calls Try.prog 3 #[.int .u32 a, .int .u32 b, .int .i64 n] w fun e w' => e = .returned (.bool true) ∧ Below w.heap.size w w' := by
  have ha := bounds_u32 w0
  have hb := bounds_u32 w1
  have hn := bounds_i64 w2
  clear w0 w1 w2
  have ha' : 0 ≤ a ∧ a < 4294967296 := by omega
  have hb' : 0 ≤ b ∧ b < 4294967296 := by omega
  have k1 := Lib.hid (fun w => way_any a b w ha' hb')
  have k2 := Lib.hid (fun w => rway_any a b w ha' hb')
  have k3 := Lib.hid (fun w => sadd_any a n w ha')
  have k4 := Lib.hid (fun w => sradd_any a n w ha' (by omega))
  have k5 := Lib.hid (fun w => after_any a b w ha' hb')
  have k6 := Lib.hid (fun w => rafter_any a b w ha' hb')
  have k7 := Lib.hid (fun w => after_any b a w hb' ha')
  have k8 := Lib.hid (fun w => rafter_any b a w hb' ha')
  have k9 := Lib.hid (fun w => diff_any a b w ha' hb')
  have k10 := Lib.hid (fun w => rdiff_any a b w ha' hb')
  have k11 := Lib.hid (fun w => sadd_any b (Sr.diff a b) w hb')
  have k12 := Lib.hid (fun w => sadd_any a 7 w ha')
  have k13 := Lib.hid (fun w => way_any a (Sr.add a 7) w ha' (Sr.add_lt a 7))
  rw [sadd_way a] at k13
  rw [sadd_diff a b ha'] at k11
  generalize Sr.way a b = wy at *
  generalize Sr.add a n = an at *
  generalize Sr.after a b = x at *
  generalize Sr.after b a = y at *
  generalize Sr.diff a b = d at *
  generalize Sr.add a 7 = a7 at *
  clear ha hb hn ha' hb'
  go_enter Try.func3, Try.ntmps3
  go_wp2_with fail
  refine (sknown_any _).mono ?_
  rintro e w1 ⟨rfl, hb1⟩
  go_wp2_with fail
  refine (k1.out _).mono ?_
  rintro e w2 ⟨rfl, rfl⟩
  go_wp2_with fail
  refine (k2.out _).mono ?_
  rintro e w3 ⟨rfl, rfl⟩
  go_wp2_with fail
  refine (k3.out _).mono ?_
  rintro e w4 ⟨rfl, rfl⟩
  go_wp2_with fail
  refine (k4.out _).mono ?_
  rintro e w5 ⟨rfl, rfl⟩
  go_wp2_with fail
  refine (k5.out _).mono ?_
  rintro e w6 ⟨rfl, rfl⟩
  go_wp2_with fail
  refine (k6.out _).mono ?_
  rintro e w7 ⟨rfl, rfl⟩
  go_wp2_with fail
  refine (k7.out _).mono ?_
  rintro e w8 ⟨rfl, rfl⟩
  go_wp2_with fail
  refine (k8.out _).mono ?_
  rintro e w9 ⟨rfl, rfl⟩
  go_wp2_with fail
  refine (k9.out _).mono ?_
  rintro e w10 ⟨rfl, rfl⟩
  go_wp2_with fail
  refine (k10.out _).mono ?_
  rintro e w11 ⟨rfl, rfl⟩
  go_wp2_with fail
  refine (k9.out _).mono ?_
  rintro e w12 ⟨rfl, rfl⟩
  go_wp2_with fail
  refine (k11.out _).mono ?_
  rintro e w13 ⟨rfl, rfl⟩
  go_wp2_with fail
  refine (k12.out _).mono ?_
  rintro e w14 ⟨rfl, rfl⟩
  go_wp2_with fail
  refine (k13.out _).mono ?_
  rintro e w15 ⟨rfl, rfl⟩
  go_wp2
  go_ret
  exact ⟨rfl, hb1⟩

/-- two numbers, as they lie to one another -/
theorem signs_cases (a b : Int) (ha : 0 ≤ a ∧ a < 4294967296) (hb : 0 ≤ b ∧ b < 4294967296) :
    (Sr.after a b = false ∧ Sr.after b a = false ∧ (a != b) = false ∧ (Sr.way a b == 2147483648) = false ∧ Sr.diff a b = 0 ∧ Sr.diff b a = 0) ∨
    (Sr.after a b = false ∧ Sr.after b a = true ∧ (a != b) = true ∧ (Sr.way a b == 2147483648) = false ∧ Sr.diff a b = -(Sr.way a b) ∧ Sr.diff b a = Sr.way a b) ∨
    (Sr.after a b = true ∧ Sr.after b a = false ∧ (a != b) = true ∧ (Sr.way a b == 2147483648) = false ∧ Sr.diff a b = Sr.way b a ∧ Sr.diff b a = -(Sr.way b a)) ∨
    (Sr.after a b = false ∧ Sr.after b a = false ∧ (a != b) = true ∧ (Sr.way a b == 2147483648) = true ∧ Sr.diff a b = -2147483648 ∧ Sr.diff b a = -2147483648) := by
  have h1 : Sr.way b a = (a - b) % 4294967296 := rfl
  have h2 : Sr.way a b = (b - a) % 4294967296 := rfl
  unfold Sr.after Sr.diff
  generalize Sr.way b a = u at *
  generalize Sr.way a b = v at *
  have hc : v = 0 ∨ (0 < v ∧ v < 2147483648) ∨ v = 2147483648 ∨ 2147483648 < v := by omega
  rcases hc with h | h | h | h
  · have hab : a = b := by omega
    have hu : u = 0 := by omega
    subst hab hu h
    left; simp
  · right; left
    have e1 : (a != b) = true := by rw [bne_iff_ne]; omega
    have e2 : (v == 2147483648) = false := by rw [beq_eq_false_iff_ne]; omega
    refine ⟨decide_eq_false (by omega), decide_eq_true (by omega), e1, e2, ?_, ?_⟩
    · rw [if_pos (by omega)]; omega
    · rw [if_neg (by omega)]
  · right; right; right
    have e1 : (a != b) = true := by rw [bne_iff_ne]; omega
    have e2 : (v == 2147483648) = true := by rw [beq_iff_eq]; omega
    refine ⟨decide_eq_false (by omega), decide_eq_false (by omega), e1, e2, ?_, ?_⟩
    · rw [if_pos (by omega)]; omega
    · rw [if_pos (by omega)]; omega
  · right; right; left
    have e1 : (a != b) = true := by rw [bne_iff_ne]; omega
    have e2 : (v == 2147483648) = false := by rw [beq_eq_false_iff_ne]; omega
    refine ⟨decide_eq_true (by omega), decide_eq_false (by omega), e1, e2, ?_, ?_⟩
    · rw [if_neg (by omega)]
    · rw [if_pos (by omega)]; omega
theorem after_self (a : Int) : Sr.after a a = false := by
  have h1 : Sr.way a a = (a - a) % 4294967296 := rfl
  unfold Sr.after
  exact decide_eq_false (by omega)
theorem way_along (a b n : Int) : Sr.way (Sr.add a n) (Sr.add b n) = Sr.way a b := by unfold Sr.way Sr.add; omega
theorem after_along (a b n : Int) : Sr.after (Sr.add a n) (Sr.add b n) = Sr.after a b := by unfold Sr.after; rw [way_along]
theorem diff_along (a b n : Int) : Sr.diff (Sr.add a n) (Sr.add b n) = Sr.diff a b := by unfold Sr.diff; rw [way_along]

set_option maxHeartbeats 4000000 in
theorem walk_ssigns (a b n : Int) (w0 : (Lit.int .u32 a).wf = true) (w1 : (Lit.int .u32 b).wf = true) (_w2 : (Lit.int .i64 n).wf = true) (w : World) :
    Calls Try.prog 7 #[.int .u32 a, .int .u32 b, .int .i64 n] w fun e w' => e = .returned (.bool true) ∧ Below w.heap.size w w' := by
  have ha := bounds_u32 w0
  have hb := bounds_u32 w1
  clear w0 w1
  have ha' : 0 ≤ a ∧ a < 4294967296 := by omega
  have hb' : 0 ≤ b ∧ b < 4294967296 := by omega
  have k1 := Lib.hid (fun w => after_any a b w ha' hb')
  have k2 := Lib.hid (fun w => after_any b a w hb' ha')
  have k3 := Lib.hid (fun w => sadd_any a n w ha')
  have k4 := Lib.hid (fun w => sadd_any b n w hb')
  have k5 := Lib.hid (fun w => way_any a b w ha' hb')
  have k6 := Lib.hid (fun w => after_any a a w ha' ha')
  have k7 := Lib.hid (fun w => after_any (Sr.add a n) (Sr.add b n) w (Sr.add_lt a n) (Sr.add_lt b n))
  have k8 := Lib.hid (fun w => diff_any (Sr.add a n) (Sr.add b n) w (Sr.add_lt a n) (Sr.add_lt b n))
  have k9 := Lib.hid (fun w => diff_any a b w ha' hb')
  have k10 := Lib.hid (fun w => diff_any b a w hb' ha')
  rw [after_self] at k6
  rw [after_along] at k7
  rw [diff_along] at k8
  have hv := Sr.way_lt a b
  have hu := Sr.way_lt b a
  have hc := signs_cases a b ha' hb'
  generalize Sr.way a b = v at *
  generalize Sr.way b a = u at *
  generalize Sr.add a n = an at *
  generalize Sr.add b n = bn at *
  generalize Sr.after a b = x at *
  generalize Sr.after b a = y at *
  generalize Sr.diff a b = d at *
  generalize Sr.diff b a = f at *
  clear ha hb ha' hb'
  rcases hc with ⟨rfl, rfl, f1, f2, rfl, rfl⟩ | ⟨rfl, rfl, f1, f2, rfl, rfl⟩ | ⟨rfl, rfl, f1, f2, rfl, rfl⟩ | ⟨rfl, rfl, f1, f2, rfl, rfl⟩
  · go_enter Try.func7, Try.ntmps7
    go_wp2_with fail
    refine (k1.out _).mono ?_
    rintro e w2 ⟨rfl, rfl⟩
    go_wp2_with fail
    refine (k2.out _).mono ?_
    rintro e w3 ⟨rfl, rfl⟩
    go_wp2_with fail
    refine (k3.out _).mono ?_
    rintro e w4 ⟨rfl, rfl⟩
    go_wp2_with fail
    refine (k4.out _).mono ?_
    rintro e w5 ⟨rfl, rfl⟩
    go_wp2_with fail
    refine (k5.out _).mono ?_
    rintro e w6 ⟨rfl, rfl⟩
    go_wp2_with fail
    refine (sknown_any _).mono ?_
    rintro e w1 ⟨rfl, hb1⟩
    go_wp2_with fail
    refine (k6.out _).mono ?_
    rintro e w8 ⟨rfl, rfl⟩
    go_wp2_with fail
    refine (k7.out _).mono ?_
    rintro e w9 ⟨rfl, rfl⟩
    go_wp2_with fail
    refine (k8.out _).mono ?_
    rintro e w10 ⟨rfl, rfl⟩
    go_wp2_with fail
    refine (k9.out _).mono ?_
    rintro e w11 ⟨rfl, rfl⟩
    go_wp2_with fail
    refine (k9.out _).mono ?_
    rintro e w12 ⟨rfl, rfl⟩
    go_wp2_with fail
    refine (k10.out _).mono ?_
    rintro e w13 ⟨rfl, rfl⟩
    go_wp2
    go_ret
    exact ⟨rfl, hb1⟩
  · go_enter Try.func7, Try.ntmps7
    go_wp2_with fail
    refine (k1.out _).mono ?_
    rintro e w2 ⟨rfl, rfl⟩
    go_wp2_with fail
    refine (k2.out _).mono ?_
    rintro e w3 ⟨rfl, rfl⟩
    go_wp2_with fail
    refine (k3.out _).mono ?_
    rintro e w4 ⟨rfl, rfl⟩
    go_wp2_with fail
    refine (k4.out _).mono ?_
    rintro e w5 ⟨rfl, rfl⟩
    go_wp2_with fail
    refine (k5.out _).mono ?_
    rintro e w6 ⟨rfl, rfl⟩
    go_wp2_with fail
    refine (sknown_any _).mono ?_
    rintro e w1 ⟨rfl, hb1⟩
    go_wp2_with fail
    refine (k6.out _).mono ?_
    rintro e w8 ⟨rfl, rfl⟩
    go_wp2_with fail
    refine (k7.out _).mono ?_
    rintro e w9 ⟨rfl, rfl⟩
    go_wp2_with fail
    refine (k8.out _).mono ?_
    rintro e w10 ⟨rfl, rfl⟩
    go_wp2_with fail
    refine (k9.out _).mono ?_
    rintro e w11 ⟨rfl, rfl⟩
    go_wp2_with fail
    refine (k9.out _).mono ?_
    rintro e w12 ⟨rfl, rfl⟩
    go_wp2_with fail
    refine (k10.out _).mono ?_
    rintro e w13 ⟨rfl, rfl⟩
    go_wp2
    go_ret
    exact ⟨rfl, hb1⟩
  · go_enter Try.func7, Try.ntmps7
    go_wp2_with fail
    refine (k1.out _).mono ?_
    rintro e w2 ⟨rfl, rfl⟩
    go_wp2_with fail
    refine (k2.out _).mono ?_
    rintro e w3 ⟨rfl, rfl⟩
    go_wp2_with fail
    refine (k3.out _).mono ?_
    rintro e w4 ⟨rfl, rfl⟩
    go_wp2_with fail
    refine (k4.out _).mono ?_
    rintro e w5 ⟨rfl, rfl⟩
    go_wp2_with fail
    refine (k5.out _).mono ?_
    rintro e w6 ⟨rfl, rfl⟩
    go_wp2_with fail
    refine (sknown_any _).mono ?_
    rintro e w1 ⟨rfl, hb1⟩
    go_wp2_with fail
    refine (k6.out _).mono ?_
    rintro e w8 ⟨rfl, rfl⟩
    go_wp2_with fail
    refine (k7.out _).mono ?_
    rintro e w9 ⟨rfl, rfl⟩
    go_wp2_with fail
    refine (k8.out _).mono ?_
    rintro e w10 ⟨rfl, rfl⟩
    go_wp2_with fail
    refine (k9.out _).mono ?_
    rintro e w11 ⟨rfl, rfl⟩
    go_wp2_with fail
    refine (k9.out _).mono ?_
    rintro e w12 ⟨rfl, rfl⟩
    go_wp2_with fail
    refine (k10.out _).mono ?_
    rintro e w13 ⟨rfl, rfl⟩
    go_wp2
    go_ret
    exact ⟨rfl, hb1⟩
  · go_enter Try.func7, Try.ntmps7
    go_wp2_with fail
    refine (k1.out _).mono ?_
    rintro e w2 ⟨rfl, rfl⟩
    go_wp2_with fail
    refine (k2.out _).mono ?_
    rintro e w3 ⟨rfl, rfl⟩
    go_wp2_with fail
    refine (k3.out _).mono ?_
    rintro e w4 ⟨rfl, rfl⟩
    go_wp2_with fail
    refine (k4.out _).mono ?_
    rintro e w5 ⟨rfl, rfl⟩
    go_wp2_with fail
    refine (k5.out _).mono ?_
    rintro e w6 ⟨rfl, rfl⟩
    go_wp2_with fail
    refine (sknown_any _).mono ?_
    rintro e w1 ⟨rfl, hb1⟩
    go_wp2_with fail
    refine (k6.out _).mono ?_
    rintro e w8 ⟨rfl, rfl⟩
    go_wp2_with fail
    refine (k7.out _).mono ?_
    rintro e w9 ⟨rfl, rfl⟩
    go_wp2_with fail
    refine (k8.out _).mono ?_
    rintro e w10 ⟨rfl, rfl⟩
    go_wp2_with fail
    refine (k9.out _).mono ?_
    rintro e w11 ⟨rfl, rfl⟩
    go_wp2
    go_ret
    exact ⟨rfl, hb1⟩
end Go.Proofs.Ytjcnkalgbhlafaa
