/-
  Contracts: slices.Equal of numbers and of points, the document's Ints: any two lists. They only read. (Written by tools/gen_msge.py.)
-/
import Derived.Test.YtnbhiamnoapmlaaMsgQ
import Derived.BigQuiet
import Derived.Deep.QuietTactic
import Derived.Deep.LoopGhost
import Derived.WalkMore
namespace Go.Proofs.Ytnbhiamnoapmlaa
open Go.RowKit
set_option maxRecDepth 100000

theorem eqi_lens (a1 a2 : Option Addr) (n1 n2 c1 c2 : Nat) (w : World) (h : n1 ≠ n2) :
    Calls Try.prog 35 #[.slice a1 n1 c1, .slice a2 n2 c2] w fun e w' => e = .returned (.bool false) ∧ ∃ n, w' = w.drewN n := by
  have h2 : ((n1 : Int) != (n2 : Int)) = true := by simp; omega
  have h3 : ¬ (n1 : Int) = (n2 : Int) := by omega
  go_enter Try.func35, Try.ntmps35
  go_wp2
  go_ret
  exact ⟨rfl, 0, rfl⟩
theorem eqi_any (B : Nat) (a1 a2 : Option Addr) (n1 n2 c1 c2 : Nat) (xs ys : List Int) (w : World) (e1 : xs.length = n1) (e2 : ys.length = n2) (l1 : n1 ≤ 9223372036854775807) (h1 : Nums .i64 w B a1 xs) (h2 : Nums .i64 w B a2 ys) :
    Calls Try.prog 35 #[.slice a1 n1 c1, .slice a2 n2 c2] w fun e w' => e = .returned (.bool (decide (xs = ys))) ∧ ∃ n, w' = w.drewN n := by
  by_cases hl : n1 = n2
  · subst hl
    have HE1 := Lib.hid e1
    have HE2 := Lib.hid e2
    clear e1 e2
    go_enter Try.func35, Try.ntmps35
    go_wp2
    go_loopw [13] (fun i wr => ∃ k : Nat, k ≤ n1 ∧ i = .int .i64 k ∧ Hid (xs.take k = ys.take k) ∧ ∃ n, wr = w.drewN n) (fun i _ => n1 - (intOf i).toNat)
    case atStart => exact ⟨0, by omega, rfl, rfl, 0, rfl⟩
    case round =>
      obtain ⟨k, hk, rfl, HT, n, rfl⟩ := hrel
      by_cases hlt : k < n1
      · obtain ⟨x, hx⟩ : ∃ x, xs[k]? = some x := ⟨_, List.getElem?_eq_getElem (by rw [HE1.out]; exact hlt)⟩
        obtain ⟨y, hy⟩ : ∃ y, ys[k]? = some y := ⟨_, List.getElem?_eq_getElem (by rw [HE2.out]; exact hlt)⟩
        obtain ⟨b1, o1, rfl, hb1, hc1⟩ := h1.open hx
        obtain ⟨b2, o2, rfl, hb2, hc2⟩ := h2.open hy
        have HX := Lib.hid hx
        have HY := Lib.hid hy
        clear h1 h2 hx hy
        have hlt' : (k : Int) < (n1 : Int) := by omega
        by_cases hxy : x = y
        · have hq : (x != y) = false := by simp [hxy]
          have HQ : Hid (xs.take (k + 1) = ys.take (k + 1)) := by
            show _ = _
            rw [List.take_add_one, List.take_add_one, HT.out, HX.out, HY.out, hxy]
          subst hxy
          go_wp2
          go_quiet (fail)
          go_wp2
          go_roundw
          case rel => exact ⟨k + 1, by omega, by go_num, HQ, _, rfl⟩
          case measure => simp [intOf]; omega
        · have hq : (x != y) = true := by simp [hxy]
          have HQ : Hid (¬ xs = ys) := fun e => hxy (by
            have h3 := HX.out
            rw [e, HY.out] at h3
            exact (Option.some.inj h3).symm)
          clear hxy
          go_wp2
          go_quiet (fail)
          go_wp2
          go_ret
          exact ⟨by rw [decide_eq_false HQ.out]; rfl, n + nq, by simp [World.drewN, Nat.add_assoc]⟩
      · have hk' : k = n1 := by omega
        have HQ : Hid (xs = ys) := by
          have h3 := HT.out
          rw [List.take_of_length_le (by rw [HE1.out]; omega), List.take_of_length_le (by rw [HE2.out]; omega)] at h3
          exact h3
        go_wp2
        go_ret
        exact ⟨by rw [decide_eq_true HQ.out]; rfl, n, rfl⟩
  · refine (eqi_lens a1 a2 n1 n2 c1 c2 w hl).mono ?_
    rintro e w' ⟨rfl, hd⟩
    exact ⟨by rw [decide_eq_false (fun e => hl (by rw [← e1, ← e2, e]))], hd⟩
theorem rints_lens (a1 a2 : Option Addr) (n1 n2 c1 c2 : Nat) (w : World) (h : n1 ≠ n2) :
    Calls Try.prog 33 #[.slice a1 n1 c1, .slice a2 n2 c2] w fun e w' => e = .returned (.bool false) ∧ ∃ n, w' = w.drewN n := by
  have h2 : ((n1 : Int) != (n2 : Int)) = true := by simp; omega
  have h3 : ¬ (n1 : Int) = (n2 : Int) := by omega
  go_enter Try.func33, Try.ntmps33
  go_wp2
  go_ret
  exact ⟨rfl, 0, rfl⟩
theorem rints_any (B : Nat) (a1 a2 : Option Addr) (n1 n2 c1 c2 : Nat) (xs ys : List Int) (w : World) (e1 : xs.length = n1) (e2 : ys.length = n2) (l1 : n1 ≤ 9223372036854775807) (h1 : Nums .i64 w B a1 xs) (h2 : Nums .i64 w B a2 ys) :
    Calls Try.prog 33 #[.slice a1 n1 c1, .slice a2 n2 c2] w fun e w' => e = .returned (.bool (decide (xs = ys))) ∧ ∃ n, w' = w.drewN n := by
  by_cases hl : n1 = n2
  · subst hl
    have HE1 := Lib.hid e1
    have HE2 := Lib.hid e2
    clear e1 e2
    go_enter Try.func33, Try.ntmps33
    go_wp2
    go_loopw [5] (fun i wr => ∃ k : Nat, k ≤ n1 ∧ i = .int .i64 k ∧ Hid (xs.take k = ys.take k) ∧ ∃ n, wr = w.drewN n) (fun i _ => n1 - (intOf i).toNat)
    case atStart => exact ⟨0, by omega, rfl, rfl, 0, rfl⟩
    case round =>
      obtain ⟨k, hk, rfl, HT, n, rfl⟩ := hrel
      by_cases hlt : k < n1
      · obtain ⟨x, hx⟩ : ∃ x, xs[k]? = some x := ⟨_, List.getElem?_eq_getElem (by rw [HE1.out]; exact hlt)⟩
        obtain ⟨y, hy⟩ : ∃ y, ys[k]? = some y := ⟨_, List.getElem?_eq_getElem (by rw [HE2.out]; exact hlt)⟩
        obtain ⟨b1, o1, rfl, hb1, hc1⟩ := h1.open hx
        obtain ⟨b2, o2, rfl, hb2, hc2⟩ := h2.open hy
        have HX := Lib.hid hx
        have HY := Lib.hid hy
        clear h1 h2 hx hy
        have hlt' : (k : Int) < (n1 : Int) := by omega
        by_cases hxy : x = y
        · have hq : (x != y) = false := by simp [hxy]
          have HQ : Hid (xs.take (k + 1) = ys.take (k + 1)) := by
            show _ = _
            rw [List.take_add_one, List.take_add_one, HT.out, HX.out, HY.out, hxy]
          subst hxy
          go_wp2
          go_quiet (fail)
          go_wp2
          go_roundw
          case rel => exact ⟨k + 1, by omega, by go_num, HQ, _, rfl⟩
          case measure => simp [intOf]; omega
        · have hq : (x != y) = true := by simp [hxy]
          have HQ : Hid (¬ xs = ys) := fun e => hxy (by
            have h3 := HX.out
            rw [e, HY.out] at h3
            exact (Option.some.inj h3).symm)
          clear hxy
          go_wp2
          go_quiet (fail)
          go_wp2
          go_ret
          exact ⟨by rw [decide_eq_false HQ.out]; rfl, n + nq, by simp [World.drewN, Nat.add_assoc]⟩
      · have hk' : k = n1 := by omega
        have HQ : Hid (xs = ys) := by
          have h3 := HT.out
          rw [List.take_of_length_le (by rw [HE1.out]; omega), List.take_of_length_le (by rw [HE2.out]; omega)] at h3
          exact h3
        go_wp2
        go_ret
        exact ⟨by rw [decide_eq_true HQ.out]; rfl, n, rfl⟩
  · refine (rints_lens a1 a2 n1 n2 c1 c2 w hl).mono ?_
    rintro e w' ⟨rfl, hd⟩
    exact ⟨by rw [decide_eq_false (fun e => hl (by rw [← e1, ← e2, e]))], hd⟩
theorem eqp_lens (a1 a2 : Option Addr) (n1 n2 c1 c2 : Nat) (w : World) (h : n1 ≠ n2) :
    Calls Try.prog 34 #[.slice a1 n1 c1, .slice a2 n2 c2] w fun e w' => e = .returned (.bool false) ∧ ∃ n, w' = w.drewN n := by
  have h2 : ((n1 : Int) != (n2 : Int)) = true := by simp; omega
  have h3 : ¬ (n1 : Int) = (n2 : Int) := by omega
  go_enter Try.func34, Try.ntmps34
  go_wp2
  go_ret
  exact ⟨rfl, 0, rfl⟩
theorem eqp_any (B : Nat) (a1 a2 : Option Addr) (n1 n2 c1 c2 : Nat) (xs ys : List (Int × Int)) (w : World) (e1 : xs.length = n1) (e2 : ys.length = n2) (l1 : n1 ≤ 9223372036854775807) (h1 : Nums .i64 w B a1 (fl2 xs)) (h2 : Nums .i64 w B a2 (fl2 ys)) :
    Calls Try.prog 34 #[.slice a1 n1 c1, .slice a2 n2 c2] w fun e w' => e = .returned (.bool (decide (xs = ys))) ∧ ∃ n, w' = w.drewN n := by
  by_cases hl : n1 = n2
  · subst hl
    have HE1 := Lib.hid e1
    have HE2 := Lib.hid e2
    clear e1 e2
    go_enter Try.func34, Try.ntmps34
    go_wp2
    go_loopw [13] (fun i wr => ∃ k : Nat, k ≤ n1 ∧ i = .int .i64 k ∧ Hid (xs.take k = ys.take k) ∧ ∃ n, wr = w.drewN n) (fun i _ => n1 - (intOf i).toNat)
    case atStart => exact ⟨0, by omega, rfl, rfl, 0, rfl⟩
    case round =>
      obtain ⟨k, hk, rfl, HT, n, rfl⟩ := hrel
      by_cases hlt : k < n1
      · obtain ⟨⟨x, x2⟩, hx⟩ : ∃ x, xs[k]? = some x := ⟨_, List.getElem?_eq_getElem (by rw [HE1.out]; exact hlt)⟩
        obtain ⟨⟨y, y2⟩, hy⟩ : ∃ y, ys[k]? = some y := ⟨_, List.getElem?_eq_getElem (by rw [HE2.out]; exact hlt)⟩
        obtain ⟨b1, o1, rfl, hb1, hc1, hd1⟩ := pts_two h1 hx
        obtain ⟨b2, o2, rfl, hb2, hc2, hd2⟩ := pts_two h2 hy
        have HX := Lib.hid hx
        have HY := Lib.hid hy
        dsimp only at hc1 hd1 hc2 hd2
        clear h1 h2 hx hy
        have hlt' : (k : Int) < (n1 : Int) := by omega
        by_cases hxy : x = y ∧ x2 = y2
        · obtain ⟨rfl, rfl⟩ := hxy
          have hnp : ∀ W, (binOp .neq 57 (.agg #[.int .i64 x, .int .i64 x2]) (.agg #[.int .i64 x, .int .i64 x2])).run Try.prog W = .ok (.bool false) W := fun W => by rw [neq_pt]; simp
          have HQ : Hid (xs.take (k + 1) = ys.take (k + 1)) := by
            show _ = _
            rw [List.take_add_one, List.take_add_one, HT.out, HX.out, HY.out]
          go_wp2
          go_quiet (fail)
          go_wp2
          go_roundw
          case rel => exact ⟨k + 1, by omega, by go_num, HQ, _, rfl⟩
          case measure => simp [intOf]; omega
        · have hnp : ∀ W, (binOp .neq 57 (.agg #[.int .i64 x, .int .i64 x2]) (.agg #[.int .i64 y, .int .i64 y2])).run Try.prog W = .ok (.bool true) W := fun W => by rw [neq_pt, decide_eq_false (by simpa using hxy)]; rfl
          have HQ : Hid (¬ xs = ys) := fun e => hxy (by
            have h3 := HX.out
            rw [e, HY.out] at h3
            simp at h3
            exact ⟨h3.1.symm, h3.2.symm⟩)
          clear hxy
          go_wp2
          go_quiet (fail)
          go_wp2
          go_ret
          exact ⟨by rw [decide_eq_false HQ.out]; rfl, n + nq, by simp [World.drewN, Nat.add_assoc]⟩
      · have hk' : k = n1 := by omega
        have HQ : Hid (xs = ys) := by
          have h3 := HT.out
          rw [List.take_of_length_le (by rw [HE1.out]; omega), List.take_of_length_le (by rw [HE2.out]; omega)] at h3
          exact h3
        go_wp2
        go_ret
        exact ⟨by rw [decide_eq_true HQ.out]; rfl, n, rfl⟩
  · refine (eqp_lens a1 a2 n1 n2 c1 c2 w hl).mono ?_
    rintro e w' ⟨rfl, hd⟩
    exact ⟨by rw [decide_eq_false (fun e => hl (by rw [← e1, ← e2, e]))], hd⟩
end Go.Proofs.Ytnbhiamnoapmlaa
