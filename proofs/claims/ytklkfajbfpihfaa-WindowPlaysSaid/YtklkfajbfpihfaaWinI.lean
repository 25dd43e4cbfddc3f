/-
  The numbers of a window that have come, or that haven't, one by one.
-/
import Derived.Test.YtklkfajbfpihfaaWinZ
namespace Go.Proofs.Ytklkfajbfpihfaa
open Go.RowKit Go.Shelf
set_option maxRecDepth 100000
attribute [local go_sem] Oper.semAt_some

theorem numbers_any (t : Int) (q : Nat) (c : Bool) (w : World) :
    Calls Try.prog 26 #[rowV t q, .bool c] w fun e w' => e = .returned (.func (.func 31) #[] #[.pointer (some ⟨w.heap.size, 0, none⟩), .pointer (some ⟨w.heap.size + 1, 0, none⟩)]) ∧
      w' = (w.alloc (.cells #[.int .u32 t, .int .u64 (q : Int)] 54)).alloc (.cells #[.bool c] 4) := by
  unfold rowV
  go_enter Try.func26, Try.ntmps26
  go_wp2
  go_ret
  exact ⟨by simp, rfl⟩
theorem numbers_not_nil (b d : Nat) (w : World) : (binOp .eql 49 (.func (.func 31) #[] #[.pointer (some ⟨b, 0, none⟩), .pointer (some ⟨d, 0, none⟩)]) .nilFunc).run Try.prog w = .ok (.bool false) w := by
  kernel_rfl
theorem bit_val (q k : Nat) (hq : q < 18446744073709551616) : (bits .and .u64 ((q : Int) / 2 ^ k) 1 == 1) = q.testBit k := by
  rw [show ((q : Int) / 2 ^ k) = ((q / 2 ^ k : Nat) : Int) by simp, show (1 : Int) = ((1 : Nat) : Int) from rfl, u64_and_nat _ _ (Nat.lt_of_le_of_lt (Nat.div_le_self _ _) hq) (by omega), Nat.and_one_is_mod, Nat.testBit_eq_decide_div_mod_eq]
  rcases Nat.mod_two_eq_zero_or_one (q / 2 ^ k) with h | h <;> (rw [h]; rfl)
set_option maxHeartbeats 2000000 in
theorem numbers_in (n : Nat) (hn : 1 ≤ n) (m' l Bs Bc : Nat) (t : Int) (q : Nat) (c : Bool) (ht : 0 ≤ t ∧ t < 4294967296) (hq : q < 18446744073709551616) (J : Nat → World → Prop) (Jx : World → Prop)
    (hJ : ∀ k W, J k W → W.cell? ⟨Bs, 0, none⟩ = some (.int .u32 t) ∧ W.cell? ⟨Bs, 1, none⟩ = some (.int .u64 (q : Int)) ∧ W.cell? ⟨Bc, 0, none⟩ = some (.bool c))
    (hd : ∀ k W d, J k W → J k (W.drewN d))
    (hs : ∀ k W, J k W → k < 64 → ¬ q.testBit k = c → J (k + 1) W)
    (hY : ∀ (k : Nat) (W : World), J k W → k < 64 → q.testBit k = c →
      YieldAt Fence.wide m' Try.prog l #[.int .u32 (Sr.add t (-(k : Int)))] W fun e W' => (e = .returned (.bool true) ∧ J (k + 1) W') ∨ (e = .returned (.bool false) ∧ Jx W'))
    (W : World) (h0 : J 0 W) :
    CallsIn Fence.wide n Try.prog 31 #[.func (.yield l) #[] #[], .pointer (some ⟨Bs, 0, none⟩), .pointer (some ⟨Bc, 0, none⟩)] W fun e W' => (∃ v, e = .returned v) ∧ (J 64 W' ∨ Jx W') := by
  refine callsIn_of_wp Try.func31 rfl trivial ?_ rfl
  simp only [Try.ntmps31, List.size_toArray, List.length_cons, List.length_nil, Nat.reduceAdd, Nat.reduceSub, Array.replicate_succ, Array.replicate_zero, List.push_toArray, List.append_toArray, List.nil_append, List.cons_append]
  gi_wp2
  refine wpIn_wide.2 (wp_scope_straight ((wpIn_wide (n := n)).1 ?_))
  gi_wp2
  apply wpIn_label
  gi_wp2
  gi_loopw [5] (fun v wr => ∃ k : Nat, k ≤ 64 ∧ v = .int .i64 (k : Int) ∧ J k wr) (fun v _ => 64 - (intOf v).toNat)
  case atStart => exact ⟨0, by omega, rfl, h0⟩
  case round =>
    obtain ⟨k, hk, rfl, hJk⟩ := hrel
    rcases Nat.lt_or_ge k 64 with h4 | h4
    · have hlt : (k : Int) < 64 := by omega
      obtain ⟨c0, c1, c2⟩ := hJ k wr hJk
      have hdr := Lib.hid (fun d => hd k wr d hJk)
      clear hJk
      gi_wp2
      refine wpIn_wide.2 ?_
      go_quiet (fail)
      rw [bit_val q k hq]
      have hJd := hdr.out nq
      clear hdr c0 c1 c2
      generalize wr.drewN nq = wd at *
      obtain ⟨c0, c1, c2⟩ := hJ k wd hJd
      by_cases hb : q.testBit k = c
      · have e1 : (q.testBit k == c) = true := by rw [beq_iff_eq]; exact hb
        rw [e1]
        have K := sadd_any t (-(k : Int)) wd ht
        have HYr := Lib.hid (hY k wd hJd h4 hb)
        generalize Sr.add t (-(k : Int)) = x at *
        obtain ⟨fn, tmps, assign, body, hy, hR⟩ := yield_any (n - 1) HYr.out
        have HR := Lib.hid hR
        clear hR HYr hb e1 hJd
        gi_wp2_with fail
        refine ⟨trivial, ?_⟩
        refine (callsIn_wide.2 K).mono ?_
        rintro e w1 ⟨rfl, rfl⟩
        clear K
        gi_wp2_with fail
        refine HR.out.mono ?_
        rintro e W3 (⟨rfl, hJ3⟩ | ⟨rfl, hJx3⟩)
        · gi_wp2
          go_roundw
          case rel => exact ⟨k + 1, by omega, by go_num, hJ3⟩
          case measure => simp [intOf]; omega
        · gi_wp2
          first | go_end0 | (rw [Exit.noGoto_normal]; go_end0) | (refine bodyPost_ret (results_none rfl _ _ _) rfl ?_)
          exact ⟨⟨_, rfl⟩, .inr hJx3⟩
      · have e1 : (q.testBit k == c) = false := by rw [beq_eq_false_iff_ne]; exact hb
        have hJn := hs k wd hJd h4 hb
        rw [e1]
        clear e1 hb hJd
        gi_wp2
        go_roundw
        case rel => exact ⟨k + 1, by omega, by go_num, hJn⟩
        case measure => simp [intOf]; omega
    · have hk4 : k = 64 := by omega
      subst hk4
      gi_wp2
      first | go_end0 | (rw [Exit.noGoto_normal]; go_end0)
      exact ⟨⟨_, rfl⟩, .inl hJk⟩
theorem wcome_any {w : World} {b : Nat} {t : Int} {q : Nat} (h : WinAt w b t q) :
    Calls Try.prog 19 #[.pointer (some ⟨b, 0, none⟩)] w fun e w' => e = .returned (.func (.func 31) #[] #[.pointer (some ⟨w.heap.size, 0, none⟩), .pointer (some ⟨w.heap.size + 1, 0, none⟩)]) ∧
      w' = (w.alloc (.cells #[.int .u32 t, .int .u64 (q : Int)] 54)).alloc (.cells #[.bool true] 4) := by
  have K := numbers_any t q true w
  obtain ⟨c0, c1⟩ := h.cells
  unfold rowV at K
  clear h
  go_enter Try.func19, Try.ntmps19
  go_wp2_with fail
  refine K.mono ?_
  rintro e w1 ⟨rfl, rfl⟩
  go_wp2
  go_ret
  exact ⟨rfl, rfl⟩
end Go.Proofs.Ytklkfajbfpihfaa
