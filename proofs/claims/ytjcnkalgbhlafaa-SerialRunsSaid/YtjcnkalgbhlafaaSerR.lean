/-
  Contracts of layer 10: Run and its closure.
-/
import Derived.Test.YtjcnkalgbhlafaaSerK
namespace Go.Proofs.Ytjcnkalgbhlafaa
open Go.RowKit Go.Shelf
set_option maxRecDepth 100000
attribute [local go_sem] Oper.semAt_some

theorem run_any (s n : Int) (w : World) :
    Calls Try.prog 20 #[.int .u32 s, .int .i64 n] w fun e w' => e = .returned (.func (.func 24) #[] #[.pointer (some ⟨w.heap.size + 1, 0, none⟩), .pointer (some ⟨w.heap.size, 0, none⟩)]) ∧ w' = (w.alloc (.cells #[.int .u32 s] 22)).alloc (.cells #[.int .i64 n] 3) := by
  go_enter Try.func20, Try.ntmps20
  go_wp2
  go_ret
  exact ⟨by simp, rfl⟩
theorem run_not_nil (b d : Nat) (w : World) : (binOp .eql 35 (.func (.func 24) #[] #[.pointer (some ⟨b, 0, none⟩), .pointer (some ⟨d, 0, none⟩)]) .nilFunc).run Try.prog w = .ok (.bool false) w := by
  kernel_rfl

set_option maxHeartbeats 2000000 in
/-- the closure: it hands the numbers from s on to the loop's body, k in all, till the body says no more -/
theorem run_in (n : Nat) (hn : 1 ≤ n) (m' l Bk Bs : Nat) (s k : Int) (hs : 0 ≤ s ∧ s < 4294967296) (hk : k ≤ 1000000) (J : Nat → World → Prop) (Jx : World → Prop)
    (hJ : ∀ j W, J j W → W.cell? ⟨Bs, 0, none⟩ = some (.int .u32 s) ∧ W.cell? ⟨Bk, 0, none⟩ = some (.int .i64 k))
    (hY : ∀ (j : Nat) (W : World), J j W → j < k.toNat →
      YieldAt Fence.wide m' Try.prog l #[.int .u32 (Sr.add s j)] W fun e W' => (e = .returned (.bool true) ∧ J (j + 1) W') ∨ (e = .returned (.bool false) ∧ Jx W'))
    (W : World) (h0 : J 0 W) :
    CallsIn Fence.wide n Try.prog 24 #[.func (.yield l) #[] #[], .pointer (some ⟨Bk, 0, none⟩), .pointer (some ⟨Bs, 0, none⟩)] W fun e W' => (∃ v, e = .returned v) ∧ (J k.toNat W' ∨ Jx W') := by
  have c0 := (hJ 0 W h0).2
  refine callsIn_of_wp Try.func24 rfl trivial ?_ rfl
  simp only [Try.ntmps24, List.size_toArray, List.length_cons, List.length_nil, Nat.reduceAdd, Nat.reduceSub, Array.replicate_succ, Array.replicate_zero, List.push_toArray, List.append_toArray, List.nil_append, List.cons_append]
  gi_wp2
  clear c0
  gi_loopw [6] (fun v wr => ∃ j : Nat, j ≤ k.toNat ∧ v = .int .i64 (j : Int) ∧ J j wr) (fun v _ => k.toNat - (intOf v).toNat)
  case atStart => exact ⟨0, by omega, rfl, h0⟩
  case round =>
    obtain ⟨j, hj, rfl, hJj⟩ := hrel
    rcases Nat.lt_or_ge j k.toNat with h4 | h4
    · have hlt : (j : Int) < k := by omega
      have c1 := (hJ j wr hJj).1
      have K := sadd_any s j wr hs
      have HYr := Lib.hid (hY j wr hJj h4)
      generalize Sr.add s j = x at *
      obtain ⟨fn, tmps, assign, body, hy, hR⟩ := yield_any (n - 1) HYr.out
      have HR := Lib.hid hR
      clear hR HYr
      gi_wp2_with fail
      refine ⟨trivial, ?_⟩
      refine (callsIn_wide.2 K).mono ?_
      rintro e w1 ⟨rfl, rfl⟩
      clear K
      gi_wp2_with fail
      refine HR.out.mono ?_
      rintro e W3 (⟨rfl, hJ3⟩ | ⟨rfl, hJx3⟩)
      · gi_wp2
        go_roundw
        case rel => exact ⟨j + 1, by omega, by go_num, hJ3⟩
        case measure => simp [intOf]; omega
      · gi_wp2
        first | go_end0 | (rw [Exit.noGoto_normal]; go_end0) | (refine bodyPost_ret (results_none rfl _ _ _) rfl ?_)
        exact ⟨⟨_, rfl⟩, .inr hJx3⟩
    · have hlt : ¬ (j : Int) < k := by omega
      have hjk : j = k.toNat := by omega
      subst hjk
      gi_wp2
      first | go_end0 | (rw [Exit.noGoto_normal]; go_end0)
      exact ⟨⟨_, rfl⟩, .inl hJj⟩
end Go.Proofs.Ytjcnkalgbhlafaa
