/-
  Contracts of varint.Zag and the document's Zag.
-/
import Derived.Test.YtmilcmgohlfpiaaZig
import Derived.Test.YtmilcmgohlfpiaaRdM
namespace Go.Proofs.Ytmilcmgohlfpiaa
open Go.RowKit
set_option maxRecDepth 100000

theorem zag_any (n : Int) (w : World) (h0 : 0 ≤ n) (h1 : n ≤ 18446744073709551615) :
    Calls Try.prog 49 #[.int .u64 n] w fun e w' => e = .returned (.int .i64 (zagZ n)) ∧ w = w' := by
  by_cases h : n % 2 = 1
  · have ho : (n % 2 == 1) = true := by simp; omega
    rw [show zagZ n = -(n / 2) - 1 by unfold zagZ; rw [if_pos h]]
    clear h
    go_enter Try.func49, Try.ntmps49
    go_wp2
    go_ret
    exact ⟨ret_int (by omega), rfl⟩
  · have ho : (n % 2 == 1) = false := by simp; omega
    rw [show zagZ n = n / 2 by unfold zagZ; rw [if_neg h]]
    clear h
    go_enter Try.func49, Try.ntmps49
    go_wp2
    go_ret
    exact ⟨ret_int (by omega), rfl⟩
theorem rzag_any (n : Int) (w : World) (h0 : 0 ≤ n) (h1 : n ≤ 18446744073709551615) :
    Calls Try.prog 50 #[.int .u64 n] w fun e w' => e = .returned (.int .i64 (zagZ n)) ∧ w = w' := by
  by_cases h : n % 2 = 1
  · have ho : (n % 2 == 1) = true := by simp; omega
    rw [show zagZ n = -(n / 2) - 1 by unfold zagZ; rw [if_pos h]]
    clear h
    go_enter Try.func50, Try.ntmps50
    go_wp2
    go_ret
    exact ⟨ret_int (by omega), rfl⟩
  · have ho : (n % 2 == 1) = false := by simp; omega
    rw [show zagZ n = n / 2 by unfold zagZ; rw [if_neg h]]
    clear h
    go_enter Try.func50, Try.ntmps50
    go_wp2
    go_ret
    exact ⟨ret_int (by omega), rfl⟩
end Go.Proofs.Ytmilcmgohlfpiaa
