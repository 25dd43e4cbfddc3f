/-
  Contracts of layer 16's Kinds: an iterator over the five kinds and their words.
-/
import Derived.Test.YtnnpbakgjcjbaaaFldI
namespace Go.Proofs.Ytnnpbakgjcjbaaa
open Go.RowKit Go.Shelf
set_option maxRecDepth 100000
attribute [local go_sem] Oper.semAt_some

theorem kinds_any (w : World) : Calls Try.prog 15 #[] w fun e w' => e = .returned (.func (.func 21) #[] #[]) ∧ w = w' := by
  go_enter Try.func15, Try.ntmps15
  go_wp2
  go_ret
  exact ⟨rfl, rfl⟩

set_option maxHeartbeats 2000000 in
theorem kinds_in (n : Nat) (hn : 1 ≤ n) (m' l : Nat) (J : Nat → World → Prop) (Jx : World → Prop)
    (hY : ∀ (j : Nat) W, J j W → j < 5 → YieldAt Fence.wide m' Try.prog l #[.int .i64 ((j : Int) + 1), .string (wd ((j : Int) + 1))] W fun e W' => (e = .returned (.bool true) ∧ J (j + 1) W') ∨ (e = .returned (.bool false) ∧ Jx W'))
    (W : World) (h0 : J 0 W) : CallsIn Fence.wide n Try.prog 21 #[.func (.yield l) #[] #[]] W fun e W' => (∃ v, e = .returned v) ∧ (J 5 W' ∨ Jx W') := by
  refine callsIn_of_wp Try.func21 rfl trivial ?_ rfl
  simp only [Try.ntmps21, List.size_toArray, List.length_cons, List.length_nil, Nat.reduceAdd, Nat.reduceSub, Array.replicate_succ, Array.replicate_zero, List.push_toArray, List.append_toArray, List.nil_append, List.cons_append]
  have HY := Lib.hid hY
  clear hY
  gi_wp2_with fail
  gi_loopw [2] (fun x wr => ∃ j : Nat, j ≤ 5 ∧ x = .int .i64 ((j : Int) + 1) ∧ Hid (J j wr)) (fun x _ => 6 - (intOf x).toNat)
  case atStart => exact ⟨0, by omega, rfl, Lib.hid h0⟩
  case round =>
    obtain ⟨j, hj, rfl, HJ⟩ := hrel
    rcases Nat.lt_or_ge j 5 with hlt | hge
    · have HYj := HY.out j wr HJ.out hlt
      obtain ⟨fn, tmps, assign, body, hy, hR⟩ := yield_any (n - 1) HYj
      have HR2 := Lib.hid hR
      clear hR HYj
      gi_wp2_with fail
      refine ⟨trivial, (callsIn_wide.2 (word_any ((j : Int) + 1) wr)).mono ?_⟩
      rintro e w1 ⟨rfl, rfl⟩
      gi_wp2_with fail
      refine HR2.out.mono ?_
      rintro e W3 (⟨rfl, hJ3⟩ | ⟨rfl, hJx3⟩)
      · have HJ3 := Lib.hid hJ3
        clear hJ3
        gi_wp2
        go_roundw
        case rel => exact ⟨j + 1, by omega, by go_num, HJ3⟩
        case measure => simp [intOf]; omega
      · gi_wp2
        refine bodyPost_ret (results_none rfl _ _ _) rfl ?_
        exact ⟨⟨_, rfl⟩, .inr hJx3⟩
    · obtain rfl : j = 5 := by omega
      gi_wp2
      go_end0
      exact ⟨⟨_, rfl⟩, .inl HJ.out⟩
end Go.Proofs.Ytnnpbakgjcjbaaa
