/-
  The walk of the law VarintSizes: it returns true.
-/
import Derived.Test.YtcheojenmepgpaaKnown
import Derived.OpenShut
namespace Go.Proofs.Ytcheojenmepgpaa
open Go.RowKit
set_option maxRecDepth 100000

theorem sizes_lt (n : Nat) (_hn : n ≤ 18446744073709551615) : (Vi.enc n).length ≤ 9 → (n : Int) < IntKind.u64.wrap (2 ^ (7 * (Vi.enc n).length)) := by
  have h := Vi.enc_lt n
  generalize (Vi.enc n).length = L at *
  intro hL
  have : L = 0 ∨ L = 1 ∨ L = 2 ∨ L = 3 ∨ L = 4 ∨ L = 5 ∨ L = 6 ∨ L = 7 ∨ L = 8 ∨ L = 9 := by omega
  rw [IntKind.wrap_u64]
  rcases this with rfl | rfl | rfl | rfl | rfl | rfl | rfl | rfl | rfl | rfl <;> (simp only [Nat.reducePow, Nat.reduceMul, Int.reducePow, Int.reduceMod] at h ⊢; omega)
theorem sizes_ge (n : Nat) (hn : n ≤ 18446744073709551615) : 1 < (Vi.enc n).length → IntKind.u64.wrap (2 ^ (7 * ((Vi.enc n).length - 1))) ≤ (n : Int) := by
  have h := Vi.enc_ge n
  have h10 := Vi.enc_le10 (n := n) (by omega)
  generalize (Vi.enc n).length = L at *
  intro hL
  have h := h hL
  have : L = 2 ∨ L = 3 ∨ L = 4 ∨ L = 5 ∨ L = 6 ∨ L = 7 ∨ L = 8 ∨ L = 9 ∨ L = 10 := by omega
  rw [IntKind.wrap_u64]
  rcases this with rfl | rfl | rfl | rfl | rfl | rfl | rfl | rfl | rfl <;> (simp only [Nat.reduceSub, Nat.reducePow, Nat.reduceMul, Int.reducePow, Int.reduceMod] at h ⊢; omega)

set_option maxHeartbeats 800000 in
theorem walk_sizes (a0 : Int) (a1 : Int) (w0 : (Lit.int .u64 a0).wf = true) (w1 : (Lit.int .u64 a1).wf = true) (w : World) :
    Calls Try.prog 6 #[.int .u64 a0, .int .u64 a1] w fun e w' => e = .returned (.bool true) ∧ Below w.heap.size w w' := by
  have b0 := bounds_u64 w0
  have b1 := bounds_u64 w1
  clear w0 w1
  rcases Int.lt_trichotomy a0 a1 with h | h | h
  · skip
    go_enter Try.func6, Try.ntmps6
    go_wp2_with fail
    refine (size_any _ _ (by omega) (by omega)).mono ?_
    rintro e w1 ⟨rfl, rfl⟩
    have hm := Vi.enc_mono (show a0.toNat ≤ a1.toNat by omega)
    have hp := Vi.enc_pos a1.toNat
    have h10 := Vi.enc_le10 (n := a1.toNat) (by omega)
    have hlt := Lib.hid (sizes_lt a1.toNat (by omega))
    have hge := Lib.hid (sizes_ge a1.toNat (by omega))
    generalize (Vi.enc a1.toNat).length = L at *
    go_wp2_with fail
    refine (known_any _).mono ?_
    rintro e w2 ⟨rfl, hb⟩
    go_wp2_with fail
    refine (size_any _ _ (by omega) (by omega)).mono ?_
    rintro e w1 ⟨rfl, rfl⟩
    generalize (Vi.enc a0.toNat).length = l at *
    by_cases hL10 : L = 10
    · have e1 : ((L : Int) == 10) = true := by simp; omega
      have e2 : ((L : Int) == 1) = false := by simp; omega
      have e3 : IntKind.u64.wrap (2 ^ (7 * (L - 1))) ≤ a1 := by have := hge.out (by omega); omega
      have HL := Lib.hid hL10
      clear hL10
      go_wp2
      go_ret
      exact ⟨rfl, hb⟩
    · have e1 : ((L : Int) == 10) = false := by simp; omega
      have e4 : a1 < IntKind.u64.wrap (2 ^ (7 * L)) := by have := hlt.out (by omega); omega
      by_cases hL1 : L = 1
      · have e2 : ((L : Int) == 1) = true := by simp; omega
        have HL := Lib.hid hL1
        clear hL1
        go_wp2
        go_ret
        exact ⟨rfl, hb⟩
      · have e2 : ((L : Int) == 1) = false := by simp; omega
        have e3 : IntKind.u64.wrap (2 ^ (7 * (L - 1))) ≤ a1 := by have := hge.out (by omega); omega
        go_wp2
        go_ret
        exact ⟨rfl, hb⟩
  · subst h
    go_enter Try.func6, Try.ntmps6
    go_wp2_with fail
    refine (size_any _ _ (by omega) (by omega)).mono ?_
    rintro e w1 ⟨rfl, rfl⟩
    have hm := Vi.enc_mono (show a0.toNat ≤ a0.toNat by omega)
    have hp := Vi.enc_pos a0.toNat
    have h10 := Vi.enc_le10 (n := a0.toNat) (by omega)
    have hlt := Lib.hid (sizes_lt a0.toNat (by omega))
    have hge := Lib.hid (sizes_ge a0.toNat (by omega))
    generalize hLe : (Vi.enc a0.toNat).length = L at *
    have HLe := Lib.hid hLe
    clear hLe
    go_wp2_with fail
    refine (known_any _).mono ?_
    rintro e w2 ⟨rfl, hb⟩
    go_wp2_with fail
    refine (size_any _ _ (by omega) (by omega)).mono ?_
    rintro e w1 ⟨rfl, rfl⟩
    rw [HLe.out]
    by_cases hL10 : L = 10
    · have e1 : ((L : Int) == 10) = true := by simp; omega
      have e2 : ((L : Int) == 1) = false := by simp; omega
      have e3 : IntKind.u64.wrap (2 ^ (7 * (L - 1))) ≤ a0 := by have := hge.out (by omega); omega
      have HL := Lib.hid hL10
      clear hL10
      go_wp2
      go_ret
      exact ⟨rfl, hb⟩
    · have e1 : ((L : Int) == 10) = false := by simp; omega
      have e4 : a0 < IntKind.u64.wrap (2 ^ (7 * L)) := by have := hlt.out (by omega); omega
      by_cases hL1 : L = 1
      · have e2 : ((L : Int) == 1) = true := by simp; omega
        have HL := Lib.hid hL1
        clear hL1
        go_wp2
        go_ret
        exact ⟨rfl, hb⟩
      · have e2 : ((L : Int) == 1) = false := by simp; omega
        have e3 : IntKind.u64.wrap (2 ^ (7 * (L - 1))) ≤ a0 := by have := hge.out (by omega); omega
        go_wp2
        go_ret
        exact ⟨rfl, hb⟩
  · skip
    go_enter Try.func6, Try.ntmps6
    go_wp2_with fail
    refine (size_any _ _ (by omega) (by omega)).mono ?_
    rintro e w1 ⟨rfl, rfl⟩
    have hm := Vi.enc_mono (show a1.toNat ≤ a0.toNat by omega)
    have hp := Vi.enc_pos a0.toNat
    have h10 := Vi.enc_le10 (n := a0.toNat) (by omega)
    have hlt := Lib.hid (sizes_lt a0.toNat (by omega))
    have hge := Lib.hid (sizes_ge a0.toNat (by omega))
    generalize (Vi.enc a0.toNat).length = L at *
    go_wp2_with fail
    refine (known_any _).mono ?_
    rintro e w2 ⟨rfl, hb⟩
    go_wp2_with fail
    refine (size_any _ _ (by omega) (by omega)).mono ?_
    rintro e w1 ⟨rfl, rfl⟩
    generalize (Vi.enc a1.toNat).length = l at *
    by_cases hL10 : L = 10
    · have e1 : ((L : Int) == 10) = true := by simp; omega
      have e2 : ((L : Int) == 1) = false := by simp; omega
      have e3 : IntKind.u64.wrap (2 ^ (7 * (L - 1))) ≤ a0 := by have := hge.out (by omega); omega
      have HL := Lib.hid hL10
      clear hL10
      go_wp2
      go_ret
      exact ⟨rfl, hb⟩
    · have e1 : ((L : Int) == 10) = false := by simp; omega
      have e4 : a0 < IntKind.u64.wrap (2 ^ (7 * L)) := by have := hlt.out (by omega); omega
      by_cases hL1 : L = 1
      · have e2 : ((L : Int) == 1) = true := by simp; omega
        have HL := Lib.hid hL1
        clear hL1
        go_wp2
        go_ret
        exact ⟨rfl, hb⟩
      · have e2 : ((L : Int) == 1) = false := by simp; omega
        have e3 : IntKind.u64.wrap (2 ^ (7 * (L - 1))) ≤ a0 := by have := hge.out (by omega); omega
        go_wp2
        go_ret
        exact ⟨rfl, hb⟩

end Go.Proofs.Ytcheojenmepgpaa
