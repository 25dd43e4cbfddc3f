/-
  Contract of four: four bytes at a time.
-/
import Derived.Test.YtbhdffefjphphaaCrcW
namespace Go.Proofs.Ytbhdffefjphphaa
open Go.RowKit
set_option maxRecDepth 100000

theorem four_word (s z0 z1 z2 z3 : Nat) (hs : s < 4294967296) (h0 : z0 < 256) (h1 : z1 < 256) (h2 : z2 < 256) (h3 : z3 < 256) :
    ∃ x : Nat, x < 4294967296 ∧ bits .xor .u32 (s : Int) (bits .or .u32 (bits .or .u32 (bits .or .u32 (z0 : Int) ((z1 : Int) * 256)) ((z2 : Int) * 65536)) ((z3 : Int) * 16777216)) = (x : Int) ∧
      x = s ^^^ (z0 ^^^ (z1 * 256) ^^^ (z2 * 65536) ^^^ (z3 * 16777216)) := by
  have a1 := Cr.add_xor z0 z1 8 (by omega)
  have a2 := Cr.add_xor (z1 * 256 + z0) z2 16 (by simp only [Nat.reducePow]; omega)
  have a3 := Cr.add_xor (z2 * 65536 + (z1 * 256 + z0)) z3 24 (by simp only [Nat.reducePow]; omega)
  have o1 := Nat.two_pow_add_eq_or_of_lt (i := 8) (show z0 < 2 ^ 8 by omega) z1
  have o2 := Nat.two_pow_add_eq_or_of_lt (i := 16) (show z1 * 256 + z0 < 2 ^ 16 by simp only [Nat.reducePow]; omega) z2
  have o3 := Nat.two_pow_add_eq_or_of_lt (i := 24) (show z2 * 65536 + (z1 * 256 + z0) < 2 ^ 24 by simp only [Nat.reducePow]; omega) z3
  simp only [Nat.reducePow] at a1 a2 a3 o1 o2 o3
  refine ⟨_, ?_, ?_, rfl⟩
  · rw [a1, a2, a3]
    exact Cr.xor_lt 32 hs (by omega)
  · rw [show (z1 : Int) * 256 = ((z1 * 256 : Nat) : Int) by omega, show (z2 : Int) * 65536 = ((z2 * 65536 : Nat) : Int) by omega, show (z3 : Int) * 16777216 = ((z3 * 16777216 : Nat) : Int) by omega]
    rw [u32_or_nat _ _ (by omega) (by omega), Nat.or_comm, Nat.mul_comm z1, ← o1, Nat.mul_comm 256 z1]
    rw [u32_or_nat _ _ (by omega) (by omega), Nat.or_comm, Nat.mul_comm z2, ← o2, Nat.mul_comm 65536 z2]
    rw [u32_or_nat _ _ (by omega) (by omega), Nat.or_comm, Nat.mul_comm z3, ← o3, Nat.mul_comm 16777216 z3]
    rw [u32_xor_nat _ _ hs (by omega), a1, a2, a3]
theorem xor_chain (a b c d : Nat) (ha : a < 4294967296) (hb : b < 4294967296) (hc : c < 4294967296) (hd : d < 4294967296) :
    bits .xor .u32 (bits .xor .u32 (bits .xor .u32 (a : Int) (b : Int)) (c : Int)) (d : Int) = ((a ^^^ b ^^^ c ^^^ d : Nat) : Int) := by
  have h1 := Cr.xor_lt 32 (show a < 2 ^ 32 by omega) (show b < 2 ^ 32 by omega)
  have h2 := Cr.xor_lt 32 h1 (show c < 2 ^ 32 by omega)
  rw [u32_xor_nat _ _ ha hb, u32_xor_nat _ _ (by omega) hc, u32_xor_nat _ _ (by omega) hd]

set_option maxHeartbeats 800000 in
theorem four_any (B b b1 o1 c : Nat) (s z0 z1 z2 z3 : Nat) (w : World) (ht : TabAt w B b) (hs : s < 4294967296) (h0 : z0 < 256) (h1 : z1 < 256) (h2 : z2 < 256) (h3 : z3 < 256)
    (c0 : w.cell? ⟨b1, o1, none⟩ = some (.int .u8 (z0 : Int))) (c1 : w.cell? ⟨b1, o1 + 1, none⟩ = some (.int .u8 (z1 : Int))) (c2 : w.cell? ⟨b1, o1 + 2, none⟩ = some (.int .u8 (z2 : Int))) (c3 : w.cell? ⟨b1, o1 + 3, none⟩ = some (.int .u8 (z3 : Int))) :
    Calls Try.prog 27 #[.pointer (some ⟨b, 0, none⟩), .int .u32 s, .slice (some ⟨b1, o1, none⟩) 4 c] w fun e w' => e = .returned (.int .u32 ((Cr.shn 8 (Cr.shn 8 (Cr.shn 8 (Cr.shn 8 (s ^^^ z0) ^^^ z1) ^^^ z2) ^^^ z3) : Nat) : Int)) ∧ ∃ n, w' = w.drewN n := by
  go_enter Try.func27, Try.ntmps27
  go_wp2
  go_quiet (fail)
  obtain ⟨x, hx, ex, hxe⟩ := four_word s z0 z1 z2 z3 hs h0 h1 h2 h3
  rw [ex]
  have hT := Cr.tables x
  rw [Nat.div_eq_of_lt (show x < 4294967296 from hx), Nat.xor_zero] at hT
  have hR : Cr.shn 8 (Cr.shn 8 (Cr.shn 8 (Cr.shn 8 (s ^^^ z0) ^^^ z1) ^^^ z2) ^^^ z3) = Cr.shn 32 x := by rw [Cr.four, hxe]
  rw [hT] at hR
  clear hT hxe ex c0 c1 c2 c3
  obtain ⟨q0, e0⟩ : ∃ q : Nat, q = x % 256 := ⟨_, rfl⟩
  obtain ⟨q1, e1⟩ : ∃ q : Nat, q = x / 256 % 256 := ⟨_, rfl⟩
  obtain ⟨q2, e2⟩ : ∃ q : Nat, q = x / 65536 % 256 := ⟨_, rfl⟩
  obtain ⟨q3, e3⟩ : ∃ q : Nat, q = x / 16777216 % 256 := ⟨_, rfl⟩
  rw [← e0, ← e1, ← e2, ← e3] at hR
  have HR := Lib.hid hR
  clear hR
  have k0 : q0 < 256 := by omega
  have k1 : q1 < 256 := by omega
  have k2 : q2 < 256 := by omega
  have k3 : q3 < 256 := by omega
  have t0 := ht.2 3 q0 (by omega) k0
  have t1 := ht.2 2 q1 (by omega) k1
  have t2 := ht.2 1 q2 (by omega) k2
  have t3 := ht.2 0 q3 (by omega) k3
  simp only [Nat.reduceMul, Nat.reduceAdd, Nat.zero_add, Nat.zero_mul, Nat.one_mul, Nat.mul_one] at t0 t1 t2 t3
  have HX := Lib.hid (xor_chain (Cr.shn 32 q0) (Cr.shn 24 q1) (Cr.shn 16 q2) (Cr.shn 8 q3) (Cr.shn_lt 32 (by omega)) (Cr.shn_lt 24 (by omega)) (Cr.shn_lt 16 (by omega)) (Cr.shn_lt 8 (by omega)))
  have i0 : IntKind.u8.wrap (x : Int) = (q0 : Int) := by rw [IntKind.wrap_u8]; omega
  have i1 : IntKind.u8.wrap ((x : Int) / 256) = (q1 : Int) := by rw [IntKind.wrap_u8]; omega
  have i2 : IntKind.u8.wrap ((x : Int) / 65536) = (q2 : Int) := by rw [IntKind.wrap_u8]; omega
  have i3 : IntKind.u8.wrap ((x : Int) / 16777216) = (q3 : Int) := by rw [IntKind.wrap_u8]; omega
  have l0 : (q0 : Int) < 256 := by omega
  have l1 : (q1 : Int) < 256 := by omega
  have l2 : (q2 : Int) < 256 := by omega
  have l3 : (q3 : Int) < 256 := by omega
  generalize Cr.shn 32 q0 = T0 at *
  generalize Cr.shn 24 q1 = T1 at *
  generalize Cr.shn 16 q2 = T2 at *
  generalize Cr.shn 8 q3 = T3 at *
  clear ht e0 e1 e2 e3 hs h0 h1 h2 h3 k0 k1 k2 k3
  go_wp2
  go_quiet (fail)
  go_wp2
  go_ret
  exact ⟨ret_int (HX.out.trans (by rw [HR.out])), by first | exact ⟨_, rfl⟩ | exact ⟨_ + _, by rw [World.drewN_drewN]⟩⟩
end Go.Proofs.Ytbhdffefjphphaa
