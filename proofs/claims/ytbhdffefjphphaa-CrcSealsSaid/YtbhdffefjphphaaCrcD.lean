/-
  Contract of Add.
-/
import Derived.Test.YtbhdffefjphphaaCrcF
namespace Go.Proofs.Ytbhdffefjphphaa
open Go.RowKit
set_option maxRecDepth 100000

theorem add_nil (s : Int) (v : Value) (w : World) : Calls Try.prog 13 #[.pointer none, .int .u32 s, v] w fun e w' => e = .returned (.int .u32 0) ∧ w' = w := by
  go_enter Try.func13, Try.ntmps13
  go_wp2
  refine wp_scope_straight ?_
  go_wp2
  simp only [Exit.noGoto]
  go_ret
  exact ⟨rfl, rfl⟩

theorem crc_four (s : Nat) (zs : List Int) (z0 z1 z2 z3 : Int) (j : Nat) (h0 : (zs.drop j)[0]? = some z0) (h1 : (zs.drop j)[1]? = some z1) (h2 : (zs.drop j)[2]? = some z2) (h3 : (zs.drop j)[3]? = some z3) :
    Cr.crc s (zs.take (j + 4)) = Cr.shn 8 (Cr.shn 8 (Cr.shn 8 (Cr.shn 8 (Cr.crc s (zs.take j) ^^^ z0.toNat) ^^^ z1.toNat) ^^^ z2.toNat) ^^^ z3.toNat) := by
  rw [List.getElem?_drop] at h0 h1 h2 h3
  rw [show j + 4 = j + 3 + 1 from rfl, crc_more s h3, show j + 3 = j + 2 + 1 from rfl, crc_more s h2, show j + 2 = j + 1 + 1 from rfl, crc_more s h1, crc_more s (k := j) (z := z0) (by simpa using h0)]
/-- the place of what is left behind i elements -/
theorem addr_drop (b1 o1 c i : Nat) (h : i ≠ 0) : (if c = i then (some ⟨b1, o1, none⟩ : Option Addr) else (some ⟨b1, o1, none⟩ : Option Addr).map (·.add i)) = if c = i then some ⟨b1, o1, none⟩ else some ⟨b1, o1 + i, none⟩ := by
  simp [Addr.add, h]

theorem byte_step (m n0 : Nat) (hm : m < 4294967296) (h0 : n0 < 256) : ∃ q : Nat, q < 256 ∧ bits .xor .u8 (IntKind.u8.wrap (m : Int)) (n0 : Int) = (q : Int) ∧ bits .xor .u32 ((Cr.shn 8 q : Nat) : Int) ((m : Int) / 256) = ((Cr.shn 8 (m ^^^ n0) : Nat) : Int) := by
  have hq : m % 256 ^^^ n0 < 2 ^ 8 := Cr.xor_lt 8 (by omega) (by omega)
  refine ⟨m % 256 ^^^ n0, by omega, ?_, ?_⟩
  · rw [IntKind.wrap_u8, show (m : Int) % 256 = ((m % 256 : Nat) : Int) by omega, u8_xor_nat _ _ (by omega) h0]
  · have hl := Cr.shn_lt (n := m % 256 ^^^ n0) 8 (by omega)
    rw [show (m : Int) / 256 = ((m / 256 : Nat) : Int) by omega, u32_xor_nat _ _ (by omega) (by omega), Cr.step m n0 h0]

set_option maxHeartbeats 1000000 in
theorem add_any (B b : Nat) (a : Option Addr) (n c s : Nat) (zs : List Int) (w : World) (ht : TabAt w B b) (hs : s < 4294967296) (hn : zs.length = n) (hc : n ≤ c) (hl : n ≤ 9223372036854775807) (hz : Bytes zs) (h1 : Nums .u8 w B a zs) :
    Calls Try.prog 13 #[.pointer (some ⟨b, 0, none⟩), .int .u32 s, .slice a n c] w fun e w' => e = .returned (.int .u32 ((Cr.crc s zs : Nat) : Int)) ∧ ∃ m, w' = w.drewN m := by
  have HZ := Lib.hid hz
  have HN := Lib.hid hn
  have HT := Lib.hid ht
  clear hz hn ht
  go_enter Try.func13, Try.ntmps13
  go_wp2
  refine wp_scope_straight ?_
  go_wp2
  refine wp_label ?_
  go_wp2
  go_loopw [1, 2] (fun x y wr => ∃ (j r m : Nat) (A : Option Addr) (c : Nat), j + r = n ∧ x = .int .u32 (m : Int) ∧ m < 4294967296 ∧ Hid (m = Cr.crc s (zs.take j)) ∧ y = .slice A r c ∧ r ≤ c ∧ Hid (Nums .u8 w B A (zs.drop j)) ∧ ∃ d, wr = w.drewN d) (fun _ y _ => match y with | .slice _ r _ => r | _ => 0)
  case atStart => exact ⟨0, n, s, a, c, by omega, rfl, hs, rfl, rfl, hc, h1, 0, rfl⟩
  case round =>
    obtain ⟨j, r, m, A, c, hj, rfl, hm, HE, rfl, hrc, HA, d, rfl⟩ := hrel
    have hlen : (zs.drop j).length = r := by rw [List.length_drop, HN.out]; omega
    by_cases h4 : 4 ≤ r
    · obtain ⟨z0, e0⟩ : ∃ z, (zs.drop j)[0]? = some z := ⟨_, List.getElem?_eq_getElem (by omega)⟩
      obtain ⟨z1, e1⟩ : ∃ z, (zs.drop j)[1]? = some z := ⟨_, List.getElem?_eq_getElem (by omega)⟩
      obtain ⟨z2, e2⟩ : ∃ z, (zs.drop j)[2]? = some z := ⟨_, List.getElem?_eq_getElem (by omega)⟩
      obtain ⟨z3, e3⟩ : ∃ z, (zs.drop j)[3]? = some z := ⟨_, List.getElem?_eq_getElem (by omega)⟩
      have g0 := HZ.out z0 (List.mem_of_mem_drop (List.mem_of_getElem? e0))
      have g1 := HZ.out z1 (List.mem_of_mem_drop (List.mem_of_getElem? e1))
      have g2 := HZ.out z2 (List.mem_of_mem_drop (List.mem_of_getElem? e2))
      have g3 := HZ.out z3 (List.mem_of_mem_drop (List.mem_of_getElem? e3))
      have HF := Lib.hid (crc_four s zs z0 z1 z2 z3 j e0 e1 e2 e3)
      have hnd := HA.out.drop (i := 4) (cap := c) (by omega)
      rw [List.drop_drop] at hnd
      obtain ⟨b1, o1, rfl, hb1, hcell⟩ := HA.out (by intro e; rw [e] at e0; simp at e0)
      rw [addr_drop _ _ _ _ (by omega)] at hnd
      obtain ⟨A', hA⟩ : ∃ A', (if c = 4 then (some ⟨b1, o1, none⟩ : Option Addr) else some ⟨b1, o1 + 4, none⟩) = A' := ⟨_, rfl⟩
      rw [hA] at hnd
      have HND := Lib.hid hnd
      have HC := Lib.hid hcell
      have c0 := hcell 0 z0 e0
      have c1 := hcell 1 z1 e1
      have c2 := hcell 2 z2 e2
      have c3 := hcell 3 z3 e3
      simp only [Nat.add_zero] at c0
      clear hnd hcell e0 e1 e2 e3 hlen HA h1
      obtain ⟨n0, rfl⟩ := Int.eq_ofNat_of_zero_le g0.1
      obtain ⟨n1, rfl⟩ := Int.eq_ofNat_of_zero_le g1.1
      obtain ⟨n2, rfl⟩ := Int.eq_ofNat_of_zero_le g2.1
      obtain ⟨n3, rfl⟩ := Int.eq_ofNat_of_zero_le g3.1
      have K := four_any B b b1 o1 c m n0 n1 n2 n3 (w.drewN d) HT.out hm (by omega) (by omega) (by omega) (by omega) c0 c1 c2 c3
      simp only [Int.toNat_natCast] at HF
      have h4' : (4 : Int) ≤ (r : Int) := by omega
      have hlt := Cr.shn_lt (n := (Cr.shn 8 (Cr.shn 8 (Cr.shn 8 (m ^^^ n0) ^^^ n1) ^^^ n2) ^^^ n3)) 8 (Cr.byte_xor_lt (Cr.shn_lt 8 (Cr.byte_xor_lt (Cr.shn_lt 8 (Cr.byte_xor_lt (Cr.shn_lt 8 (Cr.byte_xor_lt (by omega) (by omega))) (by omega))) (by omega))) (by omega))
      have HF2 : Hid (Cr.shn 8 (Cr.shn 8 (Cr.shn 8 (Cr.shn 8 (m ^^^ n0) ^^^ n1) ^^^ n2) ^^^ n3) = Cr.crc s (zs.take (j + 4))) := by
        have h := HF.out
        rw [← HE.out] at h
        exact h.symm
      clear HF
      generalize Cr.shn 8 (Cr.shn 8 (Cr.shn 8 (Cr.shn 8 (m ^^^ n0) ^^^ n1) ^^^ n2) ^^^ n3) = M at *
      clear c0 c1 c2 c3 g0 g1 g2 g3
      go_wp2_with fail
      refine K.mono ?_
      rintro e w' ⟨rfl, d2, rfl⟩
      go_wp2
      go_roundw
      case rel => exact ⟨j + 4, r - 4, M, A', c - 4, by omega, by go_num, by omega, HF2, by first | rfl | (congr 1; omega), by omega, HND.out, _, by first | rfl | rw [World.drewN_drewN]⟩
      case measure => simp; omega
    · have h4' : ¬ (4 : Int) ≤ (r : Int) := by omega
      by_cases h0 : 0 < r
      · obtain ⟨z0, e0⟩ : ∃ z, (zs.drop j)[0]? = some z := ⟨_, List.getElem?_eq_getElem (by omega)⟩
        have g0 := HZ.out z0 (List.mem_of_mem_drop (List.mem_of_getElem? e0))
        have HF := Lib.hid (crc_more s (zs := zs) (k := j) (z := z0) (by rw [List.getElem?_drop] at e0; simpa using e0))
        have hnd := HA.out.drop (i := 1) (cap := c) (by omega)
        rw [List.drop_drop] at hnd
        obtain ⟨b1, o1, rfl, hb1, hcell⟩ := HA.out (by intro e; rw [e] at e0; simp at e0)
        rw [addr_drop _ _ _ _ (by omega)] at hnd
        obtain ⟨A', hA⟩ : ∃ A', (if c = 1 then (some ⟨b1, o1, none⟩ : Option Addr) else some ⟨b1, o1 + 1, none⟩) = A' := ⟨_, rfl⟩
        rw [hA] at hnd
        have HND := Lib.hid hnd
        have c0 := hcell 0 z0 e0
        simp only [Nat.add_zero] at c0
        clear hnd hcell e0 hlen HA h1
        obtain ⟨n0, rfl⟩ := Int.eq_ofNat_of_zero_le g0.1
        obtain ⟨q, hq, eq, hM⟩ := byte_step m n0 hm (by omega)
        have hq' : (q : Int) < 256 := by omega
        have t0 := HT.out.2 0 q (by omega) hq
        simp only [Nat.zero_add, Nat.zero_mul, Nat.mul_one] at t0
        have HM := Lib.hid hM
        clear hM
        simp only [Int.toNat_natCast] at HF
        have h0' : (0 : Int) < (r : Int) := by omega
        have hlt := Cr.shn_lt (n := m ^^^ n0) 8 (Cr.byte_xor_lt (by omega) (by omega))
        have HF2 : Hid (Cr.shn 8 (m ^^^ n0) = Cr.crc s (zs.take (j + 1))) := by
          have h := HF.out
          rw [← HE.out] at h
          exact h.symm
        clear HF
        generalize Cr.shn 8 (m ^^^ n0) = M at *
        generalize Cr.shn 8 q = T at *
        clear g0
        go_wp2
        go_quiet (fail)
        rw [HM.out]
        go_wp2
        go_roundw
        case rel => exact ⟨j + 1, r - 1, M, A', c - 1, by omega, by go_num, by omega, HF2, by first | rfl | (congr 1; omega), by omega, HND.out, _, by first | rfl | rw [World.drewN_drewN]⟩
        case measure => simp; omega
      · obtain rfl : r = 0 := by omega
        have hjn : j = n := by omega
        have HJ := Lib.hid hjn
        clear hjn
        go_wp2
        go_ret
        refine ⟨ret_int ?_, d, rfl⟩
        rw [HE.out, HJ.out, ← HN.out, List.take_length]
end Go.Proofs.Ytbhdffefjphphaa
