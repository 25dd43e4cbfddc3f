/-
  The walk of the law CobsSizes: it returns true.
-/
import Derived.Test.YtljacfhkjhhbgaaCobK
namespace Go.Proofs.Ytljacfhkjhhbgaa
open Go.RowKit
set_option maxRecDepth 100000

theorem most_int (n : Nat) (w : World) (hl : n ≤ 1000000000) :
    Calls Try.prog 17 #[.int .i64 n] w fun e w' => e = .returned (.int .i64 ((n : Int) + max 1 (((n : Int) + 253) / 254))) ∧ w' = w := by
  refine (most_any n w hl).mono ?_
  rintro e w' ⟨rfl, rfl⟩
  exact ⟨ret_int (by omega), rfl⟩

set_option maxHeartbeats 2000000 in
theorem sizes_go (a : Option Addr) (n m c : Nat) (es : List Int) (x : Int) (w : World) (hn : es.length = n) (hc : n ≤ c) (_hl : n ≤ 9223372036854775807) (hz : Bytes es) (h1 : Nums .u8 w w.heap.size a es)
    (hm : min (n : Int) 1000 = (m : Int)) (hmn : m ≤ n) (hm2 : m ≤ 1000) :
    Calls Try.prog 5 #[.slice a n c, .int .i64 x] w fun e w' => e = .returned (.bool true) ∧ Below w.heap.size w w' := by
  have hmc : (m : Int) ≤ (c : Int) := by omega
  have hlen : (es.take m).length = m := by rw [List.length_take]; omega
  have hzb := hz.take m
  have hnum := h1.take m
  generalize es.take m = bs at *
  clear hz h1 hn
  have HZ := Lib.hid hzb
  have HL := Lib.hid hlen
  have K := size_any a m c bs w hlen (by omega) (by omega) hzb hnum
  have HE := Lib.hid (Cb.enc_len bs)
  generalize (Cb.enc bs).length = Z at *
  obtain ⟨T, hT⟩ : ∃ T : Int, (m : Int) + max 1 (((m : Int) + 253) / 254) = T := ⟨_, rfl⟩
  clear hlen hzb
  go_enter Try.func5, Try.ntmps5
  go_wp2_with fail
  refine K.mono ?_
  rintro e w1 ⟨rfl, hb1⟩
  clear K
  have hnum1 := hnum.below hb1
  go_wp2
  go_loopw [8, 9] (fun v i wr => ∃ (k : Nat) (f : Bool), k ≤ m ∧ v = .bool f ∧ i = .int .i64 k ∧ Hid (f = true → Cb.NZ (bs.take k)) ∧ wr = w1) (fun _ i _ => m - (intOf i).toNat)
  case atStart => exact ⟨0, true, by omega, rfl, rfl, fun _ c hc => by simp at hc, rfl⟩
  case round =>
    obtain ⟨k, f, hk, rfl, rfl, HF, rfl⟩ := hrel
    by_cases hlt : k < m
    · obtain ⟨z, hz⟩ : ∃ z, bs[k]? = some z := ⟨_, List.getElem?_eq_getElem (by rw [HL.out]; exact hlt)⟩
      obtain ⟨b1, o1, rfl, hbb, hc1⟩ := hnum1.open hz
      have hzz := Lib.hid hz
      have hlt' : (k : Int) < (m : Int) := by omega
      clear hz
      cases f with
      | false =>
        go_wp2
        go_roundw
        case rel => exact ⟨k + 1, false, by omega, rfl, by go_num, fun h => by simp at h, trivial⟩
        case measure => simp [intOf]; omega
      | true =>
        by_cases hz0 : z = 0
        · have hz1 : (z != 0) = false := by simp [hz0]
          clear hz0
          go_wp2
          go_roundw
          case rel => exact ⟨k + 1, false, by omega, rfl, by go_num, fun h => by simp at h, trivial⟩
          case measure => simp [intOf]; omega
        · have hz1 : (z != 0) = true := by simp [hz0]
          have HQ : Hid (Cb.NZ (bs.take (k + 1))) := by
            show Cb.NZ _
            rw [List.take_add_one, hzz.out]
            exact (HF.out rfl).append (fun c hc => by simp at hc; subst hc; exact hz0)
          clear hz0
          go_wp2
          go_roundw
          case rel => exact ⟨k + 1, true, by omega, rfl, by go_num, fun _ => HQ.out, trivial⟩
          case measure => simp [intOf]; omega
    · have hkm : k = m := by omega
      have HW : Hid (f = true → Cb.NZ bs) := fun h => by
        have h2 := HF.out h
        rwa [List.take_of_length_le (by rw [HL.out]; omega)] at h2
      clear HF
      subst hkm
      obtain ⟨N, hN, hN9⟩ : ∃ N : Nat, wrap64 ((IntKind.u64.wrap x).tmod 1000000000) = (N : Int) ∧ N < 1000000000 := by
        have h1 : 0 ≤ IntKind.u64.wrap x ∧ IntKind.u64.wrap x < 18446744073709551616 := by
          rw [IntKind.wrap_u64]; omega
        generalize IntKind.u64.wrap x = y at *
        rw [Int.tmod_eq_emod_of_nonneg h1.1]
        refine ⟨(y % 1000000000).toNat, ?_, by omega⟩
        simp only [wrap64]
        omega
      have hT9 : ∀ W, Hid (Calls Try.prog 17 #[.int .i64 (k : Int)] W fun e w' => e = .returned (.int .i64 T) ∧ w' = W) := fun W => by
        have := most_int k W (by omega)
        rw [hT] at this
        exact this
      have hN8 : ∀ W, Hid (Calls Try.prog 17 #[.int .i64 (N : Int)] W fun e w' => e = .returned (.int .i64 ((N : Int) + max 1 (((N : Int) + 253) / 254))) ∧ w' = W) := fun W => most_int N W (by omega)
      have hN7 : ∀ W, Hid (Calls Try.prog 17 #[.int .i64 (-1 - (N : Int))] W fun e w' => e = .returned (.int .i64 0) ∧ w' = W) := fun W => most_neg _ W (by omega)
      have HEE := HE.out
      rw [HL.out] at HEE
      have f1 : (k : Int) + 1 ≤ (Z : Int) := by omega
      have f2 : (Z : Int) ≤ T := by omega
      by_cases hk4 : (254 : Int) < (k : Int)
      · cases f with
        | false =>
          clear HEE
          go_wp2_with fail
          refine (known_any _).mono ?_
          rintro e w2 ⟨rfl, hb2⟩
          try rw [hN]
          go_wp2_with fail
          refine (hT9 _).out.mono ?_
          rintro e w3 ⟨rfl, rfl⟩
          go_wp2_with fail
          refine (hN8 _).out.mono ?_
          rintro e w4 ⟨rfl, rfl⟩
          go_wp2_with fail
          refine (hN7 _).out.mono ?_
          rintro e w5 ⟨rfl, rfl⟩
          go_wp2
          go_ret
          exact ⟨rfl, hb1.trans (hb2.mono hb1.size)⟩
        | true =>
          have f4 : ((Z : Int) == T) = true := by
            have := HEE.2.2.2 (HW.out rfl)
            rw [beq_iff_eq]
            omega
          clear HEE
          go_wp2_with fail
          refine (known_any _).mono ?_
          rintro e w2 ⟨rfl, hb2⟩
          try rw [hN]
          go_wp2_with fail
          refine (hT9 _).out.mono ?_
          rintro e w3 ⟨rfl, rfl⟩
          go_wp2_with fail
          refine (hN8 _).out.mono ?_
          rintro e w4 ⟨rfl, rfl⟩
          go_wp2_with fail
          refine (hN7 _).out.mono ?_
          rintro e w5 ⟨rfl, rfl⟩
          go_wp2
          go_ret
          exact ⟨rfl, hb1.trans (hb2.mono hb1.size)⟩
      · have f3 : ((Z : Int) == (k : Int) + 1) = true := by
          have := HEE.2.2.1 (by omega)
          rw [beq_iff_eq]
          omega
        cases f with
        | false =>
          clear HEE
          go_wp2_with fail
          refine (known_any _).mono ?_
          rintro e w2 ⟨rfl, hb2⟩
          try rw [hN]
          go_wp2_with fail
          refine (hT9 _).out.mono ?_
          rintro e w3 ⟨rfl, rfl⟩
          go_wp2_with fail
          refine (hN8 _).out.mono ?_
          rintro e w4 ⟨rfl, rfl⟩
          go_wp2_with fail
          refine (hN7 _).out.mono ?_
          rintro e w5 ⟨rfl, rfl⟩
          go_wp2
          go_ret
          exact ⟨rfl, hb1.trans (hb2.mono hb1.size)⟩
        | true =>
          have f4 : ((Z : Int) == T) = true := by
            have := HEE.2.2.2 (HW.out rfl)
            rw [beq_iff_eq]
            omega
          clear HEE
          go_wp2_with fail
          refine (known_any _).mono ?_
          rintro e w2 ⟨rfl, hb2⟩
          try rw [hN]
          go_wp2_with fail
          refine (hT9 _).out.mono ?_
          rintro e w3 ⟨rfl, rfl⟩
          go_wp2_with fail
          refine (hN8 _).out.mono ?_
          rintro e w4 ⟨rfl, rfl⟩
          go_wp2_with fail
          refine (hN7 _).out.mono ?_
          rintro e w5 ⟨rfl, rfl⟩
          go_wp2
          go_ret
          exact ⟨rfl, hb1.trans (hb2.mono hb1.size)⟩

theorem walk_sizes (a0 : Option Addr) (len0 cap0 : Nat) (z0 : List Int) (a1 : Int) (w : World) (w0 : IsRow .u8 w a0 len0 cap0 z0) (_w1 : (Lit.int .i64 a1).wf = true) :
    Calls Try.prog 5 #[.slice a0 len0 cap0, .int .i64 a1] w fun e w' => e = .returned (.bool true) ∧ Below w.heap.size w w' := by
  obtain ⟨e0, l0, q0, m0, k0, r0⟩ := w0.elems
  exact sizes_go a0 len0 (min len0 1000) cap0 e0 a1 w l0 q0 (Nat.le_trans q0 m0) (bytes_of r0) k0 (by omega) (by omega) (by omega)
end Go.Proofs.Ytljacfhkjhhbgaa
