/-
  Contracts of the leaf functions of layer 4: shifted, Begin, End, Slow.
-/
import Derived.Test.YtbhdffefjphphaaRows
import Derived.Test.YtbhdffefjphphaaMem
import Derived.Test.YtbhdffefjphphaaCrcN
import Derived.WalkLawsBesides
import Derived.BigQuiet
import Derived.Deep.QuietTactic
import Derived.Deep.LoopGhost
import Derived.Lib.Hide
import Derived.WalkMore
namespace Go.Proofs.Ytbhdffefjphphaa
open Go.RowKit
set_option maxRecDepth 100000

theorem ret_int {k : IntKind} {a b : Int} (h : a = b) : Ending.returned (.int k a) = .returned (.int k b) := by rw [h]
theorem u32_not (n : Nat) (h : n < 4294967296) : bits .xor .u32 4294967295 (n : Int) = ((Cr.ones - n : Nat) : Int) := by
  rw [show (4294967295 : Int) = ((4294967295 : Nat) : Int) from rfl, u32_xor_nat _ _ (by omega) h, Cr.not_xor h, Nat.xor_comm]
  rfl
theorem sh1_odd (n : Nat) (h : n < 4294967296) (ho : n % 2 = 1) : bits .xor .u32 ((n / 2 : Nat) : Int) 3988292384 = ((Cr.sh1 n : Nat) : Int) := by
  rw [show (3988292384 : Int) = ((3988292384 : Nat) : Int) from rfl, u32_xor_nat _ _ (by omega) (by omega), Cr.sh1, if_pos ho]
  rfl
theorem sh1_even (n : Nat) (ho : n % 2 = 0) : n / 2 = Cr.sh1 n := by
  rw [Cr.sh1, if_neg (by omega)]
  simp
theorem and1 (n : Nat) (h : n < 4294967296) : bits .and .u32 (n : Int) 1 = ((n % 2 : Nat) : Int) := by
  rw [show (1 : Int) = ((1 : Nat) : Int) from rfl, u32_and_nat _ _ h (by omega), Nat.and_one_is_mod]

theorem shifted_any (n : Nat) (w : World) (h : n < 4294967296) :
    Calls Try.prog 25 #[.int .u32 n] w fun e w' => e = .returned (.int .u32 (Cr.shn 8 n : Nat)) ∧ w' = w := by
  go_enter Try.func25, Try.ntmps25
  go_wp2
  go_loopw [0, 3, 4] (fun x o i wr => ∃ (k m : Nat), k ≤ 8 ∧ i = .int .i64 k ∧ x = .int .u32 (m : Int) ∧ m < 4294967296 ∧ Hid (Cr.shn (8 - k) m = Cr.shn 8 n) ∧ wr = w) (fun _ _ i _ => 8 - (intOf i).toNat)
  case atStart => exact ⟨0, n, by omega, rfl, rfl, h, rfl, rfl⟩
  case round =>
    obtain ⟨k, m, hk, rfl, rfl, hm, HE, rfl⟩ := hrel
    by_cases hlt : k < 8
    · have HS : Hid (Cr.shn (8 - (k + 1)) (Cr.sh1 m) = Cr.shn 8 n) := by
        have := HE.out
        rw [show 8 - k = (8 - (k + 1)) + 1 by omega] at this
        exact this
      have H1 := Lib.hid (and1 m hm)
      have hlt' : (k : Int) < 8 := by omega
      rcases Nat.mod_two_eq_zero_or_one m with ho | ho
      · have HV := Lib.hid (sh1_even m ho)
        have e1 : bits .and .u32 (m : Int) 1 = 0 := by rw [H1.out, ho]; rfl
        clear ho
        go_wp2
        go_roundw
        case rel => exact ⟨k + 1, Cr.sh1 m, by omega, by go_num, by rw [← HV.out]; go_num, by have := Cr.sh1_lt (n := m) (by omega); omega, HS, trivial⟩
        case measure => simp [intOf]; omega
      · have HV := Lib.hid (sh1_odd m hm ho)
        have e1 : bits .and .u32 (m : Int) 1 = 1 := by rw [H1.out, ho]; rfl
        clear ho
        go_wp2
        go_roundw
        case rel => exact ⟨k + 1, Cr.sh1 m, by omega, by go_num, by rw [← HV.out]; go_num, by have := Cr.sh1_lt (n := m) (by omega); omega, HS, trivial⟩
        case measure => simp [intOf]; omega
    · obtain rfl : k = 8 := by omega
      go_wp2
      go_ret
      refine ⟨?_, rfl⟩
      rw [← HE.out]
      rfl


theorem begin_nil (w : World) : Calls Try.prog 14 #[.pointer none] w fun e w' => e = .returned (.int .u32 0) ∧ w' = w := by
  go_enter Try.func14, Try.ntmps14
  go_wp2
  go_ret
  exact ⟨rfl, rfl⟩
theorem begin_any (b : Nat) (w : World) : Calls Try.prog 14 #[.pointer (some ⟨b, 0, none⟩)] w fun e w' => e = .returned (.int .u32 ((Cr.ones : Nat) : Int)) ∧ w' = w := by
  go_enter Try.func14, Try.ntmps14
  go_wp2
  go_ret
  exact ⟨rfl, rfl⟩
theorem end_nil (n : Int) (w : World) : Calls Try.prog 18 #[.pointer none, .int .u32 n] w fun e w' => e = .returned (.int .u32 0) ∧ w' = w := by
  go_enter Try.func18, Try.ntmps18
  go_wp2
  go_ret
  exact ⟨rfl, rfl⟩
theorem end_any (b n : Nat) (w : World) (h : n < 4294967296) : Calls Try.prog 18 #[.pointer (some ⟨b, 0, none⟩), .int .u32 n] w fun e w' => e = .returned (.int .u32 ((Cr.ones - n : Nat) : Int)) ∧ w' = w := by
  have H := Lib.hid (u32_not n h)
  go_enter Try.func18, Try.ntmps18
  go_wp2
  go_ret
  exact ⟨ret_int H.out, rfl⟩
theorem entry_nil (i : Int) (w : World) : Calls Try.prog 19 #[.pointer none, .int .i64 i] w fun e w' => e = .returned (.int .u32 0) ∧ w' = w := by
  go_enter Try.func19, Try.ntmps19
  go_wp2
  go_ret
  exact ⟨rfl, rfl⟩
/-- the table lies in block b, below B -/
def TabAt (w : World) (B b : Nat) : Prop := b < B ∧ ∀ k i : Nat, k < 4 → i < 256 → w.cell? ⟨b, k * 256 + i, none⟩ = some (.int .u32 ((Cr.shn (8 * (k + 1)) i : Nat) : Int))
theorem TabAt.below {w w' : World} {B b : Nat} (h : TabAt w B b) (hb : Below B w w') : TabAt w' B b := ⟨h.1, fun k i hk hi => (hb.cell (p := ⟨b, k * 256 + i, none⟩) h.1).trans (h.2 k i hk hi)⟩
theorem TabAt.mono {w : World} {B B' b : Nat} (h : TabAt w B b) (hB : B ≤ B') : TabAt w B' b := ⟨Nat.lt_of_lt_of_le h.1 hB, h.2⟩
theorem entry_any (B b i : Nat) (w : World) (h : TabAt w B b) (hi : i < 256) : Calls Try.prog 19 #[.pointer (some ⟨b, 0, none⟩), .int .i64 (i : Int)] w fun e w' => e = .returned (.int .u32 ((Cr.shn 8 i : Nat) : Int)) ∧ w' = w := by
  have hc := h.2 0 i (by omega) hi
  simp only [Nat.zero_mul, Nat.zero_add, Nat.mul_one] at hc
  have hi' : (i : Int) < 256 := by omega
  go_enter Try.func19, Try.ntmps19
  go_wp2
  go_ret
  exact ⟨rfl, rfl⟩
theorem entry_out (b : Nat) (i : Int) (w : World) (hi : i < 0 ∨ 256 ≤ i) : Calls Try.prog 19 #[.pointer (some ⟨b, 0, none⟩), .int .i64 i] w fun e w' => e = .returned (.int .u32 0) ∧ w' = w := by
  rcases hi with hi | hi
  · skip
    go_enter Try.func19, Try.ntmps19
    go_wp2
    go_ret
    exact ⟨rfl, rfl⟩
  · have h0 : ¬ i < 0 := by omega
    go_enter Try.func19, Try.ntmps19
    go_wp2
    go_ret
    exact ⟨rfl, rfl⟩

theorem take_more {zs : List Int} {k : Nat} {z : Int} (h : zs[k]? = some z) : zs.take (k + 1) = zs.take k ++ [z] := by
  have hk : k < zs.length := by
    rcases Nat.lt_or_ge k zs.length with h1 | h1
    · exact h1
    · rw [List.getElem?_eq_none h1] at h; simp at h
  rw [List.getElem?_eq_getElem hk] at h
  injection h with h
  rw [List.take_succ_eq_append_getElem hk, h]
theorem crc_more {zs : List Int} {k : Nat} {z : Int} (s : Nat) (h : zs[k]? = some z) : Cr.crc s (zs.take (k + 1)) = Cr.shn 8 (Cr.crc s (zs.take k) ^^^ z.toNat) := by
  rw [take_more h, Cr.crc_append]
  rfl
theorem u32_xor_byte (s : Nat) (z : Int) (hs : s < 4294967296) (h0 : 0 ≤ z) (h1 : z < 256) : bits .xor .u32 (s : Int) z = ((s ^^^ z.toNat : Nat) : Int) := by
  obtain ⟨m, rfl⟩ := Int.eq_ofNat_of_zero_le h0
  rw [u32_xor_nat s m hs (by omega), Int.toNat_natCast]
/-- bytes -/
def Bytes (zs : List Int) : Prop := ∀ z ∈ zs, 0 ≤ z ∧ z < 256
theorem Bytes.lt {zs : List Int} (h : Bytes zs) : ∀ z ∈ zs, z < 256 := fun z hz => (h z hz).2
theorem Bytes.take {zs : List Int} (h : Bytes zs) (n : Nat) : Bytes (zs.take n) := fun z hz => h z (List.mem_of_mem_take hz)
theorem Bytes.drop {zs : List Int} (h : Bytes zs) (n : Nat) : Bytes (zs.drop n) := fun z hz => h z (List.mem_of_mem_drop hz)

theorem slow_any (B : Nat) (a : Option Addr) (n c : Nat) (zs : List Int) (w : World) (hn : zs.length = n) (hl : n ≤ 9223372036854775807) (hz : Bytes zs) (h1 : Nums .u8 w B a zs) :
    Calls Try.prog 17 #[.slice a n c] w fun e w' => e = .returned (.int .u32 ((Cr.sum zs : Nat) : Int)) ∧ w' = w := by
  have HZ := Lib.hid hz
  have HN := Lib.hid hn
  clear hz hn
  go_enter Try.func17, Try.ntmps17
  go_wp2
  go_loopw [3, 8] (fun x i wr => ∃ (k m : Nat), k ≤ n ∧ i = .int .i64 k ∧ x = .int .u32 (m : Int) ∧ m < 4294967296 ∧ Hid (m = Cr.crc Cr.ones (zs.take k)) ∧ wr = w) (fun _ i _ => n - (intOf i).toNat)
  case atStart => exact ⟨0, Cr.ones, by omega, rfl, rfl, by decide, rfl, rfl⟩
  case round =>
    obtain ⟨k, m, hk, rfl, rfl, hm, HE, rfl⟩ := hrel
    by_cases hlt : k < n
    · obtain ⟨z, hc⟩ : ∃ z, zs[k]? = some z := ⟨_, List.getElem?_eq_getElem (by rw [HN.out]; exact hlt)⟩
      have hzb := HZ.out z (List.mem_of_getElem? hc)
      have HM := Lib.hid (crc_more Cr.ones hc)
      obtain ⟨b1, o1, rfl, hb1, hc1⟩ := h1.open hc
      clear h1 hc
      have hz0 := hzb.1
      have hz1 := hzb.2
      clear hzb
      have HX := Lib.hid (u32_xor_byte m z hm hz0 hz1)
      have hx := Cr.byte_xor_lt (s := m) (b := z.toNat) (by omega) (by omega)
      simp only [Nat.reducePow] at hx
      have hlt' : (k : Int) < (n : Int) := by omega
      go_wp2_with fail
      rw [HX.out]
      refine (shifted_any _ _ hx).mono ?_
      rintro e w' ⟨rfl, rfl⟩
      go_wp2
      go_roundw
      case rel => exact ⟨k + 1, _, by omega, by go_num, rfl, by have := Cr.shn_lt (n := m ^^^ z.toNat) 8 (by omega); omega, by have h := HM.out; rw [← HE.out] at h; exact h.symm, trivial⟩
      case measure => simp [intOf]; omega
    · have hk' : k = n := by omega
      have HK := Lib.hid hk'
      clear hk'
      have HU := Lib.hid (u32_not m hm)
      go_wp2
      go_ret
      refine ⟨ret_int (HU.out.trans ?_), rfl⟩
      rw [HE.out, HK.out, ← HN.out, List.take_length]
      rfl
end Go.Proofs.Ytbhdffefjphphaa
