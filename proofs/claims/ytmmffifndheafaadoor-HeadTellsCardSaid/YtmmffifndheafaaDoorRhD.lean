/-
  Contract of the document's Digits of layer 7: a number's numeral.
-/
import Derived.Test.YtmmffifndheafaaDoorHdL
import Derived.WalkMore
import Derived.Deep.LoopGhost
import Derived.Laws.IdiomStrings
namespace Go.Proofs.YtmmffifndheafaaDoor
open Go.RowKit
set_option maxRecDepth 100000

/-- one byte as a string -/
theorem conv_one (w : World) (z : Int) (d : UInt8) (h : z = (d.toNat : Int)) :
    (convert 25 9 (.slice (some ⟨w.heap.size, 0, none⟩) 1 1)).run Tryd.prog (w.alloc (.cells #[.int .u8 z] 5)) = .ok (.string ⟨#[d]⟩) (w.alloc (.cells #[.int .u8 z] 5)) := by
  have := run_convert_bytes_back (P := Tryd.prog) (w.alloc (.cells #[.int .u8 z] 5)) 25 9 5 ⟨w.heap.size, 0, none⟩ 1 [d] Tryd.underlying25 Tryd.underlying5 Tryd.underlying9 (fun j hj => by
    obtain rfl : j = 0 := by simpa using hj
    simp [Addr.add, h])
  exact this

/-- the digits that stand behind those of u -/
def Behind (u0 u : Nat) (B : ByteArray) : Prop := ∃ bs : List UInt8, B = ⟨bs.toArray⟩ ∧ Lib.decDigits u0 = Lib.decDigits u ++ bs
theorem Behind.size {u0 u : Nat} {B : ByteArray} (h0 : u0 < 18446744073709551616) (h : Behind u0 u B) : B.size ≤ 20 := by
  obtain ⟨bs, rfl, e⟩ := h
  have h1 := congrArg List.length e
  rw [List.length_append, Lib.decDigits_length] at h1
  have := nDigits_le h0
  show bs.toArray.size ≤ 20
  simp only [List.size_toArray]
  omega
theorem Behind.step {u0 u : Nat} {B : ByteArray} (h : Behind u0 u B) (hu : ¬ u < 10) : Behind u0 (u / 10) (({ data := #[UInt8.ofNat (48 + u % 10)] } : ByteArray) ++ B) := by
  obtain ⟨bs, rfl, e⟩ := h
  refine ⟨UInt8.ofNat (48 + u % 10) :: bs, ?_, ?_⟩
  · apply ByteArray.ext
    simp
  · rw [e, Lib.decDigits, dif_neg hu, List.append_assoc]; rfl
theorem Behind.last {u0 u : Nat} {B : ByteArray} (h : Behind u0 u B) (hu : u < 10) : (({ data := #[UInt8.ofNat (48 + u)] } : ByteArray) ++ B) = ⟨(Lib.decDigits u0).toArray⟩ := by
  obtain ⟨bs, rfl, e⟩ := h
  rw [e, Lib.decDigits_one hu]
  apply ByteArray.ext
  simp
theorem dig_nat {u : Nat} (hu : u < 10) : (48 + (u : Int)) = ((UInt8.ofNat (48 + u)).toNat : Int) := by
  rw [UInt8.toNat_ofNat']; omega

set_option maxHeartbeats 1000000 in
theorem rdigits_pos (u0 : Nat) (h0 : u0 ≤ 9223372036854775807) (w : World) :
    Calls Tryd.prog 21 #[.int .i64 (u0 : Int)] w fun e w' => e = .returned (.string ⟨(Lib.decDigits u0).toArray⟩) ∧ Below w.heap.size w w' := by
  have H0 := Lib.hid (show u0 < 18446744073709551616 by omega)
  go_enter Tryd.func21, Tryd.ntmps21
  go_wp2
  go_loopw [0, 4] (fun nv ov wr => ∃ (u : Nat) (B : ByteArray), u ≤ 9223372036854775807 ∧ nv = .int .i64 (u : Int) ∧ ov = .string B ∧ Hid (Behind u0 u B) ∧ Below w.heap.size w wr) (fun nv _ _ => (intOf nv).toNat)
  case atStart => exact ⟨u0, _, h0, rfl, rfl, ⟨[], rfl, by simp⟩, Below.refl _ _⟩
  case round =>
    obtain ⟨u, B, hu, rfl, rfl, HB, hb⟩ := hrel
    have hsz := HB.out.size H0.out
    by_cases h1 : u < 10
    · have h2 : ¬ (10 : Int) ≤ (u : Int) := by omega
      have hcv := conv_one wr (48 + (u : Int)) (UInt8.ofNat (48 + u)) (dig_nat h1)
      have HL := Lib.hid (HB.out.last h1)
      obtain ⟨d, hd⟩ : ∃ d, UInt8.ofNat (48 + u) = d := ⟨_, rfl⟩
      rw [hd] at hcv HL
      clear hd
      go_wp2
      go_ret
      exact ⟨congrArg (fun x => Ending.returned (.string x)) HL.out, hb.alloc hb.size _⟩
    · have h2 : (10 : Int) ≤ (u : Int) := by omega
      have h3 : ((u / 10 : Nat) : Int) = (u : Int) / 10 := by omega
      have hcv := conv_one wr (48 + (u : Int) % 10) (UInt8.ofNat (48 + u % 10)) (by rw [← dig_nat (by omega)]; omega)
      have HS := Lib.hid (HB.out.step h1)
      obtain ⟨d, hd⟩ : ∃ d, UInt8.ofNat (48 + u % 10) = d := ⟨_, rfl⟩
      rw [hd] at hcv HS
      clear hd
      go_wp2
      go_roundw
      case rel => exact ⟨u / 10, _, by omega, by rw [h3], rfl, HS, hb.alloc hb.size _⟩
      case measure => simp [intOf]; omega

/-- as Behind, of a number that has been turned down to nought -/
def Gone (u0 u : Nat) (B : ByteArray) : Prop := (0 < u → Behind u0 u B) ∧ (u = 0 → B = ⟨(Lib.decDigits u0).toArray⟩)
theorem Gone.step {u0 u : Nat} {B : ByteArray} (h : Gone u0 u B) (hu : 0 < u) : Gone u0 (u / 10) (({ data := #[UInt8.ofNat (48 + u % 10)] } : ByteArray) ++ B) := by
  have hb := h.1 hu
  by_cases h1 : u < 10
  · refine ⟨fun h2 => by omega, fun _ => ?_⟩
    rw [Nat.mod_eq_of_lt h1]
    exact hb.last h1
  · exact ⟨fun _ => hb.step h1, fun h2 => by omega⟩
theorem Gone.size {u0 u : Nat} {B : ByteArray} (h0 : u0 < 18446744073709551616) (h : Gone u0 u B) : B.size ≤ 20 := by
  rcases Nat.eq_zero_or_pos u with h1 | h1
  · rw [h.2 h1]
    show (Lib.decDigits u0).toArray.size ≤ 20
    simp only [List.size_toArray]
    rw [Lib.decDigits_length]; exact nDigits_le h0
  · exact (h.1 h1).size h0

set_option maxHeartbeats 1000000 in
theorem rdigits_neg (u0 : Nat) (hp : 0 < u0) (h0 : u0 ≤ 9223372036854775808) (w : World) :
    Calls Tryd.prog 21 #[.int .i64 (-(u0 : Int))] w fun e w' => e = .returned (.string ⟨(Lib.itoa (-(u0 : Int))).toArray⟩) ∧ Below w.heap.size w w' := by
  have H0 := Lib.hid (show u0 < 18446744073709551616 by omega)
  have HI := Lib.hid (Lib.itoa_neg u0 hp)
  have hneg : -(u0 : Int) < 0 := by omega
  go_enter Tryd.func21, Tryd.ntmps21
  go_wp2
  go_loopw [0, 3] (fun nv ov wr => ∃ (u : Nat) (B : ByteArray), u ≤ 9223372036854775808 ∧ nv = .int .i64 (-(u : Int)) ∧ ov = .string B ∧ Hid (Gone u0 u B) ∧ Below w.heap.size w wr) (fun nv _ _ => (-(intOf nv)).toNat)
  case atStart => exact ⟨u0, _, h0, rfl, rfl, ⟨fun _ => ⟨[], rfl, by simp⟩, fun h => by omega⟩, Below.refl _ _⟩
  case round =>
    obtain ⟨u, B, hu, rfl, rfl, HB, hb⟩ := hrel
    have hsz := HB.out.size H0.out
    by_cases h1 : u = 0
    · subst h1
      have h2 : ¬ (-((0 : Nat) : Int)) < 0 := by omega
      have HL := Lib.hid (HB.out.2 rfl)
      go_wp2
      go_ret
      exact ⟨congrArg (fun x => Ending.returned (.string x)) (by rw [HL.out, HI.out]; apply ByteArray.ext; simp), hb⟩
    · have h2 : -(u : Int) < 0 := by omega
      have h3 : ((u / 10 : Nat) : Int) = (u : Int) / 10 := by omega
      have HS := Lib.hid (HB.out.step (by omega))
      have hcv := conv_one wr (48 + (u : Int) % 10) (UInt8.ofNat (48 + u % 10)) (by rw [← dig_nat (by omega)]; omega)
      obtain ⟨d, hd⟩ : ∃ d, UInt8.ofNat (48 + u % 10) = d := ⟨_, rfl⟩
      rw [hd] at hcv HS
      clear hd
      go_wp2
      go_roundw
      case rel => exact ⟨u / 10, _, by omega, by rw [h3], rfl, HS, hb.alloc hb.size _⟩
      case measure => simp [intOf]; omega

theorem rdigits_any (n : Int) (h : -9223372036854775808 ≤ n ∧ n ≤ 9223372036854775807) (w : World) :
    Calls Tryd.prog 21 #[.int .i64 n] w fun e w' => e = .returned (.string ⟨(Lib.itoa n).toArray⟩) ∧ Below w.heap.size w w' := by
  by_cases h0 : n < 0
  · obtain ⟨u, rfl⟩ : ∃ u : Nat, n = -(u : Int) := ⟨n.natAbs, by omega⟩
    exact rdigits_neg u (by omega) (by omega) w
  · obtain ⟨u, rfl⟩ : ∃ u : Nat, n = (u : Int) := ⟨n.toNat, by omega⟩
    rw [Lib.itoa_nonneg]
    exact rdigits_pos u (by omega) w
end Go.Proofs.YtmmffifndheafaaDoor
