/-
  Contract of Sum: the sum of parts.
-/
import Derived.Test.YtbhdffefjphphaaCrcD
namespace Go.Proofs.Ytbhdffefjphphaa
open Go.RowKit
set_option maxRecDepth 100000

/-- a part: where its bytes lie, its room, its bytes -/
structure Part where
  a : Option Addr
  c : Nat
  zs : List Int
/-- a part as it is in a world -/
structure Part.At (w : World) (B : Nat) (p : Part) : Prop where
  room : p.zs.length ≤ p.c
  few : p.zs.length ≤ 9223372036854775807
  byte : Bytes p.zs
  nums : Nums .u8 w B p.a p.zs
theorem Part.At.below {w w' : World} {B : Nat} {p : Part} (h : p.At w B) (hb : Below B w w') : p.At w' B := ⟨h.room, h.few, h.byte, h.nums.below hb⟩
theorem Part.At.mono {w : World} {B B' : Nat} {p : Part} (h : p.At w B) (hB : B ≤ B') : p.At w B' := ⟨h.room, h.few, h.byte, h.nums.mono hB⟩
/-- parts that lie at a place -/
def Parts (w : World) (B : Nat) (a : Option Addr) (ps : List Part) : Prop :=
  (∀ p ∈ ps, p.At w B) ∧ (ps ≠ [] → ∃ b off, a = some ⟨b, off, none⟩ ∧ ∀ (j : Nat) (p : Part), ps[j]? = some p → w.cell? ⟨b, off + j, none⟩ = some (.slice p.a p.zs.length p.c))
theorem Parts.nil (w : World) (B : Nat) (a : Option Addr) : Parts w B a [] := ⟨by simp, fun h => absurd rfl h⟩
/-- parts that have just been laid -/
theorem Parts.new {w : World} {B : Nat} {ps : List Part} (t : TypeId) (cs : Array Value) (h : ∀ p ∈ ps, p.At w B) (hB : B ≤ w.heap.size) (hc : cs = (ps.map fun p => Value.slice p.a p.zs.length p.c).toArray) : Parts (w.alloc (.cells cs t)) B (some ⟨w.heap.size, 0, none⟩) ps := by
  refine ⟨fun p hp => (h p hp).below ((Below.refl B w).alloc hB _), fun _ => ⟨w.heap.size, 0, rfl, fun j p hj => ?_⟩⟩
  rw [World.cell?_alloc_at _ _ _ _ rfl, hc]
  simp [hj]
def flat (ps : List Part) : List Int := ps.flatMap Part.zs
theorem flat_bytes {w : World} {B : Nat} {ps : List Part} (h : ∀ p ∈ ps, p.At w B) : Bytes (flat ps) := by
  intro z hz
  obtain ⟨p, hp, hz⟩ := List.mem_flatMap.1 hz
  exact (h p hp).byte z hz
theorem flat_more {ps : List Part} {k : Nat} {p : Part} (s : Nat) (h : ps[k]? = some p) : Cr.crc s (flat (ps.take (k + 1))) = Cr.crc (Cr.crc s (flat (ps.take k))) p.zs := by
  have hk : k < ps.length := by
    rcases Nat.lt_or_ge k ps.length with h1 | h1
    · exact h1
    · rw [List.getElem?_eq_none h1] at h; simp at h
  rw [List.getElem?_eq_getElem hk] at h
  injection h with h
  rw [List.take_succ_eq_append_getElem hk, h, ← Cr.crc_append]
  simp [flat]

theorem sum_nil (a : Option Addr) (n c : Nat) (ps : List Part) (B : Nat) (w : World) (hn : ps.length = n) (hl : n ≤ 9223372036854775807) (hp : Parts w B a ps) : Calls Try.prog 16 #[.pointer none, .slice a n c] w fun e w' => e = .returned (.int .u32 0) ∧ w' = w := by
  have HN := Lib.hid hn
  have HP := Lib.hid hp
  clear hn hp
  go_enter Try.func16, Try.ntmps16
  go_wp2_with fail
  refine (begin_nil _).mono ?_
  rintro e w' ⟨rfl, rfl⟩
  go_wp2
  go_loopw [5, 12] (fun x i wr => ∃ k : Nat, k ≤ n ∧ i = .int .i64 k ∧ x = .int .u32 0 ∧ wr = w') (fun _ i _ => n - (intOf i).toNat)
  case atStart => exact ⟨0, by omega, rfl, rfl, rfl⟩
  case round =>
    obtain ⟨k, hk, rfl, rfl, rfl⟩ := hrel
    by_cases hlt : k < n
    · obtain ⟨p, hpk⟩ : ∃ p, ps[k]? = some p := ⟨_, List.getElem?_eq_getElem (by rw [HN.out]; exact hlt)⟩
      obtain ⟨b1, o1, rfl, hcell⟩ := HP.out.2 (by intro e; rw [e] at hpk; simp at hpk)
      have hc := hcell k p hpk
      have hlt' : (k : Int) < (n : Int) := by omega
      clear hcell hpk HP
      go_wp2_with fail
      refine (add_nil _ _ _).mono ?_
      rintro e w' ⟨rfl, rfl⟩
      go_wp2
      go_roundw
      case rel => exact ⟨k + 1, by omega, by go_num, rfl, trivial⟩
      case measure => simp [intOf]; omega
    · go_wp2_with fail
      refine (end_nil _ _).mono ?_
      rintro e w' ⟨rfl, rfl⟩
      go_wp2
      go_ret
      exact ⟨rfl, rfl⟩

theorem sum_any (B b : Nat) (a : Option Addr) (n c : Nat) (ps : List Part) (w : World) (ht : TabAt w B b) (hn : ps.length = n) (hl : n ≤ 9223372036854775807) (hp : Parts w B a ps) :
    Calls Try.prog 16 #[.pointer (some ⟨b, 0, none⟩), .slice a n c] w fun e w' => e = .returned (.int .u32 ((Cr.sum (flat ps) : Nat) : Int)) ∧ ∃ m, w' = w.drewN m := by
  have HN := Lib.hid hn
  have HP := Lib.hid hp
  have HT := Lib.hid ht
  clear hn hp ht
  go_enter Try.func16, Try.ntmps16
  go_wp2_with fail
  refine (begin_any b _).mono ?_
  rintro e w' ⟨rfl, rfl⟩
  go_wp2
  go_loopw [5, 12] (fun x i wr => ∃ k m : Nat, k ≤ n ∧ i = .int .i64 k ∧ x = .int .u32 (m : Int) ∧ m < 4294967296 ∧ Hid (m = Cr.crc Cr.ones (flat (ps.take k))) ∧ ∃ d, wr = w'.drewN d) (fun _ i _ => n - (intOf i).toNat)
  case atStart => exact ⟨0, Cr.ones, by omega, rfl, rfl, by decide, rfl, 0, rfl⟩
  case round =>
    obtain ⟨k, m, hk, rfl, rfl, hm, HE, d, rfl⟩ := hrel
    by_cases hlt : k < n
    · obtain ⟨p, hpk⟩ : ∃ p, ps[k]? = some p := ⟨_, List.getElem?_eq_getElem (by rw [HN.out]; exact hlt)⟩
      obtain ⟨b1, o1, rfl, hcell⟩ := HP.out.2 (by intro e; rw [e] at hpk; simp at hpk)
      have hc := hcell k p hpk
      have hAt := HP.out.1 p (List.mem_of_getElem? hpk)
      have HF := Lib.hid (flat_more Cr.ones hpk)
      have hlt' : (k : Int) < (n : Int) := by omega
      have K := add_any B b p.a p.zs.length p.c m p.zs (w'.drewN d) HT.out hm rfl hAt.room hAt.few hAt.byte hAt.nums
      have hmm := Cr.crc_lt (s := m) (by omega) hAt.byte.lt
      rw [← HE.out] at HF
      clear hcell hpk HP hAt
      generalize Cr.crc m p.zs = M at *
      go_wp2_with fail
      refine K.mono ?_
      rintro e w2 ⟨rfl, d2, rfl⟩
      go_wp2
      go_roundw
      case rel => exact ⟨k + 1, M, by omega, by go_num, rfl, by omega, HF.out.symm, _, by first | rfl | rw [World.drewN_drewN]⟩
      case measure => simp [intOf]; omega
    · have hkn : k = n := by omega
      have HK := Lib.hid hkn
      clear hkn
      go_wp2_with fail
      refine (end_any b m _ hm).mono ?_
      rintro e w2 ⟨rfl, rfl⟩
      go_wp2
      go_ret
      refine ⟨ret_int ?_, d, rfl⟩
      rw [HE.out, HK.out, ← HN.out, List.take_length]
      rfl
end Go.Proofs.Ytbhdffefjphphaa
