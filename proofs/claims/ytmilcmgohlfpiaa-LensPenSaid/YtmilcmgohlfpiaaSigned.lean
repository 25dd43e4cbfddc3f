/-
  Contract of a pen's Signed.
-/
import Derived.Test.YtmilcmgohlfpiaaPens
import Derived.Deep.OwnRows
namespace Go.Proofs.Ytmilcmgohlfpiaa
open Go.RowKit Go.Deep
set_option maxRecDepth 100000

/-- a signed number's zigzag -/
def zigZ (z : Int) : Int := if 0 ≤ z then 2 * z else -2 * z - 1
theorem zigZ_range {z : Int} (h0 : -9223372036854775808 ≤ z) (h1 : z ≤ 9223372036854775807) : 0 ≤ zigZ z ∧ zigZ z ≤ 18446744073709551615 := by
  unfold zigZ; split <;> omega
theorem zigz_any (z : Int) (w : World) (h0 : -9223372036854775808 ≤ z) (h1 : z ≤ 9223372036854775807) : Calls Try.prog 57 #[.int .i64 z] w fun e w' => e = .returned (.int .u64 (zigZ z)) ∧ w = w' := by
  unfold zigZ
  by_cases h : 0 ≤ z
  · rw [if_pos h]; exact zig_pos z w h h1
  · rw [if_neg h]; exact zig_neg z w (by omega) h0

theorem madeCells_int (k : IntKind) (n : Nat) : madeCells #[.int k 0] n = ((List.replicate n (0 : Int)).map (Value.int k)).toArray := by
  apply Array.ext
  · simp [madeCells]
  · intro i h1 h2
    simp [madeCells, Nat.mod_one]
theorem KRow.made (T : TypeId) (k : IntKind) (w : World) (n : Nat) (hm : n ≤ maxLen) : KRow T k (w.alloc (.cells (madeCells #[.int k 0] n) T)) (some ⟨w.heap.size, 0, none⟩) n (List.replicate n 0) :=
  ⟨by simp, .inr ⟨_, rfl, hm, by rw [madeCells_int]; exact heap_alloc_new w _⟩⟩
theorem KRow.set {T : TypeId} {k : IntKind} {w : World} {g cap j : Nat} {cur : List Int} (h : KRow T k w (some ⟨g, 0, none⟩) cap cur) (y : Int) : KRow T k (w.setCell ⟨g, j, none⟩ (.int k y)) (some ⟨g, 0, none⟩) cap (cur.set j y) := by
  rcases h.2 with ⟨h0, _⟩ | ⟨q, e, hm, hh⟩
  · simp at h0
  · injection e with e; injection e with e; subst e
    refine ⟨by rw [List.length_set]; exact h.1, .inr ⟨g, rfl, hm, ?_⟩⟩
    rw [setCell_at hh]
    simp [List.map_set]
theorem set_take {zs : List Int} {j : Nat} {y : Int} (h : j < zs.length) : (zs.set j y).take (j + 1) = zs.take j ++ [y] := by
  rw [List.take_succ_eq_append_getElem (by simpa using h)]
  simp [List.take_set_of_le]

/-- the first k zigzags are laid -/
def SSt (g n k : Nat) (zs : List Int) (w wr : World) : Prop := ∃ cur, KRow 28 .u64 wr (some ⟨g, 0, none⟩) n cur ∧ cur.take k = (zs.take k).map zigZ ∧ Below w.heap.size w wr
theorem SSt.step {g n k : Nat} {zs : List Int} {w wr : World} {z : Int} (h : SSt g n k zs w wr) (hk : zs[k]? = some z) (hg : w.heap.size ≤ g) (hkn : k < n) : SSt g n (k + 1) zs w (wr.setCell ⟨g, k, none⟩ (.int .u64 (zigZ z))) := by
  obtain ⟨cur, h1, h2, h3⟩ := h
  refine ⟨cur.set k (zigZ z), h1.set _, ?_, h3.setCell hg _⟩
  rw [set_take (by rw [h1.1]; exact hkn), h2, take_more hk, List.map_append]
  rfl
theorem SSt.cell {g n k : Nat} {zs : List Int} {w wr : World} (h : SSt g n k zs w wr) (hkn : k < n) : (∃ u, wr.cell? ⟨g, k, none⟩ = some (.int .u64 u)) ∧ wr.frozen? ⟨g, k, none⟩ = false := by
  obtain ⟨cur, h1, h2, h3⟩ := h
  obtain ⟨_, hh⟩ := h1.cells rfl
  exact ⟨⟨_, h1.cell rfl (List.getElem?_eq_getElem (by rw [h1.1]; exact hkn))⟩, frozen_of hh⟩

theorem u64Info : (Try.prog.info? 28).map (fun i => (i.zero, i.size, i.bytes)) = some (some (.int .u64 0), 1, 8) := by kernel_rfl
theorem SSt.nums {g n : Nat} {zs : List Int} {w wr : World} (h : SSt g n n zs w wr) (hz : zs.length = n) : Nums .u64 wr wr.heap.size (some ⟨g, 0, none⟩) (zs.map zigZ) ∧ Below w.heap.size w wr := by
  obtain ⟨cur, q1, q2, q3⟩ := h
  have hcur : cur = zs.map zigZ := by
    rw [List.take_of_length_le (by rw [q1.1]; omega), List.take_of_length_le (by omega)] at q2
    exact q2
  subst hcur
  have hnn := q1.nums n
  rw [List.take_of_length_le (by rw [q1.1]; omega)] at hnn
  exact ⟨hnn, q3⟩
theorem zigs_range {zs : List Int} (hzb : ∀ c ∈ zs, -9223372036854775808 ≤ c ∧ c ≤ 9223372036854775807) : ∀ c ∈ zs.map zigZ, 0 ≤ c ∧ c ≤ 18446744073709551615 := by
  intro x hx
  obtain ⟨y, hy, rfl⟩ := List.mem_map.1 hx
  exact zigZ_range (hzb y hy).1 (hzb y hy).2
set_option maxHeartbeats 1000000 in
/-- Signed, whatever Number answers -/
theorem signed_gen (p : Option Addr) (r : Int) (Q : World → Prop) (w : World) (B : Nat) (a : Option Addr) (n c : Nat) (zs : List Int) (hn1 : n ≤ 1000000) (hz : zs.length = n) (hzb : ∀ c ∈ zs, -9223372036854775808 ≤ c ∧ c ≤ 9223372036854775807) (hB : B ≤ w.heap.size) (hn : Nums .i64 w B a zs)
    (HN : Hid (∀ wr, SSt w.heap.size n n zs w wr → Calls Try.prog 27 #[.pointer p, .slice (some ⟨w.heap.size, 0, none⟩) n n] wr fun e w' => e = .returned (.int .i64 r) ∧ Q w')) :
    Calls Try.prog 30 #[.pointer p, .slice a n c] w fun e w' => e = .returned (.int .i64 r) ∧ Q w' := by
  have hmk := run_make_row' 54 28 (.int .u64 0) 8 Try.underlying54 u64Info rfl .i64 .i64 n (by omega) (by omega)
  have HS : Hid (SSt w.heap.size n 0 zs w (w.alloc (.cells (madeCells #[.int .u64 0] n) 28))) := ⟨_, KRow.made _ _ w n (by unfold maxLen; omega), rfl, (Below.refl _ w).alloc (Nat.le_refl _) _⟩
  have HZ := Lib.hid hzb
  have HL := Lib.hid hz
  have HM := Lib.hid hn
  clear hzb hz hn
  go_enter Try.func30, Try.ntmps30
  go_wp2
  go_loopw [13] (fun i wr => ∃ k : Nat, k ≤ n ∧ i = .int .i64 k ∧ Hid (SSt w.heap.size n k zs w wr)) (fun i _ => n - (intOf i).toNat)
  case atStart => exact ⟨0, by omega, rfl, HS⟩
  case round =>
    obtain ⟨k, hk, rfl, hs⟩ := hrel
    by_cases hlt : k < n
    · obtain ⟨z, hz⟩ : ∃ z, zs[k]? = some z := ⟨_, List.getElem?_eq_getElem (by rw [HL.out]; exact hlt)⟩
      obtain ⟨_, _, _, q3⟩ := hs.out
      obtain ⟨b1, o1, rfl, hb1, hc1⟩ := (HM.out.below (q3.mono hB)).open hz
      have hzr := HZ.out z (List.mem_of_getElem? hz)
      obtain ⟨⟨u, hu⟩, hf⟩ := hs.out.cell hlt
      have HX := Lib.hid (hs.out.step hz (Nat.le_refl _) hlt)
      clear hz q3
      go_wp2_with (go_at_call 57; refine (zigz_any z _ hzr.1 hzr.2).mono ?_; rintro e w2 ⟨rfl, rfl⟩)
      go_roundw
      case rel => exact ⟨k + 1, by omega, by go_num, HX⟩
      case measure => simp [intOf]; omega
    · obtain rfl : k = n := by omega
      have HQ := HN.out _ hs.out
      go_wp2_with (go_at_call 27; refine HQ.mono ?_; rintro e w2 ⟨rfl, hr2⟩; have HR := Lib.hid hr2; clear hr2)
      go_ret
      exact ⟨rfl, HR.out⟩
theorem signed_any (b g : Nat) (room : Int) (L : List Int) (full : Bool) (w : World) (B : Nat) (a : Option Addr) (n c : Nat) (zs : List Int) (h : PenAt w b g room L full) (h0 : 0 ≤ room) (h1 : room ≤ 9223372036854775807) (hl : L.length + 10 * n ≤ 1000000000) (hn1 : n ≤ 1000000) (hz : zs.length = n) (hzb : ∀ c ∈ zs, -9223372036854775808 ≤ c ∧ c ≤ 9223372036854775807) (hB : B ≤ w.heap.size) (hn : Nums .i64 w B a zs) :
    Calls Try.prog 30 #[.pointer (some ⟨b, 0, none⟩), .slice a n c] w fun e w' => WroteR b g room L full (puts (zs.map zigZ)) w e w' :=
  signed_gen _ _ _ w B a n c zs hn1 hz hzb hB hn fun wr hs => by
    obtain ⟨hnn, q3⟩ := hs.nums hz
    exact (number_any b g room L full wr wr.heap.size _ n n (zs.map zigZ) (h.below q3) h0 h1 hl hn1 (by simpa using hz) (zigs_range hzb) (Nat.le_refl _) hnn).mono fun e w' hr => hr.later q3
end Go.Proofs.Ytmilcmgohlfpiaa
