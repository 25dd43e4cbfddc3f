/-
  A part of the texts of one proof, put together: Signed, BdyW, BdyY, BdyV, BdyD, MsgR, MsgS, MsgT, MsgF, Q3, Q11, Q8, Q15, Q21, MsgK, Q20, Q22, MsgJ, MsgW, MsgV, MsgO, MsgX, MsgU, MsgNw, Q17, MsgL0, BdyE, BdyX, Read, ReadRef, Zag, BdyF, MsgH, BdyG, In.
-/
import Derived.Deep.OwnRows
import Derived.Lib.ConvBytes
import Derived.Lib.AppendStr
import Derived.BigQuiet
import Derived.Deep.QuietTactic
import Derived.Deep.LoopGhost
import Derived.WalkMore
import Derived.Deep.Slices
import Derived.ChangeMaps5
import Derived.OpenShut
import Derived.ChangeSame
import Derived.OrdersIn
import Derived.TacticsIn
import Derived.RangeFuncCalls
import Derived.Deep.WholeRow
import Derived.Deep.MidRow
import Derived.Laws.CopyRow
import Derived.OwnWalkIn
import Derived.Test.YtlbfibnfmijahaaRows
import Derived.WalkLawsBesides
import Derived.Lib.Hide
import Derived.Test.YtlbfibnfmijahaaMBkBackProof2
namespace Go.Proofs.Ytlbfibnfmijahaa
open Go.RowKit Go.Deep
set_option maxRecDepth 100000

/-- a signed number's zigzag -/
def zigZ (z : Int) : Int := if 0 ≤ z then 2 * z else -2 * z - 1
theorem zigZ_range {z : Int} (h0 : -9223372036854775808 ≤ z) (h1 : z ≤ 9223372036854775807) : 0 ≤ zigZ z ∧ zigZ z ≤ 18446744073709551615 := by
  unfold zigZ; split <;> omega
theorem zigz_any (z : Int) (w : World) (h0 : -9223372036854775808 ≤ z) (h1 : z ≤ 9223372036854775807) : Calls Try.prog 68 #[.int .i64 z] w fun e w' => e = .returned (.int .u64 (zigZ z)) ∧ w = w' := by
  unfold zigZ
  by_cases h : 0 ≤ z
  · rw [if_pos h]; exact zig_pos z w h h1
  · rw [if_neg h]; exact zig_neg z w (by omega) h0

theorem madeCells_int (k : IntKind) (n : Nat) : madeCells #[.int k 0] n = ((List.replicate n (0 : Int)).map (Value.int k)).toArray := by
  apply Array.ext
  · simp [madeCells]
  · intro i h1 h2
    simp [madeCells, Nat.mod_one]
theorem KRow.made (T : TypeId) (k : IntKind) (w : World) (n : Nat) (hm : n ≤ maxLen) : KRow T k (w.alloc (.cells (madeCells #[.int k 0] n) T)) (some ⟨w.heap.size, 0, none⟩) n (List.replicate n 0) :=
  ⟨by simp, .inr ⟨_, rfl, hm, by rw [madeCells_int]; exact heap_alloc_new w _⟩⟩
theorem KRow.set {T : TypeId} {k : IntKind} {w : World} {g cap j : Nat} {cur : List Int} (h : KRow T k w (some ⟨g, 0, none⟩) cap cur) (y : Int) : KRow T k (w.setCell ⟨g, j, none⟩ (.int k y)) (some ⟨g, 0, none⟩) cap (cur.set j y) := by
  rcases h.2 with ⟨h0, _⟩ | ⟨q, e, hm, hh⟩
  · simp at h0
  · injection e with e; injection e with e; subst e
    refine ⟨by rw [List.length_set]; exact h.1, .inr ⟨g, rfl, hm, ?_⟩⟩
    rw [setCell_at hh]
    simp [List.map_set]
theorem set_take {zs : List Int} {j : Nat} {y : Int} (h : j < zs.length) : (zs.set j y).take (j + 1) = zs.take j ++ [y] := by
  rw [List.take_succ_eq_append_getElem (by simpa using h)]
  simp [List.take_set_of_le]

/-- the first k zigzags are laid -/
def SSt (g n k : Nat) (zs : List Int) (w wr : World) : Prop := ∃ cur, KRow 101 .u64 wr (some ⟨g, 0, none⟩) n cur ∧ cur.take k = (zs.take k).map zigZ ∧ Below w.heap.size w wr
theorem SSt.step {g n k : Nat} {zs : List Int} {w wr : World} {z : Int} (h : SSt g n k zs w wr) (hk : zs[k]? = some z) (hg : w.heap.size ≤ g) (hkn : k < n) : SSt g n (k + 1) zs w (wr.setCell ⟨g, k, none⟩ (.int .u64 (zigZ z))) := by
  obtain ⟨cur, h1, h2, h3⟩ := h
  refine ⟨cur.set k (zigZ z), h1.set _, ?_, h3.setCell hg _⟩
  rw [set_take (by rw [h1.1]; exact hkn), h2, ptake_more hk, List.map_append]
  rfl
theorem SSt.cell {g n k : Nat} {zs : List Int} {w wr : World} (h : SSt g n k zs w wr) (hkn : k < n) : (∃ u, wr.cell? ⟨g, k, none⟩ = some (.int .u64 u)) ∧ wr.frozen? ⟨g, k, none⟩ = false := by
  obtain ⟨cur, h1, h2, h3⟩ := h
  obtain ⟨_, hh⟩ := h1.cells rfl
  exact ⟨⟨_, h1.cell rfl (List.getElem?_eq_getElem (by rw [h1.1]; exact hkn))⟩, frozen_of hh⟩

theorem u64Info : (Try.prog.info? 101).map (fun i => (i.zero, i.size, i.bytes)) = some (some (.int .u64 0), 1, 8) := by kernel_rfl
theorem SSt.nums {g n : Nat} {zs : List Int} {w wr : World} (h : SSt g n n zs w wr) (hz : zs.length = n) : Nums .u64 wr wr.heap.size (some ⟨g, 0, none⟩) (zs.map zigZ) ∧ Below w.heap.size w wr := by
  obtain ⟨cur, q1, q2, q3⟩ := h
  have hcur : cur = zs.map zigZ := by
    rw [List.take_of_length_le (by rw [q1.1]; omega), List.take_of_length_le (by omega)] at q2
    exact q2
  subst hcur
  have hnn := q1.nums n
  rw [List.take_of_length_le (by rw [q1.1]; omega)] at hnn
  exact ⟨hnn, q3⟩
theorem zigs_range {zs : List Int} (hzb : ∀ c ∈ zs, -9223372036854775808 ≤ c ∧ c ≤ 9223372036854775807) : ∀ c ∈ zs.map zigZ, 0 ≤ c ∧ c ≤ 18446744073709551615 := by
  intro x hx
  obtain ⟨y, hy, rfl⟩ := List.mem_map.1 hx
  exact zigZ_range (hzb y hy).1 (hzb y hy).2
set_option maxHeartbeats 1000000 in
/-- Signed, whatever Number answers -/
theorem signed_gen (p : Option Addr) (r : Int) (Q : World → Prop) (w : World) (B : Nat) (a : Option Addr) (n c : Nat) (zs : List Int) (hn1 : n ≤ 1000000) (hz : zs.length = n) (hzb : ∀ c ∈ zs, -9223372036854775808 ≤ c ∧ c ≤ 9223372036854775807) (hB : B ≤ w.heap.size) (hn : Nums .i64 w B a zs)
    (HN : Hid (∀ wr, SSt w.heap.size n n zs w wr → Calls Try.prog 46 #[.pointer p, .slice (some ⟨w.heap.size, 0, none⟩) n n] wr fun e w' => e = .returned (.int .i64 r) ∧ Q w')) :
    Calls Try.prog 47 #[.pointer p, .slice a n c] w fun e w' => e = .returned (.int .i64 r) ∧ Q w' := by
  have hmk := run_make_row' 118 101 (.int .u64 0) 8 Try.underlying118 u64Info rfl .i64 .i64 n (by omega) (by omega)
  have HS : Hid (SSt w.heap.size n 0 zs w (w.alloc (.cells (madeCells #[.int .u64 0] n) 101))) := ⟨_, KRow.made _ _ w n (by unfold maxLen; omega), rfl, (Below.refl _ w).alloc (Nat.le_refl _) _⟩
  have HZ := Lib.hid hzb
  have HL := Lib.hid hz
  have HM := Lib.hid hn
  clear hzb hz hn
  go_enter Try.func47, Try.ntmps47
  go_wp2
  go_loopw [13] (fun i wr => ∃ k : Nat, k ≤ n ∧ i = .int .i64 k ∧ Hid (SSt w.heap.size n k zs w wr)) (fun i _ => n - (intOf i).toNat)
  case atStart => exact ⟨0, by omega, rfl, HS⟩
  case round =>
    obtain ⟨k, hk, rfl, hs⟩ := hrel
    by_cases hlt : k < n
    · obtain ⟨z, hz⟩ : ∃ z, zs[k]? = some z := ⟨_, List.getElem?_eq_getElem (by rw [HL.out]; exact hlt)⟩
      obtain ⟨_, _, _, q3⟩ := hs.out
      obtain ⟨b1, o1, rfl, hb1, hc1⟩ := (HM.out.below (q3.mono hB)).open hz
      have hzr := HZ.out z (List.mem_of_getElem? hz)
      obtain ⟨⟨u, hu⟩, hf⟩ := hs.out.cell hlt
      have HX := Lib.hid (hs.out.step hz (Nat.le_refl _) hlt)
      clear hz q3
      go_wp2_with (go_at_call 68; refine (zigz_any z _ hzr.1 hzr.2).mono ?_; rintro e w2 ⟨rfl, rfl⟩)
      go_roundw
      case rel => exact ⟨k + 1, by omega, by go_num, HX⟩
      case measure => simp [intOf]; omega
    · obtain rfl : k = n := by omega
      have HQ := HN.out _ hs.out
      go_wp2_with (go_at_call 46; refine HQ.mono ?_; rintro e w2 ⟨rfl, hr2⟩; have HR := Lib.hid hr2; clear hr2)
      go_ret
      exact ⟨rfl, HR.out⟩
theorem signed_any (b g : Nat) (room : Int) (L : List Int) (full : Bool) (w : World) (B : Nat) (a : Option Addr) (n c : Nat) (zs : List Int) (h : PenAt w b g room L full) (h0 : 0 ≤ room) (h1 : room ≤ 9223372036854775807) (hl : L.length + 10 * n ≤ 1000000000) (hn1 : n ≤ 1000000) (hz : zs.length = n) (hzb : ∀ c ∈ zs, -9223372036854775808 ≤ c ∧ c ≤ 9223372036854775807) (hB : B ≤ w.heap.size) (hn : Nums .i64 w B a zs) :
    Calls Try.prog 47 #[.pointer (some ⟨b, 0, none⟩), .slice a n c] w fun e w' => WroteR b g room L full (puts (zs.map zigZ)) w e w' :=
  signed_gen _ _ _ w B a n c zs hn1 hz hzb hB hn fun wr hs => by
    obtain ⟨hnn, q3⟩ := hs.nums hz
    exact (number_any b g room L full wr wr.heap.size _ n n (zs.map zigZ) (h.below q3) h0 h1 hl hn1 (by simpa using hz) (zigs_range hzb) (Nat.le_refl _) hnn).mono fun e w' hr => hr.later q3
end Go.Proofs.Ytlbfibnfmijahaa

namespace Go.Proofs.Ytlbfibnfmijahaa
open Go.RowKit Go.Shelf
set_option maxRecDepth 100000
attribute [local go_sem] Oper.semAt_some

theorem zigZ_zg (x : Int) : (zigZ x).toNat = zg x := by
  unfold zigZ zg
  split <;> split <;> omega
theorem gaps_le : ∀ (l : List Int) (a : Int) (j : Nat), (gaps a (l.take j)).length ≤ (gaps a l).length
  | [], _, _ => by simp
  | c :: r, a, 0 => by simp [gaps]
  | c :: r, a, j + 1 => by
    have ih := gaps_le r c j
    rw [List.take_succ_cons, gaps, gaps, List.length_append, List.length_append]
    omega
theorem dlt_le : ∀ (l : List (Int × Int)) (a : Int × Int) (j : Nat), (dlt a (l.take j)).length ≤ (dlt a l).length
  | [], _, _ => by simp
  | c :: r, a, 0 => by simp [dlt]
  | c :: r, a, j + 1 => by
    have ih := dlt_le r c j
    rw [List.take_succ_cons, dlt, dlt]
    simp only [List.length_append]
    omega
/-- rows of other types than bytes and pens are as they were -/
structure PenK (W W' : World) : Prop where
  size : W.heap.size ≤ W'.heap.size
  same : ∀ (q : Nat) (cs : Array Value) (t : TypeId), t ≠ 5 → t ≠ 99 → W.heap[q]? = some (.cells cs t (0, 0)) → W'.heap[q]? = W.heap[q]?
section
variable {W W' W'' : World}
theorem PenK.refl (W : World) : PenK W W := ⟨Nat.le_refl _, fun _ _ _ _ _ _ => rfl⟩
theorem PenK.trans (h : PenK W W') (k : PenK W' W'') : PenK W W'' := ⟨Nat.le_trans h.size k.size, fun q cs t h1 h2 h3 => (k.same q cs t h1 h2 ((h.same q cs t h1 h2 h3).trans h3)).trans (h.same q cs t h1 h2 h3)⟩
theorem PenK.of_below (h : Below W.heap.size W W') : PenK W W' := ⟨h.size, fun q _ _ _ _ hq => h.block q (Array.getElem?_eq_some_iff.1 hq).1⟩
theorem PenK.row (h : PenK W W') {q : Nat} {cs : Array Value} {t : TypeId} (hq : W.heap[q]? = some (.cells cs t (0, 0))) (h1 : t ≠ 5) (h2 : t ≠ 99) : W'.heap[q]? = some (.cells cs t (0, 0)) := (h.same q cs t h1 h2 hq).trans hq
end
theorem PenAt.kept {W W' : World} {b g : Nat} {room : Int} {L : List Int} {full : Bool} (h : PenAt W b g room L full) (ho : Off (penS b g) W W') : PenK W W' := by
  refine ⟨ho.size, fun q cs t h1 h2 hq => ho.block q (Array.getElem?_eq_some_iff.1 hq).1 ?_⟩
  obtain ⟨A, cap, cur, hb, hk, -, -, hA⟩ := h
  rintro (rfl | rfl)
  · rw [hb] at hq
    injection hq with hq
    injection hq with _ hq
    exact h2 hq.symm
  · rcases hA with ⟨-, rfl⟩ | ⟨rfl, -⟩
    · rw [hb] at hq
      injection hq with hq
      injection hq with _ hq
      exact h2 hq.symm
    · have hr := (hk.cells rfl).2
      rw [hr] at hq
      injection hq with hq
      injection hq with _ hq
      exact h1 hq.symm
/-- block b is a pen with room for 192 bytes that isn't full and holds L; beside it only the block g0 of w4 has been turned -/
def PenV (w4 : World) (b g0 : Nat) (L : List Int) (W : World) : Prop := ∃ g, PenAt W b g 192 L false ∧ (g = g0 ∨ w4.heap.size ≤ g) ∧ Off (penS b g0) w4 W ∧ PenK w4 W
section
variable {w4 W W' : World} {b g g0 : Nat} {L new : List Int} {e : Ending}
theorem PenV.start (h : PenAt W b g0 192 L false) : PenV W b g0 L W := ⟨g0, h, .inl rfl, Off.refl _ _, PenK.refl _⟩
theorem PenV.later (h : PenV w4 b g0 L W) (hb : Below W.heap.size W W') : PenV w4 b g0 L W' := by
  obtain ⟨g, h1, h2, h3, h4⟩ := h
  exact ⟨g, h1.below hb, h2, h3.trans (Off.of_below (S := penS b g0) hb) (fun _ _ h => h), h4.trans (PenK.of_below hb)⟩
theorem PenV.since (h : PenV W b g0 L W') {w4 : World} (hb : Below w4.heap.size w4 W) : PenV w4 b g0 L W' := by
  obtain ⟨g, h1, h2, h3, h4⟩ := h
  have := hb.size
  exact ⟨g, h1, by omega, (Off.of_below hb).trans h3 (fun _ _ h => h), (PenK.of_below hb).trans h4⟩
theorem PenV.below {B : Nat} (h : PenV w4 b g0 L W) (h1 : B ≤ b) (h2 : B ≤ g0) (h3 : B ≤ w4.heap.size) : Below B w4 W := by
  obtain ⟨g, -, -, ho, -⟩ := h
  exact ho.below (fun k hk => by rcases hk with rfl | rfl <;> assumption) h3
theorem PenV.size (h : PenV w4 b g0 L W) : w4.heap.size ≤ W.heap.size := by
  obtain ⟨g, -, -, ho, -⟩ := h
  exact ho.size
theorem PenV.wrote (hg : g = g0 ∨ w4.heap.size ≤ g) (ho : Off (penS b g0) w4 W) (hk : PenK w4 W) (hw : PenAt W b g 192 L false) (hr : WroteR b g 192 L false new W e W') (hl : L.length + new.length ≤ 192) :
    e = .returned (.int .i64 0) ∧ PenV w4 b g0 (L ++ new) W' ∧ PenK W W' := by
  obtain ⟨he, g', h1, h2, h3⟩ := hr
  have hf : fullNext 192 L false new.length = false := fullNext_no (by omega)
  have hbn : bytesNext 192 L false new = L ++ new := by unfold bytesNext; rw [hf]; rfl
  rw [hf] at he h1
  rw [hbn] at h1
  have hkk := hw.kept h2
  refine ⟨he, ⟨g', h1, ?_, ho.trans h2 ?_, hk.trans hkk⟩, hkk⟩
  · have := ho.size
    omega
  · rintro j hj (rfl | rfl)
    · exact .inl rfl
    · rcases hg with rfl | hg
      · exact .inr rfl
      · omega
/-- one number is written -/
theorem num1_any (hv : PenV w4 b g0 L W) (x : Int) (h0 : 0 ≤ x) (h1 : x ≤ 18446744073709551615) (hl : L.length + (Vi.enc x.toNat).length ≤ 192) :
    Calls Try.prog 46 #[.pointer (some ⟨b, 0, none⟩), .slice (some ⟨W.heap.size, 0, none⟩) 1 1] (W.alloc (.cells #[.int .u64 x] 101)) fun e w' => e = .returned (.int .i64 0) ∧ PenV w4 b g0 (L ++ Vi.enc x.toNat) w' ∧ PenK W w' := by
  obtain ⟨g, hp, hg, ho, hk⟩ := hv
  have hb : Below W.heap.size W (W.alloc (.cells #[.int .u64 x] 101)) := (Below.refl _ W).alloc (Nat.le_refl _) _
  refine (number_any b g 192 L false _ _ _ 1 1 [x] (hp.below hb) (by omega) (by omega) (by omega) (by omega) rfl (by simp; omega) (Nat.le_refl _) ((Nums.new .u64 W 101 [x] _ rfl).mono (by simp))).mono fun e w' hr => ?_
  have hr' := hr.later hb
  rw [puts_one] at hr'
  exact PenV.wrote hg ho hk hp hr' hl
/-- a signed one -/
theorem sig1_any (hv : PenV w4 b g0 L W) (x : Int) (h0 : -9223372036854775808 ≤ x) (h1 : x ≤ 9223372036854775807) (hl : L.length + (Vi.enc (zg x)).length ≤ 192) :
    Calls Try.prog 47 #[.pointer (some ⟨b, 0, none⟩), .slice (some ⟨W.heap.size, 0, none⟩) 1 1] (W.alloc (.cells #[.int .i64 x] 2)) fun e w' => e = .returned (.int .i64 0) ∧ PenV w4 b g0 (L ++ Vi.enc (zg x)) w' ∧ PenK W w' := by
  obtain ⟨g, hp, hg, ho, hk⟩ := hv
  have hb : Below W.heap.size W (W.alloc (.cells #[.int .i64 x] 2)) := (Below.refl _ W).alloc (Nat.le_refl _) _
  refine (signed_any b g 192 L false _ (W.heap.size + 1) _ 1 1 [x] (hp.below hb) (by omega) (by omega) (by omega) (by omega) rfl (by simp; omega) (by simp) (Nums.new .i64 W 2 [x] _ rfl)).mono fun e w' hr => ?_
  have hr' := hr.later hb
  rw [List.map_cons, List.map_nil, puts_one, zigZ_zg] at hr'
  exact PenV.wrote hg ho hk hp hr' hl
/-- two signed ones -/
theorem sig2_any (hv : PenV w4 b g0 L W) (x y : Int) (h0 : -9223372036854775808 ≤ x) (h1 : x ≤ 9223372036854775807) (h2 : -9223372036854775808 ≤ y) (h3 : y ≤ 9223372036854775807) (hl : L.length + (Vi.enc (zg x) ++ Vi.enc (zg y)).length ≤ 192) :
    Calls Try.prog 47 #[.pointer (some ⟨b, 0, none⟩), .slice (some ⟨W.heap.size, 0, none⟩) 2 2] (W.alloc (.cells #[.int .i64 x, .int .i64 y] 2)) fun e w' => e = .returned (.int .i64 0) ∧ PenV w4 b g0 (L ++ (Vi.enc (zg x) ++ Vi.enc (zg y))) w' ∧ PenK W w' := by
  obtain ⟨g, hp, hg, ho, hk⟩ := hv
  have hb : Below W.heap.size W (W.alloc (.cells #[.int .i64 x, .int .i64 y] 2)) := (Below.refl _ W).alloc (Nat.le_refl _) _
  refine (signed_any b g 192 L false _ (W.heap.size + 1) _ 2 2 [x, y] (hp.below hb) (by omega) (by omega) (by omega) (by omega) rfl (by simp; omega) (by simp) (Nums.new .i64 W 2 [x, y] _ rfl)).mono fun e w' hr => ?_
  have hr' := hr.later hb
  rw [show [x, y].map zigZ = [zigZ x] ++ [zigZ y] from rfl, puts_append, puts_one, puts_one, zigZ_zg, zigZ_zg] at hr'
  exact PenV.wrote hg ho hk hp hr' hl
/-- bytes, behind how many they are -/
theorem fld1_any (hv : PenV w4 b g0 L W) (a : Option Addr) (n c : Nat) (z : List Int) (hz : z.length = n) (hn : Nums .u8 W W.heap.size a z) (ha : z ≠ [] → ∀ q, blockOf a q → ∀ t cs, W.heap[q]? ≠ some (.cells cs t (0, 0))) (hl : L.length + (Vi.enc n ++ z).length ≤ 192) :
    Calls Try.prog 50 #[.pointer (some ⟨b, 0, none⟩), .slice a n c] W fun e w' => e = .returned (.int .i64 0) ∧ PenV w4 b g0 (L ++ (Vi.enc n ++ z)) w' ∧ PenK W w' := by
  obtain ⟨g, hp, hg, ho, hk⟩ := hv
  have hl2 := hl
  rw [List.length_append] at hl2
  refine (field_any b g 192 L false W a n c z hp (by omega) (by omega) (by omega) hz hn (fun hne q hq => ?_)).mono fun e w' hr => ?_
  · have h2 := ha hne q hq
    obtain ⟨A, cap, cur, hb, hk, -, -, hA⟩ := hp
    rintro (rfl | rfl)
    · exact h2 _ _ hb
    · rcases hA with ⟨-, rfl⟩ | ⟨rfl, -⟩
      · exact h2 _ _ hb
      · exact h2 _ _ (hk.cells rfl).2
  · rw [puts_one, Int.toNat_natCast] at hr
    exact PenV.wrote hg ho hk hp hr hl
end
set_option maxHeartbeats 4000000 in
theorem wcells18_any (b g0 B : Nat) (L : List Int) (a : Option Addr) (n c : Nat) (zs : List Int) (w : World) (h : PenAt w b g0 192 L false) (hn : Nums .i64 w B a zs) (hB1 : B ≤ b) (hB2 : B ≤ g0) (hz : zs.length = n) (hcE : cE (-1) zs = 0) (h32 : n ≤ 32) (hl : L.length + (Vi.enc n ++ gaps (-1) zs).length ≤ 192) :
    Calls Try.prog 49 #[.pointer (some ⟨b, 0, none⟩), .slice a n c] w fun e w' => (∃ x, e = .returned x) ∧ PenV w b g0 (L ++ (Vi.enc n ++ gaps (-1) zs)) w' := by
  have hBw : B ≤ w.heap.size := Nat.le_trans hB1 (Nat.le_of_lt h.lt)
  have hl2 := hl
  rw [List.length_append] at hl2
  have K0 := num1_any (PenV.start h) (n : Int) (by omega) (by omega) (by rw [Int.toNat_natCast]; omega)
  rw [Int.toNat_natCast] at K0
  have K0 := Lib.hid K0
  have HL := Lib.hid hl2
  have HN := Lib.hid hn
  have HZ := Lib.hid hz
  have HCE := Lib.hid hcE
  clear hn hz hcE hl hl2 h
  go_enter Try.func49, Try.ntmps49
  go_wp2_with (go_at_call 46; refine K0.out.mono ?_; rintro e w1 ⟨rfl, hv1, -⟩; have HV1 := Lib.hid hv1; clear hv1)
  go_loopw [4, 15] (fun av iv wr => ∃ (j : Nat) (x : Int), j ≤ n ∧ iv = .int .i64 (j : Int) ∧ av = .int .i64 x ∧ Hid (x = if j = 0 then -1 else (zs[j - 1]?).getD (-1)) ∧ -1 ≤ x ∧ x ≤ 65535 ∧ Hid (PenV w b g0 (L ++ (Vi.enc n ++ gaps (-1) (zs.take j))) wr)) (fun _ iv _ => n - (intOf iv).toNat)
  case atStart => exact ⟨0, -1, by omega, rfl, rfl, Lib.hid rfl, by omega, by omega, by rw [List.take_zero, gaps, List.append_nil]; exact HV1⟩
  case round =>
    obtain ⟨j, x, hj, rfl, rfl, HX, hx0, hx1, HV⟩ := hrel
    rcases Nat.lt_or_ge j n with hlt | hge
    · obtain ⟨q, hq⟩ : ∃ q, zs[j]? = some q := ⟨_, List.getElem?_eq_getElem (by rw [HZ.out]; exact hlt)⟩
      obtain ⟨ga, off, rfl, hga, hcl⟩ := (HN.out.below (HV.out.below hB1 hB2 hBw)).open hq
      obtain ⟨k1, k2, k3, k4⟩ := cE_get zs (-1) j q (by omega) HCE.out hq
      have hxq : x < q := by
        have hx := HX.out
        by_cases h0 : j = 0
        · rw [if_pos h0] at hx; omega
        · rw [if_neg h0] at hx
          obtain ⟨p, hp⟩ : ∃ p, zs[j - 1]? = some p := ⟨_, List.getElem?_eq_getElem (by rw [HZ.out]; omega)⟩
          rw [hp] at hx
          have := k3 (j - 1) p (by omega) hp
          simp at hx
          omega
      have hgt := gaps_take zs (-1) q j hq
      rw [← HX.out] at hgt
      have hgl := gaps_le zs (-1) (j + 1)
      rw [hgt, List.length_append] at hgl
      have hll := HL.out
      have K1 := num1_any HV.out (q - x - 1) (by omega) (by omega) (by rw [List.length_append, List.length_append]; omega)
      rw [List.append_assoc, List.append_assoc, ← hgt] at K1
      have K1 := Lib.hid K1
      have HQ : Hid (q = if j + 1 = 0 then -1 else (zs[j + 1 - 1]?).getD (-1)) := by
        show _ = _
        rw [if_neg (by omega), Nat.add_sub_cancel, hq]
        rfl
      clear hgt hgl hll k3 HX HV hq
      go_wp2_with (go_at_call 46; refine K1.out.mono ?_; rintro e w2 ⟨rfl, hv2, -⟩; have HV2 := Lib.hid hv2; clear hv2)
      go_roundw
      case rel => exact ⟨j + 1, q, by omega, by go_num, rfl, HQ, by omega, by omega, HV2⟩
      case measure => simp [intOf]; omega
    · obtain rfl : j = n := by omega
      have HF := HV.out
      rw [List.take_of_length_le (by rw [HZ.out]; omega)] at HF
      have HF := Lib.hid HF
      go_wp2
      go_end0
      exact ⟨⟨_, rfl⟩, HF.out⟩
end Go.Proofs.Ytlbfibnfmijahaa

namespace Go.Proofs.Ytlbfibnfmijahaa
open Go.RowKit Go.Shelf
set_option maxRecDepth 100000
attribute [local go_sem] Oper.semAt_some

/-- a box of another type is written to -/
theorem PenV.setBox {w4 W : World} {b g0 q j : Nat} {L : List Int} {cs : Array Value} {t : TypeId} (h : PenV w4 b g0 L W) (hq : W.heap[q]? = some (.cells cs t (0, 0))) (h1 : t ≠ 5) (h2 : t ≠ 99) (hlo : w4.heap.size ≤ q) (u : Value) : PenV w4 b g0 L (W.setCell ⟨q, j, none⟩ u) := by
  obtain ⟨g, hp, hg, ho, hk⟩ := h
  have hoff : Off (fun k => k = q) W (W.setCell ⟨q, j, none⟩ u) := Off.setCell (S := fun k => k = q) (p := ⟨q, j, none⟩) (Off.refl _ W) rfl _
  have hn : ¬ penS b g q := by
    obtain ⟨A, cap, cur, hb, hkr, -, -, hA⟩ := hp
    rintro (rfl | rfl)
    · rw [hb] at hq
      injection hq with hq
      injection hq with _ hq
      exact h2 hq.symm
    · rcases hA with ⟨-, rfl⟩ | ⟨rfl, -⟩
      · rw [hb] at hq
        injection hq with hq
        injection hq with _ hq
        exact h2 hq.symm
      · have hr := (hkr.cells rfl).2
        rw [hr] at hq
        injection hq with hq
        injection hq with _ hq
        exact h1 hq.symm
  refine ⟨g, hp.off hoff (fun e => hn (.inl e.symm)) (fun e => hn (.inr e.symm)), hg, ho.trans hoff (fun k hk e => by omega), ⟨Nat.le_trans hk.size hoff.size, fun k cs t h3 h4 h5 => ?_⟩⟩
  have h6 := hk.same k cs t h3 h4 h5
  rw [← h6]
  exact hoff.block k (Array.getElem?_eq_some_iff.1 (h6.trans h5)).1 (by have := (Array.getElem?_eq_some_iff.1 h5).1; omega)
def prevP (ps : List (Int × Int)) (j : Nat) : Int × Int := if j = 0 then (0, 0) else (ps[j - 1]?).getD (0, 0)
set_option maxHeartbeats 4000000 in
theorem wpath18_any (b g0 B : Nat) (L : List Int) (a : Option Addr) (n c : Nat) (ps : List (Int × Int)) (w : World) (h : PenAt w b g0 192 L false) (hn : Nums .i64 w B a (fl2 ps)) (hB1 : B ≤ b) (hB2 : B ≤ g0) (hz : ps.length = n) (hok : ∀ q ∈ ps, ptOk q) (h16 : n ≤ 16) (hl : L.length + (Vi.enc n ++ dlt (0, 0) ps).length ≤ 192) :
    Calls Try.prog 48 #[.pointer (some ⟨b, 0, none⟩), .slice a n c] w fun e w' => (∃ x, e = .returned x) ∧ PenV w b g0 (L ++ (Vi.enc n ++ dlt (0, 0) ps)) w' := by
  have hBw : B ≤ w.heap.size := Nat.le_trans hB1 (Nat.le_of_lt h.lt)
  have hl2 := hl
  rw [List.length_append] at hl2
  have K0 := num1_any (PenV.start h) (n : Int) (by omega) (by omega) (by rw [Int.toNat_natCast]; omega)
  rw [Int.toNat_natCast] at K0
  have K0 := Lib.hid K0
  have HL := Lib.hid hl2
  have HN := Lib.hid hn
  have HZ := Lib.hid hz
  have HOK := Lib.hid hok
  clear hn hz hok hl hl2 h
  go_enter Try.func48, Try.ntmps48
  go_wp2_with (go_at_call 46; refine K0.out.mono ?_; rintro e w1 ⟨rfl, hv1, -⟩; have hs1 := hv1.size; have HV1 := Lib.hid hv1; clear hv1)
  have HQ1 := Lib.hid (World.alloc_heap_new w1 (.cells #[.int .i64 0, .int .i64 0] 63))
  go_loopw [15] (fun iv wr => ∃ j : Nat, j ≤ n ∧ iv = .int .i64 (j : Int) ∧ Hid (wr.heap[w1.heap.size]? = some (.cells #[.int .i64 (prevP ps j).1, .int .i64 (prevP ps j).2] 63 (0, 0))) ∧ Hid (PenV w b g0 (L ++ (Vi.enc n ++ dlt (0, 0) (ps.take j))) wr)) (fun iv _ => n - (intOf iv).toNat)
  case atStart => exact ⟨0, by omega, rfl, HQ1, by rw [List.take_zero, dlt, List.append_nil]; exact Lib.hid (HV1.out.later ((Below.refl _ w1).alloc (Nat.le_refl _) _))⟩
  case round =>
    obtain ⟨j, hj, rfl, HQ, HV⟩ := hrel
    rcases Nat.lt_or_ge j n with hlt | hge
    · obtain ⟨q, hq⟩ : ∃ q, ps[j]? = some q := ⟨_, List.getElem?_eq_getElem (by rw [HZ.out]; exact hlt)⟩
      obtain ⟨ga, off, rfl, hga, x0, x1⟩ := pts_two (HN.out.below (HV.out.below hB1 hB2 hBw)) hq
      have hqo := HOK.out q (List.mem_of_getElem? hq)
      have hpo : ptOk (prevP ps j) := by
        unfold prevP
        split
        · exact ⟨by simp, by simp, by simp, by simp⟩
        · obtain ⟨p, hp⟩ : ∃ p, ps[j - 1]? = some p := ⟨_, List.getElem?_eq_getElem (by rw [HZ.out]; omega)⟩
          rw [hp]
          exact HOK.out p (List.mem_of_getElem? hp)
      have hdt := dlt_take ps (0, 0) q j hq
      rw [show (if j = 0 then ((0 : Int), (0 : Int)) else (ps[j - 1]?).getD (0, 0)) = prevP ps j from rfl] at hdt
      have hnx : prevP ps (j + 1) = q := by unfold prevP; rw [if_neg (by omega), Nat.add_sub_cancel, hq]; rfl
      have hdl := dlt_le ps (0, 0) (j + 1)
      rw [hdt, List.length_append] at hdl
      have hll := HL.out
      obtain ⟨⟨p1, p2⟩, hpp⟩ : ∃ p, prevP ps j = p := ⟨_, rfl⟩
      rw [hpp] at hdt hpo hdl HQ
      obtain ⟨q1, q2⟩ := q
      obtain ⟨a1, a2, a3, a4⟩ := hqo
      obtain ⟨b1, b2, b3, b4⟩ := hpo
      simp only at a1 a2 a3 a4 b1 b2 b3 b4 hdt hdl x0 x1 HQ
      have hlr := (Array.getElem?_eq_some_iff.1 HQ.out).1
      have hb6 : Below wr.heap.size wr (wr.alloc (.cells #[.int .i64 q1, .int .i64 q2] 63)) := (Below.refl _ wr).alloc (Nat.le_refl _) _
      obtain ⟨w6, hw6⟩ : ∃ w6, wr.alloc (.cells #[.int .i64 q1, .int .i64 q2] 63) = w6 := ⟨_, rfl⟩
      rw [hw6] at hb6
      have hs6 : w6.heap.size = wr.heap.size + 1 := by rw [← hw6]; simp
      have r6 : w6.heap[wr.heap.size]? = some (.cells #[.int .i64 q1, .int .i64 q2] 63 (0, 0)) := by rw [← hw6]; exact World.alloc_heap_new _ _
      have r4 : w6.heap[w1.heap.size]? = some (.cells #[.int .i64 p1, .int .i64 p2] 63 (0, 0)) := (hb6.block _ hlr).trans HQ.out
      have K1 := sig2_any (HV.out.later hb6) (q1 - p1) (q2 - p2) (by omega) (by omega) (by omega) (by omega) (by rw [List.length_append, List.length_append]; omega)
      rw [List.append_assoc, List.append_assoc, ← hdt, hs6] at K1
      have K1 := Lib.hid K1
      have HR6 := Lib.hid r6
      have HR4 := Lib.hid r4
      have HNX := Lib.hid hnx
      have HW6 := Lib.hid hw6
      have y0 := row_cell HQ.out 0 _ rfl
      have y1 := row_cell HQ.out 1 _ rfl
      clear hdt hdl hll HV hq hnx hw6 r6 r4 hb6 hpp HQ
      go_wp2_with fail
      rw [HW6.out]
      refine K1.out.mono ?_
      rintro e w2 ⟨rfl, hv2, hk2⟩
      have r6 := hk2.row HR6.out (by decide) (by decide)
      have r4 := hk2.row HR4.out (by decide) (by decide)
      have z0 := row_cell r6 0 _ rfl
      have z1 := row_cell r6 1 _ rfl
      have o0 := row_cell r4 0 _ rfl
      have o1 := row_cell r4 1 _ rfl
      have f0 := frozen_of_row w2 w1.heap.size 0 _ _ r4
      have f1 := frozen_of_row w2 w1.heap.size 1 _ _ r4
      have r5 := setCell_at (j := 0) (u := .int .i64 q1) r4
      have r5' := setCell_at (j := 1) (u := .int .i64 q2) r5
      have hv3 := (hv2.setBox (j := 0) r4 (by decide) (by decide) hs1 (.int .i64 q1)).setBox (j := 1) r5 (by decide) (by decide) hs1 (.int .i64 q2)
      have HV3 := Lib.hid hv3
      have HR5 : Hid (((w2.setCell ⟨w1.heap.size, 0, none⟩ (.int .i64 q1)).setCell ⟨w1.heap.size, 1, none⟩ (.int .i64 q2)).heap[w1.heap.size]? = some (.cells #[.int .i64 (prevP ps (j + 1)).1, .int .i64 (prevP ps (j + 1)).2] 63 (0, 0))) := by
        show _ = _
        rw [r5', HNX.out]
        rfl
      clear hv2 hk2 r6 r4 r5 r5' hv3 y0 y1 x0 x1 K1
      go_wp2_with fail
      go_roundw
      case rel => exact ⟨j + 1, by omega, by go_num, HR5, HV3⟩
      case measure => simp [intOf]; omega
    · obtain rfl : j = n := by omega
      have HF := HV.out
      rw [List.take_of_length_le (by rw [HZ.out]; omega)] at HF
      have HF := Lib.hid HF
      go_wp2
      go_end0
      exact ⟨⟨_, rfl⟩, HF.out⟩
end Go.Proofs.Ytlbfibnfmijahaa

namespace Go.Proofs.Ytlbfibnfmijahaa
open Go.RowKit Go.Shelf
set_option maxRecDepth 100000
attribute [local go_sem] Oper.semAt_some

theorem bytesWorld_below (w : World) (e : TypeId) (s : ByteArray) : Below w.heap.size w (Lib.bytesWorld w e s) := ⟨rfl, rfl, rfl, by rw [Lib.bytesWorld_size]; omega, fun j hj => Lib.bytesWorld_at_old w e s j hj⟩
theorem bts_cells (w : World) (e : TypeId) (s : ByteArray) : Nums .u8 (Lib.bytesWorld w e s) (Lib.bytesWorld w e s).heap.size (some ⟨w.heap.size, 0, none⟩) (bts s) := fun _ => by
  refine ⟨_, _, rfl, by rw [Lib.bytesWorld_size]; omega, fun j c hj => ?_⟩
  have hlt : j < s.size := by rw [← bts_len]; exact (List.getElem?_eq_some_iff.1 hj).1
  rw [Nat.zero_add, Lib.bytesWorld_cell w e s j hlt]
  unfold bts at hj
  rw [List.getElem?_map] at hj
  have hlt2 : j < s.data.toList.length := by rw [Array.length_toList]; exact hlt
  rw [List.getElem?_eq_getElem hlt2] at hj
  simp only [Option.map_some, Option.some.injEq] at hj
  rw [List.getD, List.getElem?_eq_getElem hlt2, ← hj]
  rfl
theorem bts_frozen (w : World) (e : TypeId) (s : ByteArray) : ∀ q, blockOf (some (⟨w.heap.size, 0, none⟩ : Addr)) q → ∀ t cs, (Lib.bytesWorld w e s).heap[q]? ≠ some (.cells cs t (0, 0)) := by
  rintro q ⟨o, s', hq⟩ t cs h
  injection hq with hq
  injection hq with hq
  subst hq
  rw [Lib.bytesWorld_at_new] at h
  injection h with h
  injection h with _ _ h
  injection h with _ h
  omega
set_option maxHeartbeats 8000000 in
theorem bwrite_any (M : Mg) (f : Fd) (P C : Value) (b g0 B : Nat) (L : List Int) (w : World) (h : PenAt w b g0 192 L false) (h1 : MAt w B M P C) (hB1 : B ≤ b) (hB2 : B ≤ g0) (hf : FdX f) (he : fE M f = 0) (hl : L.length + (mpart M f).length ≤ 192) :
    Calls Try.prog 33 #[.pointer (some ⟨b, 0, none⟩), mV M P C, f.v] w fun e w' => (∃ x, e = .returned x) ∧ PenV w b g0 (L ++ mpart M f) w' := by
  have hBw : B ≤ w.heap.size := Nat.le_trans hB1 (Nat.le_of_lt h.lt)
  obtain ⟨w2, hw2⟩ : ∃ w2, (w.alloc (.cells (mC M P C) 33)).alloc (.cells f.cs 75) = w2 := ⟨_, rfl⟩
  have hb2 : Below w.heap.size w w2 := by rw [← hw2]; exact ((Below.refl _ w).alloc (Nat.le_refl _) _).alloc (by simp) _
  have hs2 : w2.heap.size = w.heap.size + 2 := by rw [← hw2]; simp
  have q0 : w2.heap[w.heap.size]? = some (.cells (mC M P C) 33 (0, 0)) := by rw [← hw2, Below.heap_alloc _ _ _ (by simp)]; exact World.alloc_heap_new _ _
  have q1 : w2.heap[w.heap.size + 1]? = some (.cells f.cs 75 (0, 0)) := by
    have := World.alloc_heap_new (w.alloc (.cells (mC M P C) 33)) (.cells f.cs 75)
    rw [World.size_alloc] at this
    rw [← hw2]; exact this
  have hp2 := h.below hb2
  obtain ⟨⟨pa, pc, rfl, p1, p2⟩, ⟨ca, cc, rfl, c1, c2⟩⟩ := h1.below (hb2.mono hBw)
  obtain ⟨d0, d1, d2, -, -, -, -⟩ := fd_block q1
  obtain ⟨m0, m1, m2, m3, m4, m5, m6, m7, m8, m9, m10⟩ := mg_block q0
  have HW2 := Lib.hid hw2
  have HB2 := Lib.hid hb2
  have HS2 := Lib.hid hs2
  have hso := so_ways hf
  by_cases hnum : f.so = 1 ∨ f.so = 2
  · obtain ⟨jj, hj6, hjj⟩ := hf.pl (by omega)
    have htn : f.pl.toNat = jj := by rw [hjj]; exact Int.toNat_natCast _
    rw [hjj] at d2
    have k1 := mg_at q0 hj6
    have hz6 : (jj : Int) < 6 := by omega
    have hle := hf.le
    have hwn : wN (M.at' jj) f.le f.mo = 0 := by
      unfold fE at he
      rw [htn] at he
      rcases hnum with e | e <;> simpa [e] using he
    have hb := wN_zero hwn
    obtain ⟨x, hx⟩ : ∃ x, M.at' jj = x := ⟨_, rfl⟩
    rw [hx] at k1 hb
    rcases hnum with e | e
    · have h0 := hf.one e
      have hpt : mpart M f = Vi.enc x.toNat := by unfold mpart; simp [e, htn, hx]
      have xx : 0 ≤ x := by omega
      have x0 : -1000000 ≤ x := by omega
      have x1 : x ≤ 1000000 := by omega
      rw [hpt] at hl ⊢
      have K := num1_any (PenV.start hp2) x (by omega) (by omega) hl
      rw [hs2] at K
      have K := Lib.hid K
      rw [e] at d1
      rw [← hw2] at d1 d2 k1
      clear hw2 hb2 q0 q1 d0 htn hx hwn hle hpt hjj he hf h hp2 h1 hB1 hB2 hBw m0 m1 m2 m3 m4 m5 m6 m7 m8 m9 m10 p1 p2 c1 c2 hs2 hso hl
      unfold mV Fd.v
      go_enter Try.func33, Try.ntmps33
      go_wp2_with fail
      rw [HW2.out]
      refine K.out.mono ?_
      rintro e w3 ⟨rfl, hv3, -⟩
      have HF := Lib.hid (hv3.since HB2.out)
      clear hv3 d1 d2 k1
      go_wp2
      go_end0
      exact ⟨⟨_, rfl⟩, HF.out⟩
    · have hpt : mpart M f = Vi.enc (zg x) := by unfold mpart; simp [e, htn, hx]
      have x0 : -1000000 ≤ x := by omega
      have x1 : x ≤ 1000000 := by omega
      rw [hpt] at hl ⊢
      have K := sig1_any (PenV.start hp2) x (by omega) (by omega) hl
      rw [hs2] at K
      have K := Lib.hid K
      rw [e] at d1
      rw [← hw2] at d1 d2 k1
      clear hw2 hb2 q0 q1 d0 htn hx hwn hle hpt hjj he hf h hp2 h1 hB1 hB2 hBw m0 m1 m2 m3 m4 m5 m6 m7 m8 m9 m10 p1 p2 c1 c2 hs2 hso hl
      unfold mV Fd.v
      go_enter Try.func33, Try.ntmps33
      go_wp2_with fail
      rw [HW2.out]
      refine K.out.mono ?_
      rintro e w3 ⟨rfl, hv3, -⟩
      have HF := Lib.hid (hv3.since HB2.out)
      clear hv3 d1 d2 k1
      go_wp2
      go_end0
      exact ⟨⟨_, rfl⟩, HF.out⟩
  by_cases h3 : f.so = 3
  · have e := h3
    have hx : fE M f = wP M.p f.mo := by unfold fE; simp [e]
    rw [hx] at he
    obtain ⟨r1, r2, r3⟩ := wP_zero he
    have hmo := hf.mo.1 e
    have hpt : mpart M f = Vi.enc M.p.length ++ dlt (0, 0) M.p := by unfold mpart; simp [e]
    rw [hpt] at hl ⊢
    have K := wpath18_any b g0 B L pa M.p.length pc M.p w2 hp2 p2 hB1 hB2 rfl r3 (by omega) hl
    have K := Lib.hid K
    rw [e] at d1
    rw [← hw2] at d1 m7
    have hDC := Lib.hid m7
    clear hw2 hb2 q0 q1 d0 d2 hpt he hf h hp2 h1 hB1 hB2 hBw m0 m1 m2 m3 m4 m5 m6 m9 m10 p1 p2 c1 c2 hs2 hso hl hnum m8
    unfold mV Fd.v
    go_enter Try.func33, Try.ntmps33
    go_wp2_with fail
    rw [HW2.out]
    refine K.out.mono ?_
    rintro e w3 ⟨⟨x, rfl⟩, hv3⟩
    have HF := Lib.hid (hv3.since HB2.out)
    clear hv3 d1 m7
    go_wp2
    go_end0
    exact ⟨⟨_, rfl⟩, HF.out⟩
  by_cases h4 : f.so = 4
  · have e := h4
    have hx : fE M f = wC M.c f.mo := by unfold fE; simp [e]
    rw [hx] at he
    obtain ⟨r1, r2, r3⟩ := wC_zero he
    have hmo := hf.mo.2.1 e
    have hpt : mpart M f = Vi.enc M.c.length ++ gaps (-1) M.c := by unfold mpart; simp [e]
    rw [hpt] at hl ⊢
    have K := wcells18_any b g0 B L ca M.c.length cc M.c w2 hp2 c2 hB1 hB2 rfl r3 (by omega) hl
    have K := Lib.hid K
    rw [e] at d1
    rw [← hw2] at d1 m8
    have hDC := Lib.hid m8
    clear hw2 hb2 q0 q1 d0 d2 hpt he hf h hp2 h1 hB1 hB2 hBw m0 m1 m2 m3 m4 m5 m6 m9 m10 p1 p2 c1 c2 hs2 hso hl hnum m7
    unfold mV Fd.v
    go_enter Try.func33, Try.ntmps33
    go_wp2_with fail
    rw [HW2.out]
    refine K.out.mono ?_
    rintro e w3 ⟨⟨x, rfl⟩, hv3⟩
    have HF := Lib.hid (hv3.since HB2.out)
    clear hv3 d1 m8
    go_wp2
    go_end0
    exact ⟨⟨_, rfl⟩, HF.out⟩
  by_cases h5 : f.so = 5
  · have e := h5
    have hx : fE M f = wT M.tx f.mo := by unfold fE; simp [e]
    rw [hx] at he
    obtain ⟨r1, r2⟩ := wT_zero he
    have hpt : mpart M f = Vi.enc M.tx.size ++ bts M.tx := by unfold mpart; simp [e]
    rw [hpt] at hl ⊢
    obtain ⟨s, hs⟩ : ∃ s, M.tx = s := ⟨_, rfl⟩
    rw [hs] at hl r1 m9 ⊢
    have hlb := bts_len s
    have HCV := fun W => Lib.run_convert_string_bytes (P := Try.prog) W 9 22 5 s Try.underlying9 Try.underlying22 Try.underlying5
    have hbw := bytesWorld_below w2 5 s
    have K := fld1_any ((PenV.start hp2).later hbw) (some ⟨w2.heap.size, 0, none⟩) s.size (grownCap w2 s.size 0 5) (bts s) hlb (bts_cells w2 5 s) (fun _ => bts_frozen w2 5 s) hl
    rw [hs2] at K
    have K := Lib.hid K
    rw [e] at d1
    rw [← hw2] at d1 m9
    clear hw2 hb2 q0 q1 d0 d2 hpt he hf h hp2 h1 hB1 hB2 hBw m0 m1 m2 m3 m4 m5 m6 m10 m7 m8 p1 p2 c1 c2 hs2 hso hl hnum hs r1 r2 hlb hbw
    unfold mV Fd.v
    go_enter Try.func33, Try.ntmps33
    go_wp2_with fail
    rw [HW2.out]
    refine K.out.mono ?_
    rintro e w3 ⟨rfl, hv3, -⟩
    have HF := Lib.hid (hv3.since HB2.out)
    clear hv3 d1 m9 HCV
    go_wp2
    go_end0
    exact ⟨⟨_, rfl⟩, HF.out⟩
  · have e : f.so = 6 := by omega
    have hx : fE M f = wT M.tg f.mo := by unfold fE; simp [e]
    rw [hx] at he
    obtain ⟨r1, r2⟩ := wT_zero he
    have hpt : mpart M f = Vi.enc M.tg.size ++ bts M.tg := by unfold mpart; simp [e]
    rw [hpt] at hl ⊢
    obtain ⟨s, hs⟩ : ∃ s, M.tg = s := ⟨_, rfl⟩
    rw [hs] at hl r1 m10 ⊢
    have hlb := bts_len s
    have HCV := fun W => Lib.run_convert_string_bytes (P := Try.prog) W 9 22 5 s Try.underlying9 Try.underlying22 Try.underlying5
    have hbw := bytesWorld_below w2 5 s
    have K := fld1_any ((PenV.start hp2).later hbw) (some ⟨w2.heap.size, 0, none⟩) s.size (grownCap w2 s.size 0 5) (bts s) hlb (bts_cells w2 5 s) (fun _ => bts_frozen w2 5 s) hl
    rw [hs2] at K
    have K := Lib.hid K
    rw [e] at d1
    rw [← hw2] at d1 m10
    clear hw2 hb2 q0 q1 d0 d2 hpt he hf h hp2 h1 hB1 hB2 hBw m0 m1 m2 m3 m4 m5 m6 m9 m7 m8 p1 p2 c1 c2 hs2 hso hl hnum hs r1 r2 hlb hbw
    unfold mV Fd.v
    go_enter Try.func33, Try.ntmps33
    go_wp2_with fail
    rw [HW2.out]
    refine K.out.mono ?_
    rintro e w3 ⟨rfl, hv3, -⟩
    have HF := Lib.hid (hv3.since HB2.out)
    clear hv3 d1 m10 HCV
    go_wp2
    go_end0
    exact ⟨⟨_, rfl⟩, HF.out⟩
end Go.Proofs.Ytlbfibnfmijahaa

namespace Go.Proofs.Ytlbfibnfmijahaa
open Go.RowKit Go.Shelf
set_option maxRecDepth 100000
attribute [local go_sem] Oper.semAt_some

end Go.Proofs.Ytlbfibnfmijahaa

namespace Go.Proofs.Ytlbfibnfmijahaa
open Go.RowKit Go.Shelf
set_option maxRecDepth 100000
attribute [local go_sem] Oper.semAt_some

end Go.Proofs.Ytlbfibnfmijahaa

namespace Go.Proofs.Ytlbfibnfmijahaa
open Go.RowKit Go.Shelf
set_option maxRecDepth 100000
attribute [local go_sem] Oper.semAt_some

end Go.Proofs.Ytlbfibnfmijahaa

namespace Go.Proofs.Ytlbfibnfmijahaa
open Go.RowKit Go.Shelf
set_option maxRecDepth 100000
attribute [local go_sem] Oper.semAt_some

end Go.Proofs.Ytlbfibnfmijahaa

namespace Go.Proofs.Ytlbfibnfmijahaa
open Go.RowKit Go.ChangeShapes Go.WideShapes Go.Deep Go.ChangeMaps
set_option maxRecDepth 100000

section
variable {H : Type} {enc : TypeId × Value → H} {w : World}
theorem row_of {T E : TypeId} {k : IntKind} {fuel : Nat} {v : Value} {x : DataW H × List MemPlace} (ht : Try.prog.underlying T = some (.slice E)) (he : Try.prog.underlying E = some (.int k)) (hc : Try.prog.cellsOf E = 1)
    (h : DataW.trod enc Try.prog w 0 (fun _ => true) true fuel T [v] = some x) : ∃ a n c es, v = .slice a n c ∧ es.length = n ∧ n ≤ c ∧ Nums k w w.heap.size a es ∧ ∀ z ∈ es, (Lit.int k z).wf = true := by
  rcases open_ints ht he hc h with ⟨hcs, _⟩ | ⟨a, l, c, zs, hcs, _, hl, hm, hz, _, hcell, hwz⟩
  · injection hcs with hcs
    exact ⟨none, 0, 0, [], hcs, rfl, Nat.le_refl _, Nums.nil, fun z hz => by cases hz⟩
  · injection hcs with hcs
    obtain ⟨es, h1, h2, h3, h4, h5⟩ := IsRow.elems (k := k) (w := w) (a := some a) (len := l) (cap := c) (zs := zs) (.inr ⟨_, rfl, hl, hm, by simpa using hz, hcell, hwz⟩)
    exact ⟨some a, l, c, es, hcs, h1, h2, h4, h5⟩
end
end Go.Proofs.Ytlbfibnfmijahaa

namespace Go.Proofs.Ytlbfibnfmijahaa
section
variable {P : Program} {ops : Array Oper} {md : Region.Mode}

/-- 0: it looks at no memory and enters no function; 1: a load; 2: a store; 3: all others -/
def kind3 (o : Oper) : Nat :=
  if pureOp o then 0 else match o.op with
    | .load _ _ => 1
    | .store _ _ _ => 2
    | _ => 3
theorem kind3_pure {o : Oper} (h : kind3 o = 0) : kindOf o = 0 := by
  unfold kind3 at h
  unfold kindOf
  split at h
  · rename_i hp; rw [if_pos hp]
  · split at h <;> simp at h
theorem kind3_load {o : Oper} (h : kind3 o = 1) : ∃ t x, o.op = .load t x := by
  unfold kind3 at h
  split at h
  · simp at h
  · split at h
    · exact ⟨_, _, by assumption⟩
    · simp at h
    · simp at h
theorem load_no_enter {o : Oper} {t : TypeId} {x : Operand} (ho : o.op = .load t x) (ρ : Operand → Value) (w w' : World) (f : FuncId) (args : Array Value) : (execOp ρ o).run P w ≠ .ok (.enter f args) w' := by
  unfold execOp
  simp only [ho]
  exact run_value _ _ _ _ _
theorem yields_load {o : Oper} {v : Value} {a : Act} {C D : World → Prop} (hk : kind3 o = 1) (h : YieldsIn P ops C o v a) (hD : ∀ w, D w → C w) : YieldsIn P ops D o v a := by
  obtain ⟨t, x, ho⟩ := kind3_load hk
  rcases h with ⟨hw, h⟩ | h
  · refine .inl ⟨hw, fun w hwD => ?_⟩
    have h1 := h w (hD w hwD)
    have h2 := load_no_enter (P := P) ho a.eval w
    unfold Oper.quietAt at h1 ⊢
    generalize (execOp a.eval o).run P w = r at h1 h2
    cases r with
    | ok n w' =>
      cases n with
      | enter f args => exact absurd rfl (h2 w' f args)
      | _ => exact h1
    | halt x w' => exact h1
  · exact .inr h

def famUpon (P : Program) (V : Value → Prop) (C' : Value → World → Prop) : Result Next → Prop
  | .ok (.value u) w' => V u ∧ C' u w'
  | .ok (.enter f args) w' => Calls P f args w' fun e w'' => ∃ v, e = .returned v ∧ V v ∧ C' v w''
  | _ => False
/-- one operation, in a class of worlds -/
def Step3 (P : Program) (ops : Array Oper) (o : Oper) (a : Act) (C : World → Prop) (K : (World → Prop) → Act → Prop) : Prop :=
  (kind3 o = 0 ∧ ∃ v, YieldsIn P ops (fun _ => True) o v a ∧ K C (a.put o.dst v)) ∨
  (kind3 o = 1 ∧ ∃ v, YieldsIn P ops C o v a ∧ K C (a.put o.dst v)) ∨
  (kind3 o = 2 ∧ ∃ v C', StepsIn P ops C C' o v a ∧ K C' (a.put o.dst v)) ∨
  (kind3 o = 3 ∧ ((Region.wanted o (yielded ops a.tmps) = false ∧ K C (a.put o.dst undef)) ∨ (Region.wanted o (yielded ops a.tmps) = true ∧ ∃ (V : Value → Prop) (C' : Value → World → Prop), (∀ v w, C' v w → C w) ∧ (∀ w, C w → famUpon P V C' ((execOp a.eval o).run P w)) ∧ ∀ v, V v → K (C' v) (a.put o.dst v))))

theorem Step3.wpOp {C : World → Prop} {i : Nat} {o : Oper} {a : Act} {K : (World → Prop) → Act → Prop} {K' : Act → World → Prop} {Q' : Exit → Act → World → Prop} {w : World} (hi : ops[i]? = some o) (h : Step3 P ops o a C K) (hC : C w) (hK : ∀ (C' : World → Prop) a' w', C' w' → K C' a' → K' a' w') : wpOp P ops Q' i K' a w := by
  rcases h with ⟨hk, v, hy, hn⟩ | ⟨hk, v, hy, hn⟩ | ⟨hk, v, C', hy, hn⟩ | ⟨hk, h⟩
  · exact OpR.wpOp (C := C) (C' := C) hi (.inl ⟨kind3_pure hk, rfl, hy⟩) hC fun w' hw' => hK C _ w' hw' hn
  · have hk1 : kindOf o = 1 := by
      obtain ⟨t, x, ho⟩ := kind3_load hk
      simp [kindOf, pureOp, ho]
    exact OpR.wpOp (C := C) (C' := C) hi (.inr (.inl ⟨hk1, rfl, hy⟩)) hC fun w' hw' => hK C _ w' hw' hn
  · have hk2 : kindOf o = 2 := by
      unfold kind3 at hk
      unfold kindOf
      split at hk
      · simp at hk
      · rename_i hp
        rw [if_neg hp]
        split at hk
        · simp at hk
        · rename_i heq; simp [heq]
        · simp at hk
    exact OpR.wpOp (C := C) (C' := C') hi (.inr (.inr ⟨hk2, hy⟩)) hC fun w' hw' => hK C' _ w' hw' hn
  · unfold Go.wpOp
    simp only [hi]
    rcases h with ⟨hw, hn⟩ | ⟨hw, V, C', _, hv, hn⟩
    · simp only [hw, Bool.false_eq_true, if_false]
      exact hK C _ w hC hn
    · simp only [hw, if_true]
      left
      have h1 := hv w hC
      unfold Oper.wp
      generalize (execOp a.eval o).run P w = r at h1
      cases r with
      | ok n w' =>
        cases n <;> simp only [famUpon] at h1 <;> simp only [Oper.upon]
        case value u => exact hK (C' u) _ w' h1.2 (hn u h1.1)
        case enter f args =>
          refine h1.mono fun e w'' ⟨v, he, hV, hc⟩ => ?_
          subst he
          exact hK (C' v) _ w'' hc (hn v hV)
      | halt x w' => simp only [famUpon] at h1
/-- what waits for k, through others too -/
def blocked (md : Region.Mode) (ops : Array Oper) (k : Nat) : Array Bool :=
  (List.range ops.size).foldl (fun u j => u.push (j == k || (match ops[j]? with | some oj => oj.after.any (fun e => Region.binds md e && u.getD e.on false) | none => false))) #[]
structure Free3 (md : Region.Mode) (ops : Array Oper) (listed : Array Bool) (i : Nat) (oi : Oper) (U : Array Bool) : Prop where
  size : U.size = ops.size
  own : U.getD i false = true
  wait : ∀ j oj, ops[j]? = some oj → U.getD j false = true → j ≠ i → ∃ e ∈ oj.after, Region.binds md e = true ∧ U.getD e.on false = true
  un : ∀ j, U.getD j false = true → listed.getD j false = false
  free : ∀ j oj, ops[j]? = some oj → U.getD j false = false → listed.getD j true = false → oi.apart ops oj = true ∧ (kind3 oi = 0 ∨ (kind3 oi = 1 ∧ kind3 oj ≠ 2))
theorem Free3.ready {i j : Nat} {oi oj : Oper} {listed U : Array Bool} (h : Free3 md ops listed i oi U) (hj : ops[j]? = some oj) (hji : j ≠ i) (hall : ∀ e ∈ oj.after, Region.binds md e = true → listed.getD e.on false = true) : U.getD j false = false := by
  cases hu : U.getD j false with
  | false => rfl
  | true =>
    obtain ⟨e, he, hb, hue⟩ := h.wait j oj hj hu hji
    have h1 := hall e he hb
    rw [h.un e.on hue] at h1
    cases h1
theorem Free3.set {i j : Nat} {oi : Oper} {listed U : Array Bool} (h : Free3 md ops listed i oi U) (hu : U.getD j false = false) : Free3 md ops (listed.setIfInBounds j true) i oi U := by
  refine ⟨h.size, h.own, h.wait, fun k hk => ?_, fun k ok hk hku hun => h.free k ok hk hku ?_⟩
  · have hne : j ≠ k := fun e => by subst e; rw [hu] at hk; cases hk
    rw [getD_set_ne false hne]; exact h.un k hk
  · by_cases hjk : j = k
    · subst hjk
      rcases Nat.lt_or_ge j listed.size with h' | h'
      · simp [h'] at hun
      · simp [Array.getElem?_eq_none (show (listed.setIfInBounds j true).size ≤ j by simpa using h')] at hun
    · rw [getD_set_ne true hjk] at hun; exact hun
/-- an operation apart: its step is the same whether another's value is in its slot or not -/
theorem Step3.put {oi oj : Oper} {v : Value} {a : Act} {C : World → Prop} {K1 K2 : (World → Prop) → Act → Prop} (hap : oi.apart ops oj = true) (hsj : ∀ cs b, oj.op ≠ .select cs b)
    (hK : ∀ (C' : World → Prop) u, (C' = C ∨ (kind3 oj = 3 ∧ ∀ w, C' w → C w) ∨ kind3 oj = 2) → K1 C' ((a.put oi.dst v).put oj.dst u) → K2 C' (a.put oj.dst u)) (h : Step3 P ops oj (a.put oi.dst v) C K1) : Step3 P ops oj a C K2 := by
  obtain ⟨p1, p2, p3⟩ := Oper.apart_spec hap
  have he := execOp_put oj hsj a oi.dst v p1
  have hw := wanted_put oj a oi.dst v p1
  rcases h with ⟨hk, u, hy, hn⟩ | ⟨hk, u, hy, hn⟩ | ⟨hk, u, C', hy, hn⟩ | ⟨hk, h⟩
  · exact .inl ⟨hk, u, hy.of_same he.symm hw.symm, hK C u (.inl rfl) hn⟩
  · exact .inr (.inl ⟨hk, u, hy.of_same he.symm hw.symm, hK C u (.inl rfl) hn⟩)
  · refine .inr (.inr (.inl ⟨hk, u, C', ?_, hK C' u (.inr (.inr hk)) hn⟩))
    unfold StepsIn at hy ⊢
    rwa [he, hw] at hy
  · refine .inr (.inr (.inr ⟨hk, ?_⟩))
    rcases h with ⟨hwf, hn⟩ | ⟨hwt, V, C', hsub, hv, hn⟩
    · exact .inl ⟨by rw [← hw]; exact hwf, hK C undef (.inl rfl) hn⟩
    · exact .inr ⟨by rw [← hw]; exact hwt, V, C', hsub, by rwa [he] at hv, fun u hu => hK (C' u) u (.inr (.inl ⟨hk, hsub u⟩)) (hn u hu)⟩
theorem Step3.mono {o : Oper} {a : Act} {C : World → Prop} {K K' : (World → Prop) → Act → Prop} (h : Step3 P ops o a C K) (hK : ∀ C a, K C a → K' C a) : Step3 P ops o a C K' := by
  rcases h with ⟨hk, v, hy, hn⟩ | ⟨hk, v, hy, hn⟩ | ⟨hk, v, C', hy, hn⟩ | ⟨hk, h⟩
  · exact .inl ⟨hk, v, hy, hK _ _ hn⟩
  · exact .inr (.inl ⟨hk, v, hy, hK _ _ hn⟩)
  · exact .inr (.inr (.inl ⟨hk, v, C', hy, hK _ _ hn⟩))
  · refine .inr (.inr (.inr ⟨hk, ?_⟩))
    rcases h with ⟨hw, hn⟩ | ⟨hw, V, C', hs, hv, hn⟩
    · exact .inl ⟨hw, hK _ _ hn⟩
    · exact .inr ⟨hw, V, C', hs, hv, fun v hV => hK _ _ (hn v hV)⟩
/-! one operation of the walk -/
theorem yields_of_quiet {o : Oper} {C : World → Prop} {a : Act} {K : Act → Prop} (h : wpQuiet P ops C K [o] a) : ∃ v, YieldsIn P ops C o v a ∧ K (a.put o.dst v) := by
  unfold wpQuiet at h
  by_cases hw : Region.wanted o (yielded ops a.tmps) = true
  · simp only [hw, if_true] at h
    obtain ⟨v, h1, h2⟩ := h
    exact ⟨v, .inl ⟨hw, h1⟩, h2⟩
  · simp only [hw] at h
    exact ⟨undef, .inr ⟨by simpa using hw, rfl⟩, h⟩
/-! the same, the region's operations as a list: so each operation comes written out -/
section
variable {l : List Oper} {Q : (World → Prop) → Act → Prop} {o : Oper} {k : Nat} {r : List Nat} {C : World → Prop} {a : Act}
theorem at_list (ho : l[k]? = some o) : l.toArray[k]? = some o := by simpa using ho
end
end
end Go.Proofs.Ytlbfibnfmijahaa

namespace Go.Proofs.Ytlbfibnfmijahaa
section
variable {P : Program} {ops : Array Oper} {md : Region.Mode} {I : World → Prop}

/-- one operation, in a class of worlds -/
def Step4 (P : Program) (ops : Array Oper) (I : World → Prop) (o : Oper) (a : Act) (C : World → Prop) (K : (World → Prop) → Act → Prop) : Prop :=
  (kind3 o = 0 ∧ ∃ v, YieldsIn P ops (fun _ => True) o v a ∧ K C (a.put o.dst v)) ∨
  (kind3 o = 1 ∧ ∃ v, YieldsIn P ops I o v a ∧ K C (a.put o.dst v)) ∨
  (kind3 o = 2 ∧ ∃ v C', (∀ w, C' w → I w) ∧ StepsIn P ops C C' o v a ∧ K C' (a.put o.dst v)) ∨
  (kind3 o = 3 ∧ ((Region.wanted o (yielded ops a.tmps) = false ∧ K C (a.put o.dst undef)) ∨ (Region.wanted o (yielded ops a.tmps) = true ∧ ∃ (V : Value → Prop) (C' : Value → World → Prop), (∀ v w, C' v w → I w) ∧ (∀ w, C w → famUpon P V C' ((execOp a.eval o).run P w)) ∧ ∀ v, V v → K (C' v) (a.put o.dst v))))

theorem Step4.wpOp {C : World → Prop} {i : Nat} {o : Oper} {a : Act} {K : (World → Prop) → Act → Prop} {K' : Act → World → Prop} {Q' : Exit → Act → World → Prop} {w : World} (hi : ops[i]? = some o) (h : Step4 P ops I o a C K) (hC : C w) (hCI : ∀ w, C w → I w) (hK : ∀ (C' : World → Prop) a' w', C' w' → (∀ w, C' w → I w) → K C' a' → K' a' w') : wpOp P ops Q' i K' a w := by
  rcases h with ⟨hk, v, hy, hn⟩ | ⟨hk, v, hy, hn⟩ | ⟨hk, v, C', hI, hy, hn⟩ | ⟨hk, h⟩
  · exact OpR.wpOp (C := C) (C' := C) hi (.inl ⟨kind3_pure hk, rfl, hy⟩) hC fun w' hw' => hK C _ w' hw' hCI hn
  · have hk1 : kindOf o = 1 := by
      obtain ⟨t, x, ho⟩ := kind3_load hk
      simp [kindOf, pureOp, ho]
    exact OpR.wpOp (C := C) (C' := C) hi (.inr (.inl ⟨hk1, rfl, yields_load hk hy hCI⟩)) hC fun w' hw' => hK C _ w' hw' hCI hn
  · have hk2 : kindOf o = 2 := by
      unfold kind3 at hk
      unfold kindOf
      split at hk
      · simp at hk
      · rename_i hp
        rw [if_neg hp]
        split at hk
        · simp at hk
        · rename_i heq; simp [heq]
        · simp at hk
    exact OpR.wpOp (C := C) (C' := C') hi (.inr (.inr ⟨hk2, hy⟩)) hC fun w' hw' => hK C' _ w' hw' hI hn
  · unfold Go.wpOp
    simp only [hi]
    rcases h with ⟨hw, hn⟩ | ⟨hw, V, C', hI, hv, hn⟩
    · simp only [hw, Bool.false_eq_true, if_false]
      exact hK C _ w hC hCI hn
    · simp only [hw, if_true]
      left
      have h1 := hv w hC
      unfold Oper.wp
      generalize (execOp a.eval o).run P w = r at h1
      cases r with
      | ok n w' =>
        cases n <;> simp only [famUpon] at h1 <;> simp only [Oper.upon]
        case value u => exact hK (C' u) _ w' h1.2 (hI u) (hn u h1.1)
        case enter f args =>
          refine h1.mono fun e w'' ⟨v, he, hV, hc⟩ => ?_
          subst he
          exact hK (C' v) _ w'' hc (hI v) (hn v hV)
      | halt x w' => simp only [famUpon] at h1
/-- an operation apart: its step is the same whether another's value is in its slot or not -/
theorem Step4.put {oi oj : Oper} {v : Value} {a : Act} {C : World → Prop} {K1 K2 : (World → Prop) → Act → Prop} (hap : oi.apart ops oj = true) (hsj : ∀ cs b, oj.op ≠ .select cs b)
    (hK : ∀ (C' : World → Prop) u, K1 C' ((a.put oi.dst v).put oj.dst u) → K2 C' (a.put oj.dst u)) (h : Step4 P ops I oj (a.put oi.dst v) C K1) : Step4 P ops I oj a C K2 := by
  obtain ⟨p1, p2, p3⟩ := Oper.apart_spec hap
  have he := execOp_put oj hsj a oi.dst v p1
  have hw := wanted_put oj a oi.dst v p1
  rcases h with ⟨hk, u, hy, hn⟩ | ⟨hk, u, hy, hn⟩ | ⟨hk, u, C', hI, hy, hn⟩ | ⟨hk, h⟩
  · exact .inl ⟨hk, u, hy.of_same he.symm hw.symm, hK C u hn⟩
  · exact .inr (.inl ⟨hk, u, hy.of_same he.symm hw.symm, hK C u hn⟩)
  · refine .inr (.inr (.inl ⟨hk, u, C', hI, ?_, hK C' u hn⟩))
    unfold StepsIn at hy ⊢
    rwa [he, hw] at hy
  · refine .inr (.inr (.inr ⟨hk, ?_⟩))
    rcases h with ⟨hwf, hn⟩ | ⟨hwt, V, C', hsub, hv, hn⟩
    · exact .inl ⟨by rw [← hw]; exact hwf, hK C undef hn⟩
    · exact .inr ⟨by rw [← hw]; exact hwt, V, C', hsub, by rwa [he] at hv, fun u hu => hK (C' u) u (hn u hu)⟩
/-! as XQ3's, but a load is free of stores too: they stay in I -/
def free4 (md : Region.Mode) (ops : Array Oper) (listed : Array Bool) (k : Nat) : Bool :=
  let U := blocked md ops k
  U.getD k false && U.size == ops.size &&
  match ops[k]? with
  | none => false
  | some ok => (List.range ops.size).all fun j =>
    match ops[j]? with
    | some oj =>
      if U.getD j false then !listed.getD j false && (j == k || oj.after.any (fun e => Region.binds md e && U.getD e.on false))
      else listed.getD j true || (ok.apart ops oj && (kind3 ok == 0 || kind3 ok == 1))
    | none => true
structure Free4 (md : Region.Mode) (ops : Array Oper) (listed : Array Bool) (i : Nat) (oi : Oper) (U : Array Bool) : Prop where
  size : U.size = ops.size
  own : U.getD i false = true
  wait : ∀ j oj, ops[j]? = some oj → U.getD j false = true → j ≠ i → ∃ e ∈ oj.after, Region.binds md e = true ∧ U.getD e.on false = true
  un : ∀ j, U.getD j false = true → listed.getD j false = false
  free : ∀ j oj, ops[j]? = some oj → U.getD j false = false → listed.getD j true = false → oi.apart ops oj = true ∧ (kind3 oi = 0 ∨ kind3 oi = 1)
theorem free4_spec {i : Nat} {oi : Oper} {listed : Array Bool} (hi : ops[i]? = some oi) (h : free4 md ops listed i = true) : Free4 md ops listed i oi (blocked md ops i) := by
  simp only [free4, hi, List.all_eq_true, List.mem_range, Bool.and_eq_true, beq_iff_eq] at h
  obtain ⟨⟨hown, hsz⟩, h⟩ := h
  have at_ : ∀ j oj, ops[j]? = some oj → (if (blocked md ops i).getD j false = true then (!listed.getD j false && (j == i || oj.after.any (fun e => Region.binds md e && (blocked md ops i).getD e.on false))) = true
      else (listed.getD j true || (oi.apart ops oj && (kind3 oi == 0 || kind3 oi == 1))) = true) := fun j oj hj => by
    have h1 := h j (Array.getElem?_eq_some_iff.1 hj).1
    simp only [hj] at h1
    split at h1 <;> rename_i hu
    · rw [if_pos hu]; exact h1
    · rw [if_neg hu]; exact h1
  refine ⟨hsz, hown, fun j oj hj hu hne => ?_, fun j hu => ?_, fun j oj hj hu hun => ?_⟩
  · have h1 := at_ j oj hj
    rw [if_pos hu] at h1
    simp only [Bool.and_eq_true, Bool.or_eq_true, beq_iff_eq, hne, false_or] at h1
    obtain ⟨e, he, hb⟩ := Array.any_eq_true'.1 h1.2
    simp only [Bool.and_eq_true] at hb
    exact ⟨e, he, hb.1, hb.2⟩
  · have hlt : j < ops.size := by
      rw [← hsz]
      rcases Nat.lt_or_ge j (blocked md ops i).size with h' | h'
      · exact h'
      · simp [Array.getElem?_eq_none h'] at hu
    have h1 := at_ j _ (Array.getElem?_eq_getElem hlt)
    rw [if_pos hu] at h1
    simp only [Bool.and_eq_true, Bool.not_eq_true'] at h1
    exact h1.1
  · have h1 := at_ j oj hj
    rw [if_neg (by rw [hu]; exact Bool.false_ne_true)] at h1
    simp only [hun, Bool.or_eq_true, Bool.false_eq_true, false_or, Bool.and_eq_true, beq_iff_eq] at h1
    exact h1
theorem Free4.ready {i j : Nat} {oi oj : Oper} {listed U : Array Bool} (h : Free4 md ops listed i oi U) (hj : ops[j]? = some oj) (hji : j ≠ i) (hall : ∀ e ∈ oj.after, Region.binds md e = true → listed.getD e.on false = true) : U.getD j false = false := by
  cases hu : U.getD j false with
  | false => rfl
  | true =>
    obtain ⟨e, he, hb, hue⟩ := h.wait j oj hj hu hji
    have h1 := hall e he hb
    rw [h.un e.on hue] at h1
    cases h1
theorem Free4.set {i j : Nat} {oi : Oper} {listed U : Array Bool} (h : Free4 md ops listed i oi U) (hu : U.getD j false = false) : Free4 md ops (listed.setIfInBounds j true) i oi U := by
  refine ⟨h.size, h.own, h.wait, fun k hk => ?_, fun k ok hk hku hun => h.free k ok hk hku ?_⟩
  · have hne : j ≠ k := fun e => by subst e; rw [hu] at hk; cases hk
    rw [getD_set_ne false hne]; exact h.un k hk
  · by_cases hjk : j = k
    · subst hjk
      rcases Nat.lt_or_ge j listed.size with h' | h'
      · simp [h'] at hun
      · simp [Array.getElem?_eq_none (show (listed.setIfInBounds j true).size ≤ j by simpa using h')] at hun
    · rw [getD_set_ne true hjk] at hun; exact hun
/-- the walk in that order -/
def wpO4 (P : Program) (ops : Array Oper) (I : World → Prop) (Q : (World → Prop) → Act → Prop) : List Nat → (World → Prop) → Act → Prop
  | [], C, a => Q C a
  | k :: r, C, a => ∃ o, ops[k]? = some o ∧ Step4 P ops I o a C (wpO4 P ops I Q r)
theorem Step4.mono {o : Oper} {a : Act} {C : World → Prop} {K K' : (World → Prop) → Act → Prop} (h : Step4 P ops I o a C K) (hK : ∀ C a, K C a → K' C a) : Step4 P ops I o a C K' := by
  rcases h with ⟨hk, v, hy, hn⟩ | ⟨hk, v, hy, hn⟩ | ⟨hk, v, C', hI, hy, hn⟩ | ⟨hk, h⟩
  · exact .inl ⟨hk, v, hy, hK _ _ hn⟩
  · exact .inr (.inl ⟨hk, v, hy, hK _ _ hn⟩)
  · exact .inr (.inr (.inl ⟨hk, v, C', hI, hy, hK _ _ hn⟩))
  · refine .inr (.inr (.inr ⟨hk, ?_⟩))
    rcases h with ⟨hw, hn⟩ | ⟨hw, V, C', hs, hv, hn⟩
    · exact .inl ⟨hw, hK _ _ hn⟩
    · exact .inr ⟨hw, V, C', hs, hv, fun v hV => hK _ _ (hn v hV)⟩
end
/-! one operation of the walk -/
section
variable {P : Program} {I : World → Prop} {l : List Oper} {Q : (World → Prop) → Act → Prop} {o : Oper} {k : Nat} {r : List Nat} {C : World → Prop} {a : Act}
theorem wpO4_pure (ho : l[k]? = some o) (hk : kind3 o = 0) (h : wpQuiet P l.toArray (fun _ => True) (fun a' => wpO4 P l.toArray I Q r C a') [o] a) : wpO4 P l.toArray I Q (k :: r) C a :=
  ⟨o, at_list ho, .inl ⟨hk, yields_of_quiet h⟩⟩
theorem wpO4_load {t : TypeId} {x : Operand} {ad : Addr} (v : Value) (ho : l[k]? = some o) (hop : o.op = .load t x) (hw : Region.wanted o (yielded l.toArray a.tmps) = true) (hx : a.eval x = .pointer (some ad))
    (hrun : ∀ w, I w → (Instr.loadAt t (.pointer (some ad))).run P w = .ok v w) (h : wpO4 P l.toArray I Q r C (a.put o.dst v)) : wpO4 P l.toArray I Q (k :: r) C a := by
  refine ⟨o, at_list ho, .inr (.inl ⟨by simp [kind3, pureOp, hop], v, .inl ⟨hw, fun w hC => ?_⟩, h⟩)⟩
  unfold Oper.quietAt execOp
  simp only [hop, hx]
  rw [Sem.run_bind, hrun w hC]
  exact ⟨rfl, rfl⟩
theorem wpO4_call (V : Value → Prop) (C' : Value → World → Prop) {f : FuncId} {args : Array Value} (ho : l[k]? = some o) (hk : kind3 o = 3) (hw : Region.wanted o (yielded l.toArray a.tmps) = true) (hsub : ∀ v w, C' v w → I w)
    (hrun : ∀ w, (execOp a.eval o).run P w = .ok (.enter f args) w) (hc : ∀ w, C w → Calls P f args w fun e w'' => ∃ v, e = .returned v ∧ V v ∧ C' v w'') (h : ∀ v, V v → wpO4 P l.toArray I Q r (C' v) (a.put o.dst v)) : wpO4 P l.toArray I Q (k :: r) C a :=
  ⟨o, at_list ho, .inr (.inr (.inr ⟨hk, .inr ⟨hw, V, C', hsub, fun w hC => by rw [hrun w]; exact hc w hC, h⟩⟩))⟩
end
end Go.Proofs.Ytlbfibnfmijahaa

namespace Go.Proofs.Ytlbfibnfmijahaa
open Go.RowKit
section
variable {P : Program} {ops : Array Oper} {Q : Exit → Act → World → Prop} {md : Region.Mode}
/-- Orders.lean's, with no way out by what an operation asks for -/
def wpOpS (P : Program) (ops : Array Oper) (Q : Exit → Act → World → Prop) (i : Nat) (K : Act → World → Prop) (a : Act) (w : World) : Prop :=
  match ops[i]? with
  | none => K a w
  | some o => if Region.wanted o (yielded ops a.tmps) then o.wp P a w K Q else K (a.put o.dst undef) w
def wpAnyS (P : Program) (md : Region.Mode) (ops : Array Oper) (Q : Exit → Act → World → Prop) : Nat → Array Bool → Act → World → Prop
  | 0, listed, a, w => Region.ready md ops listed = [] ∧ Q .normal a w
  | fuel + 1, listed, a, w =>
    (Region.ready md ops listed = [] → Q .normal a w) ∧
    ∀ i ∈ Region.ready md ops listed, wpOpS P ops Q i (wpAnyS P md ops Q fuel (listed.setIfInBounds i true)) a w
theorem oper_in {lr n : Nat} {o : Oper} {a : Act} {w : World} {K K' : Act → World → Prop} (hd : ∀ c, o.op ≠ .defer c) (hK : ∀ a w, K a w → K' a w) (h : o.wp P a w K Q) : o.wpIn (Fence.wide.inRound lr) n P a w K' Q := by
  refine ⟨fun _ _ => trivial, ?_⟩
  rw [Fence.inRound_round, Oper.semAt_some lr a.eval o hd]
  unfold Oper.wp at h
  generalize (execOp a.eval o).run P w = r at h
  cases r with
  | ok x w' =>
    cases x <;> simp only [Oper.upon, Oper.uponIn] at h ⊢
    case value v => exact hK _ _ h
    case skip => exact hK _ _ h
    case defer d => exact hK _ _ h
    case enter f args =>
      refine ⟨fun hh => by simp [Fence.wide] at hh, CallsIn.inRound lr (callsIn_wide.2 h |>.mono fun e w'' he => ?_)⟩
      cases e <;> first | exact hK _ _ he | exact he
    case row row args => exact ⟨fun hh => by simp [Fence.wide] at hh, fun c cs _ => let ⟨v, w3, r, s⟩ := h c cs; ⟨v, w3, hK _ _ r, stepsIn_wide.2 s⟩⟩
  | halt x w' => cases x <;> simp only [Oper.upon, Oper.uponIn] at h ⊢ <;> exact h
theorem wpAnyIn_of_S {lr n : Nat} (hd : ∀ (j : Nat) o, ops[j]? = some o → ∀ c, o.op ≠ .defer c) : ∀ (fuel : Nat) (listed : Array Bool) (a : Act) (w : World), wpAnyS P md ops Q fuel listed a w → wpAnyIn (Fence.wide.inRound lr) n P md ops Q fuel listed a w
  | 0, _, _, _, h => h
  | fuel + 1, listed, a, w, h => by
    refine ⟨h.1, fun i hi => ?_⟩
    have h1 := h.2 i hi
    unfold wpOpS at h1
    unfold wpOpIn
    cases ho : ops[i]? with
    | none => rw [ho] at h1; exact wpAnyIn_of_S hd fuel _ _ _ h1
    | some o =>
      rw [ho] at h1
      simp only at h1 ⊢
      split
      · rename_i hw
        rw [if_pos hw] at h1
        exact oper_in (hd i o ho) (fun a w hk => wpAnyIn_of_S hd fuel _ a w hk) h1
      · rename_i hw
        rw [if_neg hw] at h1
        exact ⟨fun _ _ => trivial, wpAnyIn_of_S hd fuel _ _ _ h1⟩
end
section
variable {P : Program} {l : List Oper} {vs : List Value} {fs : List Tmp} {FS : Tmp → Value → World → Prop} {I : World → Prop} {a0 : Act}
end
/-- where the post lets nothing out there is no way out -/
theorem wpAnyS_of {P : Program} {md : Region.Mode} {ops : Array Oper} {Q : Exit → Act → World → Prop} (hno : ¬ LetsOut Q) : ∀ (fuel : Nat) (listed : Array Bool) (a : Act) (w : World), wpAny P md ops Q fuel listed a w → wpAnyS P md ops Q fuel listed a w
  | 0, _, _, _, h => h
  | fuel + 1, listed, a, w, h => by
    refine ⟨h.1, fun i hi => ?_⟩
    have h1 := h.2 i hi
    unfold Go.wpOp at h1
    unfold wpOpS
    cases ho : ops[i]? with
    | none => rw [ho] at h1; exact wpAnyS_of hno fuel _ _ _ h1
    | some o =>
      rw [ho] at h1
      simp only at h1 ⊢
      split
      · rename_i hw
        rw [if_pos hw] at h1
        rcases h1 with h1 | ⟨_, h1⟩
        · exact Oper.wp_mono (fun a w hk => wpAnyS_of hno fuel _ a w hk) h1
        · exact absurd h1 hno
      · rename_i hw
        rw [if_neg hw] at h1
        exact wpAnyS_of hno fuel _ _ _ h1
end Go.Proofs.Ytlbfibnfmijahaa

namespace Go.Proofs.Ytlbfibnfmijahaa
open Go.RowKit
section
variable {P : Program} {ops : Array Oper} {Q : Exit → Act → World → Prop} {md : Region.Mode}
end
section
variable {P : Program} {l : List Oper} {vs : List Value} {fs : List Tmp} {FS : Tmp → Value → World → Prop} {I : World → Prop} {a0 : Act}
end
end Go.Proofs.Ytlbfibnfmijahaa

namespace Go.Proofs.Ytlbfibnfmijahaa
section
variable {P : Program} {ops : Array Oper} {md : Region.Mode} {I : World → Prop}

/-- one operation, in a class of worlds -/
def Step7 (b : Bool) (P : Program) (ops : Array Oper) (I : World → Prop) (o : Oper) (a : Act) (C : World → Prop) (K : (World → Prop) → Act → Prop) : Prop :=
  ((b = false ∧ kind3 o = 0) ∧ ∃ v, YieldsIn P ops (fun _ => True) o v a ∧ K C (a.put o.dst v)) ∨
  ((b = false ∧ kind3 o = 1) ∧ ∃ v, YieldsIn P ops I o v a ∧ K C (a.put o.dst v)) ∨
  (kind3 o = 2 ∧ ∃ v C', (∀ w, C' w → I w) ∧ StepsIn P ops C C' o v a ∧ K C' (a.put o.dst v)) ∨
  ((b = true ∨ kind3 o = 3) ∧ ((Region.wanted o (yielded ops a.tmps) = false ∧ K C (a.put o.dst undef)) ∨ (Region.wanted o (yielded ops a.tmps) = true ∧ ∃ (V : Value → Prop) (C' : Value → World → Prop), (∀ v w, C' v w → I w) ∧ (∀ w, C w → famUpon P V C' ((execOp a.eval o).run P w)) ∧ ∀ v, V v → K (C' v) (a.put o.dst v))))

def wpAny7 (P : Program) (md : Region.Mode) (ops : Array Oper) (I : World → Prop) (Q : (World → Prop) → Act → Prop) : Nat → Array Bool → (World → Prop) → Act → Prop
  | 0, listed, C, a => Region.ready md ops listed = [] ∧ Q C a
  | fuel + 1, listed, C, a =>
    (Region.ready md ops listed = [] → Q C a) ∧
    ∀ i ∈ Region.ready md ops listed, ∀ o, ops[i]? = some o → ∃ b, Step7 b P ops I o a C (wpAny7 P md ops I Q fuel (listed.setIfInBounds i true))
theorem Step7.wpOp {b : Bool} {C : World → Prop} {i : Nat} {o : Oper} {a : Act} {K : (World → Prop) → Act → Prop} {K' : Act → World → Prop} {Q' : Exit → Act → World → Prop} {w : World} (hi : ops[i]? = some o) (h : Step7 b P ops I o a C K) (hC : C w) (hCI : ∀ w, C w → I w) (hK : ∀ (C' : World → Prop) a' w', C' w' → (∀ w, C' w → I w) → K C' a' → K' a' w') : wpOp P ops Q' i K' a w := by
  rcases h with ⟨hk, v, hy, hn⟩ | ⟨hk, v, hy, hn⟩ | ⟨hk, v, C', hI, hy, hn⟩ | ⟨hk, h⟩
  · exact OpR.wpOp (C := C) (C' := C) hi (.inl ⟨kind3_pure hk.2, rfl, hy⟩) hC fun w' hw' => hK C _ w' hw' hCI hn
  · have hk1 : kindOf o = 1 := by
      obtain ⟨t, x, ho⟩ := kind3_load hk.2
      simp [kindOf, pureOp, ho]
    exact OpR.wpOp (C := C) (C' := C) hi (.inr (.inl ⟨hk1, rfl, yields_load hk.2 hy hCI⟩)) hC fun w' hw' => hK C _ w' hw' hCI hn
  · have hk2 : kindOf o = 2 := by
      unfold kind3 at hk
      unfold kindOf
      split at hk
      · simp at hk
      · rename_i hp
        rw [if_neg hp]
        split at hk
        · simp at hk
        · rename_i heq; simp [heq]
        · simp at hk
    exact OpR.wpOp (C := C) (C' := C') hi (.inr (.inr ⟨hk2, hy⟩)) hC fun w' hw' => hK C' _ w' hw' hI hn
  · unfold Go.wpOp
    simp only [hi]
    rcases h with ⟨hw, hn⟩ | ⟨hw, V, C', hI, hv, hn⟩
    · simp only [hw, Bool.false_eq_true, if_false]
      exact hK C _ w hC hCI hn
    · simp only [hw, if_true]
      left
      have h1 := hv w hC
      unfold Oper.wp
      generalize (execOp a.eval o).run P w = r at h1
      cases r with
      | ok n w' =>
        cases n <;> simp only [famUpon] at h1 <;> simp only [Oper.upon]
        case value u => exact hK (C' u) _ w' h1.2 (hI u) (hn u h1.1)
        case enter f args =>
          refine h1.mono fun e w'' ⟨v, he, hV, hc⟩ => ?_
          subst he
          exact hK (C' v) _ w'' hc (hI v) (hn v hV)
      | halt x w' => simp only [famUpon] at h1
theorem wpAny_of_7 {Q : (World → Prop) → Act → Prop} {Q' : Exit → Act → World → Prop} (hQ : ∀ (C : World → Prop) a w, C w → Q C a → Q' .normal a w) : ∀ (fuel : Nat) (listed : Array Bool) (C : World → Prop) (a : Act) (w : World), C w → (∀ w, C w → I w) →
    wpAny7 P md ops I Q fuel listed C a → wpAny P md ops Q' fuel listed a w
  | 0, _, _, _, _, hw, _, h => ⟨h.1, hQ _ _ _ hw h.2⟩
  | fuel + 1, _, _, _, _, hw, hI, h => ⟨fun h0 => hQ _ _ _ hw (h.1 h0), fun i hi => by
      obtain ⟨_, o, ho, _⟩ := mem_ready.1 hi
      obtain ⟨_, h2⟩ := h.2 i hi o ho
      exact h2.wpOp ho hw hI fun C' a' w' hw' hI' hn => wpAny_of_7 hQ fuel _ C' a' w' hw' hI' hn⟩
/-- an operation apart: its step is the same whether another's value is in its slot or not -/
theorem Step7.put {b : Bool} {oi oj : Oper} {v : Value} {a : Act} {C : World → Prop} {K1 K2 : (World → Prop) → Act → Prop} (hap : oi.apart ops oj = true) (hsj : ∀ cs b, oj.op ≠ .select cs b)
    (hK : ∀ (C' : World → Prop) u, K1 C' ((a.put oi.dst v).put oj.dst u) → K2 C' (a.put oj.dst u)) (h : Step7 b P ops I oj (a.put oi.dst v) C K1) : Step7 b P ops I oj a C K2 := by
  obtain ⟨p1, p2, p3⟩ := Oper.apart_spec hap
  have he := execOp_put oj hsj a oi.dst v p1
  have hw := wanted_put oj a oi.dst v p1
  rcases h with ⟨hk, u, hy, hn⟩ | ⟨hk, u, hy, hn⟩ | ⟨hk, u, C', hI, hy, hn⟩ | ⟨hk, h⟩
  · exact .inl ⟨hk, u, hy.of_same he.symm hw.symm, hK C u hn⟩
  · exact .inr (.inl ⟨hk, u, hy.of_same he.symm hw.symm, hK C u hn⟩)
  · refine .inr (.inr (.inl ⟨hk, u, C', hI, ?_, hK C' u hn⟩))
    unfold StepsIn at hy ⊢
    rwa [he, hw] at hy
  · refine .inr (.inr (.inr ⟨hk, ?_⟩))
    rcases h with ⟨hwf, hn⟩ | ⟨hwt, V, C', hsub, hv, hn⟩
    · exact .inl ⟨by rw [← hw]; exact hwf, hK C undef hn⟩
    · exact .inr ⟨by rw [← hw]; exact hwt, V, C', hsub, by rwa [he] at hv, fun u hu => hK (C' u) u (hn u hu)⟩
/-! as XQ3's, but a load is free of stores too: they stay in I -/
def free7 (md : Region.Mode) (ops : Array Oper) (listed : Array Bool) (k : Nat) (b : Bool) : Bool :=
  let U := blocked md ops k
  U.getD k false && U.size == ops.size &&
  match ops[k]? with
  | none => false
  | some ok => (List.range ops.size).all fun j =>
    match ops[j]? with
    | some oj =>
      if U.getD j false then !listed.getD j false && (j == k || oj.after.any (fun e => Region.binds md e && U.getD e.on false))
      else listed.getD j true || (!b && ok.apart ops oj && (kind3 ok == 0 || kind3 ok == 1))
    | none => true
structure Free7 (b : Bool) (md : Region.Mode) (ops : Array Oper) (listed : Array Bool) (i : Nat) (oi : Oper) (U : Array Bool) : Prop where
  size : U.size = ops.size
  own : U.getD i false = true
  wait : ∀ j oj, ops[j]? = some oj → U.getD j false = true → j ≠ i → ∃ e ∈ oj.after, Region.binds md e = true ∧ U.getD e.on false = true
  un : ∀ j, U.getD j false = true → listed.getD j false = false
  free : ∀ j oj, ops[j]? = some oj → U.getD j false = false → listed.getD j true = false → b = false ∧ oi.apart ops oj = true ∧ (kind3 oi = 0 ∨ kind3 oi = 1)
theorem free7_spec {b : Bool} {i : Nat} {oi : Oper} {listed : Array Bool} (hi : ops[i]? = some oi) (h : free7 md ops listed i b = true) : Free7 b md ops listed i oi (blocked md ops i) := by
  simp only [free7, hi, List.all_eq_true, List.mem_range, Bool.and_eq_true, beq_iff_eq] at h
  obtain ⟨⟨hown, hsz⟩, h⟩ := h
  have at_ : ∀ j oj, ops[j]? = some oj → (if (blocked md ops i).getD j false = true then (!listed.getD j false && (j == i || oj.after.any (fun e => Region.binds md e && (blocked md ops i).getD e.on false))) = true
      else (listed.getD j true || (!b && oi.apart ops oj && (kind3 oi == 0 || kind3 oi == 1))) = true) := fun j oj hj => by
    have h1 := h j (Array.getElem?_eq_some_iff.1 hj).1
    simp only [hj] at h1
    split at h1 <;> rename_i hu
    · rw [if_pos hu]; exact h1
    · rw [if_neg hu]; exact h1
  refine ⟨hsz, hown, fun j oj hj hu hne => ?_, fun j hu => ?_, fun j oj hj hu hun => ?_⟩
  · have h1 := at_ j oj hj
    rw [if_pos hu] at h1
    simp only [Bool.and_eq_true, Bool.or_eq_true, beq_iff_eq, hne, false_or] at h1
    obtain ⟨e, he, hb⟩ := Array.any_eq_true'.1 h1.2
    simp only [Bool.and_eq_true] at hb
    exact ⟨e, he, hb.1, hb.2⟩
  · have hlt : j < ops.size := by
      rw [← hsz]
      rcases Nat.lt_or_ge j (blocked md ops i).size with h' | h'
      · exact h'
      · simp [Array.getElem?_eq_none h'] at hu
    have h1 := at_ j _ (Array.getElem?_eq_getElem hlt)
    rw [if_pos hu] at h1
    simp only [Bool.and_eq_true, Bool.not_eq_true'] at h1
    exact h1.1
  · have h1 := at_ j oj hj
    rw [if_neg (by rw [hu]; exact Bool.false_ne_true)] at h1
    simp only [hun, Bool.or_eq_true, Bool.false_eq_true, false_or, Bool.and_eq_true, beq_iff_eq, Bool.not_eq_true'] at h1
    exact ⟨h1.1.1, h1.1.2, h1.2⟩
theorem Free7.ready {b : Bool} {i j : Nat} {oi oj : Oper} {listed U : Array Bool} (h : Free7 b md ops listed i oi U) (hj : ops[j]? = some oj) (hji : j ≠ i) (hall : ∀ e ∈ oj.after, Region.binds md e = true → listed.getD e.on false = true) : U.getD j false = false := by
  cases hu : U.getD j false with
  | false => rfl
  | true =>
    obtain ⟨e, he, hb, hue⟩ := h.wait j oj hj hu hji
    have h1 := hall e he hb
    rw [h.un e.on hue] at h1
    cases h1
theorem Free7.set {b : Bool} {i j : Nat} {oi : Oper} {listed U : Array Bool} (h : Free7 b md ops listed i oi U) (hu : U.getD j false = false) : Free7 b md ops (listed.setIfInBounds j true) i oi U := by
  refine ⟨h.size, h.own, h.wait, fun k hk => ?_, fun k ok hk hku hun => h.free k ok hk hku ?_⟩
  · have hne : j ≠ k := fun e => by subst e; rw [hu] at hk; cases hk
    rw [getD_set_ne false hne]; exact h.un k hk
  · by_cases hjk : j = k
    · subst hjk
      rcases Nat.lt_or_ge j listed.size with h' | h'
      · simp [h'] at hun
      · simp [Array.getElem?_eq_none (show (listed.setIfInBounds j true).size ≤ j by simpa using h')] at hun
    · rw [getD_set_ne true hjk] at hun; exact hun
/-- may the operations be walked in this order? -/
def orderB7 (md : Region.Mode) (ops : Array Oper) : List (Nat × Bool) → Array Bool → Bool
  | [], listed => (Region.ready md ops listed).isEmpty
  | k :: r, listed => (Region.ready md ops listed).contains k.1 && free7 md ops listed k.1 k.2 && orderB7 md ops r (listed.setIfInBounds k.1 true)
def order7 (md : Region.Mode) (ops : Array Oper) (ks : List (Nat × Bool)) : Bool := Region.noSelect ops && ks.length == ops.size && orderB7 md ops ks (Array.replicate ops.size false)
theorem wpAny7_first {b : Bool} {Q : (World → Prop) → Act → Prop} {i : Nat} {oi : Oper} (hi : ops[i]? = some oi) (hsel : ∀ (j : Nat) (o : Oper) cs b, ops[j]? = some o → o.op ≠ .select cs b) :
    ∀ (fuel : Nat) (listed : Array Bool) (C : World → Prop) (a : Act) (U : Array Bool), Free7 b md ops listed i oi U → i ∈ Region.ready md ops listed →
      Step7 b P ops I oi a C (wpAny7 P md ops I Q fuel (listed.setIfInBounds i true)) → wpAny7 P md ops I Q (fuel + 1) listed C a := by
  intro fuel
  induction fuel with
  | zero =>
    intro listed C a U hfree hr H
    refine ⟨fun h => (by rw [h] at hr; cases hr), fun j hj o ho => ?_⟩
    by_cases hji : j = i
    · subst hji
      have : o = oi := Option.some.inj (ho.symm.trans hi)
      subst this
      exact ⟨b, H⟩
    · exfalso
      have hmono := ready_mono hj hji
      obtain ⟨hjun, oj', hoj', hall⟩ := mem_ready.1 hj
      have hju := hfree.ready hoj' hji hall
      obtain ⟨hbf, _, hkind⟩ := hfree.free j oj' hoj' hju hjun
      have nil : ∀ {C' : World → Prop} {a' : Act}, wpAny7 P md ops I Q 0 (listed.setIfInBounds i true) C' a' → False := fun h => by
        rw [h.1] at hmono; cases hmono
      rcases H with ⟨_, _, _, hn⟩ | ⟨_, _, _, hn⟩ | ⟨hk, _⟩ | ⟨hk, _⟩
      · exact nil hn
      · exact nil hn
      · rcases hkind with h | h <;> rw [hk] at h <;> simp at h
      · rcases hk with hk | hk
        · rw [hbf] at hk; cases hk
        · rcases hkind with h | h <;> rw [hk] at h <;> simp at h
  | succ fuel ih =>
    intro listed C a U hfree hr H
    refine ⟨fun h => (by rw [h] at hr; cases hr), fun j hj oj hoj => ?_⟩
    by_cases hji : j = i
    · subst hji
      have : oj = oi := Option.some.inj (hoj.symm.trans hi)
      subst this
      exact ⟨b, H⟩
    · obtain ⟨hjun, oj', hoj', hall⟩ := mem_ready.1 hj
      have : oj' = oj := Option.some.inj (hoj'.symm.trans hoj)
      subst this
      have hju := hfree.ready hoj' hji hall
      obtain ⟨hbf, hap, hkind⟩ := hfree.free j oj' hoj hju hjun
      obtain ⟨p1, p2, p3⟩ := Oper.apart_spec hap
      have hsi : ∀ cs b, oi.op ≠ .select cs b := fun cs b => hsel i oi cs b hi
      have hsj : ∀ cs b, oj'.op ≠ .select cs b := fun cs b => hsel j oj' cs b hoj
      have hfree' := hfree.set hju
      have hr' := ready_mono hr (Ne.symm hji)
      have next : ∀ v, (kind3 oi = 0 ∧ YieldsIn P ops (fun _ => True) oi v a ∨ kind3 oi = 1 ∧ YieldsIn P ops I oi v a) → wpAny7 P md ops I Q (fuel + 1) (listed.setIfInBounds i true) C (a.put oi.dst v) → ∃ b', Step7 b' P ops I oj' a C (wpAny7 P md ops I Q (fuel + 1) (listed.setIfInBounds j true)) := by
        intro v hy hn
        obtain ⟨b', hst⟩ := hn.2 j (ready_mono hj hji) oj' hoj
        refine ⟨b', Step7.put (v := v) hap hsj (fun C' u h3 => ih _ C' _ U hfree' hr' ?_) hst⟩
        have h4 : wpAny7 P md ops I Q fuel ((listed.setIfInBounds j true).setIfInBounds i true) C' ((a.put oj'.dst u).put oi.dst v) := by
          rw [Array.setIfInBounds_comm _ _ hji]
          rw [Act.put_comm a v u p2] at h3
          exact h3
        have hs1 := execOp_put oi hsi a oj'.dst u p3
        have hs2 := wanted_put oi a oj'.dst u p3
        rcases hy with ⟨hk, hy⟩ | ⟨hk, hy⟩
        · exact .inl ⟨⟨hbf, hk⟩, v, hy.of_same hs1 hs2, h4⟩
        · exact .inr (.inl ⟨⟨hbf, hk⟩, v, hy.of_same hs1 hs2, h4⟩)
      rcases H with ⟨hk, v, hy, hn⟩ | ⟨hk, v, hy, hn⟩ | ⟨hk, _⟩ | ⟨hk, _⟩
      · exact next v (.inl ⟨hk.2, hy⟩) hn
      · exact next v (.inr ⟨hk.2, hy⟩) hn
      · rcases hkind with h | h <;> rw [hk] at h <;> simp at h
      · rcases hk with hk | hk
        · rw [hbf] at hk; cases hk
        · rcases hkind with h | h <;> rw [hk] at h <;> simp at h

/-- the walk in that order -/
def wpO7 (P : Program) (ops : Array Oper) (I : World → Prop) (Q : (World → Prop) → Act → Prop) : List (Nat × Bool) → (World → Prop) → Act → Prop
  | [], C, a => Q C a
  | k :: r, C, a => ∃ o, ops[k.1]? = some o ∧ Step7 k.2 P ops I o a C (wpO7 P ops I Q r)
theorem Step7.mono {b : Bool} {o : Oper} {a : Act} {C : World → Prop} {K K' : (World → Prop) → Act → Prop} (h : Step7 b P ops I o a C K) (hK : ∀ C a, K C a → K' C a) : Step7 b P ops I o a C K' := by
  rcases h with ⟨hk, v, hy, hn⟩ | ⟨hk, v, hy, hn⟩ | ⟨hk, v, C', hI, hy, hn⟩ | ⟨hk, h⟩
  · exact .inl ⟨hk, v, hy, hK _ _ hn⟩
  · exact .inr (.inl ⟨hk, v, hy, hK _ _ hn⟩)
  · exact .inr (.inr (.inl ⟨hk, v, C', hI, hy, hK _ _ hn⟩))
  · refine .inr (.inr (.inr ⟨hk, ?_⟩))
    rcases h with ⟨hw, hn⟩ | ⟨hw, V, C', hs, hv, hn⟩
    · exact .inl ⟨hw, hK _ _ hn⟩
    · exact .inr ⟨hw, V, C', hs, hv, fun v hV => hK _ _ (hn v hV)⟩
theorem wpAny7_order {Q : (World → Prop) → Act → Prop} (hs : Region.noSelect ops = true) : ∀ (ks : List (Nat × Bool)) (listed : Array Bool) (C : World → Prop) (a : Act),
    orderB7 md ops ks listed = true → wpO7 P ops I Q ks C a → wpAny7 P md ops I Q ks.length listed C a
  | [], _, _, _, hB, h => ⟨by simpa [orderB7] using hB, h⟩
  | k :: r, listed, C, a, hB, h => by
    obtain ⟨o, ho, h⟩ := h
    simp only [orderB7, Bool.and_eq_true] at hB
    obtain ⟨⟨hr, hf⟩, hB'⟩ := hB
    exact wpAny7_first ho (Region.noSelect_spec hs) r.length listed C a _ (free7_spec ho hf) (by simpa using hr) (h.mono fun C' a' hn => wpAny7_order hs r _ C' a' hB' hn)
theorem wpIn_region_order7 {lr n : Nat} {id : Nat} {Q : Exit → Act → World → Prop} {a : Act} {w : World} {l : List Oper} (ks : List (Nat × Bool)) (I : World → Prop) {C : World → Prop} (hm : P.follows .mixedOrders = true) (hno : ¬ LetsOut Q) (hdf : (l.all fun o => match o.op with | .defer _ => false | _ => true) = true) (hB : order7 .any l.toArray ks = true) (hC : C w.drew) (hI : ∀ w, C w → I w)
    (h : wpO7 P l.toArray I (fun C a' => ∀ w', C w' → Q .normal a' w') ks C a) : (Code.region id l.toArray true).wpIn (Fence.wide.inRound lr) n P Q a w := by
  simp only [order7, Bool.and_eq_true, beq_iff_eq] at hB
  refine wpIn_region_any hm (wpAnyIn_of_S (fun j o ho c hc => ?_) _ _ _ _ (wpAnyS_of hno _ _ _ _ (wpAny_of_7 (I := I) (Q := fun C a' => ∀ w', C w' → Q .normal a' w') (fun C a w' hw' h => h w' hw') _ _ C _ _ hC hI ?_)))
  · have hmem : o ∈ l := List.mem_of_getElem? (by simpa using ho)
    rw [List.all_eq_true] at hdf
    have := hdf o hmem
    rw [hc] at this
    cases this
  · have := wpAny7_order (md := .any) hB.1.1 ks (Array.replicate l.toArray.size false) C a hB.2 h
    rwa [hB.1.2] at this
end
/-! one operation of the walk -/
section
variable {P : Program} {I : World → Prop} {l : List Oper} {Q : (World → Prop) → Act → Prop} {o : Oper} {k : Nat} {r : List (Nat × Bool)} {C : World → Prop} {a : Act}
theorem wpO7_pure (ho : l[k]? = some o) (hk : kind3 o = 0) (h : wpQuiet P l.toArray (fun _ => True) (fun a' => wpO7 P l.toArray I Q r C a') [o] a) : wpO7 P l.toArray I Q ((k, false) :: r) C a :=
  ⟨o, at_list ho, .inl ⟨⟨rfl, hk⟩, yields_of_quiet h⟩⟩
theorem wpO7_load {t : TypeId} {x : Operand} {ad : Addr} (v : Value) (ho : l[k]? = some o) (hop : o.op = .load t x) (hw : Region.wanted o (yielded l.toArray a.tmps) = true) (hx : a.eval x = .pointer (some ad))
    (hrun : ∀ w, I w → (Instr.loadAt t (.pointer (some ad))).run P w = .ok v w) (h : wpO7 P l.toArray I Q r C (a.put o.dst v)) : wpO7 P l.toArray I Q ((k, false) :: r) C a := by
  refine ⟨o, at_list ho, .inr (.inl ⟨⟨rfl, by simp [kind3, pureOp, hop]⟩, v, .inl ⟨hw, fun w hC => ?_⟩, h⟩)⟩
  unfold Oper.quietAt execOp
  simp only [hop, hx]
  rw [Sem.run_bind, hrun w hC]
  exact ⟨rfl, rfl⟩
theorem wpO7_call (V : Value → Prop) (C' : Value → World → Prop) {f : FuncId} {args : Array Value} (ho : l[k]? = some o) (hk : kind3 o = 3) (hw : Region.wanted o (yielded l.toArray a.tmps) = true) (hsub : ∀ v w, C' v w → I w)
    (hrun : ∀ w, (execOp a.eval o).run P w = .ok (.enter f args) w) (hc : ∀ w, C w → Calls P f args w fun e w'' => ∃ v, e = .returned v ∧ V v ∧ C' v w'') (h : ∀ v, V v → wpO7 P l.toArray I Q r (C' v) (a.put o.dst v)) : wpO7 P l.toArray I Q ((k, false) :: r) C a :=
  ⟨o, at_list ho, .inr (.inr (.inr ⟨.inr hk, .inr ⟨hw, V, C', hsub, fun w hC => by rw [hrun w]; exact hc w hC, h⟩⟩))⟩
theorem wpO7_store (C' : World → Prop) {t : TypeId} {x y : Operand} (ho : l[k]? = some o) (hop : o.op = .store t x y) (hd : o.dst = none) (hg : o.guard = none) (ad : Addr) (v : Value) (hx : a.eval x = .pointer (some ad)) (hy : a.eval y = v) (hsub : ∀ w, C' w → I w)
    (hrun : ∀ w, C w → ∃ w', (Instr.storeAt t (.pointer (some ad)) v).run P w = .ok () w' ∧ C' w') (h : wpO7 P l.toArray I Q r C' a) : wpO7 P l.toArray I Q ((k, false) :: r) C a := by
  refine ⟨o, at_list ho, .inr (.inr (.inl ⟨by simp [kind3, pureOp, hop], undef, C', hsub, .inl ⟨by simp [Region.wanted, hg], fun w hw => ?_⟩, ?_⟩))⟩
  · obtain ⟨w', hr, hc⟩ := hrun w hw
    unfold execOp
    simp only [hop, hx, hy]
    rw [Sem.run_bind, hr]
    exact ⟨rfl, hc⟩
  · rw [hd]; exact h
/-- a bound load: by the class at its turn -/
theorem wpO7_look {t : TypeId} {x : Operand} {ad : Addr} (v : Value) (ho : l[k]? = some o) (hop : o.op = .load t x) (hw : Region.wanted o (yielded l.toArray a.tmps) = true) (hx : a.eval x = .pointer (some ad)) (hsub : ∀ w, C w → I w)
    (hrun : ∀ w, C w → (Instr.loadAt t (.pointer (some ad))).run P w = .ok v w) (h : wpO7 P l.toArray I Q r C (a.put o.dst v)) : wpO7 P l.toArray I Q ((k, true) :: r) C a := by
  refine ⟨o, at_list ho, .inr (.inr (.inr ⟨.inl rfl, .inr ⟨hw, fun u => u = v, fun _ => C, fun _ => hsub, fun w hC => ?_, fun u hu => by subst hu; exact h⟩⟩))⟩
  unfold execOp
  simp only [hop, hx]
  rw [Sem.run_bind, hrun w hC]
  exact ⟨rfl, hC⟩
end
end Go.Proofs.Ytlbfibnfmijahaa

namespace Go.Proofs.Ytlbfibnfmijahaa
open Go.RowKit Go.Shelf
set_option maxRecDepth 100000
attribute [local go_sem] Oper.semAt_some

/-- a message's box b0 and an error's box behind it -/
structure CkB (b0 : Nat) (w4 : World) (M : Mg) (E : Int) (V : World) : Prop where
  m : ∃ P C, V.heap[b0]? = some (.cells (mC M P C) 33 (0, 0)) ∧ MAt V b0 M P C
  e : V.heap[b0 + 1]? = some (.cells #[.int .i64 E] 23 (0, 0))
  off : Off (fun q => q = b0 ∨ q = b0 + 1) w4 V
section
variable {b0 : Nat} {w4 V V' : World} {M M' : Mg} {E E' : Int}
theorem MAt.kept {w w' : World} {B : Nat} {M : Mg} {P C : Value} (h : MAt w B M P C) (hk : ∀ p : Addr, p.block < B → w'.cell? p = w.cell? p) : MAt w' B M P C := by
  obtain ⟨⟨a, c, h1, h2, h3⟩, ⟨a', c', h4, h5, h6⟩⟩ := h
  exact ⟨⟨a, c, h1, h2, h3.kept hk⟩, ⟨a', c', h4, h5, h6.kept hk⟩⟩
theorem CkB.later (h : CkB b0 w4 M E V) (hb : Below V.heap.size V V') : CkB b0 w4 M E V' := by
  obtain ⟨P, C, h1, h2⟩ := h.m
  have hl := (Array.getElem?_eq_some_iff.1 h1).1
  exact ⟨⟨P, C, (hb.block _ hl).trans h1, h2.kept fun p hp => hb.cell (by omega)⟩, (hb.block _ (Array.getElem?_eq_some_iff.1 h.e).1).trans h.e, off_below h.off (hb.mono h.off.size)⟩
theorem CkB.putObj {l : Nat} {o' : Obj} (h : CkB b0 w4 M E V) (hw : w4.heap.size ≤ l) (hw4 : b0 + 1 < w4.heap.size) : CkB b0 w4 M E (V.putObj l o') := by
  obtain ⟨P, C, h1, h2⟩ := h.m
  have hp : Below l V (V.putObj l o') := below_put V o' (Nat.le_refl _)
  exact ⟨⟨P, C, (World.putObj_heap_other (by omega)).trans h1, h2.kept fun p hp' => hp.cell (by omega)⟩, (World.putObj_heap_other (by omega)).trans h.e, off_below h.off (below_put V o' hw)⟩
/-- an error is told, and a cell of the message turned -/
theorem CkB.set (h : CkB b0 w4 M E V) (E' : Int) (j : Nat) (u : Value) (hM : ∀ P C, V.heap[b0]? = some (.cells (mC M P C) 33 (0, 0)) → MAt V b0 M P C → ∃ P' C', (mC M P C).setIfInBounds j u = mC M' P' C' ∧ MAt V b0 M' P' C') :
    CkB b0 w4 M' E' ((V.setCell ⟨b0 + 1, 0, none⟩ (.int .i64 E')).setCell ⟨b0, j, none⟩ u) := by
  obtain ⟨P, C, h1, h2⟩ := h.m
  obtain ⟨P', C', h3, h4⟩ := hM P C h1 h2
  have h5 : (V.setCell ⟨b0 + 1, 0, none⟩ (.int .i64 E')).heap[b0]? = some (.cells (mC M P C) 33 (0, 0)) := (Below.heap_setCell _ _ _ _ (by show b0 ≠ b0 + 1; omega)).trans h1
  have h6 : Below b0 V ((V.setCell ⟨b0 + 1, 0, none⟩ (.int .i64 E')).setCell ⟨b0, j, none⟩ u) := ((Below.refl b0 V).setCell (p := ⟨b0 + 1, 0, none⟩) (by show b0 ≤ b0 + 1; omega) _).setCell (p := ⟨b0, j, none⟩) (Nat.le_refl _) _
  refine ⟨⟨P', C', by rw [setCell_at h5, h3], h4.kept fun p hp => h6.cell hp⟩, ?_, ?_⟩
  · rw [Below.heap_setCell _ _ _ _ (by show b0 + 1 ≠ b0; omega), setCell_at h.e]
    rfl
  · exact (h.off.setCell (p := ⟨b0 + 1, 0, none⟩) (.inr rfl) _).setCell (p := ⟨b0, j, none⟩) (.inl rfl) _
end
theorem kf_two {V W : World} {b s : Nat} (h : Off (fun q => q = b ∨ q = b + 1) V W) (hb : b + 1 < s) : KeepsFrom s V W := ⟨h.size, fun q o hq ho _ => (h.block q (Array.getElem?_eq_some_iff.1 ho).1 (by omega)).trans ho⟩
theorem ket_two {V W : World} {b : Nat} {tf ti : TypeId} (h : Off (fun q => q = b ∨ q = b + 1) V W) : KeT tf ti (b + 2) V W := ⟨h.size, fun q cs t hq _ hA => h.block q (Array.getElem?_eq_some_iff.1 hA).1 (by omega)⟩
theorem Msm.strip {M : Mg} (h : Msm M) (f : Fd) : Msm (strip M f) := by
  unfold Proofs.Ytlbfibnfmijahaa.strip
  repeat' split
  · exact ⟨by simp, h.c, h.tx, h.tg⟩
  · exact ⟨h.p, by simp, h.tx, h.tg⟩
  · exact ⟨h.p, h.c, by show (ByteArray.mk #[]).size ≤ 80; decide, h.tg⟩
  · exact ⟨h.p, h.c, h.tx, by show (ByteArray.mk #[]).size ≤ 80; decide⟩
  · exact ⟨by rw [Mg.put_p]; exact h.p, by rw [Mg.put_c]; exact h.c, by rw [Mg.put_tx]; exact h.tx, by rw [Mg.put_tg]; exact h.tg⟩
theorem Msm.fold {M : Mg} (h : Msm M) : ∀ L : List Fd, Msm (L.foldl Proofs.Ytlbfibnfmijahaa.strip M) := by
  intro L
  induction L generalizing M with
  | nil => exact h
  | cons f r ih => exact ih (h.strip f)

set_option maxHeartbeats 16000000 in
theorem mcheck_any (M : Mg) (P C : Value) (w : World) (hs : Msm M) (h1 : MAt w w.heap.size M P C) : Calls Try.prog 22 #[mV M P C] w fun e w' => e = .returned (.int .i64 (mck M)) ∧ Below w.heap.size w w' := by
  have KW := Lib.hid (word_any M.k)
  obtain ⟨R, hR⟩ : ∃ R, mck M = R := ⟨_, rfl⟩
  rw [hR]
  unfold mck at hR
  obtain ⟨⟨ap, cp, rfl, hcp, ha⟩, ⟨ac, cc, rfl, hcc, hc⟩⟩ := h1
  by_cases hk : wd M.k = ⟨#[]⟩
  · rw [if_pos ((FD_nil _).2 hk)] at hR
    subst hR
    rw [hk] at KW
    have HB := Lib.hid ((Below.refl _ w).alloc (Nat.le_refl _) (.cells (mC M (.slice ap M.p.length cp) (.slice ac M.c.length cc)) 33))
    unfold mV mC at *
    clear ha hc hcp hcc hs hk
    go_enter Try.func22, Try.ntmps22
    go_wp2
    refine wp_scope_straight ?_
    go_wp2_with fail
    refine (KW.out _).mono ?_
    rintro e w1 ⟨rfl, rfl⟩
    go_wp2
    try simp only [Exit.noGoto]
    go_ret
    exact ⟨rfl, HB.out⟩
  · rw [if_neg (fun e => hk ((FD_nil _).1 e))] at hR
    have hwne := str_nil hk
    have hwn2 : (wd M.k).toList.isEmpty = false := by simpa using hwne
    obtain ⟨w3, hw3⟩ : ∃ w3, w3 = (w.alloc (.cells (mC M (.slice ap M.p.length cp) (.slice ac M.c.length cc)) 33)).alloc (.cells #[.int .i64 0] 23) := ⟨_, rfl⟩
    have hs3 : w3.heap.size = w.heap.size + 2 := by rw [hw3]; simp
    have hb3 : Below w.heap.size w w3 := by rw [hw3]; exact ((Below.refl _ w).alloc (Nat.le_refl _) _).alloc (by simp) _
    have p0 : w3.heap[w.heap.size]? = some (.cells (mC M (.slice ap M.p.length cp) (.slice ac M.c.length cc)) 33 (0, 0)) := by
      rw [hw3, Below.heap_alloc _ _ _ (by simp)]; exact World.alloc_heap_new _ _
    have p1 : w3.heap[w.heap.size + 1]? = some (.cells #[.int .i64 0] 23 (0, 0)) := by
      have := World.alloc_heap_new (w.alloc (.cells (mC M (.slice ap M.p.length cp) (.slice ac M.c.length cc)) 33)) (.cells #[.int .i64 0] 23)
      rw [World.size_alloc] at this
      rw [hw3]; exact this
    have hC3 : CkB w.heap.size w3 M 0 w3 := ⟨⟨_, _, p0, ⟨_, _, rfl, hcp, ha.below hb3⟩, ⟨_, _, rfl, hcc, hc.below hb3⟩⟩, p1, Off.refl _ _⟩
    obtain ⟨np, hnp⟩ : ∃ np, M.p.length = np := ⟨_, rfl⟩
    obtain ⟨nc, hnc⟩ : ∃ nc, M.c.length = nc := ⟨_, rfl⟩
    rw [hnp, hnc] at hw3
    unfold mV mC at *
    rw [hnp, hnc]
    have HW := Lib.hid hw3
    clear hw3 p0 p1 ha hc hcp hcc hnp hnc
    refine (callsIn_wide (n := 9)).1 ?_
    refine callsIn_of_wp_marks Try.func22 rfl trivial ?_ rfl
    simp only [Try.ntmps22, List.size_toArray, List.length_cons, List.length_nil, Nat.reduceAdd, Nat.reduceSub, Array.replicate_succ, Array.replicate_zero, List.push_toArray, List.append_toArray, List.nil_append, List.cons_append]
    gi_wp2_with fail
    refine wpIn_wide.2 (wp_scope_straight ((wpIn_wide (n := 9)).1 ?_))
    gi_wp2_with fail
    refine ⟨trivial, (callsIn_wide.2 (KW.out _)).mono ?_⟩
    rintro e w1 ⟨rfl, rfl⟩
    clear KW
    gi_wp2_with fail
    apply wpIn_label
    gi_wp2_with fail
    refine ⟨trivial, ?_⟩
    rw [← HW.out]
    refine (callsIn_wide.2 (fall_any M.k 2 w3)).mono ?_
    rintro e w4 ⟨rfl, hg0, hg1, hb4⟩
    clear HW
    rw [hs3] at hg0 hg1
    have hs4 := (Array.getElem?_eq_some_iff.1 hg1).1
    have hC4 := hC3.later hb4
    have hb04 := hb3.trans (hb4.mono (by omega))
    have hC4 : CkB w.heap.size w4 M 0 w4 := ⟨hC4.m, hC4.e, Off.refl _ _⟩
    clear hb4 hb3 hC3
    have KA := Lib.hid (FDv_two M.k)
    have KF := Lib.hid (FD_fdok M.k)
    have KE := Lib.hid (fun (j : Nat) (f : Fd) (hj : (FD M.k)[j]? = some f) => fE_at hj M)
    have KS := Lib.hid (fun (j : Nat) => fold_strip_k ((FD M.k).take j) M)
    obtain ⟨L, hL⟩ : ∃ L, FD M.k = L := ⟨_, rfl⟩
    rw [hL] at hR KA KF KE KS
    have HR := Lib.hid hR
    clear hL hR
    gi_wp2_with fail
    refine range_stopb rfl (by omega) (gf := 44) (lb := #[.pointer (some ⟨w.heap.size + 2, 0, none⟩), .pointer (some ⟨w.heap.size + 2 + 1, 0, none⟩)]) rfl trivial (enters_of Try.func44 (by kernel_rfl) rfl)
      (fun f : Fd => #[f.v]) (fun _ => rfl)
      (fun j f V => L[j]? = some f ∧ (∀ g ∈ L.take j, fE M g = 0) ∧ CkB w.heap.size w4 ((L.take j).foldl strip M) 0 V)
      (fun j f q V => (L[j]? = some f ∧ (∀ g ∈ L.take j, fE M g = 0) ∧ CkB w.heap.size w4 ((L.take j).foldl strip M) 0 V) ∧ w4.heap.size ≤ q ∧ V.heap[q]? = some (.cells f.cs 75 (0, 0)))
      (fun j V => (∀ g ∈ L.take j, fE M g = 0) ∧ CkB w.heap.size w4 ((L.take j).foldl strip M) 0 V)
      (fun cd V => cd = .exit 0 ∧ ∃ (E : Int) (M' : Mg), E ≠ 0 ∧ firstE M L = E ∧ CkB w.heap.size w4 M' E V)
      (KeT 75 3 (w.heap.size + 2)) L.length
      (fun j f q V l o o' h hl ho hc' => ⟨⟨h.1.1, h.1.2.1, h.1.2.2.putObj hl (by omega)⟩, h.2.1, (World.putObj_heap_other (fun e => by subst e; rw [h.2.2] at ho; injection ho with ho; subst ho; cases hc')).trans h.2.2⟩)
      (fun j V l o o' h hl ho hc' => ⟨h.1, h.2.putObj hl (by omega)⟩)
      (fun cd V l o o' h hl ho hc' => by
        obtain ⟨h1, E, M', h2, h3, h4⟩ := h
        exact ⟨h1, E, M', h2, h3, h4.putObj hl (by omega)⟩)
      (fun _ _ _ h k => h.trans k) (fun V l o o' hl ho hc' => KeT.putObj ho hc')
      (fun o => ⟨fun g hg => by simp at hg, (hC4.later ((Below.refl _ w4).alloc (Nat.le_refl _) _)).later ((Below.refl _ _).alloc (Nat.le_refl _) _)⟩) ?round ?iter ?done ?stop
    case round =>
      rintro l j f V K ⟨hf, hz, hC⟩ hj hK
      have HK := Lib.hid hK
      have hsz := hC.off.size
      clear hK
      unfold Fd.v Fd.cs
      gi_wp2_with fail
      refine HK.out _ V.heap.size _ ⟨⟨hf, hz, hC.later ((Below.refl _ V).alloc (Nat.le_refl _) _)⟩, hsz, World.alloc_heap_new _ _⟩ ⟨by simp, fun q o _ ho _ => (Below.heap_alloc _ _ _ (Array.getElem?_eq_some_iff.1 ho).1).trans ho⟩ (KeT.of_below ((Below.refl _ V).alloc (Nat.le_refl _) _)) ?_
      clear HK hC hz
      rintro l V2 hl ⟨⟨_, hz, hC⟩, hq, hc⟩
      obtain ⟨qb, hqb⟩ : ∃ qb, V.heap.size = qb := ⟨_, rfl⟩
      rw [hqb] at hq hc ⊢
      clear hqb
      obtain ⟨d0, d1, d2, d3, d4, d5, d6⟩ := fd_block hc
      have hqlt := (Array.getElem?_eq_some_iff.1 hc).1
      have ok := KF.out f (List.mem_of_getElem? hf)
      have hE := KE.out j f hf
      have hst := fold_take hf strip M
      have hsm := hs.fold (L.take j)
      obtain ⟨Mj, hMj⟩ : ∃ Mj, (L.take j).foldl strip M = Mj := ⟨_, rfl⟩
      rw [hMj] at hC hE hst hsm
      obtain ⟨E, hEd⟩ : ∃ E, fE M f = E := ⟨_, rfl⟩
      rw [hEd] at hE
      have HF := Lib.hid hf
      have HZ0 := Lib.hid hz
      have HEd := Lib.hid hEd
      have HST := Lib.hid hst
      clear hf hz hst hEd hMj
      obtain ⟨P, C, m1, ⟨a, cpp, rfl, hcpp, hpa⟩, ⟨b, ccc, rfl, hccc, hcb⟩⟩ := hC.m
      obtain ⟨c0, c1, c2, c3, c4, c5, c6, c7, c8, c9, c10⟩ := mg_block m1
      have ce := row_cell hC.e 0 _ rfl
      have ze := frozen_of_row V2 (w.heap.size + 1) 0 _ _ hC.e
      have hb2 := (Array.getElem?_eq_some_iff.1 hC.e).1
      obtain ⟨np', hnp'⟩ : ∃ np', Mj.p.length = np' := ⟨_, rfl⟩
      obtain ⟨nc', hnc'⟩ : ∃ nc', Mj.c.length = nc' := ⟨_, rfl⟩
      rw [hnp'] at hcpp c7
      rw [hnc'] at hccc c8
      have hNE : w.heap.size ≠ w.heap.size + 1 := by omega
      have hso := ok.so
      by_cases h3 : f.so = 3
      · have hfe : fE Mj f = wP Mj.p f.mo := by unfold fE; rw [if_pos h3]
        have hstF : strip Mj f = { Mj with p := [] } := by unfold strip; rw [if_pos h3]
        rw [h3] at d1
        have KW := Lib.hid (wpath_any a np' cpp Mj.p f.mo V2 hnp' hcpp ok.le.2.2.2.1 (hpa.mono (B' := V2.heap.size) (by omega)))
        rw [← hfe, hE] at KW
        clear hfe d0 d2 d3 d5 d6 c0 c1 c2 c3 c4 c5 c6 c8 c9 c10
        gi_wp2_with fail
        refine ⟨trivial, ((callsIn_wide.2 KW.out).inRound l).mono ?_⟩
        rintro e V3 ⟨rfl, hb3⟩
        have hC3 := hC.later hb3
        have e7 := (hb3.cell (p := ⟨w.heap.size, 7, none⟩) (by show w.heap.size < _; omega)).trans c7
        have ee := (hb3.cell (p := ⟨w.heap.size + 1, 0, none⟩) (by show w.heap.size + 1 < _; omega)).trans ce
        obtain ⟨_, _, m3, _⟩ := hC3.m
        have z7 := frozen_of_row V3 w.heap.size 7 _ _ m3
        have zee := frozen_of_row V3 (w.heap.size + 1) 0 _ _ hC3.e
        have hC5 := hC3.set (M' := strip Mj f) E 7 (.slice none 0 0) (fun P C h1 h2 => ⟨.slice none 0 0, C, by rw [hstF]; rfl, by rw [hstF]; exact ⟨⟨none, 0, rfl, Nat.le_refl _, Nums.nil⟩, h2.c⟩⟩)
        clear KW hC hC3 m1 m3 hstF hpa hcb hc hsm ok hE d1 d4 c7 ce ze
        have hoff : Off (fun q => q = w.heap.size ∨ q = w.heap.size + 1) V2 ((V3.setCell ⟨w.heap.size + 1, 0, none⟩ (.int .i64 E)).setCell ⟨w.heap.size, 7, none⟩ (.slice none 0 0)) := ((Off.of_below hb3).setCell (p := ⟨w.heap.size + 1, 0, none⟩) (.inr rfl) _).setCell (p := ⟨w.heap.size, 7, none⟩) (.inl rfl) _
        have HKF := Lib.hid (kf_two hoff (s := w4.heap.size) (by omega))
        have HKE := Lib.hid (ket_two (tf := 75) (ti := 3) hoff)
        have HC5 := Lib.hid hC5
        clear hoff hC5 hb3
        by_cases hE0 : E = 0
        · subst hE0
          have HZ : Hid (∀ g ∈ L.take (j + 1), fE M g = 0) := Lib.hid (take_zero HF.out HZ0.out HEd.out)
          gi_wp2
          exact ⟨HKF.out, ⟨HZ.out, by rw [HST.out]; exact HC5.out⟩, HKE.out⟩
        · have hEn : (E != 0) = true := by simpa using hE0
          have HFE : Hid (firstE M L = E) := Lib.hid ((firstE_at L M j f HF.out HZ0.out (by rw [HEd.out]; exact hE0)).trans HEd.out)
          gi_wp2
          exact ⟨HKF.out, rfl, E, _, hE0, HFE.out, HC5.out⟩
      by_cases h4 : f.so = 4
      · have hfe : fE Mj f = wC Mj.c f.mo := by unfold fE; rw [if_neg (by omega), if_pos h4]
        have hstF : strip Mj f = { Mj with c := [] } := by unfold strip; rw [if_neg (by omega), if_pos h4]
        rw [h4] at d1
        have KW := Lib.hid ((wcells_any b nc' ccc Mj.c f.mo V2 hnc' hccc ok.le.2.2.2.1 (hcb.mono (B' := V2.heap.size) (by omega))).mono (fun e w' h => (⟨h.1, h.2 ▸ Below.refl _ _⟩ : e = .returned (.int .i64 (wC Mj.c f.mo)) ∧ Below V2.heap.size V2 w')))
        rw [← hfe, hE] at KW
        clear hfe d0 d2 d3 d5 d6 c0 c1 c2 c3 c4 c5 c6 c7 c9 c10
        gi_wp2_with fail
        refine ⟨trivial, ((callsIn_wide.2 KW.out).inRound l).mono ?_⟩
        rintro e V3 ⟨rfl, hb3⟩
        have hC3 := hC.later hb3
        have e7 := (hb3.cell (p := ⟨w.heap.size, 8, none⟩) (by show w.heap.size < _; omega)).trans c8
        have ee := (hb3.cell (p := ⟨w.heap.size + 1, 0, none⟩) (by show w.heap.size + 1 < _; omega)).trans ce
        obtain ⟨_, _, m3, _⟩ := hC3.m
        have z7 := frozen_of_row V3 w.heap.size 8 _ _ m3
        have zee := frozen_of_row V3 (w.heap.size + 1) 0 _ _ hC3.e
        have hC5 := hC3.set (M' := strip Mj f) E 8 (.slice none 0 0) (fun P C h1 h2 => ⟨P, .slice none 0 0, by rw [hstF]; rfl, by rw [hstF]; exact ⟨h2.p, ⟨none, 0, rfl, Nat.le_refl _, Nums.nil⟩⟩⟩)
        clear KW hC hC3 m1 m3 hstF hpa hcb hc hsm ok hE d1 d4 c8 ce ze
        have hoff : Off (fun q => q = w.heap.size ∨ q = w.heap.size + 1) V2 ((V3.setCell ⟨w.heap.size + 1, 0, none⟩ (.int .i64 E)).setCell ⟨w.heap.size, 8, none⟩ (.slice none 0 0)) := ((Off.of_below hb3).setCell (p := ⟨w.heap.size + 1, 0, none⟩) (.inr rfl) _).setCell (p := ⟨w.heap.size, 8, none⟩) (.inl rfl) _
        have HKF := Lib.hid (kf_two hoff (s := w4.heap.size) (by omega))
        have HKE := Lib.hid (ket_two (tf := 75) (ti := 3) hoff)
        have HC5 := Lib.hid hC5
        clear hoff hC5 hb3
        by_cases hE0 : E = 0
        · subst hE0
          have HZ : Hid (∀ g ∈ L.take (j + 1), fE M g = 0) := Lib.hid (take_zero HF.out HZ0.out HEd.out)
          gi_wp2
          exact ⟨HKF.out, ⟨HZ.out, by rw [HST.out]; exact HC5.out⟩, HKE.out⟩
        · have hEn : (E != 0) = true := by simpa using hE0
          have HFE : Hid (firstE M L = E) := Lib.hid ((firstE_at L M j f HF.out HZ0.out (by rw [HEd.out]; exact hE0)).trans HEd.out)
          gi_wp2
          exact ⟨HKF.out, rfl, E, _, hE0, HFE.out, HC5.out⟩
      by_cases h5 : f.so = 5
      · have hfe : fE Mj f = wT Mj.tx f.mo := by unfold fE; rw [if_neg (by omega), if_neg (by omega), if_pos h5]
        have hstF : strip Mj f = { Mj with tx := ⟨#[]⟩ } := by unfold strip; rw [if_neg (by omega), if_neg (by omega), if_pos h5]
        rw [h5] at d1
        have KW := Lib.hid ((wtext_any Mj.tx f.mo (by have := hsm.tx; unfold maxLen; omega) V2).mono (fun e w' h => (⟨h.1, h.2 ▸ Below.refl _ _⟩ : e = .returned (.int .i64 (wT Mj.tx f.mo)) ∧ Below V2.heap.size V2 w')))
        rw [← hfe, hE] at KW
        clear hfe d0 d2 d3 d5 d6 c0 c1 c2 c3 c4 c5 c6 c7 c8 c10
        gi_wp2_with fail
        refine ⟨trivial, ((callsIn_wide.2 KW.out).inRound l).mono ?_⟩
        rintro e V3 ⟨rfl, hb3⟩
        have hC3 := hC.later hb3
        have e7 := (hb3.cell (p := ⟨w.heap.size, 9, none⟩) (by show w.heap.size < _; omega)).trans c9
        have ee := (hb3.cell (p := ⟨w.heap.size + 1, 0, none⟩) (by show w.heap.size + 1 < _; omega)).trans ce
        obtain ⟨_, _, m3, _⟩ := hC3.m
        have z7 := frozen_of_row V3 w.heap.size 9 _ _ m3
        have zee := frozen_of_row V3 (w.heap.size + 1) 0 _ _ hC3.e
        have hC5 := hC3.set (M' := strip Mj f) E 9 (.string ⟨#[]⟩) (fun P C h1 h2 => ⟨P, C, by rw [hstF]; rfl, by rw [hstF]; exact ⟨h2.p, h2.c⟩⟩)
        clear KW hC hC3 m1 m3 hstF hpa hcb hc hsm ok hE d1 d4 c9 ce ze
        have hoff : Off (fun q => q = w.heap.size ∨ q = w.heap.size + 1) V2 ((V3.setCell ⟨w.heap.size + 1, 0, none⟩ (.int .i64 E)).setCell ⟨w.heap.size, 9, none⟩ (.string ⟨#[]⟩)) := ((Off.of_below hb3).setCell (p := ⟨w.heap.size + 1, 0, none⟩) (.inr rfl) _).setCell (p := ⟨w.heap.size, 9, none⟩) (.inl rfl) _
        have HKF := Lib.hid (kf_two hoff (s := w4.heap.size) (by omega))
        have HKE := Lib.hid (ket_two (tf := 75) (ti := 3) hoff)
        have HC5 := Lib.hid hC5
        clear hoff hC5 hb3
        by_cases hE0 : E = 0
        · subst hE0
          have HZ : Hid (∀ g ∈ L.take (j + 1), fE M g = 0) := Lib.hid (take_zero HF.out HZ0.out HEd.out)
          gi_wp2
          exact ⟨HKF.out, ⟨HZ.out, by rw [HST.out]; exact HC5.out⟩, HKE.out⟩
        · have hEn : (E != 0) = true := by simpa using hE0
          have HFE : Hid (firstE M L = E) := Lib.hid ((firstE_at L M j f HF.out HZ0.out (by rw [HEd.out]; exact hE0)).trans HEd.out)
          gi_wp2
          exact ⟨HKF.out, rfl, E, _, hE0, HFE.out, HC5.out⟩
      by_cases h6 : f.so = 6
      · have hfe : fE Mj f = wT Mj.tg f.mo := by unfold fE; rw [if_neg (by omega), if_neg (by omega), if_neg (by omega), if_pos h6]
        have hstF : strip Mj f = { Mj with tg := ⟨#[]⟩ } := by unfold strip; rw [if_neg (by omega), if_neg (by omega), if_neg (by omega), if_pos h6]
        rw [h6] at d1
        have KW := Lib.hid ((wtext_any Mj.tg f.mo (by have := hsm.tg; unfold maxLen; omega) V2).mono (fun e w' h => (⟨h.1, h.2 ▸ Below.refl _ _⟩ : e = .returned (.int .i64 (wT Mj.tg f.mo)) ∧ Below V2.heap.size V2 w')))
        rw [← hfe, hE] at KW
        clear hfe d0 d2 d3 d5 d6 c0 c1 c2 c3 c4 c5 c6 c7 c8 c9
        gi_wp2_with fail
        refine ⟨trivial, ((callsIn_wide.2 KW.out).inRound l).mono ?_⟩
        rintro e V3 ⟨rfl, hb3⟩
        have hC3 := hC.later hb3
        have e7 := (hb3.cell (p := ⟨w.heap.size, 10, none⟩) (by show w.heap.size < _; omega)).trans c10
        have ee := (hb3.cell (p := ⟨w.heap.size + 1, 0, none⟩) (by show w.heap.size + 1 < _; omega)).trans ce
        obtain ⟨_, _, m3, _⟩ := hC3.m
        have z7 := frozen_of_row V3 w.heap.size 10 _ _ m3
        have zee := frozen_of_row V3 (w.heap.size + 1) 0 _ _ hC3.e
        have hC5 := hC3.set (M' := strip Mj f) E 10 (.string ⟨#[]⟩) (fun P C h1 h2 => ⟨P, C, by rw [hstF]; rfl, by rw [hstF]; exact ⟨h2.p, h2.c⟩⟩)
        clear KW hC hC3 m1 m3 hstF hpa hcb hc hsm ok hE d1 d4 c10 ce ze
        have hoff : Off (fun q => q = w.heap.size ∨ q = w.heap.size + 1) V2 ((V3.setCell ⟨w.heap.size + 1, 0, none⟩ (.int .i64 E)).setCell ⟨w.heap.size, 10, none⟩ (.string ⟨#[]⟩)) := ((Off.of_below hb3).setCell (p := ⟨w.heap.size + 1, 0, none⟩) (.inr rfl) _).setCell (p := ⟨w.heap.size, 10, none⟩) (.inl rfl) _
        have HKF := Lib.hid (kf_two hoff (s := w4.heap.size) (by omega))
        have HKE := Lib.hid (ket_two (tf := 75) (ti := 3) hoff)
        have HC5 := Lib.hid hC5
        clear hoff hC5 hb3
        by_cases hE0 : E = 0
        · subst hE0
          have HZ : Hid (∀ g ∈ L.take (j + 1), fE M g = 0) := Lib.hid (take_zero HF.out HZ0.out HEd.out)
          gi_wp2
          exact ⟨HKF.out, ⟨HZ.out, by rw [HST.out]; exact HC5.out⟩, HKE.out⟩
        · have hEn : (E != 0) = true := by simpa using hE0
          have HFE : Hid (firstE M L = E) := Lib.hid ((firstE_at L M j f HF.out HZ0.out (by rw [HEd.out]; exact hE0)).trans HEd.out)
          gi_wp2
          exact ⟨HKF.out, rfl, E, _, hE0, HFE.out, HC5.out⟩
      obtain ⟨jn, hjn, hpl⟩ := ok.pl (by omega)
      have hfe : fE Mj f = wN (Mj.at' jn) f.le f.mo := by unfold fE; rw [if_neg h3, if_neg h4, if_neg h5, if_neg h6, hpl, Int.toNat_natCast]
      have hstF : strip Mj f = Mj.put jn 0 := by unfold strip; rw [if_neg h3, if_neg h4, if_neg h5, if_neg h6, hpl, Int.toNat_natCast]
      have cn := mg_at m1 hjn
      rw [hpl] at d2
      obtain ⟨nv, hnv⟩ : ∃ nv, Mj.at' jn = nv := ⟨_, rfl⟩
      rw [hnv] at cn hfe
      have KW := Lib.hid (wnum_any nv f.le f.mo)
      rw [← hfe, hE] at KW
      have q3 : (f.so == 3) = false := by simp; omega
      have q4 : (f.so == 4) = false := by simp; omega
      have q5 : (f.so == 5) = false := by simp; omega
      have q6 : (f.so == 6) = false := by simp; omega
      clear hfe hpl hnv c0 c1 c2 c3 c4 c5 c6 c7 c8 c9 c10
      have hj6 : (jn : Int) < 6 := by omega
      gi_wp2_with fail
      have lP : ∀ W, W.heap[qb]? = some (.cells f.cs 75 (0, 0)) → (Instr.loadAt 3 (.pointer (some ⟨qb, 2, none⟩))).run Try.prog W = .ok (.int .i64 (jn : Int)) W := fun W hW => by
        have hx : W.cell? ⟨qb, 2, none⟩ = some (.int .i64 (jn : Int)) := by
          rw [← d2]
          simp [World.cell?, hW, hc]
        simp [Instr.loadAt, go_sem, hx]
      have lL : ∀ W, W.heap[qb]? = some (.cells f.cs 75 (0, 0)) → (Instr.loadAt 3 (.pointer (some ⟨qb, 3, none⟩))).run Try.prog W = .ok (.int .i64 f.le) W := fun W hW => by
        obtain ⟨_, _, _, hx, _⟩ := fd_block hW
        simp [Instr.loadAt, go_sem, hx]
      have lM : ∀ W, W.heap[qb]? = some (.cells f.cs 75 (0, 0)) → (Instr.loadAt 3 (.pointer (some ⟨qb, 4, none⟩))).run Try.prog W = .ok (.int .i64 f.mo) W := fun W hW => by
        obtain ⟨_, _, _, _, hx, _⟩ := fd_block hW
        simp [Instr.loadAt, go_sem, hx]
      have hne0 : qb ≠ w.heap.size := by omega
      have hne1 : qb ≠ w.heap.size + 1 := by omega
      refine wpIn_region_order7 ((0, false) :: (1, false) :: (2, false) :: (3, false) :: (4, false) :: (5, false) :: (7, false) :: (8, false) :: (9, false) :: (10, false) :: (13, false) :: (6, true) :: (11, false) :: (12, false) :: (14, false) :: (15, false) :: []) (fun W => W.heap[qb]? = some (.cells f.cs 75 (0, 0))) (C := fun W => Below V2.heap.size V2 W) (by kernel_rfl) (fun ⟨_, _, h⟩ => h) (by kernel_rfl) (by kernel_rfl) (Below.refl _ _).drew (fun W hW => (hW.block _ hqlt).trans hc) ?_
      repeat (refine wpO7_pure rfl rfl ?_; go_big_quiet_step (fail); refine wpQuiet_nil ?_)
      refine wpO7_load (ad := ⟨qb, 2, none⟩) (.int .i64 (jn : Int)) rfl rfl rfl (by rfl) lP ?_
      simp only [Act.put, List.setIfInBounds_toArray, List.set_cons_succ, List.set_cons_zero]
      repeat (refine wpO7_pure rfl rfl ?_; go_big_quiet_step (fail); refine wpQuiet_nil ?_)
      refine wpO7_load (ad := ⟨qb, 2, none⟩) (.int .i64 (jn : Int)) rfl rfl rfl (by rfl) lP ?_
      simp only [Act.put, List.setIfInBounds_toArray, List.set_cons_succ, List.set_cons_zero]
      repeat (refine wpO7_pure rfl rfl ?_; go_big_quiet_step (fail); refine wpQuiet_nil ?_)
      refine wpO7_load (ad := ⟨qb, 3, none⟩) (.int .i64 f.le) rfl rfl rfl (by rfl) lL ?_
      simp only [Act.put, List.setIfInBounds_toArray, List.set_cons_succ, List.set_cons_zero]
      repeat (refine wpO7_pure rfl rfl ?_; go_big_quiet_step (fail); refine wpQuiet_nil ?_)
      refine wpO7_load (ad := ⟨qb, 4, none⟩) (.int .i64 f.mo) rfl rfl rfl (by rfl) lM ?_
      simp only [Act.put, List.setIfInBounds_toArray, List.set_cons_succ, List.set_cons_zero]
      repeat (refine wpO7_pure rfl rfl ?_; go_big_quiet_step (fail); refine wpQuiet_nil ?_)
      refine wpO7_look (ad := ⟨w.heap.size, 1 + jn, none⟩) (.int .i64 nv) rfl rfl rfl (by rfl) (fun W hW => (hW.block _ hqlt).trans hc) (fun W hW => ?_) ?_
      · have hx := (hW.cell (p := ⟨w.heap.size, 1 + jn, none⟩) (by show w.heap.size < _; omega)).trans cn
        simp [Instr.loadAt, go_sem, hx]
      simp only [Act.put, List.setIfInBounds_toArray, List.set_cons_succ, List.set_cons_zero]
      refine wpO7_call (fun v => v = .int .i64 E) (fun _ W => Below V2.heap.size V2 W) (f := 43) (args := #[.int .i64 nv, .int .i64 f.le, .int .i64 f.mo]) rfl rfl rfl (fun _ W hW => (hW.block _ hqlt).trans hc) (fun x => by first | rfl | (simp [go_sem]; done)) (fun W hW => (KW.out W).mono (fun e w' h => ⟨_, h.1, rfl, h.2 ▸ hW⟩)) ?_
      rintro v rfl
      simp only [Act.put, List.setIfInBounds_toArray, List.set_cons_succ, List.set_cons_zero]
      refine wpO7_store (fun W => ∃ W0, Below V2.heap.size V2 W0 ∧ W = W0.setCell ⟨w.heap.size + 1, 0, none⟩ (.int .i64 E)) rfl rfl rfl rfl ⟨w.heap.size + 1, 0, none⟩ (.int .i64 E) (by rfl) (by rfl) (fun W hW => ?_) (fun W hW => ?_) ?_
      · obtain ⟨W0, h1, rfl⟩ := hW
        exact (Below.heap_setCell _ _ _ _ hne1).trans ((h1.block _ hqlt).trans hc)
      · have k0 := (hW.cell (p := ⟨w.heap.size + 1, 0, none⟩) (by show w.heap.size + 1 < _; omega)).trans ce
        have k1 := frozen_of_row W (w.heap.size + 1) 0 _ _ ((hW.block _ hb2).trans hC.e)
        exact ⟨_, by simp [Instr.storeAt, go_sem, k0, k1], W, hW, rfl⟩
      repeat (refine wpO7_pure rfl rfl ?_; go_big_quiet_step (fail); refine wpQuiet_nil ?_)
      refine wpO7_store (fun W => ∃ W0, Below V2.heap.size V2 W0 ∧ W = (W0.setCell ⟨w.heap.size + 1, 0, none⟩ (.int .i64 E)).setCell ⟨w.heap.size, 1 + jn, none⟩ (.int .i64 0)) rfl rfl rfl rfl ⟨w.heap.size, 1 + jn, none⟩ (.int .i64 0) (by rfl) (by rfl) (fun W hW => ?_) (fun W hW => ?_) ?_
      · obtain ⟨W0, h1, rfl⟩ := hW
        exact (Below.heap_setCell _ _ _ _ hne0).trans ((Below.heap_setCell _ _ _ _ hne1).trans ((h1.block _ hqlt).trans hc))
      · obtain ⟨W0, h1, rfl⟩ := hW
        have m5 := (Below.heap_setCell W0 ⟨w.heap.size + 1, 0, none⟩ (.int .i64 E) w.heap.size hNE).trans ((h1.block _ (by omega)).trans m1)
        have k0 := mg_at m5 hjn
        have k1 := frozen_of_row _ w.heap.size (1 + jn) _ _ m5
        exact ⟨_, by simp [Instr.storeAt, go_sem, k0, k1], W0, h1, rfl⟩
      rintro V6 ⟨V3, hb3, rfl⟩
      have hC5 := (hC.later hb3).set (M' := strip Mj f) E (1 + jn) (.int .i64 0) (fun P C h1 h2 => ⟨P, C, by rw [hstF, mC_put hjn], by rw [hstF]; exact ⟨by rw [Mg.put_p]; exact h2.p, by rw [Mg.put_c]; exact h2.c⟩⟩)
      have ee := row_cell hC5.e 0 _ rfl
      clear KW hC m1 hstF hpa hcb hc hsm ok hE d0 d1 d2 d3 d4 d5 d6 ce ze lP lL lM cn
      have hoff : Off (fun q => q = w.heap.size ∨ q = w.heap.size + 1) V2 ((V3.setCell ⟨w.heap.size + 1, 0, none⟩ (.int .i64 E)).setCell ⟨w.heap.size, 1 + jn, none⟩ (.int .i64 0)) := ((Off.of_below hb3).setCell (p := ⟨w.heap.size + 1, 0, none⟩) (.inr rfl) _).setCell (p := ⟨w.heap.size, 1 + jn, none⟩) (.inl rfl) _
      have HKF := Lib.hid (kf_two hoff (s := w4.heap.size) (by omega))
      have HKE := Lib.hid (ket_two (tf := 75) (ti := 3) hoff)
      have HC5 := Lib.hid hC5
      clear hoff hC5 hb3
      by_cases hE0 : E = 0
      · subst hE0
        have HZ : Hid (∀ g ∈ L.take (j + 1), fE M g = 0) := Lib.hid (take_zero HF.out HZ0.out HEd.out)
        gi_wp2
        exact ⟨HKF.out, ⟨HZ.out, by rw [HST.out]; exact HC5.out⟩, HKE.out⟩
      · have hEn : (E != 0) = true := by simpa using hE0
        have HFE : Hid (firstE M L = E) := Lib.hid ((firstE_at L M j f HF.out HZ0.out (by rw [HEd.out]; exact hE0)).trans HEd.out)
        gi_wp2
        exact ⟨HKF.out, rfl, E, _, hE0, HFE.out, HC5.out⟩
    case iter =>
      intro Bk X l V hBk hBlt hX hl hD hB hY
      have h := fall_in 8 (by omega) 7 l (w.heap.size + 2) M.k 2 (fun j V => ((∀ g ∈ L.take j, fE M g = 0) ∧ CkB w.heap.size w4 ((L.take j).foldl strip M) 0 V) ∧ Bk V) X
        (fun j A B h hb => ⟨⟨h.1.1, h.1.2.later hb⟩, hBk A _ h.2 hb.size (fun q h1 h2 => by have := hBlt A h.2; exact hb.block q (by omega))⟩)
        (fun j f W h hf => by
          rw [KA.out] at hf
          exact (hY j f W ⟨hf, h.1⟩ h.2 (List.getElem?_eq_some_iff.1 hf).1).mono (fun e W2 h => h.elim (fun h => .inl ⟨h.1, h.2.1, h.2.2.1⟩) (fun h => .inr ⟨h.1, h.2.1⟩)))
        V ((hD.2.off.block _ (by omega) (by omega)).trans hg0) ((hD.2.off.block _ (by omega) (by omega)).trans hg1) ⟨hD, hB⟩
      rw [KA.out] at h
      exact h
    case done =>
      rintro D V hD ⟨hz, hC⟩ hK
      rw [List.take_length] at hz hC
      have hf0 := (firstE_zero L M).1 hz
      have hR := HR.out
      rw [if_neg (by simp [hf0])] at hR
      have hsm := hs.fold L
      have hkk := KS.out L.length
      rw [List.take_length] at hkk
      obtain ⟨Ms, hMs⟩ : ∃ Ms, L.foldl strip M = Ms := ⟨_, rfl⟩
      rw [hMs] at hR hC hsm hkk
      obtain ⟨P, C, m1, m2⟩ := hC.m
      have KW := msame_any Ms (Mg.zero M.k) P C (.slice none 0 0) (.slice none 0 0) V hsm (m2.mono (by have := (Array.getElem?_eq_some_iff.1 hC.e).1; omega)) ⟨⟨none, 0, rfl, Nat.le_refl _, Nums.nil⟩, ⟨none, 0, rfl, Nat.le_refl _, Nums.nil⟩⟩
      obtain ⟨Q, hQ⟩ : ∃ Q, decide (Ms = Mg.zero M.k) = Q := ⟨_, rfl⟩
      rw [hQ] at KW
      simp only [mV, mC, Mg.zero] at KW
      obtain ⟨c0, c1, c2, c3, c4, c5, c6, c7, c8, c9, c10⟩ := mg_block m1
      rw [hkk] at c0 KW
      have ce := row_cell hC.e 0 _ rfl
      have HC := Lib.hid hC
      have KW := Lib.hid KW
      have HB := Lib.hid (hb04.trans (hC.off.below (B := w.heap.size) (fun k hk => by omega) hb04.size))
      have HKD := Lib.hid hK
      have hDlt := (Array.getElem?_eq_some_iff.1 hK).1
      have hb1lt := (Array.getElem?_eq_some_iff.1 hC.e).1
      have hQR : R = if Q = true then 0 else 3 := by
        rw [← hR, ← hQ]
        by_cases h : Ms = Mg.zero M.k
        · rw [if_pos h, if_pos (decide_eq_true h)]
        · rw [if_neg h, if_neg (by simpa using h)]
      clear hC m1 m2 hz hf0 hR hsm hMs hK hQ
      gi_wp2_with fail
      refine ⟨trivial, (callsIn_wide.2 KW.out).mono ?_⟩
      rintro e V2 ⟨rfl, hb2⟩
      have ee := (hb2.cell (p := ⟨w.heap.size + 1, 0, none⟩) hb1lt).trans ce
      have zee := frozen_of_row V2 (w.heap.size + 1) 0 _ _ ((hb2.block _ hb1lt).trans HC.out.e)
      have HK2 := Lib.hid ((hb2.block _ hDlt).trans HKD.out)
      have HB2 := Lib.hid (HB.out.trans (hb2.mono HB.out.size))
      have hV2 := hb2.size
      clear KW hb2 ce c0 c1 c2 c3 c4 c5 c6 c7 c8 c9 c10 HC
      cases Q
      · obtain rfl : R = 3 := hQR
        have HX := Lib.hid ((Below.heap_setCell V2 ⟨w.heap.size + 1, 0, none⟩ (.int .i64 3) D (by show _ ≠ w.heap.size + 1; omega)).trans HK2.out)
        have HY := Lib.hid (HB2.out.setCell (p := ⟨w.heap.size + 1, 0, none⟩) (Nat.le_succ _) (.int .i64 3))
        gi_wp2
        simp only [Exit.noGoto]
        refine ⟨by simp, .inl ⟨_, _, rfl, run_takeDeferred HX.out, ?_⟩⟩
        refine ⟨_, ?_, rfl, HY.out.trans (below_put _ _ (by omega))⟩
        simp [results, Try.f22, go_sem]
      · obtain rfl : R = 0 := hQR
        gi_wp2
        simp only [Exit.noGoto]
        refine ⟨by simp, .inl ⟨_, _, rfl, run_takeDeferred HK2.out, ?_⟩⟩
        refine ⟨_, ?_, rfl, HB2.out.trans (below_put _ _ (by omega))⟩
        simp [results, Try.f22, go_sem]
    case stop =>
      rintro D cd V hD ⟨rfl, E, M', hne, hfe, hC⟩ hK
      have hR := HR.out
      rw [hfe, if_pos hne] at hR
      subst hR
      have ce := row_cell hC.e 0 _ rfl
      have hEn : (E == 0) = false := by simpa using hne
      have HB := Lib.hid (hb04.trans (hC.off.below (B := w.heap.size) (fun k hk => by omega) hb04.size))
      have HKD := Lib.hid hK
      clear hC hK hfe
      gi_wp2
      refine ⟨trivial, ?_⟩
      gi_wp2
      simp only [Exit.noGoto]
      refine ⟨by simp, .inl ⟨_, _, rfl, run_takeDeferred HKD.out, ?_⟩⟩
      refine ⟨_, ?_, rfl, HB.out.trans (below_put _ _ (by omega))⟩
      simp [results, Try.f22, go_sem]
end Go.Proofs.Ytlbfibnfmijahaa

namespace Go.Proofs.Ytlbfibnfmijahaa
open Go.RowKit
section
variable {P : Program} {ops : Array Oper} {rest : List Oper} {op : Oper} {a : Act} {w w' : World} {Q : Exit → Act → World → Prop}
theorem wpList_load_run (hgd : op.guard = none) (ty : TypeId) (x : Operand) (ho : op.op = .load ty x) (ad : Option Addr) (hx : a.eval x = .pointer ad) (v : Value) (hr : (Instr.loadAt ty (.pointer ad)).run P w = .ok v w)
    (h : wpList P ops Q rest (a.put op.dst v) w) : wpList P ops Q (op :: rest) a w :=
  wpList_plain hgd fun _ hK => by
    unfold Oper.wp execOp
    simp only [ho, hx, Sem.run_bind, hr, Result.andThen_ok]
    exact hK _ _ h
theorem wpList_store_run (hgd : op.guard = none) (ty : TypeId) (x y : Operand) (ho : op.op = .store ty x y) (ad : Option Addr) (hx : a.eval x = .pointer ad) (v : Value) (hy : a.eval y = v) (hr : (Instr.storeAt ty (.pointer ad) v).run P w = .ok () w')
    (h : wpList P ops Q rest (a.put op.dst undef) w') : wpList P ops Q (op :: rest) a w :=
  wpList_plain hgd fun _ hK => by
    unfold Oper.wp execOp
    simp only [ho, hx, hy, Sem.run_bind, hr, Result.andThen_ok]
    exact hK _ _ h
end
end Go.Proofs.Ytlbfibnfmijahaa

namespace Go.Proofs.Ytlbfibnfmijahaa
open Go.RowKit
section
variable {F : Fence} {nF : Nat} {P : Program} {w w' : World} {ops : Array Oper} {rest : List Oper} {o : Oper} {a : Act} {Q : Exit → Act → World → Prop}
theorem wpListIn_store_run (hg : o.guard = none) (t : TypeId) (x y : Operand) (hop : o.op = .store t x y) (ad : Option Addr) (hx : a.eval x = .pointer ad) (v : Value) (hy : a.eval y = v) (hr : (Instr.storeAt t (.pointer ad) v).run P w = .ok () w')
    (hK : wpListIn F nF P ops Q rest (a.put o.dst undef) w') : wpListIn F nF P ops Q (o :: rest) a w := by
  refine wpListIn_plain hg fun K hK' => ?_
  unfold Oper.wpIn
  refine ⟨?_, ?_⟩
  · simp [Oper.about, hop]
  · rw [Oper.semAt_plain F _ _ (by rw [hop]; intro c hc'; cases hc')]
    simp [execOp, hop, hx, hy, hr, Result.andThen]
    exact hK' _ _ hK
theorem wpListIn_load_run (hg : o.guard = none) (t : TypeId) (x : Operand) (hop : o.op = .load t x) (ad : Option Addr) (hx : a.eval x = .pointer ad) (v : Value) (hr : (Instr.loadAt t (.pointer ad)).run P w = .ok v w)
    (hK : wpListIn F nF P ops Q rest (a.put o.dst v) w) : wpListIn F nF P ops Q (o :: rest) a w := by
  refine wpListIn_plain hg fun K hK' => ?_
  unfold Oper.wpIn
  refine ⟨?_, ?_⟩
  · simp [Oper.about, hop]
  · rw [Oper.semAt_plain F _ _ (by rw [hop]; intro c hc'; cases hc')]
    simp [execOp, hop, hx, hr, Result.andThen]
    exact hK' _ _ hK
end
end Go.Proofs.Ytlbfibnfmijahaa

namespace Go.Proofs.Ytlbfibnfmijahaa
open Go.RowKit Go.Shelf
set_option maxRecDepth 100000
attribute [local go_sem] Oper.semAt_some

theorem mg_store (w : World) (R : Nat) (old cs : Array Value) (h : w.heap[R]? = some (.cells old 33 (0, 0))) (ho : old.size = 11) (hc : cs.size = 11) (h1 : cs.all (·.oneCell') = true) :
    (Instr.storeAt 33 (.pointer (some ⟨R, 0, none⟩)) (.agg cs)).run Try.prog w = .ok () (w.setRow R cs) := by
  simp only [Instr.storeAt, Instr.sureAddr, Sem.run_bind, Sem.run_pure, Result.andThen]
  exact run_storeVar_row w R 33 33 old cs h (by rw [hc]; exact mgInfo) (by omega) h1
/-- a message's box bp whose lists' slices stay -/
structure PjB (bp : Nat) (w5 : World) (P C : Value) (M : Mg) (V : World) : Prop where
  m : V.heap[bp]? = some (.cells (mC M P C) 33 (0, 0))
  off : Off (fun q => q = bp) w5 V
section
variable {bp : Nat} {w5 V V' : World} {P C : Value} {M M' : Mg}
theorem PjB.later (h : PjB bp w5 P C M V) (hb : Below V.heap.size V V') : PjB bp w5 P C M V' := ⟨(hb.block _ (Array.getElem?_eq_some_iff.1 h.m).1).trans h.m, off_below h.off (hb.mono h.off.size)⟩
theorem PjB.putObj {l : Nat} {o' : Obj} (h : PjB bp w5 P C M V) (hw : w5.heap.size ≤ l) (hbp : bp < w5.heap.size) : PjB bp w5 P C M (V.putObj l o') := ⟨(World.putObj_heap_other (by omega)).trans h.m, off_below h.off (below_put V o' hw)⟩
theorem PjB.set (h : PjB bp w5 P C M V) (j : Nat) (u : Value) (hM : (mC M P C).setIfInBounds j u = mC M' P C) : PjB bp w5 P C M' (V.setCell ⟨bp, j, none⟩ u) := ⟨by rw [setCell_at h.m, hM], h.off.setCell (p := ⟨bp, j, none⟩) rfl _⟩
end
theorem kf_one {V W : World} {b s : Nat} (h : Off (fun q => q = b) V W) (hb : b < s) : KeepsFrom s V W := ⟨h.size, fun q o hq ho _ => (h.block q (Array.getElem?_eq_some_iff.1 ho).1 (by omega)).trans ho⟩
theorem ket_one {V W : World} {b lo : Nat} {tf ti : TypeId} (h : Off (fun q => q = b) V W) (hb : b < lo) : KeT tf ti lo V W := ⟨h.size, fun q cs t hq _ hA => h.block q (Array.getElem?_eq_some_iff.1 hA).1 (by omega)⟩
theorem prj_p (M : Mg) (f : Fd) : (prj M f).p = M.p := by
  unfold prj
  repeat' split
  all_goals first | rfl | exact Mg.put_p ..
theorem prj_c (M : Mg) (f : Fd) : (prj M f).c = M.c := by
  unfold prj
  repeat' split
  all_goals first | rfl | exact Mg.put_c ..
theorem fold_prj_p : ∀ (L : List Fd) (M : Mg), (L.foldl prj M).p = M.p
  | [], _ => rfl
  | f :: r, M => by rw [List.foldl_cons, fold_prj_p r, prj_p]
theorem fold_prj_c : ∀ (L : List Fd) (M : Mg), (L.foldl prj M).c = M.c
  | [], _ => rfl
  | f :: r, M => by rw [List.foldl_cons, fold_prj_c r, prj_c]

set_option maxHeartbeats 16000000 in
theorem mproject_any (M : Mg) (P C : Value) (v : Int) (w : World) (hs : Msm M) (h1 : MAt w w.heap.size M P C) : Calls Try.prog 27 #[mV M P C, .int .i64 v] w fun e w' => MR w (mproj M v) e w' := by
  obtain ⟨w2, hw2⟩ : ∃ w2, w2 = ((w.alloc (.cells (mC M P C) 33)).alloc (.cells #[.int .i64 v] 3)).alloc (.cells (mC (Mg.zero 0) (.slice none 0 0) (.slice none 0 0)) 33) := ⟨_, rfl⟩
  have hs2 : w2.heap.size = w.heap.size + 3 := by rw [hw2]; simp
  have hb2 : Below w.heap.size w w2 := by rw [hw2]; exact (((Below.refl _ w).alloc (Nat.le_refl _) _).alloc (by simp) _).alloc (by simp; omega) _
  have q0 : w2.heap[w.heap.size]? = some (.cells (mC M P C) 33 (0, 0)) := by
    rw [hw2, Below.heap_alloc _ _ _ (by simp; omega), Below.heap_alloc _ _ _ (by simp)]; exact World.alloc_heap_new _ _
  have q1 : w2.heap[w.heap.size + 1]? = some (.cells #[.int .i64 v] 3 (0, 0)) := by
    have := World.alloc_heap_new (w.alloc (.cells (mC M P C) 33)) (.cells #[.int .i64 v] 3)
    rw [World.size_alloc] at this
    rw [hw2, Below.heap_alloc _ _ _ (by simp)]; exact this
  have q2 : w2.heap[w.heap.size + 2]? = some (.cells (mC (Mg.zero 0) (.slice none 0 0) (.slice none 0 0)) 33 (0, 0)) := by
    have := World.alloc_heap_new ((w.alloc (.cells (mC M P C) 33)).alloc (.cells #[.int .i64 v] 3)) (.cells (mC (Mg.zero 0) (.slice none 0 0) (.slice none 0 0)) 33)
    rw [World.size_alloc, World.size_alloc] at this
    rw [hw2]; exact this
  obtain ⟨G, hG⟩ : ∃ G, mproj M v = G := ⟨_, rfl⟩
  rw [hG]
  unfold mproj at hG
  have KC := Lib.hid (mcopy_any M P C w2 hs ((h1.below hb2).mono hb2.size))
  unfold MR
  unfold mV at KC ⊢
  simp only [mC, Mg.zero] at hw2 KC q0 q1 q2 ⊢
  have HW := Lib.hid hw2
  have HB2 := Lib.hid hb2
  have HQ := Lib.hid (And.intro q0 (And.intro q1 q2))
  clear hw2 hb2 q0 q1 q2 h1 hs
  by_cases hv : v = 1
  case neg =>
    go_enter Try.func27, Try.ntmps27
    go_wp2
    refine wp_scope_straight ?_
    go_wp2_with fail
    rw [← HW.out]
    refine KC.out.mono ?_
    intro e w3 hMR
    unfold MR at hMR
    obtain ⟨P3, C3, rfl, ho3, hb3⟩ := hMR
    obtain ⟨⟨a3, cp3, rfl, _, _⟩, ⟨b3, cb3, rfl, _, _⟩⟩ := ho3.at
    obtain ⟨np, hnp⟩ : ∃ np, M.p.length = np := ⟨_, rfl⟩
    obtain ⟨nc, hnc⟩ : ∃ nc, M.c.length = nc := ⟨_, rfl⟩
    unfold mV mC
    rw [hnp, hnc] at ho3 ⊢
    have HLT := Lib.hid (And.intro ho3.p.lt ho3.c.lt)
    obtain ⟨w4, hw4⟩ : ∃ w4, w3.alloc (.cells #[.int .i64 M.k, .int .i64 M.n0, .int .i64 M.n1, .int .i64 M.n2, .int .i64 M.n3, .int .i64 M.n4, .int .i64 M.n5, .slice a3 np cp3, .slice b3 nc cb3, .string M.tx, .string M.tg] 33) = w4 := ⟨_, rfl⟩
    have hs4 : w4.heap.size = w3.heap.size + 1 := by rw [← hw4]; simp
    have hb34 : Below w3.heap.size w3 w4 := by rw [← hw4]; exact (Below.refl _ w3).alloc (Nat.le_refl _) _
    have r4 : w4.heap[w3.heap.size]? = some (.cells (mC M (.slice a3 np cp3) (.slice b3 nc cb3)) 33 (0, 0)) := by rw [← hw4]; exact World.alloc_heap_new _ _
    have ho4 := ho3.later hb34
    have hs3 := hb3.size
    have hb24 : Below w2.heap.size w2 w4 := hb3.trans (hb34.mono hs3)
    have p0 := (hb24.block w.heap.size (by omega)).trans HQ.out.1
    have p1 := (hb24.block (w.heap.size + 1) (by omega)).trans HQ.out.2.1
    have p2 := (hb24.block (w.heap.size + 2) (by omega)).trans HQ.out.2.2
    have HB4 := Lib.hid (HB2.out.trans (hb24.mono HB2.out.size))
    have hge : w.heap.size + 3 ≤ w3.heap.size := by omega
    have HSZ := Lib.hid (show w.heap.size + 3 = w2.heap.size by omega)
    have HO4 := Lib.hid ho4
    have HW4 := Lib.hid hw4
    have hv1 := row_cell p1 0 _ rfl
    clear KC HW ho3 ho4 hb3 hb34 hb24 HQ HB2 hs2 hs3
    have hvn : (v != 1) = true := by simpa using hv
    rw [if_neg hv] at hG
    subst hG
    obtain ⟨f0, f1, f2, f3, f4, f5, f6, f7, f8, f9, f10⟩ := mg_block r4
    rw [← hw4] at f0 f1 f2 f3 f4 f5 f6 f7 f8 f9 f10 hv1
    have HP2 := Lib.hid p2
    have HP2' := Lib.hid (hw4.symm ▸ p2)
    clear hw4 p0 p1 p2 r4 hv
    go_wp2_with (refine wpList_store_row rfl 33 (.tmp 4) (.tmp 11) rfl (w.heap.size + 1 + 1) #[.int .i64 M.k, .int .i64 M.n0, .int .i64 M.n1, .int .i64 M.n2, .int .i64 M.n3, .int .i64 M.n4, .int .i64 M.n5, .slice a3 np cp3, .slice b3 nc cb3, .string M.tx, .string M.tg] rfl rfl 33 _ HP2'.out mgInfo rfl (by simp [Value.oneCell']) ?_)
    rw [HW4.out]
    have hfin := setRow_heap w4 (w.heap.size + 1 + 1) _ #[.int .i64 M.k, .int .i64 M.n0, .int .i64 M.n1, .int .i64 M.n2, .int .i64 M.n3, .int .i64 M.n4, .int .i64 M.n5, .slice a3 np cp3, .slice b3 nc cb3, .string M.tx, .string M.tg] _ _ HP2.out
    have hoff := Off.setRow (S := fun k => k = w.heap.size + 1 + 1) (Off.refl _ w4) rfl #[.int .i64 M.k, .int .i64 M.n0, .int .i64 M.n1, .int .i64 M.n2, .int .i64 M.n3, .int .i64 M.n4, .int .i64 M.n5, .slice a3 np cp3, .slice b3 nc cb3, .string M.tx, .string M.tg]
    have hbf := HB4.out.trans (hoff.below (B := w.heap.size) (fun k hk => by omega) HB4.out.size)
    have hof := HO4.out.off hoff (fun g hg e => by have := (HLT.out.1 g hg).1; have := HSZ.out; omega) (fun g hg e => by have := (HLT.out.2 g hg).1; have := HSZ.out; omega)
    generalize w4.setRow (w.heap.size + 1 + 1) _ = Wf at *
    obtain ⟨y0, y1, y2, y3, y4, y5, y6, y7, y8, y9, y10⟩ := mg_block hfin
    simp only [Exit.noGoto]
    refine bodyPost_ret (v := .agg #[.int .i64 M.k, .int .i64 M.n0, .int .i64 M.n1, .int .i64 M.n2, .int .i64 M.n3, .int .i64 M.n4, .int .i64 M.n5, .slice a3 np cp3, .slice b3 nc cb3, .string M.tx, .string M.tg]) (by simp [results, Try.results27, go_sem, y0, y1, y2, y3, y4, y5, y6, y7, y8, y9, y10]) rfl ?_
    exact ⟨_, _, rfl, hof.less (by have := HSZ.out; omega), hbf⟩
  subst hv
  rw [if_pos rfl] at hG
  refine (callsIn_wide (n := 9)).1 ?_
  refine callsIn_of_wp_marks Try.func27 rfl trivial ?_ rfl
  simp only [Try.ntmps27, List.size_toArray, List.length_cons, List.length_nil, Nat.reduceAdd, Nat.reduceSub, Array.replicate_succ, Array.replicate_zero, List.push_toArray, List.append_toArray, List.nil_append, List.cons_append]
  gi_wp2_with fail
  refine wpIn_wide.2 (wp_scope_straight ((wpIn_wide (n := 9)).1 ?_))
  gi_wp2_with fail
  refine ⟨trivial, ?_⟩
  rw [← HW.out]
  refine (callsIn_wide.2 KC.out).mono ?_
  intro e w3 hMR
  unfold MR at hMR
  obtain ⟨P3, C3, rfl, ho3, hb3⟩ := hMR
  obtain ⟨⟨a3, cp3, rfl, _, _⟩, ⟨b3, cb3, rfl, _, _⟩⟩ := ho3.at
  obtain ⟨np, hnp⟩ : ∃ np, M.p.length = np := ⟨_, rfl⟩
  obtain ⟨nc, hnc⟩ : ∃ nc, M.c.length = nc := ⟨_, rfl⟩
  unfold mV mC
  rw [hnp, hnc] at ho3 ⊢
  have HLT := Lib.hid (And.intro ho3.p.lt ho3.c.lt)
  obtain ⟨w4, hw4⟩ : ∃ w4, w3.alloc (.cells #[.int .i64 M.k, .int .i64 M.n0, .int .i64 M.n1, .int .i64 M.n2, .int .i64 M.n3, .int .i64 M.n4, .int .i64 M.n5, .slice a3 np cp3, .slice b3 nc cb3, .string M.tx, .string M.tg] 33) = w4 := ⟨_, rfl⟩
  have hs4 : w4.heap.size = w3.heap.size + 1 := by rw [← hw4]; simp
  have hb34 : Below w3.heap.size w3 w4 := by rw [← hw4]; exact (Below.refl _ w3).alloc (Nat.le_refl _) _
  have r4 : w4.heap[w3.heap.size]? = some (.cells (mC M (.slice a3 np cp3) (.slice b3 nc cb3)) 33 (0, 0)) := by rw [← hw4]; exact World.alloc_heap_new _ _
  have ho4 := ho3.later hb34
  have hs3 := hb3.size
  have hb24 : Below w2.heap.size w2 w4 := hb3.trans (hb34.mono hs3)
  have p0 := (hb24.block w.heap.size (by omega)).trans HQ.out.1
  have p1 := (hb24.block (w.heap.size + 1) (by omega)).trans HQ.out.2.1
  have p2 := (hb24.block (w.heap.size + 2) (by omega)).trans HQ.out.2.2
  have HB4 := Lib.hid (HB2.out.trans (hb24.mono HB2.out.size))
  have hge : w.heap.size + 3 ≤ w3.heap.size := by omega
  have HSZ := Lib.hid (show w.heap.size + 3 = w2.heap.size by omega)
  have HO4 := Lib.hid ho4
  have HW4 := Lib.hid hw4
  have hv1 := row_cell p1 0 _ rfl
  clear KC HW ho3 ho4 hb3 hb34 hb24 HQ HB2 hs2 hs3
  have kk := row_cell p0 0 _ rfl
  rw [← hw4] at kk hv1
  have hPJ : PjB w3.heap.size w4 (.slice a3 np cp3) (.slice b3 nc cb3) M w4 := ⟨r4, Off.refl _ _⟩
  clear hw4
  gi_wp2_with fail
  apply wpIn_label
  gi_wp2_with fail
  rw [HW4.out]
  refine ⟨trivial, (callsIn_wide.2 (fall_any M.k 2 w4)).mono ?_⟩
  rintro e w5 ⟨rfl, hg0, hg1, hb5⟩
  have hs5 := (Array.getElem?_eq_some_iff.1 hg1).1
  have hPJ5 := hPJ.later hb5
  have hPJ5 : PjB w3.heap.size w5 (.slice a3 np cp3) (.slice b3 nc cb3) M w5 := ⟨hPJ5.m, Off.refl _ _⟩
  have HB5 := Lib.hid (HB4.out.trans (hb5.mono HB4.out.size))
  have HO5 := Lib.hid (HO4.out.later hb5)
  have HP2 := Lib.hid ((hb5.block _ (by omega)).trans p2)
  have HV1 := Lib.hid ((hb5.block _ (by omega)).trans p1)
  rw [hs4] at hg0 hg1 hs5
  have KA := Lib.hid (FDv_two M.k)
  have KF := Lib.hid (FD_fdok M.k)
  obtain ⟨L, hL⟩ : ∃ L, FD M.k = L := ⟨_, rfl⟩
  rw [hL] at hG KA KF
  have HG := Lib.hid hG
  clear hL hG hPJ HB4 HO4 HW4 hb5 p0 p1 p2 r4 kk hv1
  gi_wp2_with fail
  refine range_stopb rfl (by omega) (gf := 44) (lb := #[.pointer (some ⟨w3.heap.size + 1, 0, none⟩), .pointer (some ⟨w3.heap.size + 1 + 1, 0, none⟩)]) rfl trivial (enters_of Try.func44 (by kernel_rfl) rfl)
    (fun f : Fd => #[f.v]) (fun _ => rfl)
    (fun j f V => L[j]? = some f ∧ PjB w3.heap.size w5 (.slice a3 np cp3) (.slice b3 nc cb3) ((L.take j).foldl prj M) V)
    (fun j f q V => (L[j]? = some f ∧ PjB w3.heap.size w5 (.slice a3 np cp3) (.slice b3 nc cb3) ((L.take j).foldl prj M) V) ∧ w5.heap.size ≤ q ∧ V.heap[q]? = some (.cells f.cs 75 (0, 0)))
    (fun j V => PjB w3.heap.size w5 (.slice a3 np cp3) (.slice b3 nc cb3) ((L.take j).foldl prj M) V)
    (fun cd V => False)
    (KeT 75 3 (w3.heap.size + 1)) L.length
    (fun j f q V l o o' h hl ho hc' => ⟨⟨h.1.1, h.1.2.putObj hl (by omega)⟩, h.2.1, (World.putObj_heap_other (fun e => by subst e; rw [h.2.2] at ho; injection ho with ho; subst ho; cases hc')).trans h.2.2⟩)
    (fun j V l o o' h hl ho hc' => h.putObj hl (by omega))
    (fun cd V l o o' h hl ho hc' => h)
    (fun _ _ _ h k => h.trans k) (fun V l o o' hl ho hc' => KeT.putObj ho hc')
    (fun o => (hPJ5.later ((Below.refl _ w5).alloc (Nat.le_refl _) _)).later ((Below.refl _ _).alloc (Nat.le_refl _) _)) ?round ?iter ?done ?stop
  case round =>
    rintro l j f V K ⟨hf, hP⟩ hj hK
    have HK := Lib.hid hK
    have hsz := hP.off.size
    clear hK
    unfold Fd.v Fd.cs
    gi_wp2_with fail
    refine HK.out _ V.heap.size _ ⟨⟨hf, hP.later ((Below.refl _ V).alloc (Nat.le_refl _) _)⟩, hsz, World.alloc_heap_new _ _⟩ ⟨by simp, fun q o _ ho _ => (Below.heap_alloc _ _ _ (Array.getElem?_eq_some_iff.1 ho).1).trans ho⟩ (KeT.of_below ((Below.refl _ V).alloc (Nat.le_refl _) _)) ?_
    clear HK hP
    rintro l V2 hl ⟨⟨_, hP⟩, hq, hc⟩
    obtain ⟨qb, hqb⟩ : ∃ qb, V.heap.size = qb := ⟨_, rfl⟩
    rw [hqb] at hq hc ⊢
    clear hqb
    obtain ⟨d0, d1, d2, d3, d4, d5, d6⟩ := fd_block hc
    have ok := KF.out f (List.mem_of_getElem? hf)
    have hst := fold_take hf prj M
    obtain ⟨Mj, hMj⟩ : ∃ Mj, (L.take j).foldl prj M = Mj := ⟨_, rfl⟩
    rw [hMj] at hP hst
    clear hf hMj
    have hv1 := row_cell ((hP.off.block _ (by omega) (by omega)).trans HV1.out) 0 _ rfl
    have HST := Lib.hid hst
    have hm := hP.m
    by_cases hsi : f.si ≤ 1
    · have hfin := Lib.hid (show KeepsFrom w5.heap.size V2 V2 ∧ _ from ⟨⟨Nat.le_refl _, fun _ _ _ ho _ => ho⟩, show PjB w3.heap.size w5 (.slice a3 np cp3) (.slice b3 nc cb3) (prj Mj f) V2 by rw [show prj Mj f = Mj from if_pos hsi]; exact hP⟩)
      clear hP hst hm ok hc
      gi_wp2
      exact ⟨hfin.out.1, by rw [HST.out]; exact hfin.out.2, KeT.refl _⟩
    · by_cases h6 : f.so = 6
      · have hp6 : prj Mj f = { Mj with tg := ⟨#[]⟩ } := by unfold prj; rw [if_neg hsi, if_pos h6]
        have hP2 := hP.set (M' := prj Mj f) 10 (.string ⟨#[]⟩) (by rw [hp6]; rfl)
        have hoff := (Off.refl (fun q => q = w3.heap.size) V2).setCell (p := ⟨w3.heap.size, 10, none⟩) rfl (.string ⟨#[]⟩)
        have HF := Lib.hid (And.intro (kf_one hoff (s := w5.heap.size) (by omega)) (And.intro hP2 (ket_one (tf := 75) (ti := 3) hoff (lo := (w3.heap.size + 1)) (by omega))))
        have c10 := (mg_block hm).2.2.2.2.2.2.2.2.2.2
        have z10 := frozen_of_row V2 w3.heap.size 10 _ _ hm
        rw [h6] at d1
        clear hP hst hm ok hc hP2 hoff hp6
        gi_wp2
        exact ⟨HF.out.1, by rw [HST.out]; exact HF.out.2.1, HF.out.2.2⟩
      · have hs6 : (f.so == 6) = false := by simpa using h6
        by_cases h3 : f.so < 3
        · obtain ⟨jn, hjn, hpl⟩ := ok.pl h3
          have hp6 : prj Mj f = Mj.put jn f.ab := by unfold prj; rw [if_neg hsi, if_neg h6, if_pos (by omega), hpl, Int.toNat_natCast]
          have hP2 := hP.set (M' := prj Mj f) (1 + jn) (.int .i64 f.ab) (by rw [hp6, mC_put hjn])
          have hoff := (Off.refl (fun q => q = w3.heap.size) V2).setCell (p := ⟨w3.heap.size, 1 + jn, none⟩) rfl (.int .i64 f.ab)
          have HF := Lib.hid (And.intro (kf_one hoff (s := w5.heap.size) (by omega)) (And.intro hP2 (ket_one (tf := 75) (ti := 3) hoff (lo := (w3.heap.size + 1)) (by omega))))
          have cn := mg_at hm hjn
          have zn := frozen_of_row V2 w3.heap.size (1 + jn) _ _ hm
          rw [hpl] at d2
          have hj6 : (jn : Int) < 6 := by omega
          clear hP hst hm ok hc hP2 hoff hp6 hpl h3
          gi_wp2
          exact ⟨HF.out.1, by rw [HST.out]; exact HF.out.2.1, HF.out.2.2⟩
        · have hno := ok.no h3
          have hp6 : prj Mj f = Mj := by unfold prj; rw [if_neg hsi, if_neg h6, if_neg (by omega)]
          have hfin := Lib.hid (show KeepsFrom w5.heap.size V2 V2 ∧ _ from ⟨⟨Nat.le_refl _, fun _ _ _ ho _ => ho⟩, show PjB w3.heap.size w5 (.slice a3 np cp3) (.slice b3 nc cb3) (prj Mj f) V2 by rw [hp6]; exact hP⟩)
          rw [hno] at d2
          clear hP hst hm ok hc hp6 hno h3
          gi_wp2
          exact ⟨hfin.out.1, by rw [HST.out]; exact hfin.out.2, KeT.refl _⟩
  case iter =>
    intro Bk X l V hBk hBlt hX hl hD hB hY
    have h := fall_in 8 (by omega) 7 l (w3.heap.size + 1) M.k 2 (fun j V => PjB w3.heap.size w5 (.slice a3 np cp3) (.slice b3 nc cb3) ((L.take j).foldl prj M) V ∧ Bk V) X
      (fun j A B h hb => ⟨h.1.later hb, hBk A _ h.2 hb.size (fun q h1 h2 => by have := hBlt A h.2; exact hb.block q (by omega))⟩)
      (fun j f W h hf => by
        rw [KA.out] at hf
        exact (hY j f W ⟨hf, h.1⟩ h.2 (List.getElem?_eq_some_iff.1 hf).1).mono (fun e W2 h => h.elim (fun h => .inl ⟨h.1, h.2.1, h.2.2.1⟩) (fun h => .inr ⟨h.1, h.2.1⟩)))
      V ((hD.off.block _ (by omega) (by omega)).trans hg0) ((hD.off.block _ (by omega) (by omega)).trans hg1) ⟨hD, hB⟩
    rw [KA.out] at h
    exact h
  case done =>
    rintro D V hD hP hK
    rw [List.take_length, HG.out] at hP
    have hGp : G.p = M.p := by rw [← HG.out, fold_prj_p]
    have hGc : G.c = M.c := by rw [← HG.out, fold_prj_c]
    obtain ⟨f0, f1, f2, f3, f4, f5, f6, f7, f8, f9, f10⟩ := mg_block hP.m
    have r2 := (hP.off.block (w.heap.size + 2) (by omega) (by omega)).trans HP2.out
    have HR2 := Lib.hid r2
    have hbV := HB5.out.trans (hP.off.below (B := w.heap.size) (fun k hk => by omega) (by have := HB5.out.size; omega))
    have hoV := HO5.out.off hP.off (fun g hg e => by have := (HLT.out.1 g hg).2; omega) (fun g hg e => by have := (HLT.out.2 g hg).2; omega)
    have HBV := Lib.hid hbV
    have HOV := Lib.hid hoV
    have HKD := Lib.hid hK
    have hD2 : D ≠ w.heap.size + 1 + 1 := by omega
    clear hP r2 hbV hoV hK
    have HST := Lib.hid (mg_store V (w.heap.size + 1 + 1) _ #[.int .i64 G.k, .int .i64 G.n0, .int .i64 G.n1, .int .i64 G.n2, .int .i64 G.n3, .int .i64 G.n4, .int .i64 G.n5, .slice a3 np cp3, .slice b3 nc cb3, .string G.tx, .string G.tg] HR2.out rfl rfl (by simp [Value.oneCell']))
    gi_wp2_with (refine wpListIn_store_run rfl 33 (.tmp 4) (.tmp 36) rfl (some ⟨w.heap.size + 1 + 1, 0, none⟩) rfl (.agg #[.int .i64 G.k, .int .i64 G.n0, .int .i64 G.n1, .int .i64 G.n2, .int .i64 G.n3, .int .i64 G.n4, .int .i64 G.n5, .slice a3 np cp3, .slice b3 nc cb3, .string G.tx, .string G.tg]) rfl HST.out ?_)
    have hfin := setRow_heap V (w.heap.size + 1 + 1) _ #[.int .i64 G.k, .int .i64 G.n0, .int .i64 G.n1, .int .i64 G.n2, .int .i64 G.n3, .int .i64 G.n4, .int .i64 G.n5, .slice a3 np cp3, .slice b3 nc cb3, .string G.tx, .string G.tg] _ _ HR2.out
    have hoff := Off.setRow (S := fun k => k = w.heap.size + 1 + 1) (Off.refl _ V) rfl #[.int .i64 G.k, .int .i64 G.n0, .int .i64 G.n1, .int .i64 G.n2, .int .i64 G.n3, .int .i64 G.n4, .int .i64 G.n5, .slice a3 np cp3, .slice b3 nc cb3, .string G.tx, .string G.tg]
    have hbf := HBV.out.trans (hoff.below (B := w.heap.size) (fun k hk => by omega) HBV.out.size)
    have hof := HOV.out.off hoff (fun g hg e => by have := (HLT.out.1 g hg).1; have := HSZ.out; omega) (fun g hg e => by have := (HLT.out.2 g hg).1; have := HSZ.out; omega)
    have HKf := (setRow_other V (w.heap.size + 1 + 1) D #[.int .i64 G.k, .int .i64 G.n0, .int .i64 G.n1, .int .i64 G.n2, .int .i64 G.n3, .int .i64 G.n4, .int .i64 G.n5, .slice a3 np cp3, .slice b3 nc cb3, .string G.tx, .string G.tg] hD2).trans HKD.out
    generalize V.setRow (w.heap.size + 1 + 1) _ = Wf at *
    simp only [Exit.noGoto]
    refine ⟨by simp, .inl ⟨_, _, rfl, run_takeDeferred HKf, ?_⟩⟩
    obtain ⟨y0, y1, y2, y3, y4, y5, y6, y7, y8, y9, y10⟩ := mg_block (W := Wf.putObj D (.deferred none)) ((World.putObj_heap_other (by omega)).trans hfin)
    refine ⟨.agg #[.int .i64 G.k, .int .i64 G.n0, .int .i64 G.n1, .int .i64 G.n2, .int .i64 G.n3, .int .i64 G.n4, .int .i64 G.n5, .slice a3 np cp3, .slice b3 nc cb3, .string G.tx, .string G.tg], by simp [results, Try.f27, go_sem, y0, y1, y2, y3, y4, y5, y6, y7, y8, y9, y10], _, _, rfl, ?_, hbf.trans (below_put _ _ (by omega))⟩
    refine MOwn.less (base := w2.heap.size) ?_ (by have := HSZ.out; omega)
    exact ⟨by rw [hGp]; exact ownsRow_putObj hof.p _ HKf rfl, by rw [hGc]; exact ownsRow_putObj hof.c _ HKf rfl⟩
  case stop => exact fun _ _ _ _ h => h.elim
end Go.Proofs.Ytlbfibnfmijahaa

namespace Go.Proofs.Ytlbfibnfmijahaa
open Go.RowKit Go.Shelf
set_option maxRecDepth 100000
attribute [local go_sem] Oper.semAt_some

/-- a message's box b2, its lists in rows of its own at base or above -/
structure NwB (b2 base : Nat) (w4 : World) (M : Mg) (V : World) : Prop where
  m : ∃ P C, V.heap[b2]? = some (.cells (mC M P C) 33 (0, 0)) ∧ MOwn base V M P C
  off : Off (fun q => q = b2) w4 V
section
variable {b2 base : Nat} {w4 V V' : World} {M M' : Mg}
theorem NwB.later (h : NwB b2 base w4 M V) (hb : Below V.heap.size V V') : NwB b2 base w4 M V' := by
  obtain ⟨P, C, h1, h2⟩ := h.m
  exact ⟨⟨P, C, (hb.block _ (Array.getElem?_eq_some_iff.1 h1).1).trans h1, h2.later hb⟩, off_below h.off (hb.mono h.off.size)⟩
theorem NwB.putObj {l : Nat} {o o' : Obj} (h : NwB b2 base w4 M V) (hw : w4.heap.size ≤ l) (hb2 : b2 < w4.heap.size) (ho : V.heap[l]? = some o) (hc : o.isCells = false) : NwB b2 base w4 M (V.putObj l o') := by
  obtain ⟨P, C, h1, h2⟩ := h.m
  exact ⟨⟨P, C, (World.putObj_heap_other (by omega)).trans h1, ⟨ownsRow_putObj h2.p _ ho hc, ownsRow_putObj h2.c _ ho hc⟩⟩, off_below h.off (below_put V o' hw)⟩
/-- a cell of the message turned -/
theorem NwB.set (h : NwB b2 base w4 M V) (hb : b2 < base) (j : Nat) (u : Value) (hM : ∀ P C, MOwn base V M P C → ∃ P' C', (mC M P C).setIfInBounds j u = mC M' P' C' ∧ MOwn base V M' P' C') : NwB b2 base w4 M' (V.setCell ⟨b2, j, none⟩ u) := by
  obtain ⟨P, C, h1, h2⟩ := h.m
  obtain ⟨P', C', h3, h4⟩ := hM P C h2
  refine ⟨⟨P', C', by rw [setCell_at h1, h3], ⟨ownsRow_setCell_below h4.p (a := ⟨b2, j, none⟩) hb _, ownsRow_setCell_below h4.c (a := ⟨b2, j, none⟩) hb _⟩⟩, h.off.setCell (p := ⟨b2, j, none⟩) rfl _⟩
end
end Go.Proofs.Ytlbfibnfmijahaa

namespace Go.Proofs.Ytlbfibnfmijahaa
open Go.RowKit Go.Shelf
set_option maxRecDepth 100000
attribute [local go_sem] Oper.semAt_some

end Go.Proofs.Ytlbfibnfmijahaa

namespace Go.Proofs.Ytlbfibnfmijahaa
open Go.RowKit Go.Shelf
set_option maxRecDepth 100000
attribute [local go_sem] Oper.semAt_some

end Go.Proofs.Ytlbfibnfmijahaa

namespace Go.Proofs.Ytlbfibnfmijahaa
open Go.RowKit Go.Shelf
set_option maxRecDepth 100000
attribute [local go_sem] Oper.semAt_some

end Go.Proofs.Ytlbfibnfmijahaa

namespace Go.Proofs.Ytlbfibnfmijahaa
open Go.RowKit Go.Shelf
set_option maxRecDepth 100000
attribute [local go_sem] Oper.semAt_some

end Go.Proofs.Ytlbfibnfmijahaa

namespace Go.Proofs.Ytlbfibnfmijahaa
open Go.RowKit Go.Shelf
set_option maxRecDepth 100000
attribute [local go_sem] Oper.semAt_some

section
variable {b2 base : Nat} {w4 V V' : World} {M M' : Mg}
end
end Go.Proofs.Ytlbfibnfmijahaa

namespace Go.Proofs.Ytlbfibnfmijahaa
open Go.RowKit
section
variable {P : Program} {l : List Oper} {I : World → Prop} {fs : List Tmp} {FS : Tmp → Value → World → Prop} {E : Act → Prop} {o : Oper} {rest : List Oper} {a : Act}
end
end Go.Proofs.Ytlbfibnfmijahaa

namespace Go.Proofs.Ytlbfibnfmijahaa
open Go.RowKit Go.Shelf
set_option maxRecDepth 100000
attribute [local go_sem] Oper.semAt_some

theorem prj_small {M : Mg} (h : Msm M) (f : Fd) : Msm (prj M f) := by
  refine ⟨by rw [prj_p]; exact h.p, by rw [prj_c]; exact h.c, ?_, ?_⟩
  · unfold prj
    repeat' split
    · exact h.tx
    · exact h.tx
    · rw [Mg.put_tx]; exact h.tx
    · exact h.tx
  · unfold prj
    repeat' split
    · exact h.tg
    · exact Nat.zero_le _
    · rw [Mg.put_tg]; exact h.tg
    · exact h.tg
theorem fold_prj_small : ∀ (L : List Fd) {M : Mg}, Msm M → Msm (L.foldl prj M)
  | [], _, h => h
  | f :: r, _, h => by rw [List.foldl_cons]; exact fold_prj_small r (prj_small h f)
theorem mproj_small {M : Mg} (h : Msm M) (v : Int) : Msm (mproj M v) := by
  unfold mproj
  split
  · exact fold_prj_small _ h
  · exact h
/-- a message that a call has made -/
def FMs (M : Mg) (x : Value) (W : World) : Prop := ∃ P C, x = mV M P C ∧ MAt W W.heap.size M P C
theorem FMs.later {M : Mg} {x : Value} {W W' : World} (h : FMs M x W) (hb : Below W.heap.size W W') : FMs M x W' := by
  obtain ⟨P, C, h1, h2⟩ := h
  exact ⟨P, C, h1, h2.later hb⟩
section
variable {M M' : Mg} {x y : Value} {W : World}
theorem chk_F (hs : Msm M) (h : FMs M x W) : Calls Try.prog 22 #[x] W fun e w' => e = .returned (.int .i64 (mck M)) ∧ Below W.heap.size W w' := by
  obtain ⟨P, C, rfl, h1⟩ := h
  exact mcheck_any M P C W hs h1
theorem proj_F (v : Int) (hs : Msm M) (h : FMs M x W) : Calls Try.prog 27 #[x, .int .i64 v] W fun e w' => ∃ u, e = .returned u ∧ FMs (mproj M v) u w' ∧ Below W.heap.size W w' := by
  obtain ⟨P, C, rfl, h1⟩ := h
  refine (mproject_any M P C v W hs h1).mono fun e w' h => ?_
  obtain ⟨P, C, rfl, ho, hb⟩ := h
  exact ⟨_, rfl, ⟨P, C, rfl, ho.at⟩, hb⟩
theorem same_F (hs : Msm M) (h : FMs M x W) (h' : FMs M' y W) : Calls Try.prog 11 #[x, y] W fun e w' => e = .returned (.bool (decide (M = M'))) ∧ Below W.heap.size W w' := by
  obtain ⟨P, C, rfl, h1⟩ := h
  obtain ⟨P', C', rfl, h2⟩ := h'
  exact msame_any M M' P C P' C' W hs h1 h2
theorem copy_F (hs : Msm M) (h : FMs M x W) : Calls Try.prog 26 #[x] W fun e w' => ∃ u, e = .returned u ∧ FMs M u w' ∧ Below W.heap.size W w' := by
  obtain ⟨P, C, rfl, h1⟩ := h
  refine (mcopy_any M P C W hs h1).mono fun e w' h => ?_
  obtain ⟨P, C, rfl, ho, hb⟩ := h
  exact ⟨_, rfl, ⟨P, C, rfl, ho.at⟩, hb⟩
end
/-- a message's box, read -/
theorem mg_read {W : World} {b : Nat} {M : Mg} {P C : Value} {t : TypeId} (h : W.heap[b]? = some (.cells (mC M P C) t (0, 0))) :
    (Instr.loadAt 33 (.pointer (some ⟨b, 0, none⟩))).run Try.prog W = .ok (mV M P C) W := by
  obtain ⟨f0, f1, f2, f3, f4, f5, f6, f7, f8, f9, f10⟩ := mg_block h
  simp [Instr.loadAt, go_sem, f0, f1, f2, f3, f4, f5, f6, f7, f8, f9, f10, mV, mC]
end Go.Proofs.Ytlbfibnfmijahaa

namespace Go.Proofs.Ytlbfibnfmijahaa
open Go.RowKit Go.Shelf
set_option maxRecDepth 100000
attribute [local go_sem] Oper.semAt_some

/-- what Encode answers -/
def EncR (w : World) (r : List Int × Int) (e : Ending) (w' : World) : Prop := ∃ x, e = .returned (.tuple #[x, .int .i64 r.2]) ∧ Made w w' r.1 x
end Go.Proofs.Ytlbfibnfmijahaa

namespace Go.Proofs.Ytlbfibnfmijahaa
open Go.RowKit Go.Shelf
set_option maxRecDepth 100000
attribute [local go_sem] Oper.semAt_some

theorem bknown_any (v : Int) (w : World) : Calls Try.prog 35 #[.int .i64 v] w fun e w' => e = .returned (.bool (decide (v = 1 ∨ v = 2))) ∧ w = w' := by
  by_cases h1 : v = 1
  · rw [decide_eq_true (.inl h1)]
    subst h1
    go_enter Try.func35, Try.ntmps35
    go_wp2
    go_ret
    exact ⟨rfl, rfl⟩
  · have e1 : (v == 1) = false := by simpa using h1
    by_cases h2 : v = 2
    · rw [decide_eq_true (.inr h2)]
      subst h2
      go_enter Try.func35, Try.ntmps35
      go_wp2
      go_ret
      exact ⟨rfl, rfl⟩
    · rw [decide_eq_false (by omega)]
      have e2 : (v == 2) = false := by simpa using h2
      go_enter Try.func35, Try.ntmps35
      go_wp2
      go_ret
      exact ⟨rfl, rfl⟩
/-- why a message has no body in a version -/
def bwr (M : Mg) (v : Int) : Int := if v ≠ 1 ∧ v ≠ 2 then 10 else mck M
theorem bwrong_any (M : Mg) (P C : Value) (v : Int) (w : World) (hs : Msm M) (h1 : MAt w w.heap.size M P C) : Calls Try.prog 31 #[mV M P C, .int .i64 v] w fun e w' => e = .returned (.int .i64 (bwr M v)) ∧ Below w.heap.size w w' := by
  obtain ⟨w2, hw2⟩ : ∃ w2, w.alloc (.cells (mC M P C) 33) = w2 := ⟨_, rfl⟩
  have hb2 : Below w.heap.size w w2 := by rw [← hw2]; exact (Below.refl _ w).alloc (Nat.le_refl _) _
  have q0 : w2.heap[w.heap.size]? = some (.cells (mC M P C) 33 (0, 0)) := by rw [← hw2]; exact World.alloc_heap_new _ _
  have KC := mcheck_any M P C w2 hs (h1.later hb2)
  have KK := Lib.hid (bknown_any v w2)
  have HLD := Lib.hid (mg_read q0)
  have HW2 := Lib.hid hw2
  have HB2 := Lib.hid hb2
  have hlt := Nat.le_of_lt (Array.getElem?_eq_some_iff.1 q0).1
  unfold bwr
  unfold mV at KC HLD ⊢
  have KC := Lib.hid KC
  clear hw2 hb2 q0 h1
  by_cases hv : v = 1 ∨ v = 2
  · rw [decide_eq_true hv] at KK
    rw [if_neg (by omega)]
    go_enter Try.func31, Try.ntmps31
    go_wp2_with fail
    rw [HW2.out]
    refine KK.out.mono ?_
    rintro e w3 ⟨rfl, rfl⟩
    go_wp2_with (refine wpList_load_run rfl 33 (.tmp 2) rfl (some ⟨w.heap.size, 0, none⟩) rfl (.agg (mC M P C)) HLD.out ?_)
    refine KC.out.mono ?_
    rintro e w3 ⟨rfl, hb3⟩
    have HB3 := Lib.hid (HB2.out.trans (hb3.mono hlt))
    clear hb3
    go_wp2
    go_ret
    exact ⟨rfl, HB3.out⟩
  · rw [decide_eq_false hv] at KK
    rw [if_pos (by omega)]
    go_enter Try.func31, Try.ntmps31
    go_wp2_with fail
    rw [HW2.out]
    refine KK.out.mono ?_
    rintro e w3 ⟨rfl, rfl⟩
    go_wp2
    go_ret
    exact ⟨rfl, HB2.out⟩
theorem PenV.putObj {w4 V : World} {b g0 l : Nat} {L : List Int} {o o' : Obj} (h : PenV w4 b g0 L V) (hl : w4.heap.size ≤ l) (ho : V.heap[l]? = some o) (hc : o.isCells = false) : PenV w4 b g0 L (V.putObj l o') := by
  obtain ⟨g, hp, hg, hof, hk⟩ := h
  have hoff : Off (fun k => k = l) V (V.putObj l o') := ⟨rfl, rfl, rfl, by simp [World.putObj], fun k _ hn => World.putObj_heap_other hn⟩
  have hn : ¬ penS b g l := by
    obtain ⟨A, cap, cur, hb, hkr, -, -, hA⟩ := hp
    rintro (rfl | rfl)
    · rw [hb] at ho
      injection ho with ho
      subst ho
      cases hc
    · rcases hA with ⟨-, rfl⟩ | ⟨rfl, -⟩
      · rw [hb] at ho
        injection ho with ho
        subst ho
        cases hc
      · rw [(hkr.cells rfl).2] at ho
        injection ho with ho
        subst ho
        cases hc
  refine ⟨g, hp.off hoff (fun e => hn (.inl e.symm)) (fun e => hn (.inr e.symm)), hg, hof.trans hoff (fun k hk e => by omega), ⟨Nat.le_trans hk.size hoff.size, fun k cs t h3 h4 h5 => ?_⟩⟩
  have h6 := hk.same k cs t h3 h4 h5
  rw [← h6]
  exact hoff.block k (Array.getElem?_eq_some_iff.1 (h6.trans h5)).1 (by have := (Array.getElem?_eq_some_iff.1 h5).1; omega)
theorem PenK.ket {W W' : World} (h : PenK W W') (lo : Nat) : KeT 75 3 lo W W' := ⟨h.size, fun q cs t _ ht hq => h.same q cs t (by rcases ht with rfl | rfl <;> decide) (by rcases ht with rfl | rfl <;> decide) hq⟩
theorem PenAt.kf {V V' : World} {b g s : Nat} {room : Int} {L : List Int} {full : Bool} (h : PenAt V b g room L full) (ho : Off (penS b g) V V') : KeepsFrom s V V' := ⟨ho.size, fun q o _ hq hc => (ho.block q (Array.getElem?_eq_some_iff.1 hq).1 (by
  obtain ⟨A, cap, cur, hb, hkr, -, -, hA⟩ := h
  rintro (rfl | rfl)
  · rw [hb] at hq
    injection hq with hq
    subst hq
    cases hc
  · rcases hA with ⟨-, rfl⟩ | ⟨rfl, -⟩
    · rw [hb] at hq
      injection hq with hq
      subst hq
      cases hc
    · rw [(hkr.cells rfl).2] at hq
      injection hq with hq
      subst hq
      cases hc)).trans hq⟩
theorem PenV.join {w4 V V' : World} {b g g0 : Nat} {L' : List Int} (hg : g = g0 ∨ w4.heap.size ≤ g) (ho : Off (penS b g0) w4 V) (hk : PenK w4 V) (hw : PenV V b g L' V') : PenV w4 b g0 L' V' := by
  obtain ⟨g', h1, h2, h3, h4⟩ := hw
  have := ho.size
  refine ⟨g', h1, by omega, ho.trans h3 ?_, hk.trans h4⟩
  rintro j hj (rfl | rfl)
  · exact .inl rfl
  · rcases hg with rfl | hg
    · exact .inr rfl
    · omega
theorem PenV.row {w4 V : World} {b g0 q : Nat} {L : List Int} {cs : Array Value} (h : PenV w4 b g0 L V) (hq : w4.heap[q]? = some (.cells cs 3 (0, 0))) : V.heap[q]? = some (.cells cs 3 (0, 0)) := by
  obtain ⟨g, -, -, -, hk⟩ := h
  exact hk.row hq (by decide) (by decide)
theorem part_take {M : Mg} {L : List Fd} {j : Nat} {f : Fd} (hf : L[j]? = some f) : ((L.take (j + 1)).map (mpart M)).flatten = ((L.take j).map (mpart M)).flatten ++ mpart M f := by
  rw [List.take_add_one, hf]
  simp
theorem parts_sub (M : Mg) : ∀ (l : List Fd) (j : Nat), (((l.take j).map (mpart M)).flatten).length ≤ ((l.map (mpart M)).flatten).length
  | [], _ => by simp
  | f :: r, 0 => by simp
  | f :: r, j + 1 => by
    have ih := parts_sub M r j
    rw [List.take_succ_cons, List.map_cons, List.flatten_cons, List.map_cons, List.flatten_cons, List.length_append, List.length_append]
    omega
set_option maxHeartbeats 16000000 in
theorem bencode_any (M : Mg) (P C : Value) (v : Int) (w : World) (hs : Msm M) (h1 : MAt w w.heap.size M P C) : Calls Try.prog 17 #[mV M P C, .int .i64 v] w fun e w' => EncR w (benc M v) e w' := by
  obtain ⟨w2, hw2⟩ : ∃ w2, w.alloc (.cells (mC M P C) 33) = w2 := ⟨_, rfl⟩
  have hb2 : Below w.heap.size w w2 := by rw [← hw2]; exact (Below.refl _ w).alloc (Nat.le_refl _) _
  have q0 : w2.heap[w.heap.size]? = some (.cells (mC M P C) 33 (0, 0)) := by rw [← hw2]; exact World.alloc_heap_new _ _
  have KC := bwrong_any M P C v w2 hs (h1.later hb2)
  have HLD := Lib.hid (mg_read q0)
  have HW2 := Lib.hid hw2
  have hlt := Nat.le_of_lt (Array.getElem?_eq_some_iff.1 q0).1
  unfold mV at KC HLD ⊢
  have KC := Lib.hid KC
  by_cases hE : bwr M v = 0
  · have hv : v = 1 ∨ v = 2 := by
      unfold bwr at hE
      by_cases h : v ≠ 1 ∧ v ≠ 2
      · rw [if_pos h] at hE; omega
      · omega
    have hmk : mck M = 0 := by
      unfold bwr at hE
      rwa [if_neg (by omega)] at hE
    have hr : benc M v = (body M v, 0) := by unfold benc; rw [if_neg (by omega), hmk, if_neg (by simp)]
    rw [hr]
    rw [hE] at KC
    have hbl := body_len hv hmk
    have HFE := Lib.hid (show ∀ f ∈ FDv M.k v, FdX f ∧ fE M f = 0 from fun f hf => ⟨FD_fdx M.k f (FDv_sub hf), ((mck_zero M).1 hmk).2.1 f (FDv_sub hf)⟩)
    have HM := Lib.hid h1
    have HB2 := Lib.hid hb2
    have HQ0 := Lib.hid q0
    have HBD : Hid (body M v = ((FDv M.k v).map (mpart M)).flatten) := Lib.hid rfl
    obtain ⟨Bd, hBd⟩ : ∃ Bd, body M v = Bd := ⟨_, rfl⟩
    rw [hBd] at HBD hbl ⊢
    obtain ⟨FL, hFL⟩ : ∃ FL, FDv M.k v = FL := ⟨_, rfl⟩
    rw [hFL] at HFE HBD
    have HFL := Lib.hid hFL
    clear hw2 hb2 q0 h1 hE hr hmk hFL hBd
    refine (callsIn_wide (n := 9)).1 ?_
    refine callsIn_of_wp_marks Try.func17 rfl trivial ?_ rfl
    simp only [Try.ntmps17, List.size_toArray, List.length_cons, List.length_nil, Nat.reduceAdd, Nat.reduceSub, Array.replicate_succ, Array.replicate_zero, List.push_toArray, List.append_toArray, List.nil_append, List.cons_append]
    gi_wp2_with (rw [HW2.out]; refine wpListIn_load_run rfl 33 (.tmp 2) rfl (some ⟨w.heap.size, 0, none⟩) rfl (.agg (mC M P C)) HLD.out ?_)
    refine ⟨trivial, (callsIn_wide.2 KC.out).mono ?_⟩
    rintro e w3 ⟨rfl, hb3⟩
    have hs3 := hb3.size
    have HB3 := Lib.hid hb3
    clear KC hb3
    gi_wp2_with fail
    refine ⟨trivial, (callsIn_wide.2 (new_any 192 w3 (by omega) (by omega))).mono ?_⟩
    rintro e w4 ⟨rfl, hp4, hb4⟩
    rw [show max (192 : Int) 0 = 192 from rfl] at hp4
    obtain ⟨b, hb⟩ : ∃ b, w3.heap.size = b := ⟨_, rfl⟩
    have hs4 := hb4.size
    have hlt0 := (Array.getElem?_eq_some_iff.1 HQ0.out).1
    have q4 := (hb4.block _ (by omega)).trans ((HB3.out.block _ hlt0).trans HQ0.out)
    rw [hb] at hs4 hs3 hp4 hb4 ⊢
    have hbl4 := hp4.lt
    have c0 := row_cell q4 0 (.int .i64 M.k) rfl
    have hlt4 := (Array.getElem?_eq_some_iff.1 q4).1
    obtain ⟨w5, hw5⟩ : ∃ w5, w4.alloc (.cells #[.pointer (some ⟨b, 0, none⟩)] 78) = w5 := ⟨_, rfl⟩
    have hb5 : Below w4.heap.size w4 w5 := by rw [← hw5]; exact (Below.refl _ w4).alloc (Nat.le_refl _) _
    have r5 : w5.heap[w4.heap.size]? = some (.cells #[.pointer (some ⟨b, 0, none⟩)] 78 (0, 0)) := by rw [← hw5]; exact World.alloc_heap_new _ _
    have hs5 : w4.heap.size < w5.heap.size := by rw [← hw5]; simp
    have HW5 := Lib.hid hw5
    have HP5 := Lib.hid (hp4.below hb5)
    have HQ5 := Lib.hid ((hb5.block _ hlt4).trans q4)
    have HR5 := Lib.hid r5
    have HB05 := Lib.hid (HB2.out.trans ((HB3.out.trans ((hb4.mono (by omega)).trans (hb5.mono (by omega)))).mono hlt))
    clear hw5 hb5 r5 hp4 hb4 q4 hb HB3
    gi_wp2_with fail
    rw [HW5.out]
    refine ⟨trivial, (callsIn_wide.2 (fall_any M.k v w5)).mono ?_⟩
    rintro e w6 ⟨rfl, hg0, hg1, hb6⟩
    have hs6 := (Array.getElem?_eq_some_iff.1 hg1).1
    have hC6 : PenV w6 b b [] w6 := PenV.start (HP5.out.below hb6)
    have m6 := (hb6.block _ (Array.getElem?_eq_some_iff.1 HQ5.out).1).trans HQ5.out
    have r6 := (hb6.block _ (Array.getElem?_eq_some_iff.1 HR5.out).1).trans HR5.out
    have hb06 := HB05.out.trans (hb6.mono (by omega))
    have HM6 := Lib.hid m6
    have HR6 := Lib.hid r6
    have HB06 := Lib.hid hb06
    clear hb6 m6 r6 hb06 c0 HP5 HQ5 HR5 HW5
    gi_wp2_with fail
    refine range_stopb rfl (by omega) (gf := 44) (lb := #[.pointer (some ⟨w5.heap.size, 0, none⟩), .pointer (some ⟨w5.heap.size + 1, 0, none⟩)]) rfl trivial (enters_of Try.func44 (by kernel_rfl) rfl)
      (fun f : Fd => #[f.v]) (fun _ => rfl)
      (fun j f V => FL[j]? = some f ∧ PenV w6 b b ((FL.take j).map (mpart M)).flatten V)
      (fun j f q V => (FL[j]? = some f ∧ PenV w6 b b ((FL.take j).map (mpart M)).flatten V) ∧ w6.heap.size ≤ q ∧ V.heap[q]? = some (.cells f.cs 75 (0, 0)))
      (fun j V => PenV w6 b b ((FL.take j).map (mpart M)).flatten V)
      (fun _ _ => False)
      (KeT 75 3 w5.heap.size) FL.length
      (fun j f q V l o o' h hl ho hc' => ⟨⟨h.1.1, h.1.2.putObj hl ho hc'⟩, h.2.1, (World.putObj_heap_other (fun e => by subst e; rw [h.2.2] at ho; injection ho with ho; subst ho; cases hc')).trans h.2.2⟩)
      (fun j V l o o' h hl ho hc' => h.putObj hl ho hc')
      (fun cd V l o o' h hl ho hc' => h)
      (fun _ _ _ h k => h.trans k) (fun V l o o' hl ho hc' => KeT.putObj ho hc')
      (fun o => by rw [List.take_zero]; exact (hC6.later ((Below.refl _ w6).alloc (Nat.le_refl _) _)).later ((Below.refl _ _).alloc (Nat.le_refl _) _)) ?round ?iter ?done ?stop
    case round =>
      rintro l j f V K ⟨hf, hC⟩ hj hK
      have HK := Lib.hid hK
      have hsz := hC.size
      clear hK
      unfold Fd.v Fd.cs
      gi_wp2_with fail
      refine HK.out _ V.heap.size _ ⟨⟨hf, hC.later ((Below.refl _ V).alloc (Nat.le_refl _) _)⟩, hsz, World.alloc_heap_new _ _⟩ ⟨by simp, fun q o _ ho _ => (Below.heap_alloc _ _ _ (Array.getElem?_eq_some_iff.1 ho).1).trans ho⟩ (KeT.of_below ((Below.refl _ V).alloc (Nat.le_refl _) _)) ?_
      clear HK hC
      rintro l V2 hl ⟨⟨_, hC⟩, hq, hc⟩
      obtain ⟨qb, hqb⟩ : ∃ qb, V.heap.size = qb := ⟨_, rfl⟩
      rw [hqb] at hq hc ⊢
      clear hqb
      obtain ⟨g, hp, hg, hof, hk⟩ := hC
      obtain ⟨hfx, hfe⟩ := HFE.out f (List.mem_of_getElem? hf)
      have htk := part_take (M := M) hf
      have hsb := parts_sub M FL (j + 1)
      rw [← HBD.out, htk, List.length_append] at hsb
      have m7 := hk.row HM6.out (by decide) (by decide)
      have r7 := row_cell (hk.row HR6.out (by decide) (by decide)) 0 _ rfl
      have LM := Lib.hid (mg_read m7)
      have LF : Hid ((Instr.loadAt 75 (.pointer (some ⟨qb, 0, none⟩))).run Try.prog V2 = .ok f.v V2) := by
        obtain ⟨t0, t1, t2, t3, t4, t5, t6⟩ := fd_block hc
        exact Lib.hid (by simp [Instr.loadAt, go_sem, t0, t1, t2, t3, t4, t5, t6, Fd.v, Fd.cs])
      have hbv : Below w.heap.size w6 V2 := hof.below (fun k hk => by rcases hk with rfl | rfl <;> omega) (by omega)
      have KW := bwrite_any M f P C b g w.heap.size _ V2 hp (HM.out.below (HB06.out.trans hbv)) (by omega) (by omega) hfx hfe (by omega)
      rw [← htk] at KW
      unfold mV at KW LM
      have KW := Lib.hid KW
      have HP := Lib.hid hp
      have HG := Lib.hid hg
      have HOF := Lib.hid hof
      have HKK := Lib.hid hk
      have HHC := Lib.hid hc
      clear hp hg hof hk m7 hbv htk hsb hc hfx hfe hf
      gi_wp2_with (first | refine wpListIn_load_run rfl 33 (.tmp 2) rfl (some ⟨w.heap.size, 0, none⟩) rfl (.agg (mC M P C)) LM.out ?_ | refine wpListIn_load_run rfl 75 (.tmp 8) rfl (some ⟨qb, 0, none⟩) rfl f.v LF.out ?_)
      refine ⟨trivial, ((callsIn_wide.2 KW.out).inRound l).mono ?_⟩
      rintro e V3 ⟨⟨x, rfl⟩, hv3⟩
      have hj2 := hv3.join HG.out HOF.out HKK.out
      obtain ⟨g', -, -, hof3, hk3⟩ := hv3
      have HKF := Lib.hid (HP.out.kf (s := w6.heap.size) hof3)
      have HKE := Lib.hid (hk3.ket w5.heap.size)
      have HJ := Lib.hid hj2
      clear hof3 hk3 hj2 r7 KW
      gi_wp2
      exact ⟨HKF.out, HJ.out, HKE.out⟩
    case iter =>
      intro Bk X l V hBk hBlt hX hl hD hB hY
      have h := fall_in 8 (by omega) 7 l w5.heap.size M.k v (fun j V => PenV w6 b b ((FL.take j).map (mpart M)).flatten V ∧ Bk V) X
        (fun j A B h hb => ⟨h.1.later hb, hBk A _ h.2 hb.size (fun q h1 h2 => by have := hBlt A h.2; exact hb.block q (by omega))⟩)
        (fun j f W h hf => by
          rw [HFL.out] at hf
          exact (hY j f W ⟨hf, h.1⟩ h.2 (List.getElem?_eq_some_iff.1 hf).1).mono (fun e W2 h => h.elim (fun h => .inl ⟨h.1, h.2.1, h.2.2.1⟩) (fun h => .inr ⟨h.1, h.2.1⟩)))
        V (hD.row hg0) (hD.row hg1) ⟨hD, hB⟩
      rw [HFL.out] at h
      exact h
    case done =>
      rintro D V hD hC hK
      rw [List.take_length, ← HBD.out] at hC
      obtain ⟨g, hp, -, hof, hk⟩ := hC
      have r7 := row_cell (hk.row HR6.out (by decide) (by decide)) 0 _ rfl
      have KB := Lib.hid (Bytes_any b g 192 Bd false V hp (by omega))
      have HB0 := Lib.hid (HB06.out.trans (hof.below (B := w.heap.size) (fun k hk => by rcases hk with rfl | rfl <;> omega) (by omega)))
      have HKD := Lib.hid hK
      have hDlt := (Array.getElem?_eq_some_iff.1 hK).1
      clear hp hof hk hK
      gi_wp2_with fail
      refine ⟨trivial, (callsIn_wide.2 KB.out).mono ?_⟩
      rintro e V2 ⟨x, rfl, hm⟩
      have HK2 := Lib.hid ((hm.2.block _ hDlt).trans HKD.out)
      have HM2 : Hid (Made w (V2.putObj D (.deferred none)) Bd x) := Lib.hid ⟨own_offM (S := fun k => k = D) (hm.since HB0.out).1 ⟨rfl, rfl, rfl, by simp [World.putObj], fun k _ hn => World.putObj_heap_other hn⟩ (fun g hg e => by have := (hm.1.lt g hg).1; omega), ((hm.since HB0.out).2).trans (below_put _ _ (by omega))⟩
      clear hm KB HB0 HKD
      gi_wp2
      refine ⟨by simp, .inl ⟨_, _, rfl, run_takeDeferred HK2.out, ?_⟩⟩
      refine ⟨_, ?_, x, rfl, HM2.out⟩
      simp [results, Try.f17, go_sem]
    case stop =>
      rintro D cd V hD h hK
      exact h.elim
  · have hr : benc M v = ([], bwr M v) := by
      unfold benc bwr at *
      by_cases h : v ≠ 1 ∧ v ≠ 2
      · rw [if_pos h, if_pos h]
      · rw [if_neg h] at hE ⊢
        rw [if_neg h, if_pos hE]
    rw [hr]
    obtain ⟨E, hEE⟩ : ∃ E, bwr M v = E := ⟨_, rfl⟩
    rw [hEE] at KC hE ⊢
    have e3 : (E != 0) = true := by simpa using hE
    have HB2 := Lib.hid hb2
    clear hw2 hb2 q0 h1 hEE hr
    go_enter Try.func17, Try.ntmps17
    go_wp2_with (rw [HW2.out]; refine wpList_load_run rfl 33 (.tmp 2) rfl (some ⟨w.heap.size, 0, none⟩) rfl (.agg (mC M P C)) HLD.out ?_)
    refine KC.out.mono ?_
    rintro e w3 ⟨rfl, hb3⟩
    have HB3 := Lib.hid (HB2.out.trans (hb3.mono hlt))
    clear hb3 KC
    go_wp2
    go_ret2
    exact ⟨_, rfl, World.ownsRow_nil _ _ _ _, HB3.out⟩
end Go.Proofs.Ytlbfibnfmijahaa

namespace Go.Proofs.Ytlbfibnfmijahaa
open Go.RowKit
set_option maxRecDepth 100000

/-- what Get answers -/
def GetR (r : Nat × Nat × Nat) (e : Ending) : Prop := e = .returned (.tuple #[.int .u64 r.1, .int .i64 r.2.1, .int .i64 r.2.2])
theorem GetR.of {r : Nat × Nat × Nat} {a b c : Int} (ha : a = r.1) (hb : b = r.2.1) (hc : c = r.2.2) : GetR r (.returned (.tuple #[.int .u64 a, .int .i64 b, .int .i64 c])) := by
  subst ha hb hc; rfl

theorem split_at {zs p r : List Int} {k : Nat} {c : Int} (hs : zs = p ++ r) (hp : p.length = k) (hc : zs[k]? = some c) : ∃ r', r = c :: r' ∧ zs = (p ++ [c]) ++ r' := by
  subst hs hp
  rw [List.getElem?_append_right (Nat.le_refl _), Nat.sub_self] at hc
  cases r with
  | nil => simp at hc
  | cons d r => simp at hc; subst hc; exact ⟨r, rfl, by simp⟩

/-- the bytes p have come, all of them high -/
def Come (zs : List Int) (k : Nat) (X : Int) : Prop := ∃ p r, zs = p ++ r ∧ p.length = k ∧ (∀ c ∈ p, 128 ≤ c) ∧ X = Vi.val p
theorem come_nil (zs : List Int) : Come zs 0 0 := ⟨[], zs, rfl, rfl, by simp, rfl⟩
theorem come_more {zs : List Int} {k : Nat} {X c : Int} (hz : ∀ c ∈ zs, 0 ≤ c ∧ c ≤ 255) (h : Come zs k X) (hk : k ≤ 8) (hc : zs[k]? = some c) (h1 : 128 ≤ c) : Come zs (k + 1) (bits .or .u64 X (IntKind.u64.wrap (c % 128 * 2 ^ (7 * k)))) := by
  obtain ⟨p, r, hs, hp, ha, rfl⟩ := h
  obtain ⟨r', rfl, hs'⟩ := split_at hs hp hc
  have hv := Vi.val_lt p
  have hcb := hz c (by rw [hs]; simp)
  refine ⟨p ++ [c], r', hs', by simp [hp], ?_, ?_⟩
  · intro d hd
    simp only [List.mem_append, List.mem_singleton] at hd
    rcases hd with hd | rfl
    · exact ha d hd
    · exact h1
  · have hj := Vi.or_join (Vi.val p) (c.toNat % 128) k (by rw [← hp]; exact hv) (by omega) (by omega) (by omega)
    rw [show ((c.toNat % 128 : Nat) : Int) = c % 128 by omega] at hj
    rw [hj, Vi.val_append, hp]
    simp [Vi.val]
/-- the last byte -/
theorem come_last {zs : List Int} {k : Nat} {X c : Int} (hz : ∀ c ∈ zs, 0 ≤ c ∧ c ≤ 255) (h : Come zs k X) (hk : k ≤ 9) (hc : zs[k]? = some c) (h1 : c < 128) (h9 : k = 9 → c ≤ 1) (h0 : k = 0 ∨ c ≠ 0) :
    ((Vi.get zs).1 : Int) = bits .or .u64 X (IntKind.u64.wrap (c % 128 * 2 ^ (7 * k))) ∧ (Vi.get zs).2.1 = k + 1 ∧ (Vi.get zs).2.2 = 0 := by
  obtain ⟨p, r, hs, hp, ha, rfl⟩ := h
  obtain ⟨r', rfl, hs'⟩ := split_at hs hp hc
  have hv := Vi.val_lt p
  have hcb := hz c (by rw [hs]; simp)
  have hj := Vi.or_join (Vi.val p) (c.toNat % 128) k (by rw [← hp]; exact hv) hk (by omega) (by omega)
  rw [show ((c.toNat % 128 : Nat) : Int) = c % 128 by omega] at hj
  have hva : Vi.val (p ++ [c]) = Vi.val p + 128 ^ k * (c.toNat % 128) := by rw [Vi.val_append, hp]; simp [Vi.val]
  have hlt : Vi.val (p ++ [c]) < 18446744073709551616 := by
    by_cases h : k = 9
    · have := h9 h
      subst h
      rw [hp] at hv
      rw [hva]
      have e9 : (128 : Nat) ^ 9 = 9223372036854775808 := by decide
      rw [e9] at hv ⊢
      omega
    · have hv2 := Vi.val_lt (p ++ [c])
      have hle : (p ++ [c]).length ≤ 9 := by simp; omega
      have h9' : 128 ^ (p ++ [c]).length ≤ 128 ^ 9 := Nat.pow_le_pow_right (by decide) hle
      have e9 : (128 : Nat) ^ 9 = 9223372036854775808 := by decide
      omega
  rw [hs, Vi.get_ok ha (by omega) h1 hlt (by omega), hj, hva, hp]
  exact ⟨rfl, rfl, rfl⟩
theorem come_bad {zs : List Int} {k : Nat} {X c : Int} (h : Come zs k X) (hk : k ≤ 9) (hc : zs[k]? = some c) (h1 : c < 128) (hb : (k = 9 ∧ 1 < c) ∨ (0 < k ∧ c = 0)) : Vi.get zs = (0, 0, 3) := by
  obtain ⟨p, r, hs, hp, ha, rfl⟩ := h
  obtain ⟨r', rfl, hs'⟩ := split_at hs hp hc
  rw [hs]
  refine Vi.get_bad ha (by omega) h1 ?_
  rcases hb with ⟨h9, hc1⟩ | ⟨hk0, hc0⟩
  · left
    rw [Vi.val_append, hp, h9]
    have e9 : (128 : Nat) ^ 9 = 9223372036854775808 := by decide
    rw [e9]
    simp only [Vi.val]
    omega
  · exact .inr ⟨by omega, hc0⟩
theorem come_long {zs : List Int} {X c : Int} (h : Come zs 9 X) (hc : zs[9]? = some c) (h1 : 128 ≤ c) : Vi.get zs = (0, 0, 3) := by
  obtain ⟨p, r, hs, hp, ha, rfl⟩ := h
  obtain ⟨r', rfl, hs'⟩ := split_at hs hp hc
  rw [hs']
  refine Vi.get_long ?_ (by simp [hp])
  intro d hd
  simp only [List.mem_append, List.mem_singleton] at hd
  rcases hd with hd | rfl
  · exact ha d hd
  · exact h1
theorem come_end {zs : List Int} {X : Int} {k : Nat} (h : Come zs k X) (hk : k ≤ 9) (hl : k = zs.length) : Vi.get zs = (0, 0, 4) := by
  obtain ⟨p, r, hs, hp, ha, rfl⟩ := h
  have : r = [] := by
    apply List.eq_nil_of_length_eq_zero
    have := congrArg List.length hs
    simp at this; omega
  subst this
  rw [List.append_nil] at hs
  subst hs
  exact Vi.get_end ha (by omega)

set_option maxHeartbeats 400000 in
theorem get_any (B : Nat) (a : Option Addr) (cap : Nat) (zs : List Int) (w : World) (hl : zs.length ≤ 9223372036854775807) (hz : ∀ c ∈ zs, 0 ≤ c ∧ c ≤ 255) (h1 : Nums .u8 w B a zs) :
    Calls Try.prog 87 #[.slice a zs.length cap] w fun e w' => GetR (Vi.get zs) e ∧ w = w' := by
  have HZ := Lib.hid hz
  clear hz
  go_enter Try.func87, Try.ntmps87
  go_wp2
  go_step3
  go_wp2
  go_step3
  go_wp2
  go_loop [5, 6, 7, 12] (fun x l s i => ∃ (k : Nat) (X : Int), k ≤ zs.length ∧ k ≤ 9 ∧ i = .int .i64 k ∧ x = .int .u64 X ∧ l = .int .u8 0 ∧ s = .int .i64 0 ∧ Come zs k X) (fun _ _ _ i => zs.length - (intOf i).toNat)
  case atStart => exact ⟨0, 0, by omega, by omega, rfl, rfl, rfl, rfl, come_nil zs⟩
  case round =>
    obtain ⟨k, X, hk, hk9, rfl, rfl, rfl, rfl, hcome⟩ := hrel
    by_cases hlt : k < zs.length
    · obtain ⟨c, hc⟩ : ∃ c, zs[k]? = some c := ⟨_, List.getElem?_eq_getElem hlt⟩
      obtain ⟨b1, o1, rfl, hb1, hc1⟩ := h1.open hc
      have hcb := HZ.out c (List.mem_of_getElem? hc)
      have HC := Lib.hid hc
      clear h1 hc
      have hlt' : (k : Int) < (zs.length : Int) := by omega
      by_cases h128 : c < 128
      · by_cases hbad : (k = 9 ∧ 1 < c) ∨ (0 < k ∧ c = 0)
        · have HB := Lib.hid (come_bad hcome hk9 HC.out h128 hbad)
          have h00 : ((k : Int) + 1 == 0) = false := by simp; omega
          have h10 : ((k : Int) + 1 == 10) = decide (k = 9) := by rw [Bool.eq_iff_iff]; simp; omega
          rcases hbad with ⟨h9, hc1⟩ | ⟨hk0, hc0⟩
          · have hc0 : (c == 0) = false := by simp; omega
            have h10' : ((k : Int) + 1 == 10) = true := by simp; omega
            have hk1 : 1 < (k : Int) + 1 := by omega
            clear h10 hcome
            have H9 := Lib.hid h9
            clear h9
            go_wp2
            go_ret3
            exact ⟨by rw [HB.out]; exact GetR.of rfl rfl rfl, rfl⟩
          · have hc0' : (c == 0) = true := by simp; omega
            have hk1 : 1 < (k : Int) + 1 := by omega
            have H0 := Lib.hid hc0
            clear h10 hcome hc0
            go_wp2
            go_ret3
            exact ⟨by rw [HB.out]; exact GetR.of rfl rfl rfl, rfl⟩
        · have HO := Lib.hid (come_last HZ.out hcome hk9 HC.out h128 (by omega) (by omega))
          have h00 : ((k : Int) + 1 == 0) = false := by simp; omega
          by_cases hc0 : c = 0
          · have hc0' : (c == 0) = true := by simp; omega
            have hk1 : ¬ 1 < (k : Int) + 1 := by omega
            have h10' : ((k : Int) + 1 == 10) = false := by simp; omega
            have H0 := Lib.hid hc0
            clear hcome hc0 hbad
            go_wp2
            go_ret3
            exact ⟨GetR.of HO.out.1.symm (by rw [HO.out.2.1]; rfl) (by rw [HO.out.2.2]; rfl), rfl⟩
          · have hc0' : (c == 0) = false := by simp; omega
            by_cases h9 : k = 9
            · have h10' : ((k : Int) + 1 == 10) = true := by simp; omega
              have hc1 : ¬ 1 < c := by omega
              have hk1 : 1 < (k : Int) + 1 := by omega
              have H9 := Lib.hid h9
              clear hcome hc0 hbad h9
              go_wp2
              go_ret3
              exact ⟨GetR.of HO.out.1.symm (by rw [HO.out.2.1]; rfl) (by rw [HO.out.2.2]; rfl), rfl⟩
            · have h10' : ((k : Int) + 1 == 10) = false := by simp; omega
              clear hcome hbad
              go_wp2
              all_goals go_ret3
              all_goals exact ⟨GetR.of HO.out.1.symm (by rw [HO.out.2.1]; rfl) (by rw [HO.out.2.2]; rfl), rfl⟩
      · by_cases h9 : k = 9
        · have HB : Hid (Vi.get zs = (0, 0, 3)) := by subst h9; exact come_long hcome HC.out (by omega)
          have h9' : ((k : Int) == 9) = true := by simp; omega
          clear hcome h9
          go_wp2
          go_ret3
          exact ⟨by rw [HB.out]; exact GetR.of rfl rfl rfl, rfl⟩
        · have h9' : ((k : Int) == 9) = false := by simp; omega
          have HM := Lib.hid (come_more HZ.out hcome (by omega) HC.out (by omega))
          clear hcome
          go_wp2
          go_round
          case rel => exact ⟨k + 1, _, by omega, by omega, by go_num, rfl, rfl, rfl, HM.out⟩
          case measure => simp [intOf]; omega
    · have HB := Lib.hid (come_end hcome hk9 (by omega))
      clear hcome
      go_wp2
      go_ret3
      exact ⟨by rw [HB.out]; exact GetR.of rfl rfl rfl, rfl⟩

/-- .. the length under a name of its own -/
theorem get_len (B : Nat) (a : Option Addr) (n cap : Nat) (zs : List Int) (w : World) (hn : zs.length = n) (hl : n ≤ 9223372036854775807) (hz : ∀ c ∈ zs, 0 ≤ c ∧ c ≤ 255) (h1 : Nums .u8 w B a zs) :
    Calls Try.prog 87 #[.slice a n cap] w fun e w' => GetR (Vi.get zs) e ∧ w = w' := by
  subst hn; exact get_any B a cap zs w hl hz h1

end Go.Proofs.Ytlbfibnfmijahaa

namespace Go.Proofs.Ytlbfibnfmijahaa
open Go.RowKit
set_option maxRecDepth 100000

/-- what the document's Get answers: the number, where it ends, the error -/
def RGetR (s : Int) (r : Nat × Nat × Nat) (e : Ending) : Prop := e = .returned (.tuple #[.int .u64 r.1, .int .i64 (s + r.2.1), .int .i64 r.2.2])
theorem RGetR.of {s : Int} {r : Nat × Nat × Nat} {a b c : Int} (ha : a = r.1) (hb : b = s + r.2.1) (hc : c = r.2.2) : RGetR s r (.returned (.tuple #[.int .u64 a, .int .i64 b, .int .i64 c])) := by
  subst ha hb hc; rfl

end Go.Proofs.Ytlbfibnfmijahaa

namespace Go.Proofs.Ytlbfibnfmijahaa
open Go.RowKit
set_option maxRecDepth 100000

theorem zag_any (n : Int) (w : World) (h0 : 0 ≤ n) (h1 : n ≤ 18446744073709551615) :
    Calls Try.prog 88 #[.int .u64 n] w fun e w' => e = .returned (.int .i64 (zagZ n)) ∧ w = w' := by
  by_cases h : n % 2 = 1
  · have ho : (n % 2 == 1) = true := by simp; omega
    rw [show zagZ n = -(n / 2) - 1 by unfold zagZ; rw [if_pos h]]
    clear h
    go_enter Try.func88, Try.ntmps88
    go_wp2
    go_ret
    exact ⟨ret_int (by omega), rfl⟩
  · have ho : (n % 2 == 1) = false := by simp; omega
    rw [show zagZ n = n / 2 by unfold zagZ; rw [if_neg h]]
    clear h
    go_enter Try.func88, Try.ntmps88
    go_wp2
    go_ret
    exact ⟨ret_int (by omega), rfl⟩
end Go.Proofs.Ytlbfibnfmijahaa

namespace Go.Proofs.Ytlbfibnfmijahaa
open Go.RowKit Go.Shelf
set_option maxRecDepth 100000
attribute [local go_sem] Oper.semAt_some

/-- numbers that lie in neither of two boxes -/
def NuX (w : World) (b4 b8 : Nat) (a : Option Addr) (zs : List Int) : Prop := zs ≠ [] → ∃ b off, a = some ⟨b, off, none⟩ ∧ b ≠ b4 ∧ b ≠ b8 ∧ ∀ j c, zs[j]? = some c → w.cell? ⟨b, off + j, none⟩ = some (.int .i64 c)
section
variable {w w' : World} {b4 b8 B : Nat} {a : Option Addr} {zs : List Int}
theorem NuX.nums (h : NuX w b4 b8 a zs) : Nums .i64 w w.heap.size a zs := fun hn => by
  obtain ⟨b, off, e, _, _, hc⟩ := h hn
  obtain ⟨z, hz⟩ : ∃ z, zs[0]? = some z := by
    cases zs with
    | nil => exact absurd rfl hn
    | cons x r => exact ⟨x, rfl⟩
  have := block_of_cell (hc 0 z hz)
  exact ⟨b, off, e, this, hc⟩
theorem NuX.keep (h : NuX w b4 b8 a zs) (ho : Off (fun q => q = b4 ∨ q = b8) w w') : NuX w' b4 b8 a zs := fun hn => by
  obtain ⟨b, off, e, h1, h2, hc⟩ := h hn
  exact ⟨b, off, e, h1, h2, fun j c hj => ho.cell (hc j c hj) (by show ¬ (b = b4 ∨ b = b8); omega)⟩
theorem NuX.of (h : Nums .i64 w B a zs) (h4 : B ≤ b4) (h8 : B ≤ b8) : NuX w b4 b8 a zs := fun hn => by
  obtain ⟨b, off, e, hlt, hc⟩ := h hn
  exact ⟨b, off, e, by omega, by omega, hc⟩
theorem NuX.of_own {base T s n : Nat} {v : Value} (h : w.ownsRow base T s v n (zs.map (Value.int .i64))) (hs : 0 < s) (h4 : b4 < base) (h8 : b8 < base) : ∃ a c, v = .slice a n c ∧ n ≤ c ∧ NuX w b4 b8 a zs := by
  obtain ⟨A, c, rfl, hc, hn⟩ := nums_of_own h hs
  refine ⟨A, c, rfl, hc, fun hne => ?_⟩
  obtain ⟨b, off, e, hlt, hcl⟩ := hn hne
  subst e
  rcases h.2 with ⟨e0, _⟩ | ⟨g, cap, cur, e0, hg, _⟩
  · cases e0
  · injection e0 with e0
    injection e0 with e0
    injection e0 with e1 e2
    exact ⟨b, off, rfl, by omega, by omega, hcl⟩
end
section
variable {w W W' : World} {b4 b8 : Nat} {M : Mg} {P C : Value}
end
end Go.Proofs.Ytlbfibnfmijahaa

namespace Go.Proofs.Ytlbfibnfmijahaa
open Go.RowKit Go.Shelf
set_option maxRecDepth 100000
attribute [local go_sem] Oper.semAt_some

/-- a row of numbers of the call's own, whatever they are -/
def Row (H : Nat) (V : World) (T : TypeId) (s n : Nat) (v : Value) : Prop := ∃ xs : List Int, V.ownsRow H T s v n (xs.map (Value.int .i64))
section
variable {H : Nat} {V V' : World} {T : TypeId} {s n : Nat} {v : Value}
theorem Row.set (h : Row H V T s n v) (b j : Nat) (z : Int) : Row H (V.setCell ⟨b, j, none⟩ (.int .i64 z)) T s n v := by
  obtain ⟨xs, h1, h2⟩ := h
  rcases h2 with ⟨rfl, h0⟩ | ⟨g, cap, cur, rfl, hg, hh, r1, r2, r3, r4⟩
  · exact ⟨xs, h1, .inl ⟨rfl, h0⟩⟩
  · by_cases e : g = b
    · subst e
      refine ⟨xs.set j z, by simpa using h1, .inr ⟨g, cap, _, rfl, hg, setCell_at hh, r1, r2, by simpa using r3, ?_⟩⟩
      rw [Array.toList_setIfInBounds, List.take_set, r4, List.map_set]
    · exact ⟨xs, ownsRow_setCell_other ⟨h1, .inr ⟨g, cap, cur, rfl, hg, hh, r1, r2, r3, r4⟩⟩ (by simp [Value.ownBlock]; exact e) _⟩
theorem Row.later (h : Row H V T s n v) (hb : Below V.heap.size V V') : Row H V' T s n v := by
  obtain ⟨xs, h1, h2⟩ := h
  refine ⟨xs, h1, ?_⟩
  rcases h2 with h2 | ⟨g, cap, cur, hv, hg, hh, r⟩
  · exact .inl h2
  · exact .inr ⟨g, cap, cur, hv, hg, (hb.block g (Array.getElem?_eq_some_iff.1 hh).1).trans hh, r⟩
/-- the block of a row of elements -/
theorem Row.open (h : Row H V T s n v) {i : Nat} (hi : i < n) : ∃ g cap cur, v = .slice (some ⟨g, 0, none⟩) n cap ∧ H ≤ g ∧ V.heap[g]? = some (.cells cur T (0, 0)) ∧ n * s ≤ cur.size := by
  obtain ⟨xs, h1, h2⟩ := h
  rcases h2 with ⟨rfl, h0⟩ | ⟨g, cap, cur, rfl, hg, hh, r1, r2, r3, r4⟩
  · omega
  · exact ⟨g, cap, cur, rfl, hg, hh, by rw [r3]; exact Nat.mul_le_mul_right s r1⟩
theorem Row.slice (h : Row H V T s n v) : ∃ a cap, v = .slice a n cap := by
  obtain ⟨xs, h1, h2⟩ := h
  rcases h2 with ⟨rfl, h0⟩ | ⟨g, cap, cur, rfl, hg, hh, r1, r2, r3, r4⟩
  · exact ⟨none, 0, by rw [h0]⟩
  · exact ⟨_, _, rfl⟩
/-- a row's block is no box -/
theorem Row.not_box (h : Row H V T s n v) {g : Nat} {cs : Array Value} (hb : V.heap[g]? = some (.cells cs 33 (0, 0))) (hT : T ≠ 33) : ∀ q, v.ownBlock = some q → q ≠ g := by
  obtain ⟨xs, h1, h2⟩ := h
  intro q hq e
  subst e
  rcases h2 with ⟨rfl, h0⟩ | ⟨g, cap, cur, rfl, hg, hh, _⟩
  · cases hq
  · injection hq with hq
    subst hq
    rw [hh] at hb
    injection hb with hb
    injection hb with _ hb
    exact hT hb
end
/-- boxes of messages, the rows that hang on them, and what lies below -/
structure ApI (H : Nat) (w5 : World) (Bx : List (Nat × Array Value)) (R : List (TypeId × Nat × Nat × Value)) (V : World) : Prop where
  box : ∀ q ∈ Bx, H ≤ q.1 ∧ V.heap[q.1]? = some (.cells q.2 33 (0, 0))
  row : ∀ q ∈ R, q.1 ≠ 33 ∧ Row H V q.1 q.2.1 q.2.2.1 q.2.2.2
  off : Off (fun k => H ≤ k) w5 V
section
variable {H : Nat} {w5 V V' : World} {Bx : List (Nat × Array Value)} {R : List (TypeId × Nat × Nat × Value)}
theorem ApI.set (h : ApI H w5 Bx R V) {b j : Nat} {cur : Array Value} {T : TypeId} (hb : V.heap[b]? = some (.cells cur T (0, 0))) (hT : T ≠ 33) (hH : H ≤ b) (z : Int) : ApI H w5 Bx R (V.setCell ⟨b, j, none⟩ (.int .i64 z)) := by
  refine ⟨fun q hq => ⟨(h.box q hq).1, ?_⟩, fun q hq => ⟨(h.row q hq).1, (h.row q hq).2.set b j z⟩, h.off.setCell (p := ⟨b, j, none⟩) hH _⟩
  have hq2 := (h.box q hq).2
  refine (Below.heap_setCell V ⟨b, j, none⟩ _ q.1 (fun e => ?_)).trans hq2
  rw [e] at hq2
  rw [hb] at hq2
  injection hq2 with hq2
  injection hq2 with _ hq2
  exact hT hq2
theorem ApI.drew (h : ApI H w5 Bx R V) : ApI H w5 Bx R V.drew := ⟨h.box, h.row, ⟨h.off.os, h.off.tape, h.off.output, h.off.size, h.off.block⟩⟩
theorem ApI.drewN (h : ApI H w5 Bx R V) (n : Nat) : ApI H w5 Bx R (V.drewN n) := ⟨h.box, h.row, ⟨h.off.os, h.off.tape, h.off.output, h.off.size, h.off.block⟩⟩
/-- one element's number is written -/
theorem ApI.store (h : ApI H w5 Bx R V) {T : TypeId} {s n : Nat} {v : Value} (hq : (T, s, n, v) ∈ R) {i d : Nat} (hi : i < n) (hd : d < s) {g cap : Nat} (hv : v = .slice (some ⟨g, 0, none⟩) n cap) (z : Int) :
    (Instr.storeAt 3 (.pointer (some ⟨g, i * s + d, none⟩)) (.int .i64 z)).run Try.prog V = .ok () (V.setCell ⟨g, i * s + d, none⟩ (.int .i64 z)) ∧ ApI H w5 Bx R (V.setCell ⟨g, i * s + d, none⟩ (.int .i64 z)) := by
  obtain ⟨hT, hr⟩ := h.row _ hq
  dsimp only at hT hr
  obtain ⟨g', cap', cur, e, hg, hh, hn⟩ := hr.open hi
  rw [hv] at e
  injection e with e
  injection e with e
  injection e with e
  subst e
  have hlt : i * s + d < cur.size := by
    have h1 : (i + 1) * s ≤ n * s := Nat.mul_le_mul_right s hi
    rw [Nat.succ_mul] at h1
    omega
  have hc : V.cell? ⟨g, i * s + d, none⟩ = some cur[i * s + d] := row_cell hh _ _ (Array.getElem?_eq_getElem hlt)
  have hz := frozen_of_row V g (i * s + d) _ _ hh
  exact ⟨by simp [Instr.storeAt, go_sem, hc, hz], h.set hh hT hg z⟩
end
/-- a box of a message, whose lists are the call's own -/
def BoxO (H g : Nat) (W : World) : Prop := H ≤ g ∧ ∃ M P C, W.heap[g]? = some (.cells (mC M P C) 33 (0, 0)) ∧ Msm M ∧ MOwn H W M P C
theorem mown_box {H g : Nat} {W : World} {M : Mg} {P C : Value} {cs : Array Value} (h : MOwn H W M P C) (hb : W.heap[g]? = some (.cells cs 33 (0, 0))) (arr : Array Value) : MOwn H (W.setRow g arr) M P C := by
  have hoff := Off.setRow (S := fun k => k = g) (Off.refl _ W) rfl arr
  exact ⟨own_offM h.p hoff (fun q hq e => Row.not_box ⟨_, h.p⟩ hb (by decide) q hq e), own_offM h.c hoff (fun q hq e => Row.not_box ⟨_, h.c⟩ hb (by decide) q hq e)⟩
theorem BoxO.store {H g g' : Nat} {W : World} {M : Mg} {P C : Value} {cs : Array Value} (h : BoxO H g' W) (hb : W.heap[g]? = some (.cells cs 33 (0, 0))) (hs : Msm M) (ho : MOwn H W M P C) : BoxO H g' (W.setRow g (mC M P C)) := by
  obtain ⟨hH, M', P', C', h1, h2, h3⟩ := h
  by_cases e : g' = g
  · subst e
    exact ⟨hH, M, P, C, setRow_heap W _ _ _ _ _ hb, hs, mown_box ho hb _⟩
  · exact ⟨hH, M', P', C', (setRow_other _ _ _ _ e).trans h1, h2, mown_box h3 hb _⟩
end Go.Proofs.Ytlbfibnfmijahaa

namespace Go.Proofs.Ytlbfibnfmijahaa
open Go.RowKit Go.Shelf
set_option maxRecDepth 100000
attribute [local go_sem] Oper.semAt_some

theorem rdC_step (m : Nat) (a : Int) (l : List Int) : rdC (m + 1) a l = if (rdG a l).1 ≠ 0 then ((rdG a l).1, 0, []) else ((rdC m (rdG a l).2.2 (l.drop (rdG a l).2.1)).1, (rdG a l).2.1 + (rdC m (rdG a l).2.2 (l.drop (rdG a l).2.1)).2.1, (rdG a l).2.2 :: (rdC m (rdG a l).2.2 (l.drop (rdG a l).2.1)).2.2) := rfl

section
variable {S : Nat → Prop} {w W W' : World} {b4 b8 : Nat} {M : Mg} {P C : Value}
end
end Go.Proofs.Ytlbfibnfmijahaa

namespace Go.Proofs.Ytlbfibnfmijahaa
open Go.RowKit

/-- the numbers zs lie at a, in a block from lo on, below hi -/
def NumsIn (k : IntKind) (w : World) (lo hi : Nat) (a : Option Addr) (zs : List Int) : Prop :=
  zs ≠ [] → ∃ b off, a = some ⟨b, off, none⟩ ∧ lo ≤ b ∧ b < hi ∧ ∀ j c, zs[j]? = some c → w.cell? ⟨b, off + j, none⟩ = some (.int k c)
/-- the blocks from lo on, below hi, are as they were -/
def Keeps (lo hi : Nat) (W W' : World) : Prop := W.heap.size ≤ W'.heap.size ∧ ∀ k, lo ≤ k → k < hi → W'.heap[k]? = W.heap[k]?
theorem Keeps.refl (lo hi : Nat) (W : World) : Keeps lo hi W W := ⟨Nat.le_refl _, fun _ _ _ => rfl⟩
theorem Keeps.trans {lo hi : Nat} {A B C : World} (h : Keeps lo hi A B) (k : Keeps lo hi B C) : Keeps lo hi A C := ⟨Nat.le_trans h.1 k.1, fun i h1 h2 => (k.2 i h1 h2).trans (h.2 i h1 h2)⟩
theorem Keeps.of_below {lo hi : Nat} {A B : World} (h : Below hi A B) : Keeps lo hi A B := ⟨h.size, fun k _ h2 => h.block k h2⟩
theorem Keeps.cell {lo hi : Nat} {A B : World} (h : Keeps lo hi A B) {p : Addr} (h1 : lo ≤ p.block) (h2 : p.block < hi) : B.cell? p = A.cell? p := World.cell?_of_block (h.2 p.block h1 h2)
section
variable {k : IntKind} {lo lo' hi hi' : Nat} {A B : World} {a : Option Addr} {zs : List Int}
theorem NumsIn.keeps (h : NumsIn k A lo hi a zs) (hk : Keeps lo hi A B) : NumsIn k B lo hi a zs := fun hn => by
  obtain ⟨b, off, e, h1, h2, hc⟩ := h hn
  exact ⟨b, off, e, h1, h2, fun j c hj => (hk.cell (p := ⟨b, off + j, none⟩) h1 h2).trans (hc j c hj)⟩
theorem NumsIn.nums (h : NumsIn k A lo hi a zs) : Nums k A hi a zs := fun hn => by
  obtain ⟨b, off, e, _, h2, hc⟩ := h hn
  exact ⟨b, off, e, h2, hc⟩
theorem NumsIn.mono (h : NumsIn k A lo hi a zs) (hh : hi ≤ hi') : NumsIn k A lo hi' a zs := fun hn => by
  obtain ⟨b, off, e, h1, h2, hc⟩ := h hn
  exact ⟨b, off, e, h1, by omega, hc⟩
theorem NumsIn.lower (h : NumsIn k A lo hi a zs) (hh : lo' ≤ lo) : NumsIn k A lo' hi a zs := fun hn => by
  obtain ⟨b, off, e, h1, h2, hc⟩ := h hn
  exact ⟨b, off, e, by omega, h2, hc⟩
end
theorem MadeK.numsIn {e : TypeId} {k : IntKind} {w w1 : World} {L : List Int} {A : Option Addr} {c : Nat} (h : MadeK e k w w1 L (.slice A L.length c)) : NumsIn k w1 w.heap.size w1.heap.size A L := fun hn => by
  obtain ⟨b, off, rfl, hb, hc⟩ := Nums.of_own h.1 hn
  exact ⟨b, off, rfl, (h.own_ge (g := b) rfl).1, hb, hc⟩
theorem MadeK.less {T : TypeId} {k : IntKind} {w w1 w2 : World} {L : List Int} {v : Value} (h : MadeK T k w1 w2 L v) (hb : Below w.heap.size w w1) : MadeK T k w w2 L v := by
  obtain ⟨⟨e, h2⟩, hb2⟩ := h
  refine ⟨⟨e, ?_⟩, hb.trans (hb2.mono hb.size)⟩
  rcases h2 with h0 | ⟨g, cap, cur, q1, q2, q3⟩
  · exact .inl h0
  · exact .inr ⟨g, cap, cur, q1, Nat.le_trans hb.size q2, q3⟩
end Go.Proofs.Ytlbfibnfmijahaa
