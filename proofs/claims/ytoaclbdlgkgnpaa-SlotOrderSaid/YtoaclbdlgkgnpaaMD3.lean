/-
  A part of the texts of one proof, put together: In, RbE, Cat, HdB, CrcO, FrG, FenN, FenC, FenK, LBox, FenS, Ls1, FenW, FrF, CutN, CutC, HdO, FrA.
-/
import Derived.Deep.QuietTactic
import Derived.WalkSpells
import Derived.RangeFuncBound
import Derived.RangeFuncCalls
import Derived.RangeFuncLeaves
import Derived.Shelf.Abstract
import Derived.Shelf.RegionOpen
import Derived.OwnWalkIn
import Derived.TacticsInMore
import Derived.LoopNIn
import Derived.LoopIn
import Derived.OpenShut
import Derived.Maps.AppendAt
import Derived.Test.YtoaclbdlgkgnpaaRows
import Derived.WalkKit
import Derived.ProofKit
import Derived.Deep.Fields
import Derived.Deep.Slices
import Derived.ChangeSame
import Derived.Test.YtoaclbdlgkgnpaaMD2
namespace Go.Proofs.Ytoaclbdlgkgnpaa
open Go.RowKit

/-- the numbers zs lie at a, in a block from lo on, below hi -/
def NumsIn (k : IntKind) (w : World) (lo hi : Nat) (a : Option Addr) (zs : List Int) : Prop :=
  zs ≠ [] → ∃ b off, a = some ⟨b, off, none⟩ ∧ lo ≤ b ∧ b < hi ∧ ∀ j c, zs[j]? = some c → w.cell? ⟨b, off + j, none⟩ = some (.int k c)
/-- the blocks from lo on, below hi, are as they were -/
def Keeps (lo hi : Nat) (W W' : World) : Prop := W.heap.size ≤ W'.heap.size ∧ ∀ k, lo ≤ k → k < hi → W'.heap[k]? = W.heap[k]?
theorem Keeps.refl (lo hi : Nat) (W : World) : Keeps lo hi W W := ⟨Nat.le_refl _, fun _ _ _ => rfl⟩
theorem Keeps.trans {lo hi : Nat} {A B C : World} (h : Keeps lo hi A B) (k : Keeps lo hi B C) : Keeps lo hi A C := ⟨Nat.le_trans h.1 k.1, fun i h1 h2 => (k.2 i h1 h2).trans (h.2 i h1 h2)⟩
theorem Keeps.of_below {lo hi : Nat} {A B : World} (h : Below hi A B) : Keeps lo hi A B := ⟨h.size, fun k _ h2 => h.block k h2⟩
theorem Keeps.of_off {S : Nat → Prop} {lo hi : Nat} {A B : World} (h : Off S A B) (hh : hi ≤ A.heap.size) (hS : ∀ k, lo ≤ k → k < hi → ¬ S k) : Keeps lo hi A B := ⟨h.size, fun k h1 h2 => h.block k (by omega) (hS k h1 h2)⟩
theorem Keeps.cell {lo hi : Nat} {A B : World} (h : Keeps lo hi A B) {p : Addr} (h1 : lo ≤ p.block) (h2 : p.block < hi) : B.cell? p = A.cell? p := World.cell?_of_block (h.2 p.block h1 h2)
section
variable {k : IntKind} {lo lo' hi hi' : Nat} {A B : World} {a : Option Addr} {zs : List Int}
theorem NumsIn.keeps (h : NumsIn k A lo hi a zs) (hk : Keeps lo hi A B) : NumsIn k B lo hi a zs := fun hn => by
  obtain ⟨b, off, e, h1, h2, hc⟩ := h hn
  exact ⟨b, off, e, h1, h2, fun j c hj => (hk.cell (p := ⟨b, off + j, none⟩) h1 h2).trans (hc j c hj)⟩
theorem NumsIn.nums (h : NumsIn k A lo hi a zs) : Nums k A hi a zs := fun hn => by
  obtain ⟨b, off, e, _, h2, hc⟩ := h hn
  exact ⟨b, off, e, h2, hc⟩
theorem NumsIn.mono (h : NumsIn k A lo hi a zs) (hh : hi ≤ hi') : NumsIn k A lo hi' a zs := fun hn => by
  obtain ⟨b, off, e, h1, h2, hc⟩ := h hn
  exact ⟨b, off, e, h1, by omega, hc⟩
theorem NumsIn.lower (h : NumsIn k A lo hi a zs) (hh : lo' ≤ lo) : NumsIn k A lo' hi a zs := fun hn => by
  obtain ⟨b, off, e, h1, h2, hc⟩ := h hn
  exact ⟨b, off, e, by omega, h2, hc⟩
end
theorem MadeK.numsIn {e : TypeId} {k : IntKind} {w w1 : World} {L : List Int} {A : Option Addr} {c : Nat} (h : MadeK e k w w1 L (.slice A L.length c)) : NumsIn k w1 w.heap.size w1.heap.size A L := fun hn => by
  obtain ⟨b, off, rfl, hb, hc⟩ := Nums.of_own h.1 hn
  exact ⟨b, off, rfl, (h.own_ge (g := b) rfl).1, hb, hc⟩
theorem MadeK.less {T : TypeId} {k : IntKind} {w w1 w2 : World} {L : List Int} {v : Value} (h : MadeK T k w1 w2 L v) (hb : Below w.heap.size w w1) : MadeK T k w w2 L v := by
  obtain ⟨⟨e, h2⟩, hb2⟩ := h
  refine ⟨⟨e, ?_⟩, hb.trans (hb2.mono hb.size)⟩
  rcases h2 with h0 | ⟨g, cap, cur, q1, q2, q3⟩
  · exact .inl h0
  · exact .inr ⟨g, cap, cur, q1, Nat.le_trans hb.size q2, q3⟩
end Go.Proofs.Ytoaclbdlgkgnpaa

namespace Go.Proofs.Ytoaclbdlgkgnpaa
open Go.RowKit
set_option maxRecDepth 100000

theorem blocks_254 (zs : List Int) : ∀ b ∈ Cb.blocks zs, b.length ≤ 254 := by
  refine Cb.along (p := fun zs => ∀ b ∈ Cb.blocks zs, b.length ≤ 254) ?_ ?_ ?_ zs
  · intro b h hl x hx
    rw [Cb.blocks_last h hl] at hx
    simp at hx; subst hx; exact hl
  · intro b r h hl ih x hx
    rw [Cb.blocks_nought h hl] at hx
    rcases List.mem_cons.1 hx with rfl | hx
    · omega
    · exact ih x hx
  · intro b r h hl hr ih x hx
    rw [Cb.blocks_full h hl hr] at hx
    rcases List.mem_cons.1 hx with rfl | hx
    · omega
    · exact ih x hx
theorem join_pre {bs ys : List (List Int)} (h : bs <+: ys) : (Cb.join bs).length ≤ (Cb.join ys).length := by
  obtain ⟨t, rfl⟩ := h
  rw [Cb.join_append, List.length_append]
  omega
theorem join_take {bl : List (List Int)} {i : Nat} {b : List Int} (h : bl[i]? = some b) : Cb.join (bl.take (i + 1)) = (Cb.join (bl.take i) ++ [(b.length : Int) + 1]) ++ b := by
  rw [List.take_add_one, h, Cb.join_append]
  simp [Cb.join, Cb.one]

end Go.Proofs.Ytoaclbdlgkgnpaa

namespace Go.Proofs.Ytoaclbdlgkgnpaa
open Go.RowKit Go.Shelf
set_option maxRecDepth 100000
attribute [local go_sem] Oper.semAt_some

theorem flat_take {α : Type} (bl : List (List α)) (k : Nat) {b : List α} (hb : bl[k]? = some b) : (bl.take (k + 1)).flatten = (bl.take k).flatten ++ b := by
  rw [List.take_add_one, hb]
  simp
theorem flat_take_le {α : Type} (bl : List (List α)) (k : Nat) : (bl.take k).flatten.length ≤ bl.flatten.length := by
  conv => rhs; rw [← List.take_append_drop k bl, List.flatten_append, List.length_append]
  omega
theorem MadeK.of_row {e : TypeId} {k : IntKind} {w w' : World} {A : Option Addr} {cap : Nat} {cur : List Int} (hr : KRow e k w' A cap cur) (hA : ∀ g o s, A = some ⟨g, o, s⟩ → w.heap.size ≤ g) (hb : Below w.heap.size w w') : MadeK e k w w' [] (.slice A 0 cap) := by
  refine ⟨⟨by simp, ?_⟩, hb⟩
  rcases hr.2 with ⟨rfl, rfl⟩ | ⟨g, rfl, hm, hh⟩
  · exact .inl ⟨rfl, rfl⟩
  · exact .inr ⟨g, cap, _, rfl, hA _ _ _ rfl, hh, by simp, hm, by simp [hr.1], by simp⟩

end Go.Proofs.Ytoaclbdlgkgnpaa

namespace Go.Proofs.Ytoaclbdlgkgnpaa
open Go.RowKit Go.Shelf
set_option maxRecDepth 100000
attribute [local go_sem] Oper.semAt_some

/-- a head's bytes -/
def hdB (v k s i c : Int) : List Int := [v, k, s % 256, s / 256 % 256, s / 65536 % 256, s / 16777216, i, c]
/-- what Bytes answers -/
def HdBR (B : Nat) (v k s i c : Int) (w' : World) (e : Ending) : Prop :=
  (chk v k i c ≠ 0 ∧ e = .returned (.tuple #[.slice none 0 0, .int .i64 (chk v k i c)])) ∨
  (chk v k i c = 0 ∧ ∃ g, B ≤ g ∧ e = .returned (.tuple #[.slice (some ⟨g, 0, none⟩) 8 8, .int .i64 0]) ∧ Nums .u8 w' w'.heap.size (some ⟨g, 0, none⟩) (hdB v k s i c))

end Go.Proofs.Ytoaclbdlgkgnpaa

namespace Go.Proofs.Ytoaclbdlgkgnpaa
open Go.RowKit
set_option maxRecDepth 100000

/-- what Open answers of bytes: the error, the bytes -/
def openOf (zs : List Int) : Int × List Int :=
  if zs.length < 4 then (13, []) else if zs.take (zs.length - 4) ++ Cr.le4 (Cr.sum (zs.take (zs.length - 4))) = zs then (0, zs.take (zs.length - 4)) else (11, [])
/-- what Open leaves -/
def OpenR (w w' : World) (r : Int × List Int) (e : Ending) : Prop := ∃ A c, e = .returned (.tuple #[.slice A r.2.length c, .int .i64 r.1]) ∧ r.2.length ≤ c ∧ Nums .u8 w' w'.heap.size A r.2 ∧ Below w.heap.size w w'

theorem le4_bytes (n : Nat) : Bytes (Cr.le4 n) := fun z hz => ⟨Cr.le4_ge n z hz, Cr.le4_lt n z hz⟩

end Go.Proofs.Ytoaclbdlgkgnpaa

namespace Go.Proofs.Ytoaclbdlgkgnpaa
open Go.RowKit Go.Shelf
set_option maxRecDepth 100000
attribute [local go_sem] Oper.semAt_some

/-- bytes and their sum's -/
def sld (L : List Int) : List Int := L ++ Cr.le4 (Cr.sum L)
/-- a frame's block -/
def fblk (v k s i c : Int) (zs : List Int) : List Int := sld (hdB v k s i c ++ zs)
theorem fblk_len (v k s i c : Int) (zs : List Int) : (fblk v k s i c zs).length = zs.length + 12 := by
  simp [fblk, sld, hdB, Cr.le4]
theorem hdB_bytes {v k s i c : Int} (h : chk v k i c = 0) (hs : 0 ≤ s ∧ s ≤ 4294967295) : Bytes (hdB v k s i c) := by
  have := chk_zero h
  intro z hz
  simp only [hdB, List.mem_cons, List.not_mem_nil, or_false] at hz
  omega
theorem sld_bytes {L : List Int} (h : Bytes L) : Bytes (sld L) := h.append (le4_bytes _)
theorem fblk_bytes {v k s i c : Int} {zs : List Int} (h : chk v k i c = 0) (hs : 0 ≤ s ∧ s ≤ 4294967295) (hz : Bytes zs) : Bytes (fblk v k s i c zs) := sld_bytes ((hdB_bytes h hs).append hz)
/-- what Segment answers -/
def SegR (w w' : World) (r : Int) (L : List Int) (e : Ending) : Prop :=
  (r ≠ 0 ∧ e = .returned (.tuple #[.slice none 0 0, .int .i64 r]) ∧ Below w.heap.size w w') ∨ (r = 0 ∧ ∃ v, e = .returned (.tuple #[v, .int .i64 0]) ∧ MadeK 5 .u8 w w' L v)

/-- what the slots hold whose values are known by what they are good for -/
def FRg (B : Nat) (p1 p2 : Part) (h z : List Int) (q : Tmp) (x : Value) (W : World) : Prop :=
  if q = 29 then ∃ a c, x = .slice a 2 c ∧ Parts W W.heap.size a [p1, p2]
  else if q = 30 then ∃ A c, x = .slice A 4 c ∧ 4 ≤ c ∧ Nums .u8 W W.heap.size A (Cr.le4 (Cr.sum (h ++ z)))
  else if q = 31 then ∃ A c, x = .slice A 3 c ∧ 3 ≤ c ∧ ListAt .u8 W W.heap.size A [h, z, Cr.le4 (Cr.sum (h ++ z))]
  else W.ownsRow B 5 1 x (sld (h ++ z)).length ((sld (h ++ z)).map (Value.int .u8))
theorem FRg.later {B : Nat} {p1 p2 : Part} {h z : List Int} {q : Tmp} {x : Value} {W W' : World} (hh : FRg B p1 p2 h z q x W) (hb : Below W.heap.size W W') : FRg B p1 p2 h z q x W' := by
  unfold FRg at *
  split
  · rename_i h1
    rw [if_pos h1] at hh
    obtain ⟨a, c, e, hg⟩ := hh
    refine ⟨a, c, e, fun p hp => ((hg.1 p hp).below hb).mono hb.size, fun hn => ?_⟩
    obtain ⟨b, off, e2, hc⟩ := hg.2 hn
    refine ⟨b, off, e2, fun j p hj => ?_⟩
    have h3 := hc j p hj
    exact (hb.cell (p := ⟨b, off + j, none⟩) (block_of_cell h3)).trans h3
  · rename_i h1
    rw [if_neg h1] at hh
    split
    · rename_i h2
      rw [if_pos h2] at hh
      obtain ⟨A, c, e, hc, hn⟩ := hh
      exact ⟨A, c, e, hc, (hn.below hb).mono hb.size⟩
    · rename_i h2
      rw [if_neg h2] at hh
      split
      · rename_i h3
        rw [if_pos h3] at hh
        obtain ⟨A, c, e, hc, hn⟩ := hh
        exact ⟨A, c, e, hc, (hn.below hb).mono hb.size⟩
      · rename_i h3
        rw [if_neg h3] at hh
        exact ⟨hh.1, hh.2.imp id fun ⟨g, cap, cur, hv, hg, hx, r⟩ => ⟨g, cap, cur, hv, hg, (hb.block g (Array.getElem?_eq_some_iff.1 hx).1).trans hx, r⟩⟩

end Go.Proofs.Ytoaclbdlgkgnpaa

namespace Go.Proofs.Ytoaclbdlgkgnpaa
namespace Fc
open Cb

/-- the segments, each with its place: p: where we are; now: what is open there -/
def scan : Nat → List Int → List Int → List (Nat × List Int)
  | _, _, [] => []
  | p, now, z :: r => if z = 0 then (if now = [] then scan (p + 1) [] r else (p - now.length, now) :: scan (p + 1) [] r) else scan (p + 1) (now ++ [z]) r
/-- what is open behind the last 0 -/
def opn : List Int → List Int → List Int
  | now, [] => now
  | now, z :: r => if z = 0 then opn [] r else opn (now ++ [z]) r
def segs (zs : List Int) : List (List Int) := (scan 0 [] zs).map (·.2)

theorem scan_zero (p : Nat) (now r : List Int) : scan p now (0 :: r) = (if now = [] then [] else [(p - now.length, now)]) ++ scan (p + 1) [] r := by
  rw [scan, if_pos rfl]; split <;> simp
theorem scan_ne {z : Int} (hz : z ≠ 0) (p : Nat) (now r : List Int) : scan p now (z :: r) = scan (p + 1) (now ++ [z]) r := by rw [scan, if_neg hz]
theorem scan_nz {b : List Int} (h : NZ b) (r : List Int) : ∀ (p : Nat) (now : List Int), scan p now (b ++ r) = scan (p + b.length) (now ++ b) r := by
  induction b with
  | nil => intro p now; simp
  | cons z b ih =>
    intro p now
    rw [List.cons_append, scan_ne (h z (by simp)), ih (fun c hc => h c (by simp [hc])), List.length_cons, List.append_assoc, List.singleton_append]
    congr 1; omega
theorem scan_end {b : List Int} (h : NZ b) (p : Nat) (now : List Int) : scan p now b = [] := by
  have := scan_nz h [] p now
  rw [List.append_nil] at this
  rw [this, scan]
theorem opn_zero (now r : List Int) : opn now (0 :: r) = opn [] r := by rw [opn, if_pos rfl]
theorem opn_ne {z : Int} (hz : z ≠ 0) (now r : List Int) : opn now (z :: r) = opn (now ++ [z]) r := by rw [opn, if_neg hz]
theorem opn_nz {b : List Int} (h : NZ b) (r : List Int) : ∀ now : List Int, opn now (b ++ r) = opn (now ++ b) r := by
  induction b with
  | nil => intro now; simp
  | cons z b ih =>
    intro now
    rw [List.cons_append, opn_ne (h z (by simp)), ih (fun c hc => h c (by simp [hc])), List.append_assoc, List.singleton_append]
theorem opn_end {b : List Int} (h : NZ b) (now : List Int) : opn now b = now ++ b := by
  have := opn_nz h [] now
  rw [List.append_nil] at this
  rw [this, opn]
theorem opn_app (x y : List Int) : ∀ now : List Int, opn now (x ++ 0 :: y) = opn [] y := by
  induction x with
  | nil => intro now; rw [List.nil_append, opn_zero]
  | cons z x ih =>
    intro now
    rw [List.cons_append]
    by_cases hz : z = 0
    · subst hz; rw [opn_zero, ih]
    · rw [opn_ne hz, ih]
/-- .. as a cut of the bytes -/
theorem opn_drop {zs : List Int} {k : Nat} (hk : k = 0 ∨ ∃ i, k = i + 1 ∧ zs[i]? = some 0) (hn : NZ (zs.drop k)) : opn [] zs = zs.drop k := by
  rcases hk with rfl | ⟨i, rfl, hi⟩
  · rw [List.drop_zero] at hn ⊢; rw [opn_end hn, List.nil_append]
  · have hlt : i < zs.length := by
      rcases Nat.lt_or_ge i zs.length with h | h
      · exact h
      · rw [List.getElem?_eq_none h] at hi; cases hi
    have h1 : zs = zs.take i ++ 0 :: zs.drop (i + 1) := by
      rw [List.getElem?_eq_getElem hlt] at hi
      injection hi with hi
      rw [← hi, List.getElem_cons_drop, List.take_append_drop]
    have h2 : opn [] zs = opn [] (zs.drop (i + 1)) := by conv => lhs; rw [h1]; rw [opn_app]
    rw [h2, opn_end hn, List.nil_append]

theorem cut_nz {L : List Int} (h : nz L < L.length) : L = L.take (nz L) ++ 0 :: L.drop (nz L + 1) := by
  have hi := nz_at L h
  rw [List.getElem?_eq_getElem h] at hi
  injection hi with hi
  rw [← hi, List.getElem_cons_drop, List.take_append_drop]
theorem scan_step {L : List Int} (h : nz L < L.length) (p : Nat) : scan p [] L = (if nz L = 0 then [] else [(p, L.take (nz L))]) ++ scan (p + nz L + 1) [] (L.drop (nz L + 1)) := by
  conv => lhs; rw [cut_nz h]
  have hl : (L.take (nz L)).length = nz L := by rw [List.length_take]; omega
  rw [scan_nz (nz_take L), List.nil_append, scan_zero, hl]
  congr 1
  by_cases h0 : nz L = 0
  · rw [if_pos h0, if_pos (by rw [h0]; rfl)]
  · rw [if_neg h0, if_neg (fun e => h0 (by rw [← hl, e]; rfl))]
    congr 2; omega
theorem scan_last {L : List Int} (h : L.length ≤ nz L) (p : Nat) : scan p [] L = [] := by
  refine scan_end ?_ p []
  have := nz_take L
  rwa [List.take_of_length_le h] at this
theorem scan_snd (L : List Int) : ∀ (p q : Nat) (now : List Int), (scan p now L).map (·.2) = (scan q now L).map (·.2) := by
  induction L with
  | nil => intro p q now; simp [scan]
  | cons z r ih =>
    intro p q now
    by_cases hz : z = 0
    · subst hz
      rw [scan_zero, scan_zero, List.map_append, List.map_append, ih (p + 1) (q + 1)]
      split <;> rfl
    · rw [scan_ne hz, scan_ne hz, ih]
theorem scan_length (L : List Int) : ∀ (p : Nat) (now : List Int), (scan p now L).length ≤ L.length := by
  induction L with
  | nil => intro p now; simp [scan]
  | cons z r ih =>
    intro p now
    by_cases hz : z = 0
    · subst hz
      have := ih (p + 1) []
      rw [scan_zero, List.length_append, List.length_cons]
      split <;> simp <;> omega
    · have := ih (p + 1) (now ++ [z])
      rw [scan_ne hz, List.length_cons]; omega
theorem scan_mem (L : List Int) : ∀ (p : Nat) (now : List Int), NZ now → ∀ x ∈ scan p now L, x.2 ≠ [] ∧ NZ x.2 ∧ x.2.length ≤ now.length + L.length := by
  induction L with
  | nil => intro p now _ x hx; simp [scan] at hx
  | cons z r ih =>
    intro p now hn x hx
    by_cases hz : z = 0
    · subst hz
      rw [scan_zero] at hx
      rcases List.mem_append.1 hx with hx | hx
      · split at hx
        · simp at hx
        · rename_i h0
          simp at hx; subst hx
          exact ⟨h0, hn, by simp⟩
      · have h1 := ih (p + 1) [] (fun c hc => by simp at hc) x hx
        exact ⟨h1.1, h1.2.1, by have := h1.2.2; simp only [List.length_nil, List.length_cons] at this ⊢; omega⟩
    · rw [scan_ne hz] at hx
      have h1 := ih (p + 1) (now ++ [z]) (hn.append fun c hc => by simp at hc; subst hc; exact hz) x hx
      exact ⟨h1.1, h1.2.1, by have := h1.2.2; simp only [List.length_append, List.length_cons, List.length_nil] at this ⊢; omega⟩
theorem scan_app (x y : List Int) : ∀ (p : Nat) (now : List Int), scan p now (x ++ 0 :: y) = scan p now (x ++ [0]) ++ scan (p + x.length + 1) [] y := by
  induction x with
  | nil => intro p now; rw [List.nil_append, List.nil_append, scan_zero, scan_zero]; simp [scan]
  | cons z x ih =>
    intro p now
    rw [List.cons_append, List.cons_append]
    by_cases hz : z = 0
    · subst hz
      rw [scan_zero, scan_zero, ih, List.append_assoc, List.length_cons]
      congr 3; omega
    · rw [scan_ne hz, scan_ne hz, ih, List.length_cons]
      congr 2; omega
theorem segs_app (x y : List Int) : segs (x ++ 0 :: y) = segs (x ++ [0]) ++ segs y := by
  unfold segs
  rw [scan_app, List.map_append, scan_snd y _ 0]
theorem segs_len (zs : List Int) : (segs zs).length ≤ zs.length := by unfold segs; rw [List.length_map]; exact scan_length zs 0 []
theorem segs_mem {zs b : List Int} (h : b ∈ segs zs) : b ≠ [] ∧ NZ b ∧ b.length ≤ zs.length := by
  obtain ⟨x, hx, rfl⟩ := List.mem_map.1 h
  have := scan_mem zs 0 [] (fun c hc => by simp at hc) x hx
  exact ⟨this.1, this.2.1, by simpa using this.2.2⟩

/-- lists, each fenced -/
def wrap (ls : List (List Int)) : List Int := ls.flatMap fun b => 0 :: b ++ [0]
theorem wrap_nil : wrap [] = [] := rfl
theorem wrap_cons (b : List Int) (ls : List (List Int)) : wrap (b :: ls) = 0 :: (b ++ 0 :: wrap ls) := by simp [wrap]
theorem wrap_append (x y : List (List Int)) : wrap (x ++ y) = wrap x ++ wrap y := by simp [wrap]
theorem wrap_one (b : List Int) : wrap [b] = [0] ++ b ++ [0] := by simp [wrap]
theorem scan_wrap (ls : List (List Int)) : (∀ b ∈ ls, NZ b) → ∀ p, (scan p [] (wrap ls)).map (·.2) = ls.filter (fun b => decide (b ≠ [])) := by
  induction ls with
  | nil => intro _ p; simp [wrap_nil, scan]
  | cons b ls ih =>
    intro h p
    rw [wrap_cons, scan_zero, scan_nz (h b (by simp)), scan_zero]
    have := ih (fun c hc => h c (by simp [hc])) (p + 1 + b.length + 1)
    by_cases hb : b = []
    · subst hb; simpa using this
    · simp only [if_true, List.nil_append, if_neg hb, List.map_append, this]
      rw [List.filter_cons_of_pos (by simp [hb])]
      simp
theorem segs_wrap {ls : List (List Int)} (h : ∀ b ∈ ls, NZ b) : segs (wrap ls) = ls.filter (fun b => decide (b ≠ [])) := scan_wrap ls h 0
theorem opn_wrap (ls : List (List Int)) : opn [] (wrap ls) = [] := by
  induction ls with
  | nil => rfl
  | cons b ls ih =>
    rw [wrap_cons, opn_zero, opn_app, ih]

/-! parts of sizes -/
/-- how many numbers a size takes of n -/
def clip (s : Int) (n : Nat) : Nat := min (max s 0).toNat n
/-- the parts of L, the sizes R going round, from the i-th on -/
inductive Parts (R : List Int) : Nat → List Int → List (List Int) → Prop
  | done (i : Nat) : Parts R i [] []
  | step (i : Nat) (L : List Int) (s : Int) (ps : List (List Int)) : L ≠ [] → R[i]? = some s → Parts R ((i + 1) % R.length) (L.drop (clip s L.length)) ps → Parts R i L (L.take (clip s L.length) :: ps)
theorem clip_le (s : Int) (n : Nat) : clip s n ≤ n := Nat.min_le_right _ _
theorem Parts.nil {R : List Int} {i : Nat} {L : List Int} {ps : List (List Int)} (h : Parts R i L ps) (hL : L = []) : ps = [] := by
  cases h with
  | done => rfl
  | step _ _ _ _ h1 => exact absurd hL h1
theorem Parts.cons {R : List Int} {i : Nat} {L : List Int} {ps : List (List Int)} (h : Parts R i L ps) (hL : L ≠ []) : ∃ s qs, R[i]? = some s ∧ ps = L.take (clip s L.length) :: qs ∧ Parts R ((i + 1) % R.length) (L.drop (clip s L.length)) qs := by
  cases h with
  | done => exact absurd rfl hL
  | step _ _ s qs _ h2 h3 => exact ⟨s, qs, h2, rfl, h3⟩
theorem Parts.flat {R : List Int} {i : Nat} {L : List Int} {ps : List (List Int)} (h : Parts R i L ps) : ps.flatten = L := by
  induction h with
  | done => rfl
  | step i L s ps _ _ _ ih => rw [List.flatten_cons, ih, List.take_append_drop]
theorem Parts.exists {R : List Int} (q : Nat) (hq : R.length = q) (j : Nat) (hj : j < q) (sj : Int) (hs : R[j]? = some sj) (hp : 0 < sj) :
    ∀ (n : Nat) (L : List Int), L.length = n → ∀ (d i : Nat), i < q → (i + d) % q = j → d < q → ∃ ps, Parts R i L ps ∧ ps.length ≤ n * q + d + 1 := by
  intro n
  induction n using Nat.strongRecOn with
  | ind n ihn =>
    intro L hL d
    by_cases hn : L = []
    · intro i _ _ _; exact ⟨[], hn ▸ Parts.done i, by simp⟩
    · have hLp : 0 < n := by
        rcases Nat.eq_zero_or_pos n with h0 | h0
        · exact absurd (List.eq_nil_of_length_eq_zero (hL.trans h0)) hn
        · exact h0
      induction d with
      | zero =>
        intro i hi hid hd
        rw [Nat.add_zero, Nat.mod_eq_of_lt hi] at hid
        subst hid
        have hc : 0 < clip sj L.length := by unfold clip; omega
        have hcl := clip_le sj L.length
        have hi2 : (i + 1) % q < q := Nat.mod_lt _ (by omega)
        obtain ⟨ps, h1, h2⟩ := ihn (L.drop (clip sj L.length)).length (by rw [List.length_drop]; omega) (L.drop (clip sj L.length)) rfl ((i + q - (i + 1) % q) % q) ((i + 1) % q) hi2
          (by rw [Nat.add_mod_mod, show (i + 1) % q + (i + q - (i + 1) % q) = i + q by omega, Nat.add_mod_right, Nat.mod_eq_of_lt hi]) (Nat.mod_lt _ (by omega))
        refine ⟨_, Parts.step i L sj ps hn hs (by rw [hq]; exact h1), ?_⟩
        have h3 : (i + q - (i + 1) % q) % q < q := Nat.mod_lt _ (by omega)
        have h4 : (L.drop (clip sj L.length)).length + 1 ≤ n := by rw [List.length_drop]; omega
        have h5 := Nat.mul_le_mul_right q h4
        rw [Nat.add_mul, Nat.one_mul] at h5
        rw [List.length_cons]; omega
      | succ d ihd =>
        intro i hi hid hd
        obtain ⟨s, hsi⟩ : ∃ s, R[i]? = some s := ⟨_, List.getElem?_eq_getElem (by omega)⟩
        have hi2 : (i + 1) % q < q := Nat.mod_lt _ (by omega)
        have hid2 : ((i + 1) % q + d) % q = j := by rw [Nat.mod_add_mod, show i + 1 + d = i + (d + 1) by omega]; exact hid
        by_cases h0 : clip s L.length = 0
        · obtain ⟨ps, h1, h2⟩ := ihd ((i + 1) % q) hi2 hid2 (by omega)
          refine ⟨_, Parts.step i L s ps hn hsi (by rw [hq, h0, List.drop_zero]; exact h1), ?_⟩
          rw [List.length_cons]; omega
        · have hcl := clip_le s L.length
          obtain ⟨ps, h1, h2⟩ := ihn (L.drop (clip s L.length)).length (by rw [List.length_drop]; omega) (L.drop (clip s L.length)) rfl d ((i + 1) % q) hi2 hid2 (by omega)
          refine ⟨_, Parts.step i L s ps hn hsi (by rw [hq]; exact h1), ?_⟩
          have h4 : (L.drop (clip s L.length)).length + 1 ≤ n := by rw [List.length_drop]; omega
          have h5 := Nat.mul_le_mul_right q h4
          rw [Nat.add_mul, Nat.one_mul] at h5
          rw [List.length_cons]; omega
theorem parts_some {R : List Int} (hp : ∃ s ∈ R, 0 < s) (L : List Int) : ∃ ps, Parts R 0 L ps ∧ ps.length ≤ (L.length + 1) * R.length + 1 := by
  obtain ⟨s, hs, h0⟩ := hp
  obtain ⟨j, hj, rfl⟩ := List.mem_iff_getElem.1 hs
  obtain ⟨ps, h1, h2⟩ := Parts.exists R.length rfl j hj R[j] (List.getElem?_eq_getElem hj) h0 L.length L rfl j 0 (by omega) (by rw [Nat.zero_add, Nat.mod_eq_of_lt hj]) hj
  refine ⟨ps, h1, ?_⟩
  rw [Nat.add_mul, Nat.one_mul]; omega
theorem parts_whole (L : List Int) : Parts [(L.length : Int)] 0 L (if L = [] then [] else [L]) := by
  by_cases h : L = []
  · subst h; exact Parts.done 0
  · rw [if_neg h]
    have hc : clip (L.length : Int) L.length = L.length := by unfold clip; omega
    have := Parts.step (R := [(L.length : Int)]) 0 L (L.length : Int) [] h rfl (by rw [hc, List.drop_length]; exact Parts.done _)
    rwa [hc, List.take_length] at this
end Fc
end Go.Proofs.Ytoaclbdlgkgnpaa

namespace Go.Proofs.Ytoaclbdlgkgnpaa
open Go.RowKit Go.Shelf
set_option maxRecDepth 100000
attribute [local go_sem] Oper.semAt_some

end Go.Proofs.Ytoaclbdlgkgnpaa

namespace Go.Proofs.Ytoaclbdlgkgnpaa
open Go.RowKit Go.Shelf
set_option maxRecDepth 100000
attribute [local go_sem] Oper.semAt_some

end Go.Proofs.Ytoaclbdlgkgnpaa

namespace Go.Proofs.Ytoaclbdlgkgnpaa
open Go.RowKit

theorem wpListIn_append_vals {F : Fence} {nF : Nat} {P : Program} {w : World} {ops : Array Oper} {rest : List Oper} {o : Oper} {a : Act} {Q : Exit → Act → World → Prop} (hg : o.guard = none) (s x : Operand) (t : TypeId)
    (hop : o.op = Op.call { callee := Callee.builtin Builtin.append, args := #[s, x], argTypes := #[t, t] })
    (base : Nat) (e : TypeId) (i : TypeInfo) (z : Value) (bytes : Nat) (ht : P.underlying t = some (.slice e)) (hi : P.info? e = some i) (hz : i.zero = some z) (hsize : i.size = 1) (hby : i.bytes = bytes) (hzs : z.cells.size = 1)
    (n : Nat) (xs news : List Value) (v : Value) (hs : a.eval s = v) (hown : w.ownsRow base e 1 v n xs) (ad : Addr) (m c : Nat) (hx : a.eval x = .slice (some ad) m c) (hm : news.length = m) (hnews : ∀ j u, news[j]? = some u → w.cell? (ad.add j) = some u) (hone : ∀ u ∈ news, u.oneCell' = true)
    (h63 : n + m ≤ maxLen) (hbytes : (n + m) * bytes ≤ 140737488355328) (hbase : base ≤ w.heap.size)
    (hK : ∀ v' w', w'.ownsRow base e 1 v' (n + m) (xs ++ news) → w.grownBy w' v.ownBlock → wpListIn F nF P ops Q rest (a.put o.dst v') w') :
    wpListIn F nF P ops Q (o :: rest) a w := by
  refine wpListIn_plain hg fun K hK' => ?_
  obtain ⟨v', w', hrun, r1, r2, _⟩ := run_append_own (P := P) (w := w) base t o.type e i z 1 bytes ht hi hz hsize hby hzs (by decide) v n xs hown ad m c news (by omega) hnews hone h63 hbytes hbase
  unfold Oper.wpIn
  refine ⟨?_, ?_⟩
  · simp [Oper.about, hop, resolve, Target.leads, Sem.run_pure]
  · rw [Oper.semAt_plain F _ _ (by rw [hop]; intro c hc'; cases hc')]
    simp [execOp, hop, resolve, invoke, builtin, hs, hx, hrun, Result.andThen]
    exact hK' _ _ (hK v' w' r1 r2)

/-- what a box of a list that is appended to leaves; base: where the list's own blocks begin, above the box -/
structure ListApp (base Bo : Nat) (t e : TypeId) (v' : Value) (m : Nat) (ys : List Value) (W W2 : World) : Prop where
  out : Boxed W2 Bo t v'
  row : W2.ownsRow base e 1 v' m ys
  others : KeepsOthers W W2
  off : ∀ w : World, w.heap.size = base → Off (fun k => k = Bo) w W → Off (fun k => k = Bo) w W2
  keep : ∀ S : Nat → Prop, ¬ S Bo → (∀ k, S k → k < base) → KeepS S W W2
theorem list_appended {W w1 : World} {base Bo : Nat} {t e : TypeId} {v v' : Value} {n m : Nat} {xs ys : List Value} (hv : Boxed W Bo t v) (hrow : W.ownsRow base e 1 v n xs) (hBo : Bo < base) (hbase : base ≤ W.heap.size)
    (hown' : w1.ownsRow base e 1 v' m ys) (hg : W.grownBy w1 v.ownBlock) :
    Boxed w1 Bo t v ∧ ListApp base Bo t e v' m ys W (w1.setCell ⟨Bo, 0, none⟩ v') := by
  have hlt := hrow.lt
  have hne : some Bo ≠ v.ownBlock := fun e2 => by have := (hlt Bo e2.symm).1; omega
  have hne' : v'.ownBlock = none ∨ v'.ownBlock ≠ some Bo := by
    right; intro e2; have := (hown'.lt Bo e2).1; omega
  have hv1 : Boxed w1 Bo t v := hv.kept hg hne
  have hblk : ∀ k, k < base → k ≠ Bo → (w1.setCell ⟨Bo, 0, none⟩ v').heap[k]? = W.heap[k]? := fun k hk hkn => by
    refine (Below.heap_setCell w1 ⟨Bo, 0, none⟩ v' k hkn).trans (hg.block k (by omega) fun e2 => ?_)
    have := (hlt k e2.symm).1; omega
  have hsz : W.heap.size ≤ (w1.setCell ⟨Bo, 0, none⟩ v').heap.size := by simpa [World.setCell] using hg.size
  refine ⟨hv1, hv1.set v', hown'.kept (grownBy_setCell' w1 Bo v') hne', ?_, ?_, ?_⟩
  · refine (KeepsOthers.of_grownBy hg fun j o ej hj => ?_).trans (KeepsOthers.setCell _ _ _)
    rcases hrow.2 with ⟨rfl, _⟩ | ⟨g, cap, cur, rfl, _, hgb, _⟩
    · simp [Value.ownBlock] at ej
    · obtain rfl : g = j := by simpa [Value.ownBlock] using ej
      rw [hgb] at hj; cases hj; rfl
  · exact fun w hw h => ⟨hg.os.trans h.os, hg.tape.trans h.tape, hg.output.trans h.output, Nat.le_trans h.size hsz, fun k hk hn => (hblk k (by omega) hn).trans (h.block k hk hn)⟩
  · exact fun S hS hSb => ⟨hsz, fun k hk => hblk k (hSb k hk) (fun e2 => hS (by rw [← e2]; exact hk))⟩

/-- the list v, of the lists O, whose numbers lay in blocks of S in w -/
structure LsS (tl : TypeId) (k : IntKind) (base : Nat) (w : World) (S : Nat → Prop) (W : World) (v : Value) (xs : List Value) (O : List (List Int)) : Prop where
  out : W.ownsRow base tl 1 v O.length xs
  els : ∀ (i : Nat) (b : List Int), O[i]? = some b → ∃ (A : Option Addr) (c : Nat), xs[i]? = some (.slice A b.length c) ∧ b.length ≤ c ∧ NumsS k w S A b
section
variable {tl : TypeId} {k : IntKind} {base : Nat} {w W W' : World} {S : Nat → Prop} {v v' : Value} {xs : List Value} {O : List (List Int)}
theorem LsS.start (tl : TypeId) (k : IntKind) (base : Nat) (w : World) (S : Nat → Prop) (W : World) : LsS tl k base w S W (.slice none 0 0) [] [] := ⟨World.ownsRow_nil _ _ _ _, fun i b h => by simp at h⟩
theorem LsS.more {b : List Int} {A : Option Addr} {c : Nat} (h : LsS tl k base w S W v xs O) (hown : W'.ownsRow base tl 1 v' (O.length + 1) (xs ++ [.slice A b.length c])) (hc : b.length ≤ c) (hn : NumsS k w S A b) : LsS tl k base w S W' v' (xs ++ [.slice A b.length c]) (O ++ [b]) := by
  have hxl : xs.length = O.length := by have := h.out.1; omega
  refine ⟨by simpa using hown, fun i b2 hb => ?_⟩
  rcases Nat.lt_or_ge i O.length with hi | hi
  · rw [List.getElem?_append_left hi] at hb
    obtain ⟨A2, c2, hx, r⟩ := h.els i b2 hb
    exact ⟨A2, c2, by rw [List.getElem?_append_left (by omega)]; exact hx, r⟩
  · rw [List.getElem?_append_right hi] at hb
    have hi0 : i - O.length = 0 := by
      rcases Nat.eq_zero_or_pos (i - O.length) with h0 | h0
      · exact h0
      · rw [List.getElem?_eq_none (by simp only [List.length_singleton]; omega)] at hb; simp at hb
    rw [hi0] at hb
    simp only [List.getElem?_cons_zero, Option.some.injEq] at hb
    subst hb
    exact ⟨A, c, by rw [List.getElem?_append_right (by omega), show i - xs.length = 0 by omega]; rfl, hc, hn⟩
theorem LsS.kept (h : LsS tl k base w S W v xs O) (hown : W'.ownsRow base tl 1 v O.length xs) : LsS tl k base w S W' v xs O := ⟨hown, h.els⟩
theorem ListAt.putObj {k : IntKind} {V : World} {B l : Nat} {A : Option Addr} {bl : List (List Int)} {o : Obj} (h : ListAt k V B A bl) (ho : V.heap[l]? = some o) (hc : o.isCells = false) (o' : Obj) : ListAt k (V.putObj l o') B A bl := fun i b hi => by
  obtain ⟨g, Ai, ci, e, hg, hcl, hl, hn⟩ := h i b hi
  refine ⟨g, Ai, ci, e, hg, ?_, hl, hn.putObj ho hc o'⟩
  obtain ⟨o2, h2, h3⟩ := cells_of_cell hcl
  refine (World.cell?_of_block (World.putObj_heap_other (fun e2 => ?_))).trans hcl
  simp only at h2 e2
  subst e2
  rw [ho] at h2
  injection h2 with h2
  subst h2
  rw [hc] at h3; cases h3
/-- .. as it lies, in a world in which the blocks of S are as they were -/
theorem LsS.lies (h : LsS tl k base w S W v xs O) (hK : KeepS S w W) (hS : ∀ k, S k → k < w.heap.size) : ∃ A c, v = .slice A O.length c ∧ O.length ≤ c ∧ ListAt k W W.heap.size A O := by
  rcases h.out.2 with ⟨rfl, h0⟩ | ⟨g, cap, cur, rfl, hbg, hh, hle, _⟩
  · rw [List.eq_nil_of_length_eq_zero h0]
    exact ⟨none, 0, rfl, Nat.le_refl _, fun i b hi => by simp at hi⟩
  · refine ⟨_, cap, rfl, hle, fun i b hi => ?_⟩
    obtain ⟨A, c, hx, hc, hn⟩ := h.els i b hi
    have h1 := h.out.cells (g := g) rfl i _ hx
    rw [Addr.add_lit, Nat.zero_add] at h1
    exact ⟨g, A, c, rfl, (Array.getElem?_eq_some_iff.1 hh).1, h1, hc, (hn.keeps hK).nums (fun k hk => by have := hS k hk; have := hK.1; omega)⟩
end
end Go.Proofs.Ytoaclbdlgkgnpaa

namespace Go.Proofs.Ytoaclbdlgkgnpaa
open Go.RowKit Go.Shelf
set_option maxRecDepth 100000
attribute [local go_sem] Oper.semAt_some

/-- what Split leaves -/
def SplitR (w : World) (zs : List Int) (e : Ending) (w' : World) : Prop :=
  ∃ A1 c1 A2 c2, e = .returned (.tuple #[.slice A1 (Fc.segs zs).length c1, .slice A2 (Fc.opn [] zs).length c2]) ∧ (Fc.segs zs).length ≤ c1 ∧ (Fc.opn [] zs).length ≤ c2 ∧
    ListAt .u8 w' w'.heap.size A1 (Fc.segs zs) ∧ Nums .u8 w' w'.heap.size A2 (Fc.opn [] zs) ∧ Below w.heap.size w w'

end Go.Proofs.Ytoaclbdlgkgnpaa

namespace Go.Proofs.Ytoaclbdlgkgnpaa
open Go.RowKit

/-- x is a slice of the numbers b, in a block of the call's own with elements of type te -/
def El1 (te : TypeId) (k : IntKind) (base : Nat) (W : World) (x : Value) (b : List Int) : Prop :=
  ∃ (A : Option Addr) (c : Nat), x = .slice A b.length c ∧ b.length ≤ c ∧ (b ≠ [] → ∃ (g : Nat) (cur : Array Value), A = some ⟨g, 0, none⟩ ∧ base ≤ g ∧ W.heap[g]? = some (.cells cur te (0, 0)) ∧ ∀ (j : Nat) (z : Int), b[j]? = some z → cur[j]? = some (Value.int k z))
/-- the slice v of slices, the lists O -/
structure L1 (te tl : TypeId) (k : IntKind) (base : Nat) (W : World) (v : Value) (xs : List Value) (O : List (List Int)) : Prop where
  out : W.ownsRow base tl 1 v O.length xs
  els : ∀ (i : Nat) (b : List Int), O[i]? = some b → ∃ x, xs[i]? = some x ∧ El1 te k base W x b
section
variable {te tl : TypeId} {k : IntKind} {base : Nat} {W w1 W' : World} {v v' u x : Value} {xs ys : List Value} {O P : List (List Int)} {b : List Int} {o : Obj}
theorem L1.start (te tl : TypeId) (k : IntKind) (base : Nat) (W : World) : L1 te tl k base W (.slice none 0 0) [] [] := ⟨World.ownsRow_nil _ _ _ _, fun i b h => by simp at h⟩
theorem own_below {e : TypeId} {n : Nat} (h : W.ownsRow base e 1 v n xs) (hb : Below W.heap.size W W') : W'.ownsRow base e 1 v n xs := by
  refine ⟨h.1, ?_⟩
  rcases h.2 with h | ⟨g, cap, cur, hv, hg, hh, r⟩
  · exact .inl h
  · exact .inr ⟨g, cap, cur, hv, hg, (hb.block g (Array.getElem?_eq_some_iff.1 hh).1).trans hh, r⟩
theorem El1.below (h : El1 te k base W x b) (hb : Below W.heap.size W W') : El1 te k base W' x b := by
  obtain ⟨A, c, rfl, hc, hz⟩ := h
  refine ⟨A, c, rfl, hc, fun hn => ?_⟩
  obtain ⟨g, cur, rfl, hg, hh, hj⟩ := hz hn
  exact ⟨g, cur, rfl, hg, (hb.block g (Array.getElem?_eq_some_iff.1 hh).1).trans hh, hj⟩
theorem L1.below (h : L1 te tl k base W v xs O) (hb : Below W.heap.size W W') : L1 te tl k base W' v xs O :=
  ⟨own_below h.out hb, fun i b hi => by obtain ⟨x, hx, he⟩ := h.els i b hi; exact ⟨x, hx, he.below hb⟩⟩
/-- what a row that the call has just made is -/
theorem El1.of_made {w : World} (h : MadeK te k w W b x) (hb : base ≤ w.heap.size) : El1 te k base W x b := by
  have h1 := h.1
  rcases h1.2 with ⟨rfl, h0⟩ | ⟨g, cap, cur, rfl, hbg, hh, hle, _, _, htk⟩
  · rw [List.eq_nil_of_length_eq_zero h0]
    exact ⟨none, 0, rfl, Nat.le_refl _, fun hn => absurd rfl hn⟩
  · refine ⟨_, cap, rfl, hle, fun _ => ⟨g, cur, rfl, by omega, hh, fun j z hj => ?_⟩⟩
    have h1 : (b.map (Value.int k))[j]? = some (.int k z) := by rw [List.getElem?_map, hj]; rfl
    rw [← htk, List.getElem?_take] at h1
    split at h1
    · rw [← Array.getElem?_toList]; exact h1
    · simp at h1
theorem El1.slice (h : El1 te k base W x b) : ∃ A c, x = .slice A b.length c := by
  obtain ⟨A, c, e, _⟩ := h
  exact ⟨A, c, e⟩
/-- a row of another element type has grown -/
theorem El1.grown {n : Nat} (h : El1 te k base W x b) (hne : te ≠ tl) (hown : W.ownsRow base tl 1 v n xs) (hg : (W.alloc o).grownBy w1 v.ownBlock) : El1 te k base w1 x b := by
  obtain ⟨A, c, rfl, hc, hz⟩ := h
  refine ⟨A, c, rfl, hc, fun hn => ?_⟩
  obtain ⟨g, cur, rfl, hbg, hh, hj⟩ := hz hn
  have hlt := (Array.getElem?_eq_some_iff.1 hh).1
  refine ⟨g, cur, rfl, hbg, ?_, hj⟩
  rw [hg.block g (by rw [World.size_alloc]; omega) (fun e => ?_)]
  · exact (Below.heap_alloc W o g hlt).trans hh
  · rcases hown.2 with ⟨rfl, _⟩ | ⟨g2, cap2, cur2, rfl, _, hh2, _⟩
    · simp [Value.ownBlock] at e
    · simp only [Value.ownBlock, Option.some.injEq] at e
      subst e
      rw [hh] at hh2
      injection hh2 with hh2
      injection hh2 with _ ht
      exact hne ht
/-- an element more -/
theorem L1.push (h : L1 te tl k base W v xs O) (hne : te ≠ tl) (hx : El1 te k base W x b) (hown : w1.ownsRow base tl 1 v' (O.length + 1) (xs ++ [x])) (hg : (W.alloc o).grownBy w1 v.ownBlock) :
    L1 te tl k base w1 v' (xs ++ [x]) (O ++ [b]) := by
  have hxl : xs.length = O.length := by have := h.out.1; omega
  refine ⟨by simpa using hown, fun i b2 hb => ?_⟩
  rcases Nat.lt_or_ge i O.length with hi | hi
  · rw [List.getElem?_append_left hi] at hb
    obtain ⟨x2, hx2, he⟩ := h.els i b2 hb
    exact ⟨x2, by rw [List.getElem?_append_left (by omega)]; exact hx2, he.grown hne h.out hg⟩
  · rw [List.getElem?_append_right hi] at hb
    have hi0 : i - O.length = 0 := by
      rcases Nat.eq_zero_or_pos (i - O.length) with h0 | h0
      · exact h0
      · rw [List.getElem?_eq_none (by simp only [List.length_singleton]; omega)] at hb; simp at hb
    rw [hi0] at hb
    simp only [List.getElem?_cons_zero, Option.some.injEq] at hb
    subst hb
    exact ⟨x, by rw [List.getElem?_append_right (by omega), show i - xs.length = 0 by omega]; rfl, hx.grown hne h.out hg⟩
/-- .. beside another list -/
theorem L1.beside {n : Nat} (h : L1 te tl k base W u ys P) (hne : te ≠ tl) (hsep : u.ownBlock = none ∨ u.ownBlock ≠ v.ownBlock) (hown : W.ownsRow base tl 1 v n xs) (hg : (W.alloc o).grownBy w1 v.ownBlock) : L1 te tl k base w1 u ys P :=
  ⟨(h.out.alloc o).kept hg hsep, fun i b hi => by obtain ⟨x, hx, he⟩ := h.els i b hi; exact ⟨x, hx, he.grown hne hown hg⟩⟩
/-- .. which stays apart -/
theorem apart_grown {n : Nat} {e : TypeId} (h : W.ownsRow base e 1 u n ys) (hsep : u.ownBlock = none ∨ u.ownBlock ≠ v.ownBlock) (hat : v'.ownBlock = v.ownBlock ∨ v'.ownBlock = some (W.alloc o).heap.size) : u.ownBlock = none ∨ u.ownBlock ≠ v'.ownBlock := by
  rcases hsep with h0 | h0
  · exact .inl h0
  · right
    rcases hat with e | e
    · rw [e]; exact h0
    · intro e2
      rw [e, World.size_alloc] at e2
      rcases h.2 with ⟨rfl, _⟩ | ⟨g, cap, cur, rfl, _, hh, _⟩
      · simp [Value.ownBlock] at e2
      · simp only [Value.ownBlock, Option.some.injEq] at e2
        have := (Array.getElem?_eq_some_iff.1 hh).1
        omega
theorem apart_symm {n m : Nat} {e : TypeId} (_h : W.ownsRow base e 1 v n xs) (_h2 : W.ownsRow base e 1 u m ys) (hsep : u.ownBlock = none ∨ u.ownBlock ≠ v.ownBlock) : v.ownBlock = none ∨ v.ownBlock ≠ u.ownBlock := by
  rcases hsep with h0 | h0
  · cases hv : v.ownBlock with
    | none => exact .inl rfl
    | some g => right; rw [h0]; simp
  · exact .inr (Ne.symm h0)
theorem L1.lies (h : L1 te tl k base W v xs O) : ∃ A c, v = .slice A O.length c ∧ O.length ≤ c ∧ ListAt k W W.heap.size A O := by
  rcases h.out.2 with ⟨rfl, h0⟩ | ⟨g, cap, cur, rfl, hbg, hh, hle, _⟩
  · rw [List.eq_nil_of_length_eq_zero h0]
    exact ⟨none, 0, rfl, Nat.le_refl _, fun i b hi => by simp at hi⟩
  · refine ⟨_, cap, rfl, hle, fun i b hi => ?_⟩
    obtain ⟨x, hx, A, c, rfl, hc, hcell⟩ := h.els i b hi
    have h1 := h.out.cells (g := g) rfl i _ hx
    rw [Addr.add_lit, Nat.zero_add] at h1
    refine ⟨g, A, c, rfl, (Array.getElem?_eq_some_iff.1 hh).1, h1, hc, fun hn => ?_⟩
    obtain ⟨g2, cur2, rfl, _, hh2, hz⟩ := hcell hn
    refine ⟨g2, 0, rfl, (Array.getElem?_eq_some_iff.1 hh2).1, fun j z hj => ?_⟩
    rw [Nat.zero_add]
    simp [World.cell?, hh2, hz j z hj]
end
end Go.Proofs.Ytoaclbdlgkgnpaa

namespace Go.Proofs.Ytoaclbdlgkgnpaa
open Go.RowKit Go.Shelf
set_option maxRecDepth 100000
attribute [local go_sem] Oper.semAt_some

theorem wrap_take (bl : List (List Int)) (k : Nat) {b : List Int} (hb : bl[k]? = some b) : Fc.wrap (bl.take (k + 1)) = Fc.wrap (bl.take k) ++ [0] ++ b ++ [0] := by
  rw [List.take_add_one, hb, Fc.wrap_append]
  simp [Fc.wrap]
theorem wrap_take_le (bl : List (List Int)) (k : Nat) : (Fc.wrap (bl.take k)).length ≤ (Fc.wrap bl).length := by
  conv => rhs; rw [← List.take_append_drop k bl, Fc.wrap_append, List.length_append]
  omega

end Go.Proofs.Ytoaclbdlgkgnpaa

namespace Go.Proofs.Ytoaclbdlgkgnpaa
open Go.RowKit Go.Shelf
set_option maxRecDepth 100000

/-- a frame that lies somewhere -/
structure Fr where
  v : Int
  k : Int
  s : Int
  i : Int
  c : Int
  a : Option Addr
  cp : Nat
  zs : List Int
def Fr.cs (f : Fr) : Array Value := frC f.v f.k f.s f.i f.c (.slice f.a f.zs.length f.cp)
structure Fr.At (w : World) (B : Nat) (f : Fr) : Prop where
  s0 : 0 ≤ f.s
  s1 : f.s ≤ 4294967295
  room : f.zs.length ≤ f.cp
  few : f.zs.length ≤ 9223372036854775807
  byte : Bytes f.zs
  nums : Nums .u8 w B f.a f.zs
theorem Fr.At.below {w w' : World} {B : Nat} {f : Fr} (h : f.At w B) (hb : Below B w w') : f.At w' B := ⟨h.s0, h.s1, h.room, h.few, h.byte, h.nums.below hb⟩
theorem Fr.At.mono {w : World} {B B' : Nat} {f : Fr} (h : f.At w B) (hB : B ≤ B') : f.At w B' := ⟨h.s0, h.s1, h.room, h.few, h.byte, h.nums.mono hB⟩
def Fr.chk (f : Fr) : Int := fchk f.v f.k f.i f.c f.zs.length
def Fr.blk (f : Fr) : List Int := fblk f.v f.k f.s f.i f.c f.zs
def Fr.seg (f : Fr) : List Int := Cb.enc f.blk
theorem Fr.seg_len {f : Fr} (h : f.chk = 0) : f.seg.length = f.zs.length + 13 := by
  have h1 := (fchk_zero h).2
  have h2 : f.blk.length = f.zs.length + 12 := fblk_len _ _ _ _ _ _
  have h3 := (Cb.enc_len f.blk).2.2.1 (by omega)
  unfold Fr.seg
  omega
/-- the first that is wrong -/
def firstBad : List Fr → Int
  | [] => 0
  | f :: r => if f.chk ≠ 0 then f.chk else firstBad r
theorem firstBad_zero : ∀ {fs : List Fr}, (∀ f ∈ fs, f.chk = 0) → firstBad fs = 0
  | [], _ => rfl
  | f :: r, h => by
    rw [firstBad, if_neg (by simp [h f (by simp)])]
    exact firstBad_zero fun g hg => h g (by simp [hg])
theorem firstBad_all : ∀ {fs : List Fr}, firstBad fs = 0 → ∀ f ∈ fs, f.chk = 0
  | [], _, _, hf => by cases hf
  | g :: r, h, f, hf => by
    rw [firstBad] at h
    by_cases h0 : g.chk = 0
    · rw [if_neg (by simp [h0])] at h
      rcases List.mem_cons.1 hf with rfl | hf
      · exact h0
      · exact firstBad_all h f hf
    · rw [if_pos h0] at h; exact absurd h h0
theorem firstBad_at : ∀ {fs : List Fr} {k : Nat} {f : Fr}, (∀ g ∈ fs.take k, g.chk = 0) → fs[k]? = some f → f.chk ≠ 0 → firstBad fs = f.chk
  | [], _, _, _, h, _ => by simp at h
  | g :: r, 0, f, _, h, hf => by
    simp only [List.getElem?_cons_zero, Option.some.injEq] at h
    subst h
    rw [firstBad, if_pos hf]
  | g :: r, k + 1, f, hg, h, hf => by
    rw [firstBad, if_neg (by simp [hg g (by simp)])]
    exact firstBad_at (k := k) (fun x hx => hg x (by rw [List.take_succ_cons]; exact List.mem_cons_of_mem _ hx)) (by simpa using h) hf

/-- frames that lie one behind the other, below B -/
def FrsAt (w : World) (B : Nat) (A : Option Addr) (fs : List Fr) : Prop :=
  (∀ f ∈ fs, f.At w B) ∧ ∀ (j : Nat) (f : Fr), fs[j]? = some f → ∃ b off, A = some ⟨b, off, none⟩ ∧ b < B ∧ ∀ (q : Nat) (u : Value), f.cs[q]? = some u → w.cell? ⟨b, off + j * 6 + q, none⟩ = some u
theorem FrsAt.below {w w' : World} {B : Nat} {A : Option Addr} {fs : List Fr} (h : FrsAt w B A fs) (hb : Below B w w') : FrsAt w' B A fs := by
  refine ⟨fun f hf => (h.1 f hf).below hb, fun j f hj => ?_⟩
  obtain ⟨b, off, e, hB, hc⟩ := h.2 j f hj
  exact ⟨b, off, e, hB, fun q u hq => (hb.cell (p := ⟨b, off + j * 6 + q, none⟩) hB).trans (hc q u hq)⟩
theorem FrsAt.mono {w : World} {B B' : Nat} {A : Option Addr} {fs : List Fr} (h : FrsAt w B A fs) (hB : B ≤ B') : FrsAt w B' A fs := by
  refine ⟨fun f hf => (h.1 f hf).mono hB, fun j f hj => ?_⟩
  obtain ⟨b, off, e, hB', hc⟩ := h.2 j f hj
  exact ⟨b, off, e, by omega, hc⟩
theorem FrsAt.six {w : World} {B : Nat} {A : Option Addr} {fs : List Fr} (h : FrsAt w B A fs) {j : Nat} {f : Fr} (hj : fs[j]? = some f) : ∃ b off, A = some ⟨b, off, none⟩ ∧ b < B ∧
    w.cell? ⟨b, off + j * 6, none⟩ = some (.int .i64 f.v) ∧ w.cell? ⟨b, off + j * 6 + 1, none⟩ = some (.int .i64 f.k) ∧ w.cell? ⟨b, off + j * 6 + 2, none⟩ = some (.int .u32 f.s) ∧ w.cell? ⟨b, off + j * 6 + 3, none⟩ = some (.int .i64 f.i) ∧
    w.cell? ⟨b, off + j * 6 + 4, none⟩ = some (.int .i64 f.c) ∧ w.cell? ⟨b, off + j * 6 + 5, none⟩ = some (.slice f.a f.zs.length f.cp) := by
  obtain ⟨b, off, e, hB, hc⟩ := h.2 j f hj
  exact ⟨b, off, e, hB, hc 0 _ rfl, hc 1 _ rfl, hc 2 _ rfl, hc 3 _ rfl, hc 4 _ rfl, hc 5 _ rfl⟩

/-- the segments' list, its first k filled -/
structure PkAt (w : World) (fs : List Fr) (n k : Nat) (wr : World) : Prop where
  below : Below w.heap.size w wr
  row : ∃ cs, wr.heap[w.heap.size]? = some (.cells cs 37 (0, 0)) ∧ cs.size = n ∧ ∀ (j : Nat) (f : Fr), j < k → fs[j]? = some f →
    ∃ Aj cj, cs[j]? = some (.slice Aj f.seg.length cj) ∧ f.seg.length ≤ cj ∧ NumsS .u8 wr (fun b => w.heap.size < b ∧ b < wr.heap.size) Aj f.seg
section
variable {w wr w2 : World} {fs : List Fr} {n k : Nat}
theorem PkAt.start (w : World) (fs : List Fr) (cs : Array Value) (hn : cs.size = n) : PkAt w fs n 0 (w.alloc (.cells cs 37)) :=
  ⟨(Below.refl _ w).alloc (Nat.le_refl _) _, cs, heap_alloc_new w _, hn, fun j f hj _ => by omega⟩
theorem PkAt.lt (h : PkAt w fs n k wr) : w.heap.size < wr.heap.size := by
  obtain ⟨cs, hh, _⟩ := h.row
  exact (Array.getElem?_eq_some_iff.1 hh).1
theorem PkAt.later (h : PkAt w fs n k wr) (hb : Below wr.heap.size wr w2) : PkAt w fs n k w2 := by
  have hlt := h.lt
  refine ⟨h.below.trans (hb.mono h.below.size), ?_⟩
  obtain ⟨cs, hh, hs, hc⟩ := h.row
  refine ⟨cs, (hb.block _ hlt).trans hh, hs, fun j f hj hf => ?_⟩
  obtain ⟨Aj, cj, h1, h2, h3⟩ := hc j f hj hf
  exact ⟨Aj, cj, h1, h2, (h3.keeps (KeepS.of_below hb fun k hk => hk.2)).more fun k hk => ⟨hk.1, Nat.lt_of_lt_of_le hk.2 hb.size⟩⟩
theorem PkAt.cell (h : PkAt w fs n k wr) {j : Nat} (hj : j < n) : (∃ u, wr.cell? ⟨w.heap.size, j, none⟩ = some u) ∧ wr.frozen? ⟨w.heap.size, j, none⟩ = false := by
  obtain ⟨cs, hh, hs, _⟩ := h.row
  exact ⟨⟨cs[j], by rw [cell_of_row wr _ j cs _ _ hh]; exact Array.getElem?_eq_getElem (by omega)⟩, frozen_of_row wr _ j cs _ hh⟩
theorem PkAt.put {w1 : World} {f : Fr} {A : Option Addr} {c : Nat} (h : PkAt w fs n k wr) (hk : k < n) (hf : fs[k]? = some f) (hm : MadeK 5 .u8 w1 wr f.seg (.slice A f.seg.length c)) (hw : w.heap.size < w1.heap.size) (hc : f.seg.length ≤ c) :
    PkAt w fs n (k + 1) (wr.setCell ⟨w.heap.size, k, none⟩ (.slice A f.seg.length c)) := by
  obtain ⟨cs, hh, hs, hr⟩ := h.row
  have hS : ∀ x, KeepS (fun b => w.heap.size < b ∧ b < wr.heap.size) wr (wr.setCell ⟨w.heap.size, k, none⟩ x) := fun x => ⟨by simp [World.setCell], fun j hj => Below.heap_setCell wr ⟨w.heap.size, k, none⟩ x j (fun e => by subst e; exact Nat.lt_irrefl _ hj.1)⟩
  have hz : (wr.setCell ⟨w.heap.size, k, none⟩ (.slice A f.seg.length c)).heap.size = wr.heap.size := by simp [World.setCell]
  refine ⟨h.below.setCell (Nat.le_refl _) _, _, setCell_at hh, by simpa using hs, fun j g hj hg => ?_⟩
  rw [Array.getElem?_setIfInBounds]
  by_cases hjk : k = j
  · subst hjk
    obtain rfl : f = g := Option.some.inj (hf.symm.trans hg)
    rw [if_pos rfl, if_pos (by omega)]
    refine ⟨A, c, rfl, hc, ?_⟩
    have h3 := (hm.numsS rfl).more (S' := fun b => w.heap.size < b ∧ b < wr.heap.size) fun b hb => ⟨by omega, hb.2⟩
    rw [hz]
    exact h3.keeps (hS _)
  · rw [if_neg hjk]
    obtain ⟨Aj, cj, h1, h2, h3⟩ := hr j g (by omega) hg
    rw [hz]
    exact ⟨Aj, cj, h1, h2, h3.keeps (hS _)⟩
theorem PkAt.list (h : PkAt w fs n k wr) (hk : fs.length ≤ k) : ListAt .u8 wr wr.heap.size (some ⟨w.heap.size, 0, none⟩) (fs.map Fr.seg) := fun j b hb => by
  rw [List.getElem?_map] at hb
  obtain ⟨f, hf, rfl⟩ := Option.map_eq_some_iff.1 hb
  obtain ⟨cs, hh, hs, hr⟩ := h.row
  have hj : j < fs.length := (List.getElem?_eq_some_iff.1 hf).1
  obtain ⟨Aj, cj, h1, h2, h3⟩ := hr j f (by omega) hf
  exact ⟨_, Aj, cj, rfl, h.lt, by rw [cell_of_row wr _ j cs _ _ hh]; exact h1, h2, h3.nums fun k hk => hk.2⟩
end
end Go.Proofs.Ytoaclbdlgkgnpaa

namespace Go.Proofs.Ytoaclbdlgkgnpaa
open Go.RowKit
set_option maxRecDepth 100000

namespace Ct
/-- how many parts n bytes have by a room -/
def cnt (n r : Nat) : Nat := (n + r - 1) / r
/-- the part at a place -/
def part (zs : List Int) (r j : Nat) : List Int := (zs.drop (j * r)).take r
theorem lt_cnt {n r j : Nat} (hr : 1 ≤ r) : j < cnt n r ↔ j * r < n := by
  unfold cnt
  have h := Nat.le_div_iff_mul_le (k0 := hr) (x := j + 1) (y := n + r - 1)
  rw [Nat.add_mul, Nat.one_mul] at h
  constructor
  · intro hj
    have := h.1 hj
    omega
  · intro hj
    exact h.2 (by omega)
theorem cnt_zero (r : Nat) : cnt 0 r = 0 := by
  rcases Nat.eq_zero_or_pos r with rfl | h
  · simp [cnt]
  · unfold cnt; rw [Nat.zero_add, Nat.div_eq_of_lt (by omega)]
theorem cnt_pos {n r : Nat} (hr : 1 ≤ r) (hn : 1 ≤ n) : 1 ≤ cnt n r := (lt_cnt (n := n) (j := 0) hr).2 (by omega)
theorem cnt_le {n r : Nat} (hr : 1 ≤ r) : cnt n r ≤ n := by
  rcases Nat.lt_or_ge n (cnt n r) with h | h
  · have := (lt_cnt hr).1 h
    have h2 : n * 1 ≤ n * r := Nat.mul_le_mul_left n hr
    omega
  · exact h
theorem cnt_anti {n r r' : Nat} (hr : 1 ≤ r) (h : r ≤ r') : cnt n r' ≤ cnt n r := by
  rcases Nat.lt_or_ge (cnt n r) (cnt n r') with h1 | h1
  · have h2 := (lt_cnt (by omega : 1 ≤ r')).1 h1
    have h3 : cnt n r * r ≤ cnt n r * r' := Nat.mul_le_mul_left _ h
    have := (lt_cnt (n := n) hr).2 (by omega : cnt n r * r < n)
    omega
  · exact h1
theorem cnt_end {n r : Nat} (hr : 1 ≤ r) : n ≤ cnt n r * r := by
  rcases Nat.lt_or_ge (cnt n r * r) n with h | h
  · have := (lt_cnt hr).2 h; omega
  · exact h
theorem cnt_div {n r : Nat} (hr : 1 ≤ r) (hn : 1 ≤ n) : (n - 1) / r + 1 = cnt n r := by
  unfold cnt
  rw [show n + r - 1 = (n - 1) + r by omega, Nat.add_div_right _ hr]
theorem part_len (zs : List Int) (r j : Nat) : (part zs r j).length = min r (zs.length - j * r) := by
  unfold part; rw [List.length_take, List.length_drop]
theorem part_mem {zs : List Int} {r j : Nat} {z : Int} (h : z ∈ part zs r j) : z ∈ zs := List.mem_of_mem_drop (List.mem_of_mem_take h)
theorem part_take {zs : List Int} (r j : Nat) : zs.take (j * r) ++ part zs r j = zs.take ((j + 1) * r) := by
  unfold part
  rw [Nat.add_mul, Nat.one_mul, List.take_add]

/-- the frames of a body, of a head -/
structure Cut (v k s : Int) (zs : List Int) (r : Nat) (fs : List Fr) : Prop where
  len : fs.length = cnt zs.length r
  at' : ∀ (j : Nat) (f : Fr), fs[j]? = some f → f.v = v ∧ f.k = k ∧ f.s = s ∧ f.i = (j : Int) ∧ f.c = (cnt zs.length r : Int) ∧ f.zs = part zs r j
/-- the payloads, one behind the other -/
def flat (fs : List Fr) : List Int := fs.flatMap Fr.zs
theorem flat_push (fs : List Fr) (f : Fr) : flat (fs ++ [f]) = flat fs ++ f.zs := by simp [flat]
theorem flat_take {fs : List Fr} {j : Nat} {f : Fr} (h : fs[j]? = some f) : flat (fs.take (j + 1)) = flat (fs.take j) ++ f.zs := by
  rw [List.take_add_one, h]; exact flat_push _ _
theorem flat_len_le (fs : List Fr) (k : Nat) : (flat (fs.take k)).length ≤ (flat fs).length := by
  have h : flat fs = flat (fs.take k) ++ flat (fs.drop k) := by
    unfold flat; rw [← List.flatMap_append, List.take_append_drop]
  rw [h, List.length_append]; omega
theorem Cut.flat_upto {v k s : Int} {zs : List Int} {r : Nat} {fs : List Fr} (h : Cut v k s zs r fs) : ∀ j, j ≤ fs.length → flat (fs.take j) = zs.take (j * r)
  | 0, _ => by simp [flat]
  | j + 1, hj => by
    obtain ⟨f, hf⟩ : ∃ f, fs[j]? = some f := ⟨_, List.getElem?_eq_getElem (by omega)⟩
    rw [flat_take hf, Cut.flat_upto h j (by omega), (h.at' j f hf).2.2.2.2.2, part_take]
theorem Cut.flat_eq {v k s : Int} {zs : List Int} {r : Nat} {fs : List Fr} (h : Cut v k s zs r fs) (hr : 1 ≤ r) : flat fs = zs := by
  have h1 := h.flat_upto fs.length (Nat.le_refl _)
  rw [List.take_length, h.len, List.take_of_length_le (cnt_end hr)] at h1
  exact h1

/-- what is wrong with a cut -/
def fErr (v k : Int) (n : Nat) (room : Int) : Int := if n = 0 then 13 else if 192 < n then 2 else if room < 1 ∨ 242 < room then 5 else chk v k 0 (cnt n room.toNat : Int)
theorem fErr_zero {v k : Int} {n : Nat} {room : Int} (h : fErr v k n room = 0) : 1 ≤ n ∧ n ≤ 192 ∧ 1 ≤ room ∧ room ≤ 242 ∧ chk v k 0 (cnt n room.toNat : Int) = 0 := by
  unfold fErr at h
  split at h
  · omega
  · split at h
    · omega
    · split at h
      · omega
      · exact ⟨by omega, by omega, by omega, by omega, h⟩

/-- what is wrong with one frame beside the first one, at its place -/
def wBad (f0 f : Fr) (j : Nat) : Int := if mateZ f0.v f0.k f0.s f0.c f.v f.k f.s f.c = true then (if f.i = (j : Int) then 0 else 3) else 17
def wFst (f0 : Fr) : Nat → List Fr → Int
  | _, [] => 0
  | j, f :: r => if wBad f0 f j ≠ 0 then wBad f0 f j else wFst f0 (j + 1) r
def wEnd (f0 : Fr) (n : Nat) : Int := if (n : Int) < f0.c then 13 else if f0.c < (n : Int) then 6 else 0
/-- what is wrong with frames -/
def wErr : List Fr → Int
  | [] => 13
  | f0 :: r => if wFst f0 0 (f0 :: r) ≠ 0 then wFst f0 0 (f0 :: r) else wEnd f0 (r.length + 1)
theorem wFst_zero (f0 : Fr) : ∀ (s : Nat) (fs : List Fr), (∀ (j : Nat) (g : Fr), fs[j]? = some g → wBad f0 g (s + j) = 0) → wFst f0 s fs = 0
  | _, [], _ => rfl
  | s, f :: r, h => by
    have h0 := h 0 f rfl
    rw [Nat.add_zero] at h0
    rw [wFst, if_neg (by simp [h0])]
    exact wFst_zero f0 (s + 1) r fun j g hg => by
      have := h (j + 1) g (by simpa using hg)
      rwa [show s + (j + 1) = s + 1 + j by omega] at this
theorem wFst_at (f0 : Fr) : ∀ (s k : Nat) (fs : List Fr) (f : Fr), (∀ (j : Nat) (g : Fr), j < k → fs[j]? = some g → wBad f0 g (s + j) = 0) → fs[k]? = some f → wBad f0 f (s + k) ≠ 0 → wFst f0 s fs = wBad f0 f (s + k)
  | _, _, [], _, _, h, _ => by simp at h
  | s, 0, g :: r, f, _, hf, hb => by
    simp only [List.getElem?_cons_zero, Option.some.injEq] at hf
    subst hf
    rw [Nat.add_zero] at hb ⊢
    rw [wFst, if_pos hb]
  | s, k + 1, g :: r, f, h, hf, hb => by
    have h0 := h 0 g (by omega) rfl
    rw [Nat.add_zero] at h0
    rw [wFst, if_neg (by simp [h0])]
    have e : s + (k + 1) = s + 1 + k := by omega
    rw [e] at hb ⊢
    exact wFst_at f0 (s + 1) k r f (fun j x hj hx => by
      have := h (j + 1) x (by omega) (by simpa using hx)
      rwa [show s + (j + 1) = s + 1 + j by omega] at this) (by simpa using hf) hb
theorem wErr_bad {fs : List Fr} {f0 f : Fr} {k : Nat} (h0 : fs[0]? = some f0) (hp : ∀ (j : Nat) (g : Fr), j < k → fs[j]? = some g → wBad f0 g j = 0) (hf : fs[k]? = some f) (hb : wBad f0 f k ≠ 0) : wErr fs = wBad f0 f k := by
  cases fs with
  | nil => simp at h0
  | cons g r =>
    simp only [List.getElem?_cons_zero, Option.some.injEq] at h0
    subst h0
    have h1 := wFst_at g 0 k (g :: r) f (fun j x hj hx => by rw [Nat.zero_add]; exact hp j x hj hx) hf (by rwa [Nat.zero_add])
    rw [Nat.zero_add] at h1
    rw [wErr, h1, if_pos hb]
theorem wErr_end {fs : List Fr} {f0 : Fr} (h0 : fs[0]? = some f0) (hp : ∀ (j : Nat) (g : Fr), fs[j]? = some g → wBad f0 g j = 0) : wErr fs = wEnd f0 fs.length := by
  cases fs with
  | nil => simp at h0
  | cons g r =>
    simp only [List.getElem?_cons_zero, Option.some.injEq] at h0
    subst h0
    have h1 := wFst_zero g 0 (g :: r) (fun j x hx => by rw [Nat.zero_add]; exact hp j x hx)
    rw [wErr, h1, if_neg (by simp)]
    rfl
theorem Cut.whole {v k s : Int} {zs : List Int} {r : Nat} {fs : List Fr} (h : Cut v k s zs r fs) (hr : 1 ≤ r) (hn : 1 ≤ zs.length) : wErr fs = 0 := by
  have hp := cnt_pos hr hn
  have hl := h.len
  obtain ⟨f0, hf0⟩ : ∃ f0, fs[0]? = some f0 := ⟨_, List.getElem?_eq_getElem (by omega)⟩
  obtain ⟨e1, e2, e3, _, e4, _⟩ := h.at' 0 f0 hf0
  rw [wErr_end hf0 (fun j g hg => by
    obtain ⟨d1, d2, d3, d4, d5, _⟩ := h.at' j g hg
    unfold wBad
    rw [if_pos (by simp [mateZ, e1, e2, e3, e4, d1, d2, d3, d5]), if_pos d4])]
  unfold wEnd
  rw [e4, h.len, if_neg (by omega), if_neg (by omega)]
theorem wBad_zero {f0 f : Fr} {j : Nat} : wBad f0 f j = 0 ↔ mateZ f0.v f0.k f0.s f0.c f.v f.k f.s f.c = true ∧ f.i = (j : Int) := by
  unfold wBad
  constructor
  · intro h
    by_cases h1 : mateZ f0.v f0.k f0.s f0.c f.v f.k f.s f.c = true
    · rw [if_pos h1] at h
      by_cases h2 : f.i = (j : Int)
      · exact ⟨h1, h2⟩
      · rw [if_neg h2] at h; omega
    · rw [if_neg h1] at h; omega
  · rintro ⟨h1, h2⟩
    rw [if_pos h1, if_pos h2]
end Ct
end Go.Proofs.Ytoaclbdlgkgnpaa

namespace Go.Proofs.Ytoaclbdlgkgnpaa
open Go.RowKit
set_option maxRecDepth 100000

theorem ret_intC {a b : Int} (h : a = b) : Ending.returned (.int .i64 a) = Ending.returned (.int .i64 b) := by rw [h]
/-- how many parts there are of a number of bytes that there can be -/
def cntZ (n : Nat) (r : Int) : Int := if r < 1 then 0 else if n = 0 then 1 else (Ct.cnt n r.toNat : Int)
theorem ccount_any (n : Nat) (r : Int) (hn : n ≤ 9223372036854775807) (hr : -9223372036854775808 ≤ r ∧ r ≤ 9223372036854775807) (w : World) :
    Calls Try.prog 32 #[.int .i64 (n : Int), .int .i64 r] w fun e w' => e = .returned (.int .i64 (cntZ n r)) ∧ w' = w := by
  by_cases h1 : r < 1
  · have hz : cntZ n r = 0 := by unfold cntZ; rw [if_pos h1]
    rw [hz]
    clear hz
    go_enter Try.func32, Try.ntmps32
    go_wp2
    go_ret
    exact ⟨rfl, rfl⟩
  · by_cases h2 : (n : Int) < 1
    · have hz : cntZ n r = 1 := by unfold cntZ; rw [if_neg h1, if_pos (by omega)]
      rw [hz]
      clear hz
      go_enter Try.func32, Try.ntmps32
      go_wp2
      go_ret
      exact ⟨rfl, rfl⟩
    · have hq : ((n : Int) - 1).tdiv r = ((n - 1) / r.toNat : Nat) := by
        rw [show (n : Int) - 1 = ((n - 1 : Nat) : Int) by omega]
        have hrr : r = (r.toNat : Int) := by omega
        rw [hrr, Int.toNat_natCast]
        exact Int.ofNat_tdiv _ _
      have hz : cntZ n r = (((n - 1) / r.toNat : Nat) : Int) + 1 := by
        unfold cntZ
        rw [if_neg h1, if_neg (by omega), ← Ct.cnt_div (by omega) (by omega)]
        omega
      rw [hz]
      have hd : (n - 1) / r.toNat ≤ n - 1 := Nat.div_le_self _ _
      have hr0 : ¬ r = 0 := by omega
      obtain ⟨q, hq2⟩ : ∃ q, (n - 1) / r.toNat = q := ⟨_, rfl⟩
      rw [hq2] at hq hd ⊢
      clear hz hq2
      have HD := Lib.hid hd
      have hq0 : 0 ≤ (q : Int) + 1 ∧ (q : Int) + 1 ≤ 9223372036854775807 := by omega
      go_enter Try.func32, Try.ntmps32
      go_wp2
      go_ret
      exact ⟨rfl, rfl⟩

set_option maxHeartbeats 2000000 in
theorem rmates_any (v k s i c v' k' s' i' c' : Int) (w : World) :
    Calls Try.prog 26 #[hdV v k s i c, hdV v' k' s' i' c'] w fun e w' => e = .returned (.bool (mateZ v k s c v' k' s' c')) ∧ Below w.heap.size w w' := by
  unfold hdV
  obtain ⟨w0, hw⟩ : ∃ w0, (w.alloc (.cells #[.int .i64 v, .int .i64 k, .int .u32 s, .int .i64 i, .int .i64 c] 31)).alloc (.cells #[.int .i64 v', .int .i64 k', .int .u32 s', .int .i64 i', .int .i64 c'] 31) = w0 := ⟨_, rfl⟩
  have hb : Below w.heap.size w w0 := by rw [← hw]; exact ((Below.refl _ w).alloc (Nat.le_refl _) _).alloc (by simp) _
  have q1 : w0.heap[w.heap.size]? = some (.cells #[.int .i64 v, .int .i64 k, .int .u32 s, .int .i64 i, .int .i64 c] 31 (0, 0)) := by
    rw [← hw]; exact (Below.heap_alloc _ _ _ (by simp)).trans (World.alloc_heap_new _ _)
  have q2 : w0.heap[w.heap.size + 1]? = some (.cells #[.int .i64 v', .int .i64 k', .int .u32 s', .int .i64 i', .int .i64 c'] 31 (0, 0)) := by
    rw [← hw]
    have := World.alloc_heap_new (w.alloc (.cells #[.int .i64 v, .int .i64 k, .int .u32 s, .int .i64 i, .int .i64 c] 31)) (.cells #[.int .i64 v', .int .i64 k', .int .u32 s', .int .i64 i', .int .i64 c'] 31)
    rwa [World.size_alloc] at this
  obtain ⟨d0, d1, d2, d3, d4⟩ := hd_block q1
  obtain ⟨e0, e1, e2, e3, e4⟩ := hd_block q2
  have HW := Lib.hid hw
  have HB := Lib.hid hb
  clear hw q1 q2 hb
  by_cases h1 : v = v'
  · by_cases h2 : k = k'
    · by_cases h3 : s = s'
      · by_cases h4 : c = c'
        · have hz : mateZ v k s c v' k' s' c' = true := by simp [mateZ, h1, h2, h3, h4]
          rw [hz]
          subst h1 h2 h3 h4
          clear hz
          go_enter Try.func26, Try.ntmps26
          go_wp2_with fail
          rw [HW.out]
          go_wp2
          go_ret
          exact ⟨rfl, HB.out⟩
        · have hz : mateZ v k s c v' k' s' c' = false := by simp [mateZ, h4]
          have h5 : (c == c') = false := by simp [h4]
          rw [hz]
          subst h1 h2 h3
          clear hz
          go_enter Try.func26, Try.ntmps26
          go_wp2_with fail
          rw [HW.out]
          go_wp2
          go_ret
          exact ⟨rfl, HB.out⟩
      · have hz : mateZ v k s c v' k' s' c' = false := by simp [mateZ, h3]
        have h5 : (s == s') = false := by simp [h3]
        rw [hz]
        subst h1 h2
        clear hz
        go_enter Try.func26, Try.ntmps26
        go_wp2_with fail
        rw [HW.out]
        go_wp2
        go_ret
        exact ⟨rfl, HB.out⟩
    · have hz : mateZ v k s c v' k' s' c' = false := by simp [mateZ, h2]
      have h5 : (k == k') = false := by simp [h2]
      rw [hz]
      subst h1
      clear hz
      go_enter Try.func26, Try.ntmps26
      go_wp2_with fail
      rw [HW.out]
      go_wp2
      go_ret
      exact ⟨rfl, HB.out⟩
  · have hz : mateZ v k s c v' k' s' c' = false := by simp [mateZ, h1]
    have h5 : (v == v') = false := by simp [h1]
    rw [hz]
    clear hz
    go_enter Try.func26, Try.ntmps26
    go_wp2_with fail
    rw [HW.out]
    go_wp2
    go_ret
    exact ⟨rfl, HB.out⟩
end Go.Proofs.Ytoaclbdlgkgnpaa

namespace Go.Proofs.Ytoaclbdlgkgnpaa
open Go.ChangeShapes Go.WideShapes Go.RowKit
set_option maxRecDepth 100000

section
variable {H : Type} {enc : TypeId × Value → H} {w : World} {base : Nat} {spare : Nat → Bool} {held : Bool}
theorem open_head {r : Reach} {b0 : Nat} {x : Value} {d : DataW H} {p : List MemPlace} (hv : Value.okWide Try.prog w r b0 24 x) (h : DataW.Trod enc Try.prog w base spare held 24 x d p) :
    ∃ v k s i c : Int, x = hdV v k s i c ∧ (Lit.int .i64 v).wf = true ∧ (Lit.int .i64 k).wf = true ∧ (Lit.int .u32 s).wf = true ∧ (Lit.int .i64 i).wf = true ∧ (Lit.int .i64 c).wf = true := by
  obtain ⟨⟨cs⟩, rfl, hsz⟩ := okWide_struct Try.underlying24 hv
  have h5 : Try.prog.cellsOf 24 = 5 := by kernel_rfl
  rw [h5] at hsz
  obtain ⟨fuel, hf⟩ := h
  obtain ⟨xs, n, _, _, _, hlen, hg⟩ := DataW.trod_struct Try.underlying24 hf
  have one : ∀ (t : TypeId) (q : Nat) (kd : IntKind), Try.prog.underlying t = some (.int kd) → q < xs.length → DataW.trod enc Try.prog w base spare held n t ((cs.drop q).take 1) = xs[q]? → ∃ z, cs[q]? = some (.int kd z) ∧ (Lit.int kd z).wf = true := fun t q kd ht hq e => by
    rw [List.getElem?_eq_getElem hq] at e
    obtain ⟨z, e1, _, hz⟩ := DataW.trod_int ht e
    refine ⟨z, ?_, hz⟩
    have := congrArg (·[0]?) e1
    simpa [List.getElem?_take, List.getElem?_drop] using this
  have hl : xs.length = 5 := hlen
  have g0 := hg 0 _ rfl
  have g1 := hg 1 _ rfl
  have g2 := hg 2 _ rfl
  have g3 := hg 3 _ rfl
  have g4 := hg 4 _ rfl
  simp only [Value.cells] at g0 g1 g2 g3 g4
  obtain ⟨v, a0, r0⟩ := one 3 0 .i64 Try.underlying3 (by omega) g0
  obtain ⟨k, a1, r1⟩ := one 3 1 .i64 Try.underlying3 (by omega) g1
  obtain ⟨s, a2, r2⟩ := one 22 2 .u32 Try.underlying22 (by omega) g2
  obtain ⟨i, a3, r3⟩ := one 3 3 .i64 Try.underlying3 (by omega) g3
  obtain ⟨c, a4, r4⟩ := one 3 4 .i64 Try.underlying3 (by omega) g4
  refine ⟨v, k, s, i, c, ?_, r0, r1, r2, r3, r4⟩
  match cs, hsz, a0, a1, a2, a3, a4 with
  | [y0, y1, y2, y3, y4], _, a0, a1, a2, a3, a4 =>
    simp at a0 a1 a2 a3 a4
    subst a0 a1 a2 a3 a4
    rfl
end
end Go.Proofs.Ytoaclbdlgkgnpaa

namespace Go.Proofs.Ytoaclbdlgkgnpaa
open Go.RowKit Go.ChangeShapes Go.WideShapes Go.Deep
set_option maxRecDepth 100000

def i64Ok (z : Int) : Prop := -9223372036854775808 ≤ z ∧ z ≤ 9223372036854775807
/-- its numbers are numbers of its kinds -/
structure Fr.Wf (f : Fr) : Prop where
  v : i64Ok f.v
  k : i64Ok f.k
  i : i64Ok f.i
  c : i64Ok f.c
section
variable {H : Type} {enc : TypeId × Value → H} {w : World}
theorem row_of {T E : TypeId} {k : IntKind} {fuel : Nat} {v : Value} {x : DataW H × List MemPlace} (ht : Try.prog.underlying T = some (.slice E)) (he : Try.prog.underlying E = some (.int k)) (hc : Try.prog.cellsOf E = 1)
    (h : DataW.trod enc Try.prog w 0 (fun _ => true) true fuel T [v] = some x) : ∃ a n c es, v = .slice a n c ∧ es.length = n ∧ n ≤ c ∧ Nums k w w.heap.size a es ∧ ∀ z ∈ es, (Lit.int k z).wf = true := by
  rcases open_ints ht he hc h with ⟨hcs, _⟩ | ⟨a, l, c, zs, hcs, _, hl, hm, hz, _, hcell, hwz⟩
  · injection hcs with hcs
    exact ⟨none, 0, 0, [], hcs, rfl, Nat.le_refl _, Nums.nil, fun z hz => by cases hz⟩
  · injection hcs with hcs
    obtain ⟨es, h1, h2, h3, h4, h5⟩ := IsRow.elems (k := k) (w := w) (a := some a) (len := l) (cap := c) (zs := zs) (.inr ⟨_, rfl, hl, hm, by simpa using hz, hcell, hwz⟩)
    exact ⟨some a, l, c, es, hcs, h1, h2, h4, h5⟩
theorem row_short {T E : TypeId} {k : IntKind} {fuel : Nat} {v : Value} {x : DataW H × List MemPlace} (ht : Try.prog.underlying T = some (.slice E)) (he : Try.prog.underlying E = some (.int k)) (hc : Try.prog.cellsOf E = 1)
    (h : DataW.trod enc Try.prog w 0 (fun _ => true) true fuel T [v] = some x) : ∃ a n c, v = .slice a n c ∧ c ≤ maxLen := by
  rcases open_ints ht he hc h with ⟨hcs, _⟩ | ⟨a, l, c, zs, hcs, _, hl, hm, hz, _, hcell, hwz⟩
  · injection hcs with hcs
    exact ⟨none, 0, 0, hcs, Nat.zero_le _⟩
  · injection hcs with hcs
    exact ⟨some a, l, c, hcs, hm⟩
/-- a head's cells -/
theorem head_of {fuel : Nat} {cs : List Value} {x : DataW H × List MemPlace} (h : DataW.trod enc Try.prog w 0 (fun _ => true) true fuel 24 cs = some x) :
    ∃ v k s i c : Int, cs = [.int .i64 v, .int .i64 k, .int .u32 s, .int .i64 i, .int .i64 c] ∧ 0 ≤ s ∧ s ≤ 4294967295 ∧ i64Ok v ∧ i64Ok k ∧ i64Ok i ∧ i64Ok c := by
  obtain ⟨xs, n, _, _, hlen, hxl, hf⟩ := DataW.trod_struct Try.underlying24 h
  have h5 : Try.prog.cellsOf 24 = 5 := by kernel_rfl
  have k0 : Try.prog.cellsOf 3 = 1 := by kernel_rfl
  have k1 : Try.prog.cellsOf 22 = 1 := by kernel_rfl
  rw [h5] at hlen
  match cs, hlen with
  | [c0, c1, c2, c3, c4], _ =>
    have hx : ∀ i, i < 5 → ∃ y, xs[i]? = some y := fun i hi => ⟨_, List.getElem?_eq_getElem (by rw [hxl]; exact hi)⟩
    obtain ⟨y0, e0⟩ := hx 0 (by decide)
    obtain ⟨y1, e1⟩ := hx 1 (by decide)
    obtain ⟨y2, e2⟩ := hx 2 (by decide)
    obtain ⟨y3, e3⟩ := hx 3 (by decide)
    obtain ⟨y4, e4⟩ := hx 4 (by decide)
    have f0 : DataW.trod enc Try.prog w 0 (fun _ => true) true n 3 (([c0, c1, c2, c3, c4].drop 0).take (Try.prog.cellsOf 3)) = some y0 := (hf 0 _ rfl).trans e0
    rw [k0] at f0
    have f1 : DataW.trod enc Try.prog w 0 (fun _ => true) true n 3 (([c0, c1, c2, c3, c4].drop 1).take (Try.prog.cellsOf 3)) = some y1 := (hf 1 _ rfl).trans e1
    rw [k0] at f1
    have f2 : DataW.trod enc Try.prog w 0 (fun _ => true) true n 22 (([c0, c1, c2, c3, c4].drop 2).take (Try.prog.cellsOf 22)) = some y2 := (hf 2 _ rfl).trans e2
    rw [k1] at f2
    have f3 : DataW.trod enc Try.prog w 0 (fun _ => true) true n 3 (([c0, c1, c2, c3, c4].drop 3).take (Try.prog.cellsOf 3)) = some y3 := (hf 3 _ rfl).trans e3
    rw [k0] at f3
    have f4 : DataW.trod enc Try.prog w 0 (fun _ => true) true n 3 (([c0, c1, c2, c3, c4].drop 4).take (Try.prog.cellsOf 3)) = some y4 := (hf 4 _ rfl).trans e4
    rw [k0] at f4
    obtain ⟨v, g0, _, hv⟩ := DataW.trod_int Try.underlying3 f0
    obtain ⟨k, g1, _, hk⟩ := DataW.trod_int Try.underlying3 f1
    obtain ⟨s, g2, _, hs⟩ := DataW.trod_int Try.underlying22 f2
    obtain ⟨i, g3, _, hi⟩ := DataW.trod_int Try.underlying3 f3
    obtain ⟨c, g4, _, hc⟩ := DataW.trod_int Try.underlying3 f4
    injection g0 with g0
    injection g1 with g1
    injection g2 with g2
    injection g3 with g3
    injection g4 with g4
    subst g0 g1 g2 g3 g4
    have hr : 0 ≤ s ∧ s ≤ 4294967295 := by
      have h := hs
      simp [Lit.wf] at h
      exact h
    exact ⟨v, k, s, i, c, rfl, hr.1, hr.2, bounds_i64 hv, bounds_i64 hk, bounds_i64 hi, bounds_i64 hc⟩
/-- a frame's cells -/
theorem fr_of {fuel : Nat} {cs : List Value} {x : DataW H × List MemPlace} (h : DataW.trod enc Try.prog w 0 (fun _ => true) true fuel 39 cs = some x) :
    ∃ f : Fr, cs = f.cs.toList ∧ f.At w w.heap.size ∧ f.Wf := by
  obtain ⟨xs, n, _, _, hlen, hxl, hf⟩ := DataW.trod_struct Try.underlying39 h
  have h6 : Try.prog.cellsOf 39 = 6 := by kernel_rfl
  have k0 : Try.prog.cellsOf 24 = 5 := by kernel_rfl
  have k1 : Try.prog.cellsOf 37 = 1 := by kernel_rfl
  rw [h6] at hlen
  match cs, hlen with
  | [c0, c1, c2, c3, c4, c5], _ =>
    have hx : ∀ i, i < 2 → ∃ y, xs[i]? = some y := fun i hi => ⟨_, List.getElem?_eq_getElem (by rw [hxl]; exact hi)⟩
    obtain ⟨y0, e0⟩ := hx 0 (by decide)
    obtain ⟨y1, e1⟩ := hx 1 (by decide)
    have f0 : DataW.trod enc Try.prog w 0 (fun _ => true) true n 24 (([c0, c1, c2, c3, c4, c5].drop 0).take (Try.prog.cellsOf 24)) = some y0 := (hf 0 _ rfl).trans e0
    rw [k0] at f0
    have f1 : DataW.trod enc Try.prog w 0 (fun _ => true) true n 37 (([c0, c1, c2, c3, c4, c5].drop 5).take (Try.prog.cellsOf 37)) = some y1 := (hf 1 _ rfl).trans e1
    rw [k1] at f1
    obtain ⟨v, k, s, i, c, g0, hs0, hs1, hv, hk, hi, hc⟩ := head_of f0
    obtain ⟨a, m, cp, zs, rfl, l1, l2, l3, l4⟩ := row_of Try.underlying37 Try.underlying5 (by kernel_rfl) f1
    obtain ⟨a2, m2, cp2, q1, q2⟩ := row_short Try.underlying37 Try.underlying5 (by kernel_rfl) f1
    injection q1 with q1 q3 q4
    subst q1 q3 q4
    simp only [List.drop_zero, List.take_succ_cons, List.take_zero, List.cons.injEq, and_true] at g0
    obtain ⟨rfl, rfl, rfl, rfl, rfl⟩ := g0
    subst l1
    exact ⟨⟨v, k, s, i, c, a, cp, zs⟩, rfl, ⟨hs0, hs1, l2, by unfold maxLen at q2; simp only; omega, bytes_of l4, l3⟩, ⟨hv, hk, hi, hc⟩⟩
theorem open_frame {r : Reach} {b0 : Nat} {x : Value} {d : DataW H} {p : List MemPlace} (hv : Value.okWide Try.prog w r b0 39 x) (h : DataW.Trod enc Try.prog w 0 (fun _ => true) true 39 x d p) :
    ∃ f : Fr, x = .agg f.cs ∧ f.At w w.heap.size ∧ f.Wf := by
  obtain ⟨⟨cs⟩, rfl, hsz⟩ := okWide_struct Try.underlying39 hv
  obtain ⟨fuel, hf⟩ := h
  obtain ⟨f, e, h1, h2⟩ := fr_of hf
  simp only [Value.cells] at e
  refine ⟨f, ?_, h1, h2⟩
  rw [e]
theorem frs_of {fuel : Nat} {A : Option Addr} {len cap : Nat} {x : DataW H × List MemPlace} (h : DataW.trod enc Try.prog w 0 (fun _ => true) true fuel 25 [.slice A len cap] = some x) :
    ∃ fs : List Fr, fs.length = len ∧ len ≤ 9223372036854775807 ∧ len ≤ cap ∧ FrsAt w w.heap.size A fs ∧ ∀ f ∈ fs, f.Wf := by
  rcases open_slice Try.underlying25 h with ⟨hcs, _⟩ | ⟨a, l, c, m, n, D, Pl, hcs, _, hl, hm, hmm, _, hi⟩
  · injection hcs with hcs
    injection hcs with h1 h2 h3
    subst h1 h2 h3
    exact ⟨[], rfl, by decide, Nat.le_refl _, ⟨fun f hf => by simp at hf, fun j f hj => by simp at hj⟩, fun f hf => by simp at hf⟩
  · injection hcs with hcs
    injection hcs with h1 h2 h3
    subst h1 h2 h3
    have h6 : Try.prog.cellsOf 39 = 6 := by kernel_rfl
    have hmc : m = cap := by simpa using hmm
    have key : ∀ i, ∃ f : Fr, i < len → f.At w w.heap.size ∧ f.Wf ∧ ∃ b o, some a = some (⟨b, o, none⟩ : Addr) ∧ b < w.heap.size ∧ ∀ (q : Nat) (u : Value), f.cs[q]? = some u → w.cell? ⟨b, o + i * 6 + q, none⟩ = some u := by
      intro i
      by_cases hil : i < len
      · obtain ⟨cs', hc', ht'⟩ := hi i (by omega)
        rw [h6] at hc'
        obtain ⟨f, rfl, hat, hwf⟩ := fr_of ht'
        obtain ⟨_, _, hcell⟩ := World.cells?_some hc'
        obtain ⟨cs0, hc0, ht0⟩ := hi 0 (by omega)
        rw [h6] at hc0
        obtain ⟨f0, rfl, _⟩ := fr_of ht0
        have hz := (World.cells?_some hc0).2.2 0 (by decide)
        have hadd : ∀ a : Addr, a.add 0 = a := fun a => by unfold Addr.add; rw [if_pos rfl]
        rw [Nat.zero_mul, hadd, hadd] at hz
        obtain ⟨b, o, sp⟩ := a
        have hsp : sp = none := World.cell?_spot hz
        subst hsp
        have hcj : ∀ (j : Nat) v, f.cs[j]? = some v → w.cell? ⟨b, o + i * 6 + j, none⟩ = some v := fun j v hv => by
          have hj : j < 6 := (Array.getElem?_eq_some_iff.1 hv).1
          have h0 := hcell j hj
          rw [Addr.add_lit, Addr.add_lit, Array.getElem?_toList, hv] at h0
          exact h0
        exact ⟨f, fun _ => ⟨hat, hwf, b, o, rfl, block_of_cell (hcj 0 _ rfl), hcj⟩⟩
      · exact ⟨⟨0, 0, 0, 0, 0, none, 0, []⟩, fun h => absurd h hil⟩
    obtain ⟨g, hg⟩ := Classical.axiomOfChoice key
    have hall : ∀ (i : Nat) f, ((List.range len).map g)[i]? = some f → i < len ∧ f = g i := fun i f hd => by
      rw [List.getElem?_map] at hd
      obtain ⟨j, hj, rfl⟩ := Option.map_eq_some_iff.1 hd
      have hil : i < len := by
        rcases Nat.lt_or_ge i len with h | h
        · exact h
        · rw [List.getElem?_eq_none (by simpa using h)] at hj; simp at hj
      rw [List.getElem?_range hil] at hj
      injection hj with hj
      exact ⟨hil, by rw [hj]⟩
    refine ⟨(List.range len).map g, by simp, by unfold maxLen at hm; omega, by omega, ⟨fun f hf => ?_, fun j f hj => ?_⟩, fun f hf => ?_⟩
    · obtain ⟨i, hi, rfl⟩ := List.mem_iff_getElem.1 hf
      obtain ⟨h1, h2⟩ := hall i _ (List.getElem?_eq_getElem hi)
      rw [h2]; exact (hg i h1).1
    · obtain ⟨h1, rfl⟩ := hall j f hj
      exact (hg j h1).2.2
    · obtain ⟨i, hi, rfl⟩ := List.mem_iff_getElem.1 hf
      obtain ⟨h1, h2⟩ := hall i _ (List.getElem?_eq_getElem hi)
      rw [h2]; exact (hg i h1).2.1
end
end Go.Proofs.Ytoaclbdlgkgnpaa
