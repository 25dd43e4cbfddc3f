/-
  A part of the texts of one proof, put together: Lists, RbB, In, RbE, Cat, HdB, CrcO, FrG, FenN, FenC, FenK, LBox, FenS, Ls1, FenW, FrF, SloR, TabN, Tmap, WinK, StopB, WinZ, WinI, WinO, WinR, WinS, IInfo, SloE, TabM, Q8, Q15, TabE, Tdel, TabD, SerT, SerL.
-/
import Derived.Maps.AppendAt
import Derived.Deep.QuietTactic
import Derived.WalkSpells
import Derived.RangeFuncBound
import Derived.RangeFuncCalls
import Derived.RangeFuncLeaves
import Derived.Shelf.Abstract
import Derived.Shelf.RegionOpen
import Derived.OwnWalkIn
import Derived.TacticsInMore
import Derived.LoopNIn
import Derived.LoopIn
import Derived.OpenShut
import Derived.Test.YtfdbcfkjablnkaaGreatRows
import Derived.OrdersIn
import Derived.TacticsIn
import Derived.Lib.SlicesDelete
import Derived.Deep.RegionLaw
import Derived.Sort.WalkB12
import Derived.BigQuiet
import Derived.Test.YtfdbcfkjablnkaaGreatMPPlaysProof2
namespace Go.Proofs.YtfdbcfkjablnkaaGreat
open Go.RowKit

/-- x is a slice of the numbers b, in a block of the call's own with elements of type te, which is not u's -/
def El (te : TypeId) (k : IntKind) (base : Nat) (W : World) (u x : Value) (b : List Int) : Prop :=
  ∃ (A : Option Addr) (c : Nat), x = .slice A b.length c ∧ b.length ≤ c ∧ (b ≠ [] → ∃ (g : Nat) (cur : Array Value), A = some ⟨g, 0, none⟩ ∧ base ≤ g ∧ W.heap[g]? = some (.cells cur te (0, 0)) ∧ u.ownBlock ≠ some g ∧ ∀ (j : Nat) (z : Int), b[j]? = some z → cur[j]? = some (Value.int k z))
/-- the slice v of slices, the lists O; the row u, the numbers N -/
structure Ls (te tl : TypeId) (k : IntKind) (base : Nat) (W : World) (v u : Value) (xs : List Value) (O : List (List Int)) (N : List Int) : Prop where
  out : W.ownsRow base tl 1 v O.length xs
  els : ∀ (i : Nat) (b : List Int), O[i]? = some b → ∃ x, xs[i]? = some x ∧ El te k base W u x b
  now : W.ownsRow base te 1 u N.length (N.map (Value.int k))
section
variable {te tl : TypeId} {k : IntKind} {base : Nat} {W w1 : World} {v v' u u' x : Value} {xs : List Value} {O : List (List Int)} {N b : List Int} {o : Obj}
theorem Ls.start (te tl : TypeId) (k : IntKind) (base : Nat) (W : World) : Ls te tl k base W (.slice none 0 0) (.slice none 0 0) [] [] [] :=
  ⟨World.ownsRow_nil _ _ _ _, fun i b h => by simp at h, World.ownsRow_nil _ _ _ _⟩
/-- the row is put to the lists, and begun anew -/
theorem Ls.push (h : Ls te tl k base W v u xs O N) (hne : te ≠ tl) (hown : w1.ownsRow base tl 1 v' (O.length + 1) (xs ++ [u])) (hg : (W.alloc o).grownBy w1 v.ownBlock) :
    Ls te tl k base w1 v' (.slice none 0 0) (xs ++ [u]) (O ++ [N]) [] := by
  have hxl : xs.length = O.length := by have := h.out.1; omega
  have hfar : ∀ (g : Nat) (cur : Array Value), W.heap[g]? = some (Obj.cells cur te (0, 0)) → w1.heap[g]? = some (Obj.cells cur te (0, 0)) := fun g cur hh => by
    have hlt := (Array.getElem?_eq_some_iff.1 hh).1
    rw [hg.block g (by rw [World.size_alloc]; omega) (fun e => ?_)]
    · exact (Below.heap_alloc W o g hlt).trans hh
    · rcases h.out.2 with ⟨rfl, _⟩ | ⟨g2, cap2, cur2, rfl, _, hh2, _⟩
      · simp [Value.ownBlock] at e
      · simp only [Value.ownBlock, Option.some.injEq] at e
        subst e
        rw [hh] at hh2
        injection hh2 with hh2
        injection hh2 with _ ht
        exact hne ht
  refine ⟨by simpa using hown, fun i b hb => ?_, World.ownsRow_nil _ _ _ _⟩
  rcases Nat.lt_or_ge i O.length with hi | hi
  · rw [List.getElem?_append_left hi] at hb
    obtain ⟨x, hx, A, c, rfl, hc, hcell⟩ := h.els i b hb
    refine ⟨_, by rw [List.getElem?_append_left (by omega)]; exact hx, A, c, rfl, hc, fun hn => ?_⟩
    obtain ⟨g, cur, rfl, hbg, hh, hu, hz⟩ := hcell hn
    exact ⟨g, cur, rfl, hbg, hfar g cur hh, by simp [Value.ownBlock], hz⟩
  · rw [List.getElem?_append_right hi] at hb
    have hi0 : i - O.length = 0 := by
      rcases Nat.eq_zero_or_pos (i - O.length) with h0 | h0
      · exact h0
      · rw [List.getElem?_eq_none (by simp only [List.length_singleton]; omega)] at hb; simp at hb
    rw [hi0] at hb
    simp only [List.getElem?_cons_zero, Option.some.injEq] at hb
    subst hb
    refine ⟨u, by rw [List.getElem?_append_right (by omega), show i - xs.length = 0 by omega]; rfl, ?_⟩
    rcases h.now.2 with ⟨rfl, h0⟩ | ⟨g, cap, cur, rfl, hbg, hh, hle, _, _, htk⟩
    · rw [List.eq_nil_of_length_eq_zero h0]
      exact ⟨none, 0, rfl, Nat.le_refl _, fun hn => absurd rfl hn⟩
    · refine ⟨_, cap, rfl, hle, fun _ => ⟨g, cur, rfl, hbg, hfar g cur hh, by simp [Value.ownBlock], fun j z hj => ?_⟩⟩
      have h1 : (N.map (Value.int k))[j]? = some (.int k z) := by rw [List.getElem?_map, hj]; rfl
      rw [← htk, List.getElem?_take] at h1
      split at h1
      · rw [← Array.getElem?_toList]; exact h1
      · simp at h1
end

/-- a slice of slices of numbers that lies at A, below B -/
def ListAt (k : IntKind) (w : World) (B : Nat) (A : Option Addr) (bl : List (List Int)) : Prop :=
  ∀ (i : Nat) (b : List Int), bl[i]? = some b → ∃ (g : Nat) (Ai : Option Addr) (ci : Nat), A = some ⟨g, 0, none⟩ ∧ g < B ∧ w.cell? ⟨g, i, none⟩ = some (.slice Ai b.length ci) ∧ b.length ≤ ci ∧ Nums k w B Ai b
theorem ListAt.below {k : IntKind} {w w' : World} {B : Nat} {A : Option Addr} {bl : List (List Int)} (h : ListAt k w B A bl) (hb : Below B w w') : ListAt k w' B A bl := fun i b hi => by
  obtain ⟨g, Ai, ci, e, hg, hc, hl, hn⟩ := h i b hi
  exact ⟨g, Ai, ci, e, hg, (hb.cell (p := ⟨g, i, none⟩) hg).trans hc, hl, hn.below hb⟩
theorem ListAt.mono {k : IntKind} {w : World} {B B' : Nat} {A : Option Addr} {bl : List (List Int)} (h : ListAt k w B A bl) (hB : B ≤ B') : ListAt k w B' A bl := fun i b hi => by
  obtain ⟨g, Ai, ci, e, hg, hc, hl, hn⟩ := h i b hi
  exact ⟨g, Ai, ci, e, Nat.lt_of_lt_of_le hg hB, hc, hl, hn.mono hB⟩
theorem Ls.lies {te tl : TypeId} {k : IntKind} {base : Nat} {W : World} {v u : Value} {xs : List Value} {O : List (List Int)} {N : List Int} (h : Ls te tl k base W v u xs O N) : ∃ A c, v = .slice A O.length c ∧ O.length ≤ c ∧ ListAt k W W.heap.size A O := by
  rcases h.out.2 with ⟨rfl, h0⟩ | ⟨g, cap, cur, rfl, hbg, hh, hle, _⟩
  · rw [List.eq_nil_of_length_eq_zero h0]
    exact ⟨none, 0, rfl, Nat.le_refl _, fun i b hi => by simp at hi⟩
  · refine ⟨_, cap, rfl, hle, fun i b hi => ?_⟩
    obtain ⟨x, hx, A, c, rfl, hc, hcell⟩ := h.els i b hi
    have h1 := h.out.cells (g := g) rfl i _ hx
    rw [Addr.add_lit, Nat.zero_add] at h1
    refine ⟨g, A, c, rfl, (Array.getElem?_eq_some_iff.1 hh).1, h1, hc, fun hn => ?_⟩
    obtain ⟨g2, cur2, rfl, _, hh2, _, hz⟩ := hcell hn
    refine ⟨g2, 0, rfl, (Array.getElem?_eq_some_iff.1 hh2).1, fun j z hj => ?_⟩
    rw [Nat.zero_add]
    simp [World.cell?, hh2, hz j z hj]
end Go.Proofs.YtfdbcfkjablnkaaGreat

namespace Go.Proofs.YtfdbcfkjablnkaaGreat
open Go.RowKit
set_option maxRecDepth 100000

/-- what the document's Blocks leaves -/
def RBlk (w : World) (bl : List (List Int)) (e : Ending) (w' : World) : Prop := ∃ A c, e = .returned (.slice A bl.length c) ∧ bl.length ≤ c ∧ ListAt .u8 w' w'.heap.size A bl ∧ Below w.heap.size w w'
theorem RBlk.of {w w' : World} {bl O : List (List Int)} {N : List Int} {v u : Value} {xs : List Value} {te tl : TypeId} {base : Nat} (h : Ls te tl .u8 base w' v u xs O N) (he : bl = O) (hb : Below w.heap.size w w') : RBlk w bl (.returned v) w' := by
  subst he
  obtain ⟨A, c, rfl, hc, hl⟩ := h.lies
  exact ⟨A, c, rfl, hc, hl, hb⟩

end Go.Proofs.YtfdbcfkjablnkaaGreat

namespace Go.Proofs.YtfdbcfkjablnkaaGreat
open Go.RowKit

/-- the numbers zs lie at a, in a block from lo on, below hi -/
def NumsIn (k : IntKind) (w : World) (lo hi : Nat) (a : Option Addr) (zs : List Int) : Prop :=
  zs ≠ [] → ∃ b off, a = some ⟨b, off, none⟩ ∧ lo ≤ b ∧ b < hi ∧ ∀ j c, zs[j]? = some c → w.cell? ⟨b, off + j, none⟩ = some (.int k c)
/-- the blocks from lo on, below hi, are as they were -/
def Keeps (lo hi : Nat) (W W' : World) : Prop := W.heap.size ≤ W'.heap.size ∧ ∀ k, lo ≤ k → k < hi → W'.heap[k]? = W.heap[k]?
theorem Keeps.refl (lo hi : Nat) (W : World) : Keeps lo hi W W := ⟨Nat.le_refl _, fun _ _ _ => rfl⟩
theorem Keeps.trans {lo hi : Nat} {A B C : World} (h : Keeps lo hi A B) (k : Keeps lo hi B C) : Keeps lo hi A C := ⟨Nat.le_trans h.1 k.1, fun i h1 h2 => (k.2 i h1 h2).trans (h.2 i h1 h2)⟩
theorem Keeps.of_below {lo hi : Nat} {A B : World} (h : Below hi A B) : Keeps lo hi A B := ⟨h.size, fun k _ h2 => h.block k h2⟩
theorem Keeps.cell {lo hi : Nat} {A B : World} (h : Keeps lo hi A B) {p : Addr} (h1 : lo ≤ p.block) (h2 : p.block < hi) : B.cell? p = A.cell? p := World.cell?_of_block (h.2 p.block h1 h2)
section
variable {k : IntKind} {lo lo' hi hi' : Nat} {A B : World} {a : Option Addr} {zs : List Int}
theorem NumsIn.keeps (h : NumsIn k A lo hi a zs) (hk : Keeps lo hi A B) : NumsIn k B lo hi a zs := fun hn => by
  obtain ⟨b, off, e, h1, h2, hc⟩ := h hn
  exact ⟨b, off, e, h1, h2, fun j c hj => (hk.cell (p := ⟨b, off + j, none⟩) h1 h2).trans (hc j c hj)⟩
theorem NumsIn.nums (h : NumsIn k A lo hi a zs) : Nums k A hi a zs := fun hn => by
  obtain ⟨b, off, e, _, h2, hc⟩ := h hn
  exact ⟨b, off, e, h2, hc⟩
theorem NumsIn.mono (h : NumsIn k A lo hi a zs) (hh : hi ≤ hi') : NumsIn k A lo hi' a zs := fun hn => by
  obtain ⟨b, off, e, h1, h2, hc⟩ := h hn
  exact ⟨b, off, e, h1, by omega, hc⟩
end
end Go.Proofs.YtfdbcfkjablnkaaGreat

namespace Go.Proofs.YtfdbcfkjablnkaaGreat
open Go.RowKit
set_option maxRecDepth 100000

end Go.Proofs.YtfdbcfkjablnkaaGreat

namespace Go.Proofs.YtfdbcfkjablnkaaGreat
open Go.RowKit Go.Shelf
set_option maxRecDepth 100000
attribute [local go_sem] Oper.semAt_some

end Go.Proofs.YtfdbcfkjablnkaaGreat

namespace Go.Proofs.YtfdbcfkjablnkaaGreat
open Go.RowKit Go.Shelf
set_option maxRecDepth 100000
attribute [local go_sem] Oper.semAt_some

/-- a head's bytes -/
def hdB (v k s i c : Int) : List Int := [v, k, s % 256, s / 256 % 256, s / 65536 % 256, s / 16777216, i, c]
end Go.Proofs.YtfdbcfkjablnkaaGreat

namespace Go.Proofs.YtfdbcfkjablnkaaGreat
open Go.RowKit
set_option maxRecDepth 100000

end Go.Proofs.YtfdbcfkjablnkaaGreat

namespace Go.Proofs.YtfdbcfkjablnkaaGreat
open Go.RowKit Go.Shelf
set_option maxRecDepth 100000
attribute [local go_sem] Oper.semAt_some

/-- bytes and their sum's -/
def sld (L : List Int) : List Int := L ++ Cr.le4 (Cr.sum L)
/-- a frame's block -/
def fblk (v k s i c : Int) (zs : List Int) : List Int := sld (hdB v k s i c ++ zs)
/-- what the slots hold whose values are known by what they are good for -/
def FRg (B : Nat) (p1 p2 : Part) (h z : List Int) (q : Tmp) (x : Value) (W : World) : Prop :=
  if q = 29 then ∃ a c, x = .slice a 2 c ∧ Parts W W.heap.size a [p1, p2]
  else if q = 30 then ∃ A c, x = .slice A 4 c ∧ 4 ≤ c ∧ Nums .u8 W W.heap.size A (Cr.le4 (Cr.sum (h ++ z)))
  else if q = 31 then ∃ A c, x = .slice A 3 c ∧ 3 ≤ c ∧ ListAt .u8 W W.heap.size A [h, z, Cr.le4 (Cr.sum (h ++ z))]
  else W.ownsRow B 5 1 x (sld (h ++ z)).length ((sld (h ++ z)).map (Value.int .u8))
theorem FRg.later {B : Nat} {p1 p2 : Part} {h z : List Int} {q : Tmp} {x : Value} {W W' : World} (hh : FRg B p1 p2 h z q x W) (hb : Below W.heap.size W W') : FRg B p1 p2 h z q x W' := by
  unfold FRg at *
  split
  · rename_i h1
    rw [if_pos h1] at hh
    obtain ⟨a, c, e, hg⟩ := hh
    refine ⟨a, c, e, fun p hp => ((hg.1 p hp).below hb).mono hb.size, fun hn => ?_⟩
    obtain ⟨b, off, e2, hc⟩ := hg.2 hn
    refine ⟨b, off, e2, fun j p hj => ?_⟩
    have h3 := hc j p hj
    exact (hb.cell (p := ⟨b, off + j, none⟩) (block_of_cell h3)).trans h3
  · rename_i h1
    rw [if_neg h1] at hh
    split
    · rename_i h2
      rw [if_pos h2] at hh
      obtain ⟨A, c, e, hc, hn⟩ := hh
      exact ⟨A, c, e, hc, (hn.below hb).mono hb.size⟩
    · rename_i h2
      rw [if_neg h2] at hh
      split
      · rename_i h3
        rw [if_pos h3] at hh
        obtain ⟨A, c, e, hc, hn⟩ := hh
        exact ⟨A, c, e, hc, (hn.below hb).mono hb.size⟩
      · rename_i h3
        rw [if_neg h3] at hh
        exact ⟨hh.1, hh.2.imp id fun ⟨g, cap, cur, hv, hg, hx, r⟩ => ⟨g, cap, cur, hv, hg, (hb.block g (Array.getElem?_eq_some_iff.1 hx).1).trans hx, r⟩⟩

end Go.Proofs.YtfdbcfkjablnkaaGreat

namespace Go.Proofs.YtfdbcfkjablnkaaGreat
namespace Fc
open Cb

/-- lists, each fenced -/
def wrap (ls : List (List Int)) : List Int := ls.flatMap fun b => 0 :: b ++ [0]
/-! parts of sizes -/
/-- how many numbers a size takes of n -/
def clip (s : Int) (n : Nat) : Nat := min (max s 0).toNat n
/-- the parts of L, the sizes R going round, from the i-th on -/
inductive Parts (R : List Int) : Nat → List Int → List (List Int) → Prop
  | done (i : Nat) : Parts R i [] []
  | step (i : Nat) (L : List Int) (s : Int) (ps : List (List Int)) : L ≠ [] → R[i]? = some s → Parts R ((i + 1) % R.length) (L.drop (clip s L.length)) ps → Parts R i L (L.take (clip s L.length) :: ps)
theorem Parts.nil {R : List Int} {i : Nat} {L : List Int} {ps : List (List Int)} (h : Parts R i L ps) (hL : L = []) : ps = [] := by
  cases h with
  | done => rfl
  | step _ _ _ _ h1 => exact absurd hL h1
theorem Parts.cons {R : List Int} {i : Nat} {L : List Int} {ps : List (List Int)} (h : Parts R i L ps) (hL : L ≠ []) : ∃ s qs, R[i]? = some s ∧ ps = L.take (clip s L.length) :: qs ∧ Parts R ((i + 1) % R.length) (L.drop (clip s L.length)) qs := by
  cases h with
  | done => exact absurd rfl hL
  | step _ _ s qs _ h2 h3 => exact ⟨s, qs, h2, rfl, h3⟩
end Fc
end Go.Proofs.YtfdbcfkjablnkaaGreat

namespace Go.Proofs.YtfdbcfkjablnkaaGreat
open Go.RowKit Go.Shelf
set_option maxRecDepth 100000
attribute [local go_sem] Oper.semAt_some

end Go.Proofs.YtfdbcfkjablnkaaGreat

namespace Go.Proofs.YtfdbcfkjablnkaaGreat
open Go.RowKit Go.Shelf
set_option maxRecDepth 100000
attribute [local go_sem] Oper.semAt_some

end Go.Proofs.YtfdbcfkjablnkaaGreat

namespace Go.Proofs.YtfdbcfkjablnkaaGreat
open Go.RowKit

/-- the list v, of the lists O, whose numbers lay in blocks of S in w -/
structure LsS (tl : TypeId) (k : IntKind) (base : Nat) (w : World) (S : Nat → Prop) (W : World) (v : Value) (xs : List Value) (O : List (List Int)) : Prop where
  out : W.ownsRow base tl 1 v O.length xs
  els : ∀ (i : Nat) (b : List Int), O[i]? = some b → ∃ (A : Option Addr) (c : Nat), xs[i]? = some (.slice A b.length c) ∧ b.length ≤ c ∧ NumsS k w S A b
section
variable {tl : TypeId} {k : IntKind} {base : Nat} {w W W' : World} {S : Nat → Prop} {v v' : Value} {xs : List Value} {O : List (List Int)}
theorem LsS.start (tl : TypeId) (k : IntKind) (base : Nat) (w : World) (S : Nat → Prop) (W : World) : LsS tl k base w S W (.slice none 0 0) [] [] := ⟨World.ownsRow_nil _ _ _ _, fun i b h => by simp at h⟩
theorem LsS.more {b : List Int} {A : Option Addr} {c : Nat} (h : LsS tl k base w S W v xs O) (hown : W'.ownsRow base tl 1 v' (O.length + 1) (xs ++ [.slice A b.length c])) (hc : b.length ≤ c) (hn : NumsS k w S A b) : LsS tl k base w S W' v' (xs ++ [.slice A b.length c]) (O ++ [b]) := by
  have hxl : xs.length = O.length := by have := h.out.1; omega
  refine ⟨by simpa using hown, fun i b2 hb => ?_⟩
  rcases Nat.lt_or_ge i O.length with hi | hi
  · rw [List.getElem?_append_left hi] at hb
    obtain ⟨A2, c2, hx, r⟩ := h.els i b2 hb
    exact ⟨A2, c2, by rw [List.getElem?_append_left (by omega)]; exact hx, r⟩
  · rw [List.getElem?_append_right hi] at hb
    have hi0 : i - O.length = 0 := by
      rcases Nat.eq_zero_or_pos (i - O.length) with h0 | h0
      · exact h0
      · rw [List.getElem?_eq_none (by simp only [List.length_singleton]; omega)] at hb; simp at hb
    rw [hi0] at hb
    simp only [List.getElem?_cons_zero, Option.some.injEq] at hb
    subst hb
    exact ⟨A, c, by rw [List.getElem?_append_right (by omega), show i - xs.length = 0 by omega]; rfl, hc, hn⟩
theorem LsS.kept (h : LsS tl k base w S W v xs O) (hown : W'.ownsRow base tl 1 v O.length xs) : LsS tl k base w S W' v xs O := ⟨hown, h.els⟩
theorem ListAt.putObj {k : IntKind} {V : World} {B l : Nat} {A : Option Addr} {bl : List (List Int)} {o : Obj} (h : ListAt k V B A bl) (ho : V.heap[l]? = some o) (hc : o.isCells = false) (o' : Obj) : ListAt k (V.putObj l o') B A bl := fun i b hi => by
  obtain ⟨g, Ai, ci, e, hg, hcl, hl, hn⟩ := h i b hi
  refine ⟨g, Ai, ci, e, hg, ?_, hl, hn.putObj ho hc o'⟩
  obtain ⟨o2, h2, h3⟩ := cells_of_cell hcl
  refine (World.cell?_of_block (World.putObj_heap_other (fun e2 => ?_))).trans hcl
  simp only at h2 e2
  subst e2
  rw [ho] at h2
  injection h2 with h2
  subst h2
  rw [hc] at h3; cases h3
/-- .. as it lies, in a world in which the blocks of S are as they were -/
theorem LsS.lies (h : LsS tl k base w S W v xs O) (hK : KeepS S w W) (hS : ∀ k, S k → k < w.heap.size) : ∃ A c, v = .slice A O.length c ∧ O.length ≤ c ∧ ListAt k W W.heap.size A O := by
  rcases h.out.2 with ⟨rfl, h0⟩ | ⟨g, cap, cur, rfl, hbg, hh, hle, _⟩
  · rw [List.eq_nil_of_length_eq_zero h0]
    exact ⟨none, 0, rfl, Nat.le_refl _, fun i b hi => by simp at hi⟩
  · refine ⟨_, cap, rfl, hle, fun i b hi => ?_⟩
    obtain ⟨A, c, hx, hc, hn⟩ := h.els i b hi
    have h1 := h.out.cells (g := g) rfl i _ hx
    rw [Addr.add_lit, Nat.zero_add] at h1
    exact ⟨g, A, c, rfl, (Array.getElem?_eq_some_iff.1 hh).1, h1, hc, (hn.keeps hK).nums (fun k hk => by have := hS k hk; have := hK.1; omega)⟩
end
end Go.Proofs.YtfdbcfkjablnkaaGreat

namespace Go.Proofs.YtfdbcfkjablnkaaGreat
open Go.RowKit Go.Shelf
set_option maxRecDepth 100000
attribute [local go_sem] Oper.semAt_some

end Go.Proofs.YtfdbcfkjablnkaaGreat

namespace Go.Proofs.YtfdbcfkjablnkaaGreat
open Go.RowKit

/-- x is a slice of the numbers b, in a block of the call's own with elements of type te -/
def El1 (te : TypeId) (k : IntKind) (base : Nat) (W : World) (x : Value) (b : List Int) : Prop :=
  ∃ (A : Option Addr) (c : Nat), x = .slice A b.length c ∧ b.length ≤ c ∧ (b ≠ [] → ∃ (g : Nat) (cur : Array Value), A = some ⟨g, 0, none⟩ ∧ base ≤ g ∧ W.heap[g]? = some (.cells cur te (0, 0)) ∧ ∀ (j : Nat) (z : Int), b[j]? = some z → cur[j]? = some (Value.int k z))
/-- the slice v of slices, the lists O -/
structure L1 (te tl : TypeId) (k : IntKind) (base : Nat) (W : World) (v : Value) (xs : List Value) (O : List (List Int)) : Prop where
  out : W.ownsRow base tl 1 v O.length xs
  els : ∀ (i : Nat) (b : List Int), O[i]? = some b → ∃ x, xs[i]? = some x ∧ El1 te k base W x b
section
variable {te tl : TypeId} {k : IntKind} {base : Nat} {W w1 W' : World} {v v' u x : Value} {xs ys : List Value} {O P : List (List Int)} {b : List Int} {o : Obj}
theorem L1.start (te tl : TypeId) (k : IntKind) (base : Nat) (W : World) : L1 te tl k base W (.slice none 0 0) [] [] := ⟨World.ownsRow_nil _ _ _ _, fun i b h => by simp at h⟩
theorem own_below {e : TypeId} {n : Nat} (h : W.ownsRow base e 1 v n xs) (hb : Below W.heap.size W W') : W'.ownsRow base e 1 v n xs := by
  refine ⟨h.1, ?_⟩
  rcases h.2 with h | ⟨g, cap, cur, hv, hg, hh, r⟩
  · exact .inl h
  · exact .inr ⟨g, cap, cur, hv, hg, (hb.block g (Array.getElem?_eq_some_iff.1 hh).1).trans hh, r⟩
theorem El1.below (h : El1 te k base W x b) (hb : Below W.heap.size W W') : El1 te k base W' x b := by
  obtain ⟨A, c, rfl, hc, hz⟩ := h
  refine ⟨A, c, rfl, hc, fun hn => ?_⟩
  obtain ⟨g, cur, rfl, hg, hh, hj⟩ := hz hn
  exact ⟨g, cur, rfl, hg, (hb.block g (Array.getElem?_eq_some_iff.1 hh).1).trans hh, hj⟩
theorem L1.below (h : L1 te tl k base W v xs O) (hb : Below W.heap.size W W') : L1 te tl k base W' v xs O :=
  ⟨own_below h.out hb, fun i b hi => by obtain ⟨x, hx, he⟩ := h.els i b hi; exact ⟨x, hx, he.below hb⟩⟩
theorem El1.slice (h : El1 te k base W x b) : ∃ A c, x = .slice A b.length c := by
  obtain ⟨A, c, e, _⟩ := h
  exact ⟨A, c, e⟩
/-- a row of another element type has grown -/
theorem El1.grown {n : Nat} (h : El1 te k base W x b) (hne : te ≠ tl) (hown : W.ownsRow base tl 1 v n xs) (hg : (W.alloc o).grownBy w1 v.ownBlock) : El1 te k base w1 x b := by
  obtain ⟨A, c, rfl, hc, hz⟩ := h
  refine ⟨A, c, rfl, hc, fun hn => ?_⟩
  obtain ⟨g, cur, rfl, hbg, hh, hj⟩ := hz hn
  have hlt := (Array.getElem?_eq_some_iff.1 hh).1
  refine ⟨g, cur, rfl, hbg, ?_, hj⟩
  rw [hg.block g (by rw [World.size_alloc]; omega) (fun e => ?_)]
  · exact (Below.heap_alloc W o g hlt).trans hh
  · rcases hown.2 with ⟨rfl, _⟩ | ⟨g2, cap2, cur2, rfl, _, hh2, _⟩
    · simp [Value.ownBlock] at e
    · simp only [Value.ownBlock, Option.some.injEq] at e
      subst e
      rw [hh] at hh2
      injection hh2 with hh2
      injection hh2 with _ ht
      exact hne ht
/-- an element more -/
theorem L1.push (h : L1 te tl k base W v xs O) (hne : te ≠ tl) (hx : El1 te k base W x b) (hown : w1.ownsRow base tl 1 v' (O.length + 1) (xs ++ [x])) (hg : (W.alloc o).grownBy w1 v.ownBlock) :
    L1 te tl k base w1 v' (xs ++ [x]) (O ++ [b]) := by
  have hxl : xs.length = O.length := by have := h.out.1; omega
  refine ⟨by simpa using hown, fun i b2 hb => ?_⟩
  rcases Nat.lt_or_ge i O.length with hi | hi
  · rw [List.getElem?_append_left hi] at hb
    obtain ⟨x2, hx2, he⟩ := h.els i b2 hb
    exact ⟨x2, by rw [List.getElem?_append_left (by omega)]; exact hx2, he.grown hne h.out hg⟩
  · rw [List.getElem?_append_right hi] at hb
    have hi0 : i - O.length = 0 := by
      rcases Nat.eq_zero_or_pos (i - O.length) with h0 | h0
      · exact h0
      · rw [List.getElem?_eq_none (by simp only [List.length_singleton]; omega)] at hb; simp at hb
    rw [hi0] at hb
    simp only [List.getElem?_cons_zero, Option.some.injEq] at hb
    subst hb
    exact ⟨x, by rw [List.getElem?_append_right (by omega), show i - xs.length = 0 by omega]; rfl, hx.grown hne h.out hg⟩
/-- .. beside another list -/
theorem L1.beside {n : Nat} (h : L1 te tl k base W u ys P) (hne : te ≠ tl) (hsep : u.ownBlock = none ∨ u.ownBlock ≠ v.ownBlock) (hown : W.ownsRow base tl 1 v n xs) (hg : (W.alloc o).grownBy w1 v.ownBlock) : L1 te tl k base w1 u ys P :=
  ⟨(h.out.alloc o).kept hg hsep, fun i b hi => by obtain ⟨x, hx, he⟩ := h.els i b hi; exact ⟨x, hx, he.grown hne hown hg⟩⟩
theorem L1.lies (h : L1 te tl k base W v xs O) : ∃ A c, v = .slice A O.length c ∧ O.length ≤ c ∧ ListAt k W W.heap.size A O := by
  rcases h.out.2 with ⟨rfl, h0⟩ | ⟨g, cap, cur, rfl, hbg, hh, hle, _⟩
  · rw [List.eq_nil_of_length_eq_zero h0]
    exact ⟨none, 0, rfl, Nat.le_refl _, fun i b hi => by simp at hi⟩
  · refine ⟨_, cap, rfl, hle, fun i b hi => ?_⟩
    obtain ⟨x, hx, A, c, rfl, hc, hcell⟩ := h.els i b hi
    have h1 := h.out.cells (g := g) rfl i _ hx
    rw [Addr.add_lit, Nat.zero_add] at h1
    refine ⟨g, A, c, rfl, (Array.getElem?_eq_some_iff.1 hh).1, h1, hc, fun hn => ?_⟩
    obtain ⟨g2, cur2, rfl, _, hh2, hz⟩ := hcell hn
    refine ⟨g2, 0, rfl, (Array.getElem?_eq_some_iff.1 hh2).1, fun j z hj => ?_⟩
    rw [Nat.zero_add]
    simp [World.cell?, hh2, hz j z hj]
end
end Go.Proofs.YtfdbcfkjablnkaaGreat

namespace Go.Proofs.YtfdbcfkjablnkaaGreat
open Go.RowKit Go.Shelf
set_option maxRecDepth 100000
attribute [local go_sem] Oper.semAt_some

end Go.Proofs.YtfdbcfkjablnkaaGreat

namespace Go.Proofs.YtfdbcfkjablnkaaGreat
open Go.RowKit Go.Shelf
set_option maxRecDepth 100000

/-- a frame that lies somewhere -/
structure Fr where
  v : Int
  k : Int
  s : Int
  i : Int
  c : Int
  a : Option Addr
  cp : Nat
  zs : List Int
def Fr.cs (f : Fr) : Array Value := frC f.v f.k f.s f.i f.c (.slice f.a f.zs.length f.cp)
structure Fr.At (w : World) (B : Nat) (f : Fr) : Prop where
  s0 : 0 ≤ f.s
  s1 : f.s ≤ 4294967295
  room : f.zs.length ≤ f.cp
  few : f.zs.length ≤ 9223372036854775807
  byte : Bytes f.zs
  nums : Nums .u8 w B f.a f.zs
theorem Fr.At.below {w w' : World} {B : Nat} {f : Fr} (h : f.At w B) (hb : Below B w w') : f.At w' B := ⟨h.s0, h.s1, h.room, h.few, h.byte, h.nums.below hb⟩
theorem Fr.At.mono {w : World} {B B' : Nat} {f : Fr} (h : f.At w B) (hB : B ≤ B') : f.At w B' := ⟨h.s0, h.s1, h.room, h.few, h.byte, h.nums.mono hB⟩
def Fr.chk (f : Fr) : Int := fchk f.v f.k f.i f.c f.zs.length
def Fr.blk (f : Fr) : List Int := fblk f.v f.k f.s f.i f.c f.zs
def Fr.seg (f : Fr) : List Int := Cb.enc f.blk
/-- frames that lie one behind the other, below B -/
def FrsAt (w : World) (B : Nat) (A : Option Addr) (fs : List Fr) : Prop :=
  (∀ f ∈ fs, f.At w B) ∧ ∀ (j : Nat) (f : Fr), fs[j]? = some f → ∃ b off, A = some ⟨b, off, none⟩ ∧ b < B ∧ ∀ (q : Nat) (u : Value), f.cs[q]? = some u → w.cell? ⟨b, off + j * 6 + q, none⟩ = some u
theorem FrsAt.below {w w' : World} {B : Nat} {A : Option Addr} {fs : List Fr} (h : FrsAt w B A fs) (hb : Below B w w') : FrsAt w' B A fs := by
  refine ⟨fun f hf => (h.1 f hf).below hb, fun j f hj => ?_⟩
  obtain ⟨b, off, e, hB, hc⟩ := h.2 j f hj
  exact ⟨b, off, e, hB, fun q u hq => (hb.cell (p := ⟨b, off + j * 6 + q, none⟩) hB).trans (hc q u hq)⟩
theorem FrsAt.mono {w : World} {B B' : Nat} {A : Option Addr} {fs : List Fr} (h : FrsAt w B A fs) (hB : B ≤ B') : FrsAt w B' A fs := by
  refine ⟨fun f hf => (h.1 f hf).mono hB, fun j f hj => ?_⟩
  obtain ⟨b, off, e, hB', hc⟩ := h.2 j f hj
  exact ⟨b, off, e, by omega, hc⟩
theorem FrsAt.six {w : World} {B : Nat} {A : Option Addr} {fs : List Fr} (h : FrsAt w B A fs) {j : Nat} {f : Fr} (hj : fs[j]? = some f) : ∃ b off, A = some ⟨b, off, none⟩ ∧ b < B ∧
    w.cell? ⟨b, off + j * 6, none⟩ = some (.int .i64 f.v) ∧ w.cell? ⟨b, off + j * 6 + 1, none⟩ = some (.int .i64 f.k) ∧ w.cell? ⟨b, off + j * 6 + 2, none⟩ = some (.int .u32 f.s) ∧ w.cell? ⟨b, off + j * 6 + 3, none⟩ = some (.int .i64 f.i) ∧
    w.cell? ⟨b, off + j * 6 + 4, none⟩ = some (.int .i64 f.c) ∧ w.cell? ⟨b, off + j * 6 + 5, none⟩ = some (.slice f.a f.zs.length f.cp) := by
  obtain ⟨b, off, e, hB, hc⟩ := h.2 j f hj
  exact ⟨b, off, e, hB, hc 0 _ rfl, hc 1 _ rfl, hc 2 _ rfl, hc 3 _ rfl, hc 4 _ rfl, hc 5 _ rfl⟩

/-- the segments' list, its first k filled -/
structure PkAt (w : World) (fs : List Fr) (n k : Nat) (wr : World) : Prop where
  below : Below w.heap.size w wr
  row : ∃ cs, wr.heap[w.heap.size]? = some (.cells cs 40 (0, 0)) ∧ cs.size = n ∧ ∀ (j : Nat) (f : Fr), j < k → fs[j]? = some f →
    ∃ Aj cj, cs[j]? = some (.slice Aj f.seg.length cj) ∧ f.seg.length ≤ cj ∧ NumsS .u8 wr (fun b => w.heap.size < b ∧ b < wr.heap.size) Aj f.seg
section
variable {w wr w2 : World} {fs : List Fr} {n k : Nat}
theorem PkAt.start (w : World) (fs : List Fr) (cs : Array Value) (hn : cs.size = n) : PkAt w fs n 0 (w.alloc (.cells cs 40)) :=
  ⟨(Below.refl _ w).alloc (Nat.le_refl _) _, cs, heap_alloc_new w _, hn, fun j f hj _ => by omega⟩
theorem PkAt.lt (h : PkAt w fs n k wr) : w.heap.size < wr.heap.size := by
  obtain ⟨cs, hh, _⟩ := h.row
  exact (Array.getElem?_eq_some_iff.1 hh).1
theorem PkAt.later (h : PkAt w fs n k wr) (hb : Below wr.heap.size wr w2) : PkAt w fs n k w2 := by
  have hlt := h.lt
  refine ⟨h.below.trans (hb.mono h.below.size), ?_⟩
  obtain ⟨cs, hh, hs, hc⟩ := h.row
  refine ⟨cs, (hb.block _ hlt).trans hh, hs, fun j f hj hf => ?_⟩
  obtain ⟨Aj, cj, h1, h2, h3⟩ := hc j f hj hf
  exact ⟨Aj, cj, h1, h2, (h3.keeps (KeepS.of_below hb fun k hk => hk.2)).more fun k hk => ⟨hk.1, Nat.lt_of_lt_of_le hk.2 hb.size⟩⟩
theorem PkAt.cell (h : PkAt w fs n k wr) {j : Nat} (hj : j < n) : (∃ u, wr.cell? ⟨w.heap.size, j, none⟩ = some u) ∧ wr.frozen? ⟨w.heap.size, j, none⟩ = false := by
  obtain ⟨cs, hh, hs, _⟩ := h.row
  exact ⟨⟨cs[j], by rw [cell_of_row wr _ j cs _ _ hh]; exact Array.getElem?_eq_getElem (by omega)⟩, frozen_of_row wr _ j cs _ hh⟩
theorem PkAt.put {w1 : World} {f : Fr} {A : Option Addr} {c : Nat} (h : PkAt w fs n k wr) (hk : k < n) (hf : fs[k]? = some f) (hm : MadeK 5 .u8 w1 wr f.seg (.slice A f.seg.length c)) (hw : w.heap.size < w1.heap.size) (hc : f.seg.length ≤ c) :
    PkAt w fs n (k + 1) (wr.setCell ⟨w.heap.size, k, none⟩ (.slice A f.seg.length c)) := by
  obtain ⟨cs, hh, hs, hr⟩ := h.row
  have hS : ∀ x, KeepS (fun b => w.heap.size < b ∧ b < wr.heap.size) wr (wr.setCell ⟨w.heap.size, k, none⟩ x) := fun x => ⟨by simp [World.setCell], fun j hj => Below.heap_setCell wr ⟨w.heap.size, k, none⟩ x j (fun e => by subst e; exact Nat.lt_irrefl _ hj.1)⟩
  have hz : (wr.setCell ⟨w.heap.size, k, none⟩ (.slice A f.seg.length c)).heap.size = wr.heap.size := by simp [World.setCell]
  refine ⟨h.below.setCell (Nat.le_refl _) _, _, setCell_at hh, by simpa using hs, fun j g hj hg => ?_⟩
  rw [Array.getElem?_setIfInBounds]
  by_cases hjk : k = j
  · subst hjk
    obtain rfl : f = g := Option.some.inj (hf.symm.trans hg)
    rw [if_pos rfl, if_pos (by omega)]
    refine ⟨A, c, rfl, hc, ?_⟩
    have h3 := (hm.numsS rfl).more (S' := fun b => w.heap.size < b ∧ b < wr.heap.size) fun b hb => ⟨by omega, hb.2⟩
    rw [hz]
    exact h3.keeps (hS _)
  · rw [if_neg hjk]
    obtain ⟨Aj, cj, h1, h2, h3⟩ := hr j g (by omega) hg
    rw [hz]
    exact ⟨Aj, cj, h1, h2, h3.keeps (hS _)⟩
theorem PkAt.list (h : PkAt w fs n k wr) (hk : fs.length ≤ k) : ListAt .u8 wr wr.heap.size (some ⟨w.heap.size, 0, none⟩) (fs.map Fr.seg) := fun j b hb => by
  rw [List.getElem?_map] at hb
  obtain ⟨f, hf, rfl⟩ := Option.map_eq_some_iff.1 hb
  obtain ⟨cs, hh, hs, hr⟩ := h.row
  have hj : j < fs.length := (List.getElem?_eq_some_iff.1 hf).1
  obtain ⟨Aj, cj, h1, h2, h3⟩ := hr j f (by omega) hf
  exact ⟨_, Aj, cj, rfl, h.lt, by rw [cell_of_row wr _ j cs _ _ hh]; exact h1, h2, h3.nums fun k hk => hk.2⟩
end
end Go.Proofs.YtfdbcfkjablnkaaGreat

namespace Go.Proofs.YtfdbcfkjablnkaaGreat
open Go.RowKit
set_option maxRecDepth 100000

def Fr.ct (f : Fr) : Nat × List Int := (f.i.toNat, f.zs)
/-- a document's slot: its frames lie at A, their places are those of a count -/
structure RefAt (w : World) (c : Int) (A : Option Addr) (n cp : Nat) (fs : List Fr) : Prop where
  at' : FrsAt w w.heap.size A fs
  len : fs.length = n
  room : n ≤ cp
  few : ∀ f ∈ fs, 0 ≤ f.i ∧ f.i < c
  keys : Sl.Keys (fs.map Fr.ct)
  most : Sl.tot (fs.map Fr.ct) ≤ 192
  small : c ≤ 255
  row : ∀ g off, A = some ⟨g, off, none⟩ → ∃ cs, w.heap[g]? = some (.cells cs 52 (0, 0))
section
variable {w w' : World} {c : Int} {A : Option Addr} {n cp : Nat} {fs : List Fr}
theorem RefAt.below (h : RefAt w c A n cp fs) (hb : Below w.heap.size w w') : RefAt w' c A n cp fs := ⟨(h.at'.below hb).mono hb.size, h.len, h.room, h.few, h.keys, h.most, h.small, fun g off e => by
  obtain ⟨cs, h1⟩ := h.row g off e
  exact ⟨cs, (hb.block g (Array.getElem?_eq_some_iff.1 h1).1).trans h1⟩⟩
theorem Fr.At.offS {S : Nat → Prop} {f : Fr} (h : f.At w w.heap.size) (ho : Off S w w') (hS : ∀ g cs t fz, w.heap[g]? = some (.cells cs t fz) → S g → ∃ v k s i c n cp A, cs = frC v k s i c (.slice A n cp) ∧ t = 84) : f.At w' w'.heap.size := by
  refine ⟨h.s0, h.s1, h.room, h.few, h.byte, (h.nums.off ho fun hn g hg hs => ?_).mono ho.size⟩
  obtain ⟨z, hz⟩ : ∃ z, f.zs[0]? = some z := ⟨_, List.getElem?_eq_getElem (List.length_pos_iff.2 hn)⟩
  obtain ⟨g', off, e, hlt, hc⟩ := h.nums.open hz
  obtain ⟨_, _, e'⟩ := hg
  rw [e] at e'
  injection e' with e'
  injection e' with e'
  subst e'
  obtain ⟨o, ho'⟩ : ∃ o, w.heap[g']? = some o := ⟨_, Array.getElem?_eq_getElem hlt⟩
  cases o with
  | cells cs t fz =>
    obtain ⟨v, k, s, i, c, n, cp, A, rfl, _⟩ := hS g' cs t fz ho' hs
    simp only [World.cell?, ho'] at hc
    generalize off + 0 = q at hc
    rcases q with _ | _ | _ | _ | _ | _ | q <;> simp [frC] at hc
  | _ => simp [World.cell?, ho'] at hc
theorem RefAt.off {S : Nat → Prop} (h : RefAt w c A n cp fs) (ho : Off S w w') (hS : ∀ g cs t fz, w.heap[g]? = some (.cells cs t fz) → S g → ∃ v k s i c n cp A, cs = frC v k s i c (.slice A n cp) ∧ t = 84) : RefAt w' c A n cp fs := by
  have hr : ∀ g off cs, A = some ⟨g, off, none⟩ → w.heap[g]? = some (.cells cs 52 (0, 0)) → ¬ S g := fun g off cs _ hg hs => by
    obtain ⟨_, _, _, _, _, _, _, _, _, ht⟩ := hS g cs _ _ hg hs
    exact absurd ht (by decide)
  refine ⟨⟨fun f hf => (h.at'.1 f hf).offS ho hS, fun j f hf => ?_⟩, h.len, h.room, h.few, h.keys, h.most, h.small, fun g off e => ?_⟩
  · obtain ⟨b, off, e, hb, hc⟩ := h.at'.2 j f hf
    obtain ⟨cs, h1⟩ := h.row b off e
    exact ⟨b, off, e, Nat.lt_of_lt_of_le hb ho.size, fun q u hq => ho.cell (hc q u hq) (hr b off cs e h1)⟩
  · obtain ⟨cs, h1⟩ := h.row g off e
    exact ⟨cs, (ho.block g (Array.getElem?_eq_some_iff.1 h1).1 (hr g off cs e h1)).trans h1⟩
theorem RefAt.few_len (h : RefAt w c A n cp fs) : n ≤ 255 := by
  have := nodup_few 255 ((fs.map Fr.ct).map Prod.fst) h.keys fun x hx => by
    obtain ⟨p, hp, rfl⟩ := List.mem_map.1 hx
    obtain ⟨f, hf, rfl⟩ := List.mem_map.1 hp
    have := h.few f hf
    have := h.small
    show f.i.toNat < 255
    omega
  simpa [h.len] using this
theorem RefAt.mem (h : RefAt w c A n cp fs) {f : Fr} (hf : f ∈ fs) : Sl.at' (fs.map Fr.ct) f.i.toNat = f.zs := Sl.at_mem h.keys (List.mem_map.2 ⟨f, hf, rfl⟩)
end
/-- what Has answers -/
def HasR (w : World) (fs : List Fr) (p : Nat) (e : Ending) (w' : World) : Prop :=
  Below w.heap.size w w' ∧ ((Sl.has (fs.map Fr.ct) p = false ∧ e = .returned (.int .i64 (-1))) ∨ (Sl.has (fs.map Fr.ct) p = true ∧ ∃ (j : Nat) (f : Fr), fs[j]? = some f ∧ f.i = (p : Int) ∧ e = .returned (.int .i64 (j : Int))))
set_option maxHeartbeats 4000000 in
theorem rhas_any {w : World} (v k s i : Int) {c : Int} {A : Option Addr} {n cp : Nat} {fs : List Fr} (h : RefAt w c A n cp fs) (p : Nat) :
    Calls Tryz.prog 75 #[frV v k s i c (.slice A n cp), .int .i64 (p : Int)] w (HasR w fs p) := by
  have hnl := h.few_len
  have hnc := h.room
  have hlen := h.len
  obtain ⟨w1, hw1⟩ : ∃ w1, w.alloc (.cells (frC v k s i c (.slice A n cp)) 84) = w1 := ⟨_, rfl⟩
  have hb1 : Below w.heap.size w w1 := by rw [← hw1]; exact (Below.refl _ w).alloc (Nat.le_refl _) _
  have hbx : w1.heap[w.heap.size]? = some (.cells (frC v k s i c (.slice A n cp)) 84 (0, 0)) := by rw [← hw1]; exact World.alloc_heap_new _ _
  obtain ⟨_, _, _, _, _, d5⟩ := fr_block hbx
  have hat := h.at'.below hb1
  have HW1 : Hid (w.alloc (.cells #[.int .i64 v, .int .i64 k, .int .u32 s, .int .i64 i, .int .i64 c, .slice A n cp] 84) = w1) := Lib.hid hw1
  have hpos : ∀ f ∈ fs, 0 ≤ f.i := fun f hf => (h.few f hf).1
  have HG1 : Hid ((∀ (j : Nat) (f : Fr), fs[j]? = some f → f.i ≠ (p : Int)) → HasR w fs p (.returned (.int .i64 (-1))) w1) := Lib.hid fun hno => by
    refine ⟨hb1, .inl ⟨?_, rfl⟩⟩
    cases hh : Sl.has (fs.map Fr.ct) p with
    | false => rfl
    | true =>
      obtain ⟨q, hq, e⟩ := List.mem_map.1 (Sl.has_iff.1 hh)
      obtain ⟨f, hf, rfl⟩ := List.mem_map.1 hq
      obtain ⟨j, hj⟩ := List.mem_iff_getElem?.1 hf
      have h1 : f.i.toNat = p := e
      have := hpos f hf
      exact absurd (by omega) (hno j f hj)
  have HG2 : Hid (∀ (j : Nat) (f : Fr), fs[j]? = some f → f.i = (p : Int) → HasR w fs p (.returned (.int .i64 (j : Int))) w1) := Lib.hid fun j f hj hi => by
    refine ⟨hb1, .inr ⟨?_, j, f, hj, hi, rfl⟩⟩
    refine Sl.has_mem (x := f.zs) (List.mem_map.2 ⟨f, List.mem_of_getElem? hj, ?_⟩)
    show (f.i.toNat, f.zs) = _
    rw [hi]
    rfl
  have HAT := Lib.hid hat
  have HLEN := Lib.hid hlen
  clear h hw1 hb1 hbx hat hpos hlen
  generalize HasR w fs p = G at *
  unfold frV frC
  go_enter Tryz.func75, Tryz.ntmps75
  go_wp2_with fail
  rw [HW1.out]
  go_loopw [5] (fun x wr => ∃ j : Nat, j ≤ n ∧ x = .int .i64 (j : Int) ∧ Hid (∀ (i : Nat) (f : Fr), i < j → fs[i]? = some f → f.i ≠ (p : Int)) ∧ wr = w1) (fun x _ => n - (intOf x).toNat)
  case atStart => exact ⟨0, by omega, rfl, fun i f hi => by omega, rfl⟩
  case round =>
    obtain ⟨j, hj, rfl, HP, rfl⟩ := hrel
    by_cases hjn : j < n
    · have hjn' : (j : Int) < (n : Int) := by omega
      obtain ⟨f, hf⟩ : ∃ f, fs[j]? = some f := ⟨_, List.getElem?_eq_getElem (by rw [HLEN.out]; exact hjn)⟩
      obtain ⟨g, off, rfl, hg, a0, a1, a2, a3, a4, a5⟩ := HAT.out.six hf
      have HF := Lib.hid hf
      clear a0 a1 a2 a4 a5 hf
      by_cases he : f.i = (p : Int)
      · have HFIN := Lib.hid (HG2.out j f HF.out he)
        go_wp2
        exact HFIN.out
      · have HNE := Lib.hid he
        go_wp2
        go_roundw
        case rel => exact ⟨j + 1, by omega, by go_num, fun i' f' hi' hf' => by
            rcases Nat.lt_or_ge i' j with h1 | h1
            · exact HP.out i' f' h1 hf'
            · obtain rfl : i' = j := by omega
              rw [HF.out] at hf'
              injection hf' with hf'
              subst hf'
              exact HNE.out, trivial⟩
        case measure => simp [intOf]; omega
    · have hjn' : j = n := by omega
      subst hjn'
      have HFIN := Lib.hid (HG1.out fun i f hi => HP.out i f (by rw [← HLEN.out]; exact (List.getElem?_eq_some_iff.1 hi).1) hi)
      go_wp2
      exact HFIN.out
end Go.Proofs.YtfdbcfkjablnkaaGreat

namespace Go.Proofs.YtfdbcfkjablnkaaGreat.Tb
open Go.RowKit

/-- one message: its head's parts, what came of it -/
structure Ms where
  v : Int
  k : Int
  s : Int
  c : Int
  C : Sl.Ct
def Ms.err (x : Ms) (f : Fr) : Int := sErr x.v x.k x.s x.c f.v f.k f.s f.i f.c x.C f.zs
def Ms.push (x : Ms) (f : Fr) : Ms := ⟨x.v, x.k, x.s, x.c, x.C ++ [f.ct]⟩
def Ms.full (x : Ms) : Bool := (x.C.length : Int) == x.c
def Ms.new (f : Fr) : Ms := ⟨f.v, f.k, f.s, f.c, []⟩
def find (T : List Ms) (n : Int) : Option Ms := T.find? fun x => x.s == n
def drop (T : List Ms) (n : Int) : List Ms := T.filter fun x => x.s != n
def put1 (T : List Ms) (f : Fr) : List Ms := T.map fun x => if x.s = f.s then x.push f else x
def nums (T : List Ms) : List Int := T.map Ms.s
def old (T : List Ms) : Int := Sr.bst false (nums T)
def held (T : List Ms) : Nat := (T.map fun x => Sl.tot x.C).sum
/-- what is told -/
structure Out where
  zs : List Int
  wh : Bool
  ev : Bool
  old : Int
def Out.no : Out := ⟨[], false, false, 0⟩
/-- behind a frame's coming -/
def came (T : List Ms) (n : Int) (ev : Bool) (old : Int) : List Ms × Out :=
  match find T n with
  | some x => if x.full = true then (drop T n, ⟨Sl.cat x.C x.C.length, true, ev, old⟩) else (T, ⟨[], false, ev, old⟩)
  | none => (T, ⟨[], false, ev, old⟩)
structure Res where
  e : Int
  T : List Ms
  o : Out
def Res.ok (p : List Ms × Out) : Res := ⟨0, p.1, p.2⟩
def put (r : Nat) (T : List Ms) (f : Fr) : Res :=
  if chk f.v f.k f.i f.c ≠ 0 then ⟨chk f.v f.k f.i f.c, T, .no⟩
  else if f.zs = [] then ⟨13, T, .no⟩
  else match find T f.s with
  | some x => if x.err f ≠ 0 then ⟨x.err f, T, .no⟩ else .ok (came (put1 T f) f.s false 0)
  | none =>
    if (Ms.new f).err f ≠ 0 then ⟨(Ms.new f).err f, T, .no⟩
    else if T.length = r then (if Sr.after f.s (old T) = true then .ok (came (drop T (old T) ++ [(Ms.new f).push f]) f.s true (old T)) else ⟨18, T, .no⟩)
    else .ok (came (T ++ [(Ms.new f).push f]) f.s false 0)
section
variable {T : List Ms} {n : Int} {x : Ms}
theorem find_none : find T n = none ↔ ∀ x ∈ T, x.s ≠ n := by simp [find, List.find?_eq_none]
theorem find_mem (h : find T n = some x) : x ∈ T ∧ x.s = n := ⟨List.mem_of_find?_eq_some h, by simpa using List.find?_some h⟩
theorem find_of : ∀ {T : List Ms} {x : Ms}, (nums T).Nodup → x ∈ T → find T x.s = some x
  | q :: r, x, hn, hp => by
    unfold nums at hn
    rw [List.map_cons, List.nodup_cons] at hn
    unfold find
    by_cases h : q.s = x.s
    · rw [List.find?_cons_of_pos (by simpa using h)]
      rcases List.mem_cons.1 hp with rfl | hr
      · rfl
      · exact absurd (List.mem_map.2 ⟨x, hr, h.symm⟩) hn.1
    · rw [List.find?_cons_of_neg (by simpa using h)]
      rcases List.mem_cons.1 hp with rfl | hr
      · exact absurd rfl h
      · exact find_of hn.2 hr
theorem drop_none (h : find T n = none) : drop T n = T := List.filter_eq_self.2 fun x hx => by simpa using find_none.1 h x hx
theorem old_mem (h : T ≠ []) : ∃ x, x ∈ T ∧ x.s = old T := by
  cases T with
  | nil => exact absurd rfl h
  | cons q r =>
    have : old (q :: r) ∈ nums (q :: r) := by
      show Sr.best false q.s (nums r) ∈ q.s :: nums r
      rcases Sr.bst_mem false (nums r) q.s with h | h
      · rw [h]; exact List.mem_cons_self ..
      · exact List.mem_cons_of_mem _ h
    obtain ⟨x, hx, e⟩ := List.mem_map.1 this
    exact ⟨x, hx, e⟩
end
end Go.Proofs.YtfdbcfkjablnkaaGreat.Tb

namespace Go.Proofs.YtfdbcfkjablnkaaGreat
open Go.RowKit Go.MapKept Go.Maps
open Go.ChangeMaps (setBlock)

/-- a number and the block that stands at it -/
def teV (p : Int × Nat) : Value × Value := (.int .u32 p.1, .pointer (some ⟨p.2, 0, none⟩))
/-- what a look-up of a number gives -/
def teAt (F : List (Int × Nat)) (n : Int) : Option Nat := (F.find? fun p => p.1 == n).map Prod.snd
/-- numbers of 32 bits, no two alike -/
def teKeys (F : List (Int × Nat)) : Prop := (F.map Prod.fst).Nodup ∧ ∀ p ∈ F, 0 ≤ p.1 ∧ p.1 ≤ 4294967295
section
variable {F : List (Int × Nat)} {n : Int} {b : Nat}
theorem teAt_none : teAt F n = none ↔ ∀ p ∈ F, p.1 ≠ n := by simp [teAt, List.find?_eq_none]
theorem teAt_mem (h : teAt F n = some b) : (n, b) ∈ F := by
  obtain ⟨⟨x, y⟩, h1, h2⟩ := Option.map_eq_some_iff.1 h
  have h3 : x = n := by simpa using List.find?_some h1
  have h4 : y = b := h2
  subst h3 h4
  exact List.mem_of_find?_eq_some h1
theorem teAt_of : ∀ {F : List (Int × Nat)}, (F.map Prod.fst).Nodup → (n, b) ∈ F → teAt F n = some b
  | (x, y) :: r, hn, hp => by
    rw [List.map_cons, List.nodup_cons] at hn
    unfold teAt
    by_cases h : x = n
    · rw [List.find?_cons_of_pos (by simpa using h)]
      rcases List.mem_cons.1 hp with e | hr
      · injection e with e1 e2
        subst e1 e2
        rfl
      · exact absurd (List.mem_map.2 ⟨_, hr, h.symm⟩) hn.1
    · rw [List.find?_cons_of_neg (by simpa using h)]
      rcases List.mem_cons.1 hp with e | hr
      · injection e with e1 e2
        exact absurd e1.symm h
      · exact teAt_of hn.2 hr
end
structure TEnts (A : Array MapEntry) (clock : Nat) (F : List (Int × Nat)) : Prop where
  st : Stamped A clock
  kv : A.toList.map kvOf = F.map teV
  keys : teKeys F
/-- block m is such a map -/
def TMapAt (w : World) (m : Nat) (F : List (Int × Nat)) : Prop := ∃ A clock, w.heap[m]? = some (.map A clock) ∧ TEnts A clock F
section
variable {P : Program} {w w' : World} {m : Nat} {F : List (Int × Nat)} {t k e : TypeId}
theorem TMapAt.lt (h : TMapAt w m F) : m < w.heap.size := by
  obtain ⟨A, clock, hb, _⟩ := h
  exact (Array.getElem?_eq_some_iff.1 hb).1
theorem TMapAt.same (h : TMapAt w m F) (hb : w'.heap[m]? = w.heap[m]?) : TMapAt w' m F := by
  obtain ⟨A, clock, h1, h2⟩ := h
  exact ⟨A, clock, hb.trans h1, h2⟩
theorem TMapAt.below (h : TMapAt w m F) (hb : Below w.heap.size w w') : TMapAt w' m F := h.same (hb.block m h.lt)
theorem TMapAt.off {S : Nat → Prop} (h : TMapAt w m F) (hf : Off S w w') (hn : ¬ S m) : TMapAt w' m F := h.same (hf.block m h.lt hn)
theorem TMapAt.keys (h : TMapAt w m F) : teKeys F := by
  obtain ⟨A, clock, _, h2⟩ := h
  exact h2.keys
theorem TMapAt.not_cells (h : TMapAt w m F) (cs : Array Value) (t : TypeId) (x : Nat × Nat) : w.heap[m]? ≠ some (.cells cs t x) := by
  obtain ⟨A, clock, hb, _⟩ := h
  rw [hb]
  intro h; injection h with h; cases h
theorem TMapAt.new (w : World) : TMapAt (w.alloc (.map #[] 0)) w.heap.size [] := ⟨#[], 0, World.alloc_heap_new _ _, ⟨stamped_empty 0, rfl, by simp [teKeys]⟩⟩
theorem TEnts.get {A : Array MapEntry} {clock : Nat} (h : TEnts A clock F) {x : MapEntry} (hx : x ∈ A.toList) : ∃ p ∈ F, x.key = .int .u32 p.1 ∧ x.val = .pointer (some ⟨p.2, 0, none⟩) := by
  have : kvOf x ∈ F.map teV := by rw [← h.kv]; exact List.mem_map.2 ⟨x, hx, rfl⟩
  obtain ⟨p, hp, e1⟩ := List.mem_map.1 this
  simp only [teV, kvOf, Prod.mk.injEq] at e1
  exact ⟨p, hp, e1.1.symm, e1.2.symm⟩
theorem TEnts.put {A : Array MapEntry} {clock : Nat} (h : TEnts A clock F) {p : Int × Nat} (hp : p ∈ F) : ∃ x ∈ A.toList, x.key = .int .u32 p.1 ∧ x.val = .pointer (some ⟨p.2, 0, none⟩) := by
  have : teV p ∈ A.toList.map kvOf := by rw [h.kv]; exact List.mem_map.2 ⟨p, hp, rfl⟩
  obtain ⟨x, hx, e1⟩ := List.mem_map.1 this
  simp only [teV, kvOf, Prod.mk.injEq] at e1
  exact ⟨x, hx, e1.1, e1.2⟩
theorem key_u32 (hk : P.underlying k = some (.int .u32)) {n : Int} (h : 0 ≤ n ∧ n ≤ 4294967295) : keyOf P k (.int .u32 n) = some (.int .u32 n) := keyOf_int_mk hk (by simp [Lit.wf, IntKind.min, IntKind.max, IntKind.bits, IntKind.signed]; omega)
theorem TEnts.keyed {A : Array MapEntry} {clock : Nat} (h : TEnts A clock F) (hk : P.underlying k = some (.int .u32)) : ∀ x ∈ A.toList, ∃ l, keyOf P k x.key = some l := fun x hx => by
  obtain ⟨p, hp, e1, _⟩ := h.get hx
  rw [e1]
  exact ⟨_, key_u32 hk (h.keys.2 p hp)⟩
/-- what a look-up answers -/
def teVal (o : Option Nat) (c : Bool) : Value :=
  match o with
  | some b => if c then .tuple #[.pointer (some ⟨b, 0, none⟩), .bool true] else .pointer (some ⟨b, 0, none⟩)
  | none => if c then .tuple #[.pointer none, .bool false] else .pointer none
theorem TMapAt.run_look (h : TMapAt w m F) (c : Bool) (ht : P.underlying t = some (.map k e)) (hk : P.underlying k = some (.int .u32)) (hz : (zeroValue e).run P w = .ok (.pointer none) w) {n : Int} (hn : 0 ≤ n ∧ n ≤ 4294967295) :
    (Instr.lookup t (.map (some m)) (.int .u32 n) c).run P w = .ok (teVal (teAt F n) c) w := by
  obtain ⟨A, clock, hb, h2⟩ := h
  have K : Keyed P k := int_keyed hk
  have hkey := key_u32 hk hn
  rcases K.find w hkey A.toList (h2.keyed hk) with ⟨h1, h3⟩ | ⟨j, e0, h1, h3, h4⟩
  · have : teAt F n = none := teAt_none.2 fun p hp e1 => by
      obtain ⟨x, hx, e2, _⟩ := h2.put hp
      rw [e1] at e2
      exact h3 x hx e2
    rw [this]
    simp [Instr.lookup, run_underlying ht, MapKept.run_getObj_map hb, K.check w _ hkey, h1, hz, Result.andThen, teVal]
  · obtain ⟨⟨p, b⟩, hp, e1, e2⟩ := h2.get (List.mem_of_getElem? h3)
    rw [h4] at e1
    injection e1 with _ e1
    have e1 : n = p := e1
    subst e1
    rw [teAt_of h2.keys.1 hp]
    simp [Instr.lookup, run_underlying ht, MapKept.run_getObj_map hb, K.check w _ hkey, h1, e2, Result.andThen, teVal]
theorem TMapAt.run_upd (h : TMapAt w m F) (ht : P.underlying t = some (.map k e)) (hk : P.underlying k = some (.int .u32)) {n : Int} (hn : 0 ≤ n ∧ n ≤ 4294967295) (b : Nat) (hno : teAt F n = none) :
    ∃ w', (Instr.mapUpdate t (.map (some m)) (.int .u32 n) (.pointer (some ⟨b, 0, none⟩))).run P w = .ok () w' ∧ TMapAt w' m (F ++ [(n, b)]) ∧ Off (fun q => q = m) w w' ∧ w'.heap.size = w.heap.size := by
  obtain ⟨A, clock, hb, h2⟩ := h
  have K : Keyed P k := int_keyed hk
  have hkey := key_u32 hk hn
  have hne : ∀ x ∈ A.toList, x.key ≠ .int .u32 n := fun x hx e1 => by
    obtain ⟨q, hq, e2, _⟩ := h2.get hx
    rw [e1] at e2
    injection e2 with _ e2
    exact teAt_none.1 hno q hq e2.symm
  rcases K.find w hkey A.toList (h2.keyed hk) with ⟨h1, h3⟩ | ⟨j, e0, h1, h3, h4⟩
  · refine ⟨setBlock w m (.map (A.push ⟨.int .u32 n, .pointer (some ⟨b, 0, none⟩), clock⟩) (clock + 1)), ?_, ⟨_, _, ChangeMaps.heap_setBlock_same hb _, stamped_push h2.st hne, ?_, ?_, ?_⟩, ⟨rfl, rfl, rfl, by simp [setBlock], fun q _ hq => ChangeMaps.heap_setBlock_other hb _ hq⟩, by simp [setBlock]⟩
    · simp [Instr.mapUpdate, run_underlying ht, MapKept.run_getObj_map hb, K.check w false hkey, h1, MapKept.run_setObj_map _ hb, Result.andThen, setBlock]
    · rw [Array.toList_push, List.map_append, h2.kv, List.map_append]
      rfl
    · rw [List.map_append, List.nodup_append]
      exact ⟨h2.keys.1, by simp, fun a ha c hc => by
        simp only [List.map_cons, List.map_nil, List.mem_singleton] at hc
        subst hc
        obtain ⟨q, hq, rfl⟩ := List.mem_map.1 ha
        exact teAt_none.1 hno q hq⟩
    · intro q hq
      rcases List.mem_append.1 hq with hq | hq
      · exact h2.keys.2 q hq
      · obtain rfl := List.mem_singleton.1 hq
        exact hn
  · exact absurd h4 (hne e0 (List.mem_of_getElem? h3))
theorem te_erase : ∀ {F : List (Int × Nat)} {j : Nat} {n : Int} {b : Nat}, (F.map Prod.fst).Nodup → F[j]? = some (n, b) → F.eraseIdx j = F.filter fun p => p.1 != n
  | [], j, n, b, _, h => by simp at h
  | (x, y) :: r, 0, n, b, hn, h => by
    simp only [List.getElem?_cons_zero, Option.some.injEq, Prod.mk.injEq] at h
    obtain ⟨rfl, rfl⟩ := h
    rw [List.map_cons, List.nodup_cons] at hn
    rw [List.eraseIdx_zero, List.tail_cons, List.filter_cons_of_neg (by simp), List.filter_eq_self.2]
    intro p hp
    have : p.1 ≠ x := fun e => hn.1 (List.mem_map.2 ⟨p, hp, e⟩)
    simpa using this
  | (x, y) :: r, j + 1, n, b, hn, h => by
    rw [List.map_cons, List.nodup_cons] at hn
    rw [List.getElem?_cons_succ] at h
    have hx : x ≠ n := fun e => hn.1 (List.mem_map.2 ⟨_, List.mem_of_getElem? h, e.symm⟩)
    rw [List.eraseIdx_cons_succ, List.filter_cons_of_pos (by simpa using hx), te_erase hn.2 h]
theorem TMapAt.run_del (h : TMapAt w m F) (ht : P.underlying t = some (.map k e)) (hk : P.underlying k = some (.int .u32)) {n : Int} (hn : 0 ≤ n ∧ n ≤ 4294967295) {b : Nat} (hin : teAt F n = some b) :
    ∃ w', (∀ ty, (Builtin.delete_ #[t, k] ty #[.map (some m), .int .u32 n]).run P w = .ok (.tuple #[]) w') ∧ TMapAt w' m (F.filter fun p => p.1 != n) ∧ Off (fun q => q = m) w w' ∧ w'.heap.size = w.heap.size := by
  obtain ⟨A, clock, hb, h2⟩ := h
  have K : Keyed P k := int_keyed hk
  have hkey := key_u32 hk hn
  rcases K.find w hkey A.toList (h2.keyed hk) with ⟨h1, h3⟩ | ⟨j, e0, h1, h3, h4⟩
  · obtain ⟨x, hx, e2, _⟩ := h2.put (teAt_mem hin)
    exact absurd e2 (h3 x hx)
  · have hj : F[j]? = some (n, b) := by
      have h5 : (A.toList.map kvOf)[j]? = some (kvOf e0) := by rw [List.getElem?_map, h3]; rfl
      rw [h2.kv, List.getElem?_map] at h5
      obtain ⟨⟨x, y⟩, hp, e1⟩ := Option.map_eq_some_iff.1 h5
      simp only [teV, kvOf, Prod.mk.injEq] at e1
      have e2 := e1.1
      rw [h4] at e2
      injection e2 with _ e2
      subst e2
      have h6 := teAt_of h2.keys.1 (List.mem_of_getElem? hp)
      rw [h6] at hin
      injection hin with hin
      subst hin
      exact hp
    have he := te_erase h2.keys.1 hj
    refine ⟨setBlock w m (.map (A.eraseIdxIfInBounds j) clock), fun ty => ?_, ⟨_, _, ChangeMaps.heap_setBlock_same hb _, stamped_erase h2.st j, ?_, ?_, ?_⟩, ⟨rfl, rfl, rfl, by simp [setBlock], fun q _ hq => ChangeMaps.heap_setBlock_other hb _ hq⟩, by simp [setBlock]⟩
    · simp [Builtin.delete_, run_underlying ht, MapKept.run_getObj_map hb, K.check w _ hkey, h1, MapKept.run_setObj_map _ hb, Result.andThen, setBlock]
    · rw [← he, ChangeMaps.map_eraseIdx, ← h2.kv, ← ChangeMaps.map_eraseIdx]
      congr 1
      have hlt : j < A.size := by
        have := (List.getElem?_eq_some_iff.1 h3).1
        simpa using this
      simp [Array.eraseIdxIfInBounds, hlt]
    · exact (List.filter_sublist.map _).nodup h2.keys.1
    · exact fun q hq => h2.keys.2 q (List.mem_filter.1 hq).1
end
end Go.Proofs.YtfdbcfkjablnkaaGreat

namespace Go.Proofs.YtfdbcfkjablnkaaGreat
open Go.RowKit
set_option maxRecDepth 100000

end Go.Proofs.YtfdbcfkjablnkaaGreat

namespace Go.Proofs.YtfdbcfkjablnkaaGreat
open Go.RowKit

section
variable {F : Fence} {n : Nat} {P : Program} {g : Operand} {ps : Array Tmp} {assign body : Code} {Q : Exit → Act → World → Prop} {a : Act} {w : World}
theorem range_stopb {α : Type} (hro : F.round = none) (h1 : 1 ≤ n) {gf : Nat} {lb : Array Value} (hg : a.eval g = .func (.func gf) #[] lb) (hFg : F.fn gf) (eg : ∀ args w, (callFunc gf args).run P w = .ok (.enter gf args) w)
    (enc : α → Array Value) (hps : ∀ x, (enc x).size = ps.size) (Rd : Nat → α → World → Prop) (Fx : Nat → α → Nat → World → Prop) (Dn : Nat → World → Prop) (Sx : Code → World → Prop) (Kp : World → World → Prop) (N : Nat)
    (hFp : ∀ j x q W l o o', Fx j x q W → w.heap.size ≤ l → W.heap[l]? = some o → o.isCells = false → Fx j x q (W.putObj l o'))
    (hDp : ∀ j W l o o', Dn j W → w.heap.size ≤ l → W.heap[l]? = some o → o.isCells = false → Dn j (W.putObj l o'))
    (hSp : ∀ c W l o o', Sx c W → w.heap.size ≤ l → W.heap[l]? = some o → o.isCells = false → Sx c (W.putObj l o'))
    (hKt : ∀ A B C, Kp A B → Kp B C → Kp A C)
    (hKp : ∀ W l o o', w.heap.size ≤ l → W.heap[l]? = some o → o.isCells = false → Kp W (W.putObj l o'))
    (hD0 : ∀ o, Dn 0 ((w.alloc (.deferred (some []))).alloc o))
    (hround : ∀ (l j : Nat) (x : α) (W : World) (K : Act → World → Prop), Rd j x W → j < N →
      (∀ b q W', Fx j x q W' → KeepsFrom w.heap.size W W' → Kp W W' → (∀ l V, w.heap.size ≤ l → Fx j x q V → body.wpIn (F.inRound l) (n - 1 - 1) P (stopPost w.heap.size Kp (Dn (j + 1)) Sx V) b V) → K b W') →
      assign.wpIn (F.inRound l) (n - 1 - 1) P (Exit.then K (fun _ _ _ => False)) { tmps := (ps.zip (enc x)).foldl (fun t (p, v) => t.setIfInBounds p v) a.tmps, defers := [] } W)
    (hiter : ∀ (Bk : World → Prop) (X : World → Prop) (l : Nat) (W : World), (∀ A B, Bk A → A.heap.size ≤ B.heap.size → (∀ k, w.heap.size ≤ k → k < w.heap.size + 2 → B.heap[k]? = A.heap[k]?) → Bk B) → (∀ A, Bk A → w.heap.size + 2 ≤ A.heap.size) →
      (∀ A l' o o', X A → w.heap.size + 2 ≤ l' → A.heap[l']? = some o → o.isCells = false → X (A.putObj l' o')) → l < w.heap.size + 2 → Dn 0 W → Bk W →
      (∀ j x W1, Rd j x W1 → Bk W1 → j < N → YieldAt F (n - 1 - 1) P l (enc x) W1 (YPost w.heap.size l Kp (fun W2 => Dn (j + 1) W2 ∧ Bk W2) X W1)) →
      CallsIn F (n - 1) P gf (#[.func (.yield l) #[] #[]] ++ lb) W fun e W' => (∃ v, e = .returned v) ∧ ((Dn N W' ∧ Bk W') ∨ X W'))
    (hdone : ∀ (D : Nat) (W : World), w.heap.size ≤ D → Dn N W → W.heap[D]? = some (.deferred (some [])) → Q .normal { a with defers := { target := .collected D, args := #[] } :: a.defers } W)
    (hstop : ∀ (D : Nat) (c : Code) (W : World), w.heap.size ≤ D → Sx c W → W.heap[D]? = some (.deferred (some [])) → c.wpIn F n P Q { a with defers := { target := .collected D, args := #[] } :: a.defers } W) :
    (Code.rangeFunc g ps assign body).wpIn F n P Q a w :=
  range_stopa hro h1 hg hFg eg enc hps Rd
    (fun j x b W => ∃ q, Fx j x q W ∧ ∀ l V, w.heap.size ≤ l → Fx j x q V → body.wpIn (F.inRound l) (n - 1 - 1) P (stopPost w.heap.size Kp (Dn (j + 1)) Sx V) b V) Dn Sx Kp N
    (fun j x _ W l o o' h hl ho hc => by
      obtain ⟨q, h1, h2⟩ := h
      exact ⟨q, hFp j x q W l o o' h1 hl ho hc, h2⟩)
    hDp hSp hKt hKp hD0
    (fun l j x W K hr hj hK => hround l j x W K hr hj fun b q W' h1 h2 h3 h4 => hK b W' ⟨q, h1, h4⟩ h2 h3)
    (fun l _ _ _ W hl h _ => by
      obtain ⟨q, h1, h2⟩ := h
      exact h2 l W hl h1)
    hiter hdone hstop
end
end Go.Proofs.YtfdbcfkjablnkaaGreat

namespace Go.Proofs.YtfdbcfkjablnkaaGreat
open Go.RowKit Go.Shelf
set_option maxRecDepth 100000
attribute [local go_sem] Oper.semAt_some

end Go.Proofs.YtfdbcfkjablnkaaGreat

namespace Go.Proofs.YtfdbcfkjablnkaaGreat
open Go.RowKit Go.Shelf
set_option maxRecDepth 100000
attribute [local go_sem] Oper.semAt_some

theorem numbers_any (t : Int) (q : Nat) (c : Bool) (w : World) :
    Calls Tryz.prog 88 #[rowV t q, .bool c] w fun e w' => e = .returned (.func (.func 105) #[] #[.pointer (some ⟨w.heap.size, 0, none⟩), .pointer (some ⟨w.heap.size + 1, 0, none⟩)]) ∧
      w' = (w.alloc (.cells #[.int .u32 t, .int .u64 (q : Int)] 101)).alloc (.cells #[.bool c] 4) := by
  unfold rowV
  go_enter Tryz.func88, Tryz.ntmps88
  go_wp2
  go_ret
  exact ⟨by simp, rfl⟩
theorem numbers_not_nil (b d : Nat) (w : World) : (binOp .eql 129 (.func (.func 105) #[] #[.pointer (some ⟨b, 0, none⟩), .pointer (some ⟨d, 0, none⟩)]) .nilFunc).run Tryz.prog w = .ok (.bool false) w := by
  kernel_rfl
theorem bit_val (q k : Nat) (hq : q < 18446744073709551616) : (bits .and .u64 ((q : Int) / 2 ^ k) 1 == 1) = q.testBit k := by
  rw [show ((q : Int) / 2 ^ k) = ((q / 2 ^ k : Nat) : Int) by simp, show (1 : Int) = ((1 : Nat) : Int) from rfl, u64_and_nat _ _ (Nat.lt_of_le_of_lt (Nat.div_le_self _ _) hq) (by omega), Nat.and_one_is_mod, Nat.testBit_eq_decide_div_mod_eq]
  rcases Nat.mod_two_eq_zero_or_one (q / 2 ^ k) with h | h <;> (rw [h]; rfl)
set_option maxHeartbeats 2000000 in
theorem numbers_in (n : Nat) (hn : 1 ≤ n) (m' l Bs Bc : Nat) (t : Int) (q : Nat) (c : Bool) (ht : 0 ≤ t ∧ t < 4294967296) (hq : q < 18446744073709551616) (J : Nat → World → Prop) (Jx : World → Prop)
    (hJ : ∀ k W, J k W → W.cell? ⟨Bs, 0, none⟩ = some (.int .u32 t) ∧ W.cell? ⟨Bs, 1, none⟩ = some (.int .u64 (q : Int)) ∧ W.cell? ⟨Bc, 0, none⟩ = some (.bool c))
    (hd : ∀ k W d, J k W → J k (W.drewN d))
    (hs : ∀ k W, J k W → k < 64 → ¬ q.testBit k = c → J (k + 1) W)
    (hY : ∀ (k : Nat) (W : World), J k W → k < 64 → q.testBit k = c →
      YieldAt Fence.wide m' Tryz.prog l #[.int .u32 (Sr.add t (-(k : Int)))] W fun e W' => (e = .returned (.bool true) ∧ J (k + 1) W') ∨ (e = .returned (.bool false) ∧ Jx W'))
    (W : World) (h0 : J 0 W) :
    CallsIn Fence.wide n Tryz.prog 105 #[.func (.yield l) #[] #[], .pointer (some ⟨Bs, 0, none⟩), .pointer (some ⟨Bc, 0, none⟩)] W fun e W' => (∃ v, e = .returned v) ∧ (J 64 W' ∨ Jx W') := by
  refine callsIn_of_wp Tryz.func105 rfl trivial ?_ rfl
  simp only [Tryz.ntmps105, List.size_toArray, List.length_cons, List.length_nil, Nat.reduceAdd, Nat.reduceSub, Array.replicate_succ, Array.replicate_zero, List.push_toArray, List.append_toArray, List.nil_append, List.cons_append]
  gi_wp2
  refine wpIn_wide.2 (wp_scope_straight ((wpIn_wide (n := n)).1 ?_))
  gi_wp2
  apply wpIn_label
  gi_wp2
  gi_loopw [5] (fun v wr => ∃ k : Nat, k ≤ 64 ∧ v = .int .i64 (k : Int) ∧ J k wr) (fun v _ => 64 - (intOf v).toNat)
  case atStart => exact ⟨0, by omega, rfl, h0⟩
  case round =>
    obtain ⟨k, hk, rfl, hJk⟩ := hrel
    rcases Nat.lt_or_ge k 64 with h4 | h4
    · have hlt : (k : Int) < 64 := by omega
      obtain ⟨c0, c1, c2⟩ := hJ k wr hJk
      have hdr := Lib.hid (fun d => hd k wr d hJk)
      clear hJk
      gi_wp2
      refine wpIn_wide.2 ?_
      go_quiet (fail)
      rw [bit_val q k hq]
      have hJd := hdr.out nq
      clear hdr c0 c1 c2
      generalize wr.drewN nq = wd at *
      obtain ⟨c0, c1, c2⟩ := hJ k wd hJd
      by_cases hb : q.testBit k = c
      · have e1 : (q.testBit k == c) = true := by rw [beq_iff_eq]; exact hb
        rw [e1]
        have K := sadd_any t (-(k : Int)) wd ht
        have HYr := Lib.hid (hY k wd hJd h4 hb)
        generalize Sr.add t (-(k : Int)) = x at *
        obtain ⟨fn, tmps, assign, body, hy, hR⟩ := yield_any (n - 1) HYr.out
        have HR := Lib.hid hR
        clear hR HYr hb e1 hJd
        gi_wp2_with fail
        refine ⟨trivial, ?_⟩
        refine (callsIn_wide.2 K).mono ?_
        rintro e w1 ⟨rfl, rfl⟩
        clear K
        gi_wp2_with fail
        refine HR.out.mono ?_
        rintro e W3 (⟨rfl, hJ3⟩ | ⟨rfl, hJx3⟩)
        · gi_wp2
          go_roundw
          case rel => exact ⟨k + 1, by omega, by go_num, hJ3⟩
          case measure => simp [intOf]; omega
        · gi_wp2
          first | go_end0 | (rw [Exit.noGoto_normal]; go_end0) | (refine bodyPost_ret (results_none rfl _ _ _) rfl ?_)
          exact ⟨⟨_, rfl⟩, .inr hJx3⟩
      · have e1 : (q.testBit k == c) = false := by rw [beq_eq_false_iff_ne]; exact hb
        have hJn := hs k wd hJd h4 hb
        rw [e1]
        clear e1 hb hJd
        gi_wp2
        go_roundw
        case rel => exact ⟨k + 1, by omega, by go_num, hJn⟩
        case measure => simp [intOf]; omega
    · have hk4 : k = 64 := by omega
      subst hk4
      gi_wp2
      first | go_end0 | (rw [Exit.noGoto_normal]; go_end0)
      exact ⟨⟨_, rfl⟩, .inl hJk⟩
theorem wcome_any {w : World} {b : Nat} {t : Int} {q : Nat} (h : WinAt w b t q) :
    Calls Tryz.prog 61 #[.pointer (some ⟨b, 0, none⟩)] w fun e w' => e = .returned (.func (.func 105) #[] #[.pointer (some ⟨w.heap.size, 0, none⟩), .pointer (some ⟨w.heap.size + 1, 0, none⟩)]) ∧
      w' = (w.alloc (.cells #[.int .u32 t, .int .u64 (q : Int)] 101)).alloc (.cells #[.bool true] 4) := by
  have K := numbers_any t q true w
  obtain ⟨c0, c1⟩ := h.cells
  unfold rowV at K
  clear h
  go_enter Tryz.func61, Tryz.ntmps61
  go_wp2_with fail
  refine K.mono ?_
  rintro e w1 ⟨rfl, rfl⟩
  go_wp2
  go_ret
  exact ⟨rfl, rfl⟩
end Go.Proofs.YtfdbcfkjablnkaaGreat

namespace Go.Proofs.YtfdbcfkjablnkaaGreat
open Go.RowKit
set_option maxRecDepth 100000

theorem wu32Info : (Tryz.prog.info? 22).map (fun i => (i.zero, i.size, i.bytes)) = some (some (.int .u32 0), 1, 4) := by kernel_rfl
theorem own_len {w : World} {lo e : Nat} {v : Value} {L : List Int} (h : w.ownsRow lo e 1 v L.length (L.map (Value.int .u32))) : ∃ A c, v = .slice A L.length c ∧ L.length ≤ c ∧ Nums .u32 w w.heap.size A L := by
  rcases h.2 with ⟨rfl, h0⟩ | ⟨g, cap, cur, rfl, hg, hh, hn, _⟩
  · have : L = [] := List.eq_nil_of_length_eq_zero h0
    subst this
    exact ⟨none, 0, rfl, by simp, Nums.nil⟩
  · exact ⟨some ⟨g, 0, none⟩, cap, rfl, hn, Nums.of_own h⟩
theorem own_ge {w : World} {lo e n : Nat} {v : Value} {xs : List Value} (h : w.ownsRow lo e 1 v n xs) {g : Nat} (hg : v.ownBlock = some g) : lo ≤ g := by
  rcases h.2 with ⟨rfl, _⟩ | ⟨g', cap, cur, rfl, hg', _⟩
  · simp [Value.ownBlock] at hg
  · simp [Value.ownBlock] at hg; subst hg; exact hg'
/-- what holds of the law's window and of the numbers that came, by their places Ps -/
structure OnceAt (s : Int) (w1 wr : World) (B : Nat) (Ps : List Int) (v : Value) (P t : Int) (q : Nat) : Prop where
  inv : Wn.Inv s P (fun x => x < 0 ∨ x ∈ Ps) t q
  rng : ∀ p ∈ Ps, -100 ≤ p ∧ p < 65436
  win : WinAt wr B t q
  own : wr.ownsRow w1.heap.size 22 1 v (Ps.map (Sr.add s)).length ((Ps.map (Sr.add s)).map (Value.int .u32))
  off : Off (fun k => k = B) w1 wr
theorem OnceAt.inj {s : Int} {w1 wr : World} {B : Nat} {Ps : List Int} {v : Value} {P t : Int} {q : Nat} (h : OnceAt s w1 wr B Ps v P t q) {p : Int} (hp : -100 ≤ p ∧ p < 65436) (hm : Sr.add s p ∈ Ps.map (Sr.add s)) : p ∈ Ps := by
  obtain ⟨p', h1, h2⟩ := List.mem_map.1 hm
  have := h.rng p' h1
  unfold Sr.add at h2
  have : p' = p := by omega
  rw [← this]; exact h1

end Go.Proofs.YtfdbcfkjablnkaaGreat

namespace Go.Proofs.YtfdbcfkjablnkaaGreat
open Go.RowKit
set_option maxRecDepth 100000

/-- numbers that lie in block g, whole; all blocks but g are as they were in w -/
structure RowU (w : World) (g : Nat) (L : List Int) (wr : World) : Prop where
  row : ∃ cs, wr.heap[g]? = some (.cells cs 22 (0, 0)) ∧ ∀ (j : Nat) c, L[j]? = some c → cs[j]? = some (.int .u32 c)
  off : Off (fun k => k = g) w wr
section
variable {w wr : World} {g : Nat} {L : List Int}
theorem RowU.cell (h : RowU w g L wr) {j : Nat} {c : Int} (hj : L[j]? = some c) : wr.cell? ⟨g, j, none⟩ = some (.int .u32 c) := by
  obtain ⟨cs, hh, hc⟩ := h.row
  rw [cell_of_row wr g j cs _ _ hh]
  exact hc j c hj
theorem RowU.frozen (h : RowU w g L wr) (j : Nat) : wr.frozen? ⟨g, j, none⟩ = false := by
  obtain ⟨cs, hh, hc⟩ := h.row
  simp [World.frozen?, hh]
theorem RowU.drewN (h : RowU w g L wr) (n : Nat) : RowU w g L (wr.drewN n) := ⟨h.row, ⟨h.off.os, h.off.tape, h.off.output, h.off.size, h.off.block⟩⟩
theorem RowU.set (h : RowU w g L wr) (j : Nat) (c : Int) : RowU w g (L.set j c) (wr.setCell ⟨g, j, none⟩ (.int .u32 c)) := by
  obtain ⟨cs, hh, hc⟩ := h.row
  refine ⟨⟨_, setCell_at hh, fun i x hi => ?_⟩, h.off.setCell rfl _⟩
  rw [Array.getElem?_setIfInBounds]
  rw [List.getElem?_set] at hi
  by_cases hji : j = i
  · subst hji
    rw [if_pos rfl] at hi ⊢
    split at hi
    · rename_i hlt
      injection hi with hi
      subst hi
      have h2 := hc j L[j] (List.getElem?_eq_getElem hlt)
      rw [if_pos (Array.getElem?_eq_some_iff.1 h2).1]
    · simp at hi
  · rw [if_neg hji] at hi ⊢
    exact hc i x hi
theorem RowU.nums (h : RowU w g L wr) : Nums .u32 wr wr.heap.size (some ⟨g, 0, none⟩) L := fun hn => by
  obtain ⟨cs, hh, hc⟩ := h.row
  refine ⟨g, 0, rfl, (Array.getElem?_eq_some_iff.1 hh).1, fun j c hj => ?_⟩
  rw [Nat.zero_add]
  exact h.cell hj
theorem RowU.same (h : RowU w g L wr) {M : List Int} (hM : ∀ (j : Nat) (c : Int), M[j]? = some c → L[j]? = some c) : RowU w g M wr := by
  obtain ⟨cs, hh, hc⟩ := h.row
  exact ⟨⟨cs, hh, fun j c hj => hc j c (hM j c hj)⟩, h.off⟩
theorem RowU.below {w' : World} (h : RowU w g L wr) (hb : Below wr.heap.size wr w') : RowU w g L w' := by
  obtain ⟨cs, hh, hc⟩ := h.row
  exact ⟨⟨cs, (hb.block g (Array.getElem?_eq_some_iff.1 hh).1).trans hh, hc⟩, h.off.trans (S' := fun _ => False) (Off.of_below hb) (fun _ _ h => h.elim)⟩
end
theorem RowU.of_own {w : World} {lo c : Nat} {A : Option Addr} {L : List Int} (h : w.ownsRow lo 22 1 (.slice A L.length c) L.length (L.map (Value.int .u32))) (hL : 0 < L.length) : ∃ g, A = some ⟨g, 0, none⟩ ∧ lo ≤ g ∧ L.length ≤ c ∧ RowU w g L w := by
  rcases h.2 with ⟨_, h0⟩ | ⟨g, cap, cur, hv, hg, hh, hn, hcur⟩
  · omega
  · injection hv with hv1 hv2 hv3
    subst hv1 hv3
    refine ⟨g, rfl, hg, hn, ⟨cur, hh, fun j z hj => ?_⟩, Off.refl _ _⟩
    have := h.cells (g := g) rfl j (.int .u32 z) (by rw [List.getElem?_map, hj]; rfl)
    rw [show (⟨g, 0, none⟩ : Addr).add j = ⟨g, j, none⟩ by unfold Addr.add; split <;> simp_all] at this
    rwa [cell_of_row w g j cur _ _ hh] at this

/-- the first k and the last k have changed places -/
structure RvTo (L : List Int) (k : Nat) (M : List Int) : Prop where
  len : M.length = L.length
  at' : ∀ p, p < L.length → M[p]? = if p < k ∨ L.length - k ≤ p then L[L.length - 1 - p]? else L[p]?
theorem RvTo.start (L : List Int) : RvTo L 0 L := ⟨rfl, fun p hp => by rw [if_neg (by omega)]⟩
theorem RvTo.step {L M : List Int} {k : Nat} {x y : Int} (h : RvTo L k M) (hk : k < L.length - 1 - k) (hx : M[k]? = some x) (hy : M[L.length - 1 - k]? = some y) : RvTo L (k + 1) ((M.set k y).set (L.length - 1 - k) x) := by
  have hl := h.len
  refine ⟨by simp [hl], fun p hp => ?_⟩
  have h1 := h.at' p hp
  have e1 : L[L.length - 1 - k]? = some y := by
    have := h.at' (L.length - 1 - k) (by omega)
    rw [if_neg (by omega)] at this
    rw [← this]; exact hy
  have e2 : L[k]? = some x := by
    have := h.at' k (by omega)
    rw [if_neg (by omega)] at this
    rw [← this]; exact hx
  rw [List.getElem?_set, List.getElem?_set, List.length_set, hl]
  by_cases h2 : L.length - 1 - k = p
  · rw [if_pos h2, if_pos (by omega), if_pos (by omega), show L.length - 1 - p = k by omega, e2]
  · rw [if_neg h2]
    by_cases h3 : k = p
    · rw [if_pos h3, if_pos (by omega), if_pos (by omega), ← h3, e1]
    · rw [if_neg h3, h1]
      by_cases h4 : p < k ∨ L.length - k ≤ p
      · rw [if_pos h4, if_pos (by omega)]
      · rw [if_neg h4, if_neg (by omega)]
theorem RvTo.done {L M : List Int} {k : Nat} (h : RvTo L k M) (hk : ¬ (k : Int) < (L.length : Int) - 1 - k) : M = L.reverse := by
  apply List.ext_getElem?
  intro p
  rcases Nat.lt_or_ge p L.length with h1 | h1
  · rw [h.at' p h1, List.getElem?_reverse h1]
    by_cases h2 : p < k ∨ L.length - k ≤ p
    · rw [if_pos h2]
    · rw [if_neg h2, show L.length - 1 - p = p by omega]
  · rw [List.getElem?_eq_none (by rw [h.len]; exact h1), List.getElem?_eq_none (by rw [List.length_reverse]; exact h1)]

theorem reverse_none (A : Option Addr) (c : Nat) (w : World) : Calls Tryz.prog 89 #[.slice A 0 c] w fun e w' => (∃ x, e = .returned x) ∧ w' = w := by
  go_enter Tryz.func89, Tryz.ntmps89
  go_wp2
  go_loopw [2, 3] (fun i j wr => i = .int .i64 0 ∧ j = .int .i64 (-1) ∧ wr = w) (fun _ _ _ => 0)
  case atStart => exact ⟨rfl, rfl, rfl⟩
  case round =>
    obtain ⟨rfl, rfl, rfl⟩ := hrel
    go_wp2
    go_end0
    exact ⟨⟨_, rfl⟩, rfl⟩
set_option maxHeartbeats 1000000 in
theorem reverse_any (g c : Nat) (L : List Int) (n : Nat) (w : World) (hn : L.length = n) (hl : n ≤ 1000000) (_hc : n ≤ c) (h : RowU w g L w) :
    Calls Tryz.prog 89 #[.slice (some ⟨g, 0, none⟩) n c] w fun e w' => (∃ x, e = .returned x) ∧ RowU w g L.reverse w' := by
  have HN := Lib.hid hn
  clear hn
  go_enter Tryz.func89, Tryz.ntmps89
  go_wp2
  go_loopw [2, 3] (fun i j wr => ∃ (k : Nat) (M : List Int), k ≤ n ∧ i = .int .i64 (k : Int) ∧ j = .int .i64 ((n : Int) - 1 - (k : Int)) ∧ Hid (RvTo L k M) ∧ RowU w g M wr) (fun i _ _ => n - (intOf i).toNat)
  case atStart => exact ⟨0, L, by omega, rfl, by go_num, RvTo.start L, h⟩
  case round =>
    obtain ⟨k, M, hkn, rfl, rfl, HR, hrow⟩ := hrel
    by_cases hlt : (k : Int) < (n : Int) - 1 - (k : Int)
    · obtain ⟨m, hm⟩ : ∃ m : Nat, (n : Int) - 1 - (k : Int) = (m : Int) := ⟨n - 1 - k, by omega⟩
      have hmn : m = n - 1 - k := by omega
      have hML : M.length = n := HR.out.len.trans HN.out
      obtain ⟨x, hx⟩ : ∃ x, M[k]? = some x := ⟨_, List.getElem?_eq_getElem (by omega)⟩
      obtain ⟨y, hy⟩ : ∃ y, M[m]? = some y := ⟨_, List.getElem?_eq_getElem (by omega)⟩
      have cx := hrow.cell hx
      have cy := hrow.cell hy
      have fx := hrow.frozen k
      have fy := hrow.frozen m
      have HS : Hid (RvTo L (k + 1) ((M.set k y).set m x)) := by
        have := HR.out.step (x := x) (y := y) (by rw [HN.out]; omega) hx (by rw [HN.out, ← hmn]; exact hy)
        rw [HN.out, ← hmn] at this
        exact this
      have HW := Lib.hid ((hrow.set k y).set m x)
      have hkm : (k : Int) < (m : Int) := by omega
      have hmc : (m : Int) < (n : Int) := by omega
      have hm2 : (n : Int) - 1 - ((k : Int) + 1) = (m : Int) - 1 := by omega
      have HM2 := Lib.hid hm2
      have hne : k ≠ m := by omega
      rw [hm]
      clear hm hmn hML hx hy hrow hm2
      go_wp2
      refine wp_region_lex2 (C := fun w' => ∃ n, w' = wr.drewN n) (by kernel_rfl) (by kernel_rfl) ⟨1, rfl⟩ ?_
      repeat (first
        | (refine wpQ2_pure rfl ?_; go_big_quiet_step (fail); refine wpQuiet_nil ?_)
        | (refine wpQ2_look rfl ?_; go_big_quiet_step (fail); refine wpQuiet_nil ?_))
      refine wpQ2_store (fun w' => ∃ n, w' = (wr.setCell ⟨g, k, none⟩ (.int .u32 y)).drewN n) rfl rfl rfl ⟨g, k, none⟩ (.int .u32 y) rfl rfl ?_ ?_
      · rintro w5 ⟨n5, rfl⟩
        refine ⟨(wr.drewN n5).setCell ⟨g, k, none⟩ (.int .u32 y), ?_, n5, rfl⟩
        simp [Instr.storeAt, go_sem, *]
      repeat (first
        | (refine wpQ2_pure rfl ?_; go_big_quiet_step (fail); refine wpQuiet_nil ?_))
      refine wpQ2_store (fun w' => ∃ n, w' = ((wr.setCell ⟨g, k, none⟩ (.int .u32 y)).setCell ⟨g, m, none⟩ (.int .u32 x)).drewN n) rfl rfl rfl ⟨g, m, none⟩ (.int .u32 x) rfl rfl ?_ ?_
      · rintro w5 ⟨n5, rfl⟩
        refine ⟨((wr.setCell ⟨g, k, none⟩ (.int .u32 y)).drewN n5).setCell ⟨g, m, none⟩ (.int .u32 x), ?_, n5, rfl⟩
        simp [Instr.storeAt, go_sem, *]
      rintro w6 ⟨n6, rfl⟩
      have HW6 := Lib.hid (HW.out.drewN n6)
      generalize ((wr.setCell ⟨g, k, none⟩ (.int .u32 y)).setCell ⟨g, m, none⟩ (.int .u32 x)).drewN n6 = w6 at *
      clear HW cx cy fx fy
      go_wp2
      go_roundw
      case rel => exact ⟨k + 1, _, by omega, by go_num, by rw [show ((m : Int) - 1) = (n : Int) - 1 - ((k + 1 : Nat) : Int) by have := HM2.out; omega], HS, HW6.out⟩
      case measure => simp [intOf]; omega
    · have hM := HR.out.done (by rw [HN.out]; exact hlt)
      subst hM
      go_wp2
      go_end0
      exact ⟨⟨_, rfl⟩, hrow⟩
end Go.Proofs.YtfdbcfkjablnkaaGreat

namespace Go.Proofs.YtfdbcfkjablnkaaGreat
open Go.RowKit Go.Shelf
set_option maxRecDepth 100000
attribute [local go_sem] Oper.semAt_some

/-- a block of another type holds no row's numbers -/
theorem blk_not_row {W : World} {b base n : Nat} {cs : Array Value} {t e : TypeId} {v : Value} {xs : List Value} (h : W.heap[b]? = some (.cells cs t (0, 0))) (hte : t ≠ e) (hr : W.ownsRow base e 1 v n xs) : v.ownBlock ≠ some b := fun e' => by
  rcases hr.2 with ⟨rfl, _⟩ | ⟨g, cap, cur, rfl, _, hh, _⟩
  · simp [Value.ownBlock] at e'
  · simp [Value.ownBlock] at e'
    subst e'
    rw [h] at hh
    injection hh with hh
    injection hh with _ ht
    exact hte ht
/-- behind j numbers that were given: box b0 holds the list of the first j; the row and its side lie in the blocks b0 + 1, b0 + 2 -/
structure MsAt (w : World) (b0 : Nat) (t : Int) (q : Nat) (LM : List Int) (j : Nat) (V : World) : Prop where
  out : ∃ v, Boxed V b0 95 v ∧ V.ownsRow w.heap.size 22 1 v (LM.take j).length ((LM.take j).map (Value.int .u32))
  row : V.heap[b0 + 1]? = some (.cells #[.int .u32 t, .int .u64 (q : Int)] 101 (0, 0))
  side : Boxed V (b0 + 2) 4 (.bool false)
  below : Below w.heap.size w V
section
variable {w V : World} {b0 j : Nat} {t : Int} {q : Nat} {LM : List Int}
theorem MsAt.put (h : MsAt w b0 t q LM j V) (hb : w.heap.size = b0) {l : Nat} {o : Obj} (hl : b0 + 3 ≤ l) (ho : V.heap[l]? = some o) (hc : o.isCells = false) (o' : Obj) : MsAt w b0 t q LM j (V.putObj l o') := by
  obtain ⟨v, h1, h2⟩ := h.out
  exact ⟨⟨v, (World.putObj_heap_other (by omega)).trans h1, ownsRow_putObj h2 _ ho hc⟩, (World.putObj_heap_other (by omega)).trans h.row, (World.putObj_heap_other (by omega)).trans h.side, h.below.trans (below_put V o' (by omega))⟩
theorem MsAt.drewN (h : MsAt w b0 t q LM j V) (d : Nat) : MsAt w b0 t q LM j (V.drewN d) := ⟨h.out, h.row, h.side, below_drewN h.below d⟩
end
set_option maxHeartbeats 4000000 in
theorem wmissing_any {w : World} {b : Nat} {t : Int} {q : Nat} (h : WinAt w b t q) (ht : 0 ≤ t ∧ t < 4294967296) (hq : q < 18446744073709551616) :
    Calls Tryz.prog 62 #[.pointer (some ⟨b, 0, none⟩)] w fun e w' => ∃ A c, e = .returned (.slice A (Wn.gv t q false 64).length c) ∧ (Wn.gv t q false 64).length ≤ c ∧ Nums .u32 w' w'.heap.size A (Wn.gv t q false 64).reverse ∧ Below w.heap.size w w' := by
  obtain ⟨j0, hi, hj0, hj1, hj2⟩ := info_parts wu32Info
  obtain ⟨LM, hLM⟩ : ∃ LM, Wn.gv t q false 64 = LM := ⟨_, rfl⟩
  have hLlen : LM.length = Wn.cnt q false 64 := by rw [← hLM, Wn.gv_len]
  have hLat : ∀ k, k < 64 → q.testBit k = false → LM[Wn.cnt q false k]? = some (Sr.add t (-(k : Int))) := fun k hk hb => by rw [← hLM]; exact Wn.gv_at t hb hk
  have hL64 : LM.length ≤ 64 := by rw [hLlen]; exact Wn.cnt_le q false 64
  rw [hLM]
  clear hLM
  refine (callsIn_wide (n := 3)).1 ?_
  refine callsIn_of_wp_marks Tryz.func62 rfl trivial ?_ rfl
  simp only [Tryz.ntmps62, List.size_toArray, List.length_cons, List.length_nil, Nat.reduceAdd, Nat.reduceSub, Array.replicate_succ, Array.replicate_zero, List.push_toArray, List.append_toArray, List.nil_append, List.cons_append]
  obtain ⟨w1, hw1⟩ : ∃ w1, w.alloc (Obj.cells #[Value.slice none 0 0] 95) = w1 := ⟨_, rfl⟩
  have hs1 : w1.heap.size = w.heap.size + 1 := by rw [← hw1]; simp
  have hb1 : Below w.heap.size w w1 := by rw [← hw1]; exact (Below.refl _ w).alloc (Nat.le_refl _) _
  have bL1 : Boxed w1 w.heap.size 95 (.slice none 0 0) := by rw [← hw1]; exact Boxed.new w _ _
  obtain ⟨c0, c1⟩ := (h.below hb1).cells
  obtain ⟨d0, d1⟩ := h.cells
  have K := numbers_any t q false w1
  unfold rowV at K
  obtain ⟨b0, hb0⟩ : ∃ b0, w.heap.size = b0 := ⟨_, rfl⟩
  have HB0 := Lib.hid hb0
  gi_wp2_with fail
  clear hw1 c0 c1 d0 d1
  refine ⟨trivial, ?_⟩
  refine (callsIn_wide.2 K).mono ?_
  rintro e w2 ⟨rfl, hw2⟩
  clear K
  have hs2 : w2.heap.size = w1.heap.size + 2 := by rw [hw2]; simp
  have bB2 : w2.heap[w1.heap.size]? = some (.cells #[.int .u32 t, .int .u64 (q : Int)] 101 (0, 0)) := by
    rw [hw2]; exact (Below.heap_alloc _ _ _ (by simp)).trans (World.alloc_heap_new _ _)
  have bC2 : Boxed w2 (w1.heap.size + 1) 4 (.bool false) := by
    rw [hw2]
    have := Boxed.new (w1.alloc (.cells #[.int .u32 t, .int .u64 (q : Int)] 101)) 4 (.bool false)
    rwa [World.size_alloc] at this
  have hb12 : Below w1.heap.size w1 w2 := by rw [hw2]; exact ((Below.refl _ w1).alloc (Nat.le_refl _) _).alloc (by simp) _
  clear hw2
  have hb2 : Below w.heap.size w w2 := hb1.trans (hb12.mono (by omega))
  have bL2 : Boxed w2 w.heap.size 95 (.slice none 0 0) := (hb12.block _ (by omega)).trans bL1
  rw [hb0] at hs1 bL2
  rw [hs1] at bB2 bC2 hs2 ⊢
  clear hb1 hb12 bL1 hs1
  have hM0 : MsAt w b0 t q LM 0 w2 := ⟨⟨_, bL2, by rw [List.take_zero]; exact World.ownsRow_nil _ _ _ _⟩, bB2, bC2, hb2⟩
  clear bL2 bB2 bC2 hb2 h
  gi_wp2_with fail
  refine range_stops rfl (by omega) (gf := 105) (lb := #[.pointer (some ⟨b0 + 1, 0, none⟩), .pointer (some ⟨b0 + 1 + 1, 0, none⟩)]) rfl trivial (enters_of Tryz.func105 (by kernel_rfl) rfl)
    (fun x : Int => #[Value.int .u32 x]) (fun _ => rfl)
    (fun j x V => MsAt w b0 t q LM j V ∧ LM[j]? = some x)
    (fun j V => MsAt w b0 t q LM j V)
    (fun _ _ => False) (fun _ _ => True) LM.length
    (fun j x V l o o' h hl ho hc' => ⟨h.1.put HB0.out (by omega) ho hc' o', h.2⟩)
    (fun j V l o o' h hl ho hc' => h.put HB0.out (by omega) ho hc' o')
    (fun _ _ _ _ _ h _ _ _ => h)
    (fun _ _ _ _ _ => trivial) (fun _ _ _ _ _ _ _ => trivial)
    (fun o => ?_) ?a1 ?assign ?body ?iter ?done ?stop
  · obtain ⟨v, h1, h2⟩ := hM0.out
    exact ⟨⟨v, (h1.alloc _).alloc _, (h2.alloc _).alloc _⟩, (Below.heap_alloc _ _ _ (by simp; omega)).trans ((Below.heap_alloc _ _ _ (by omega)).trans hM0.row), (hM0.side.alloc _).alloc _, (hM0.below.alloc hM0.below.size _).alloc (by have := hM0.below.size; simp; omega) _⟩
  case assign =>
    intro l x V K hK
    gi_wp2
    exact hK
  case body =>
    rintro l j x V hl ⟨hM, hx⟩ hj
    obtain ⟨v, hO, hR⟩ := hM.out
    have hrow := hM.row
    have hside := hM.side
    have hbe := hM.below
    have kO := hO.cell
    have hszV := hO.lt
    have hbs := hbe.size
    have hlt : (LM.take j).length ≤ 64 := by rw [List.length_take]; omega
    have hnx : LM.take (j + 1) = LM.take j ++ [x] := by rw [List.take_add_one, hx]; rfl
    obtain ⟨L0, hL0⟩ : ∃ L0, LM.take j = L0 := ⟨_, rfl⟩
    rw [hL0] at hR hlt hnx
    have HNX := Lib.hid hnx
    clear hL0 hLlen
    have HN1 := Lib.hid (Nums.new .u32 V 22 [x] #[.int .u32 x] rfl)
    have HO := Lib.hid hO
    have HR := Lib.hid hR
    have HRow := Lib.hid hrow
    have HS := Lib.hid hside
    have HB := Lib.hid hbe
    clear hM hM0 hO hR hrow hside hbe hnx hb0 hx hLat
    gi_wp2_with (gi_at_builtin; refine wpListIn_append_any rfl (.tmp 13) (.tmp 15) 95 rfl w.heap.size 22 j0 (.int .u32 0) 4 Tryz.underlying95 hi hj0 hj1 hj2 rfl .u32 _ _ [x] v rfl (HR.out.alloc _) (some ⟨V.heap.size, 0, none⟩) 1 1 _ rfl rfl HN1.out ?c1 ?c2 ?c3 ?_)
    case c1 => unfold maxLen; omega
    case c2 => omega
    case c3 => rw [World.size_alloc]; omega
    intro v1 w4 hown1 hg1
    have hg2 := grown_of_alloc hg1
    obtain ⟨g1, cap1, rfl⟩ := ownsRow_succ hown1
    have hnr : some b0 ≠ v.ownBlock := HO.out.not_row (by decide) HR.out
    have bO4 : Boxed w4 b0 95 v := HO.out.kept hg2 hnr
    have kO4 := bO4.cell
    have fO4 := bO4.frozen
    have hnr4 : some b0 ≠ (Value.slice (some ⟨g1, 0, none⟩) (L0.length + 1) cap1).ownBlock := bO4.not_row (show (95 : Nat) ≠ 22 by decide) hown1
    have hrow4 : w4.heap[b0 + 1]? = some (.cells #[.int .u32 t, .int .u64 (q : Int)] 101 (0, 0)) := (hg2.block (b0 + 1) (Array.getElem?_eq_some_iff.1 HRow.out).1 (fun e => blk_not_row HRow.out (by decide) HR.out e.symm)).trans HRow.out
    have hside4 : Boxed w4 (b0 + 2) 4 (.bool false) := HS.out.kept hg2 (HS.out.not_row (by decide) HR.out)
    have hbe4 : Below w.heap.size w w4 := HB.out.grown hg2 hbs (fun g hg => (HR.out.lt g hg).1)
    have hko : KeepsOthers V w4 := KeepsOthers.of_grownBy hg2 fun j o ej hj => by
      rcases HR.out.2 with ⟨rfl, _⟩ | ⟨g, cap, cur, rfl, _, hgb, _⟩
      · simp [Value.ownBlock] at ej
      · obtain rfl : g = j := by simpa [Value.ownBlock] using ej
        rw [hgb] at hj; cases hj; rfl
    have HF : Hid (KeepsFrom w2.heap.size V (w4.setCell ⟨b0, 0, none⟩ (.slice (some ⟨g1, 0, none⟩) (L0.length + 1) cap1)) ∧ MsAt w b0 t q LM (j + 1) (w4.setCell ⟨b0, 0, none⟩ (.slice (some ⟨g1, 0, none⟩) (L0.length + 1) cap1))) := by
      refine ⟨(hko.trans (KeepsOthers.setCell _ _ _)).from _, ⟨_, bO4.set _, ?_⟩, ?_, hside4.other (by omega) _, hbe4.setCell (p := ⟨b0, 0, none⟩) (Nat.le_of_eq HB0.out) _⟩
      · rw [HNX.out, List.length_append, List.map_append]
        exact hown1.kept (grownBy_setCell' w4 b0 _) (.inr hnr4.symm)
      · exact (Below.heap_setCell w4 ⟨b0, 0, none⟩ _ (b0 + 1) (by simp)).trans hrow4
    clear hown1 hg1 hg2 hrow4 hside4 hbe4 hko hnr hnr4 bO4 HN1 HO HR HRow HS HB
    gi_wp2
    exact ⟨HF.out.1, HF.out.2, trivial⟩
  case iter =>
    intro Bk X l V hBk hBlt hX hlw hD hB hY
    refine (numbers_in 2 (by omega) 1 l (b0 + 1) (b0 + 1 + 1) t q false ht hq (fun k V => MsAt w b0 t q LM (Wn.cnt q false k) V ∧ Bk V) X ?_ ?_ ?_ ?_ V ⟨hD, hB⟩).mono ?_
    · rintro k W ⟨h1, _⟩
      have h2 := h1.row
      exact ⟨by simp [World.cell?, h2], by simp [World.cell?, h2], h1.side.cell⟩
    · rintro k W d ⟨h1, h2⟩
      exact ⟨h1.drewN d, hBk W _ h2 (Nat.le_refl _) (fun _ _ _ => rfl)⟩
    · rintro k W ⟨h1, h2⟩ hk hb
      rw [Wn.cnt_stay hb]
      exact ⟨h1, h2⟩
    · rintro k W ⟨h1, h2⟩ hk hb
      refine (hY _ _ W ⟨h1, hLat k hk hb⟩ h2 (by rw [hLlen]; have := Wn.cnt_mono q false (show k + 1 ≤ 64 by omega); rw [Wn.cnt_step hb] at this; omega)).mono ?_
      rw [Wn.cnt_step hb]
      rintro e V2 (⟨rfl, hd, _, _⟩ | ⟨rfl, hx, _⟩)
      · exact .inl ⟨rfl, hd⟩
      · exact .inr ⟨rfl, hx⟩
    · rw [hLlen]
      exact fun _ _ h => h
  case done =>
    rintro D V hD hM hK
    obtain ⟨v, hO, hR⟩ := hM.out
    rw [List.take_length] at hR
    have hbe := hM.below
    have kO := hO.cell
    have hbv := hbe.size
    have hwD : w.heap.size ≤ D := by omega
    have hDlt := (Array.getElem?_eq_some_iff.1 hK).1
    have HBE := Lib.hid hbe
    have HK := Lib.hid hK
    have HO := Lib.hid hO
    clear hM hM0 hLat hb0 hbe hK hO
    rcases Nat.eq_zero_or_pos LM.length with h0 | h0
    · have hL0 : LM = [] := List.eq_nil_of_length_eq_zero h0
      subst hL0
      obtain ⟨A, c, rfl, hc, _⟩ := own_len hR
      rw [List.length_nil] at *
      clear hR hL64 hLlen h0 hc
      gi_wp2_with fail
      refine ⟨trivial, ?_⟩
      refine (callsIn_wide.2 (reverse_none A c V)).mono ?_
      rintro e V1 ⟨⟨x, rfl⟩, hV⟩
      rw [hV]
      clear hV
      gi_wp2
      have hK := HK.out
      refine ⟨by simp, .inl ⟨_, _, rfl, run_takeDeferred hK, ?_⟩⟩
      refine ⟨_, results_tmp rfl _ _ _, A, c, rfl, Nat.zero_le _, Nums.nil, ?_⟩
      exact HBE.out.trans (below_put (B := w.heap.size) _ (.deferred none) hwD)
    · obtain ⟨A, c, rfl, hc, _⟩ := own_len hR
      obtain ⟨g, rfl, hg, _, hrow⟩ := RowU.of_own hR h0
      have K := reverse_any g c LM LM.length V rfl (by omega) hc hrow
      have hgb : ¬ b0 = g := fun e => by
        subst e
        obtain ⟨cs, hh, _⟩ := hrow.row
        have h1 : V.heap[b0]? = _ := HO.out
        rw [hh] at h1
        injection h1 with h1
        injection h1 with _ ht
        exact absurd ht (by decide)
      have hgD : ¬ D = g := fun e => by
        subst e
        obtain ⟨cs, hh, _⟩ := hrow.row
        rw [hh] at HK
        cases HK.out
      clear hR hrow
      obtain ⟨r, hr⟩ : ∃ r, LM.length = r := ⟨_, rfl⟩
      rw [hr] at K hc kO HO
      have HRL := Lib.hid hr
      clear hr hL64 hLlen h0
      gi_wp2_with fail
      refine ⟨trivial, ?_⟩
      refine (callsIn_wide.2 K).mono ?_
      rintro e V1 ⟨⟨x, rfl⟩, hrw⟩
      have hO1 : Boxed V1 b0 95 (.slice (some ⟨g, 0, none⟩) r c) := (hrw.off.block b0 HO.out.lt hgb).trans HO.out
      have kO1 := hO1.cell
      have hK1 := (hrw.off.block D hDlt hgD).trans HK.out
      have hb1 : Below w.heap.size w V1 := HBE.out.trans (hrw.off.below (fun k hk => by omega) hbv)
      have hnum := Lib.hid hrw.nums
      have HB1 := Lib.hid hb1
      clear hrw K hO1 hb1 kO
      gi_wp2
      refine ⟨by simp, .inl ⟨_, _, rfl, run_takeDeferred hK1, ?_⟩⟩
      refine ⟨_, results_tmp rfl _ _ _, some ⟨g, 0, none⟩, c, by rw [HRL.out]; rfl, by rw [HRL.out]; exact hc, ?_, ?_⟩
      · rw [show (V1.putObj D (.deferred none)).heap.size = V1.heap.size by simp [World.putObj]]
        exact hnum.out.putObj hK1 rfl _
      · exact HB1.out.trans (below_put (B := w.heap.size) _ (.deferred none) hwD)
  case stop =>
    rintro D cd W' _ h _
    exact h.elim
end Go.Proofs.YtfdbcfkjablnkaaGreat

namespace Go.Proofs.YtfdbcfkjablnkaaGreat
open Go.RowKit
set_option maxRecDepth 100000
theorem intInfo : (Tryz.prog.info? 3).map (fun i => (i.zero, i.size, i.bytes)) = some (some (.int .i64 0), 1, 8) := by kernel_rfl
end Go.Proofs.YtfdbcfkjablnkaaGreat

namespace Go.Proofs.YtfdbcfkjablnkaaGreat
open Go.RowKit
set_option maxRecDepth 100000
attribute [local go_sem] Oper.semAt_some

theorem sempty_any (v : Option Addr) (w : World) : Calls Tryz.prog 95 #[.pointer v] w fun e w' => e = .returned (.func (.func 106) #[] #[.pointer (some ⟨w.heap.size, 0, none⟩)]) ∧ w' = w.alloc (.cells #[.pointer v] 114) := by
  have hmf : ∀ W, (Instr.makeFunc (.func 106) #[] #[.pointer (some ⟨w.heap.size, 0, none⟩)]).run Tryz.prog W = .ok (.func (.func 106) #[] #[.pointer (some ⟨w.heap.size, 0, none⟩)]) W := fun W => by kernel_rfl
  go_enter Tryz.func95, Tryz.ntmps95
  go_wp2
  go_ret
  exact ⟨rfl, rfl⟩
theorem sempty_in (n : Nat) (hn : 1 ≤ n) (m' l Bs b m : Nat) (v k s c : Int) (E : List Pl) (q : Nat) (hq : c = (q : Int)) (hq2 : q ≤ 255) (J : Nat → World → Prop) (Jx : World → Prop)
    (hJ : ∀ j W, J j W → W.cell? ⟨Bs, 0, none⟩ = some (.pointer (some ⟨b, 0, none⟩)) ∧ SlotAt W b m v k s c E)
    (hs : ∀ j W, J j W → j < q → Sl.has (E.map Pl.ct) j = true → J (j + 1) W)
    (hY : ∀ (j : Nat) (W : World), J j W → j < q → Sl.has (E.map Pl.ct) j = false →
      YieldAt Fence.wide m' Tryz.prog l #[.int .i64 (j : Int)] W fun e W' => (e = .returned (.bool true) ∧ J (j + 1) W') ∨ (e = .returned (.bool false) ∧ Jx W'))
    (W : World) (h0 : J 0 W) :
    CallsIn Fence.wide n Tryz.prog 106 #[.func (.yield l) #[] #[], .pointer (some ⟨Bs, 0, none⟩)] W fun e W' => (∃ v, e = .returned v) ∧ (J q W' ∨ Jx W') := by
  subst hq
  obtain ⟨c0, hsl⟩ := hJ 0 W h0
  obtain ⟨d0, d1, d2, d3, d4, d5⟩ := hsl.cells
  clear hsl
  refine callsIn_of_wp Tryz.func106 rfl trivial ?_ rfl
  simp only [Tryz.ntmps106, List.size_toArray, List.length_cons, List.length_nil, Nat.reduceAdd, Nat.reduceSub, Array.replicate_succ, Array.replicate_zero, List.push_toArray, List.append_toArray, List.nil_append, List.cons_append]
  gi_wp2
  refine wpIn_wide.2 (wp_scope_straight ((wpIn_wide (n := n)).1 ?_))
  gi_wp2
  apply wpIn_label
  gi_wp2
  gi_loopw [11] (fun x wr => ∃ j : Nat, j ≤ q ∧ x = .int .i64 (j : Int) ∧ J j wr) (fun x _ => q - (intOf x).toNat)
  case atStart => exact ⟨0, by omega, rfl, h0⟩
  case round =>
    obtain ⟨j, hj, rfl, hJj⟩ := hrel
    rcases Nat.lt_or_ge j q with h4 | h4
    · have hlt : (j : Int) < (q : Int) := by omega
      obtain ⟨c0, hsl⟩ := hJ j wr hJj
      have K := shas_any hsl j (by omega)
      have hhas := Pl.has_ct E j
      rw [← hhas] at K
      have HJ := Lib.hid hJj
      clear hsl hhas hJj
      cases hb : Sl.has (E.map Pl.ct) j with
      | true =>
        rw [hb] at K
        have HN := Lib.hid (hs j wr HJ.out h4 hb)
        clear hb
        gi_wp2_with fail
        refine ⟨trivial, ?_⟩
        refine (callsIn_wide.2 K).mono ?_
        rintro e w1 ⟨rfl, rfl⟩
        gi_wp2
        go_roundw
        case rel => exact ⟨j + 1, by omega, by go_num, HN.out⟩
        case measure => simp [intOf]; omega
      | false =>
        rw [hb] at K
        have HYr := Lib.hid (hY j wr HJ.out h4 hb)
        obtain ⟨fn, tmps, assign, body, hy, hR⟩ := yield_any (n - 1) HYr.out
        have HR := Lib.hid hR
        clear hR HYr hb
        gi_wp2_with fail
        refine ⟨trivial, ?_⟩
        refine (callsIn_wide.2 K).mono ?_
        rintro e w1 ⟨rfl, hw1⟩
        rw [hw1]
        clear K hw1
        gi_wp2_with fail
        refine HR.out.mono ?_
        rintro e W3 (⟨rfl, hJ3⟩ | ⟨rfl, hJx3⟩)
        · gi_wp2
          go_roundw
          case rel => exact ⟨j + 1, by omega, by go_num, hJ3⟩
          case measure => simp [intOf]; omega
        · gi_wp2
          first | go_end0 | (rw [Exit.noGoto_normal]; go_end0) | (refine bodyPost_ret (results_none rfl _ _ _) rfl ?_)
          exact ⟨⟨_, rfl⟩, .inr hJx3⟩
    · have hk4 : j = q := by omega
      subst hk4
      gi_wp2
      first | go_end0 | (rw [Exit.noGoto_normal]; go_end0)
      exact ⟨⟨_, rfl⟩, .inl hJj⟩

theorem values_any (A : Option Addr) (n cp : Nat) (w : World) : Calls Tryz.prog 96 #[.slice A n cp] w fun e w' => e = .returned (.func (.func 107) #[] #[.pointer (some ⟨w.heap.size, 0, none⟩)]) ∧ w' = w.alloc (.cells #[.slice A n cp] 159) := by
  have hmf : ∀ W, (Instr.makeFunc (.func 107) #[] #[.pointer (some ⟨w.heap.size, 0, none⟩)]).run Tryz.prog W = .ok (.func (.func 107) #[] #[.pointer (some ⟨w.heap.size, 0, none⟩)]) W := fun W => by kernel_rfl
  go_enter Tryz.func96, Tryz.ntmps96
  go_wp2
  go_ret
  exact ⟨rfl, rfl⟩
theorem values_not_nil (b : Nat) (w : World) : (binOp .eql 140 (.func (.func 107) #[] #[.pointer (some ⟨b, 0, none⟩)]) .nilFunc).run Tryz.prog w = .ok (.bool false) w := by kernel_rfl
theorem values_in (n : Nat) (hn : 1 ≤ n) (m' l Bs : Nat) (A : Option Addr) (q cp : Nat) (zs : List Int) (hq : zs.length = q) (hq2 : q ≤ 1000000) (J : Nat → World → Prop) (Jx : World → Prop)
    (hJ : ∀ j W, J j W → ∃ B, Nums .i64 W B A zs)
    (hY : ∀ (j : Nat) (x : Int) (W : World), J j W → zs[j]? = some x →
      YieldAt Fence.wide m' Tryz.prog l #[.int .i64 x] W fun e W' => (e = .returned (.bool true) ∧ J (j + 1) W') ∨ (e = .returned (.bool false) ∧ Jx W'))
    (W : World) (hBs : W.cell? ⟨Bs, 0, none⟩ = some (.slice A q cp)) (h0 : J 0 W) :
    CallsIn Fence.wide n Tryz.prog 107 #[.func (.yield l) #[] #[], .pointer (some ⟨Bs, 0, none⟩)] W fun e W' => (∃ v, e = .returned v) ∧ (J q W' ∨ Jx W') := by
  have HQ := Lib.hid hq
  clear hq
  refine callsIn_of_wp Tryz.func107 rfl trivial ?_ rfl
  simp only [Tryz.ntmps107, List.size_toArray, List.length_cons, List.length_nil, Nat.reduceAdd, Nat.reduceSub, Array.replicate_succ, Array.replicate_zero, List.push_toArray, List.append_toArray, List.nil_append, List.cons_append]
  gi_wp2
  gi_loopw [7] (fun x wr => ∃ j : Nat, j ≤ q ∧ x = .int .i64 (j : Int) ∧ J j wr) (fun x _ => q - (intOf x).toNat)
  case atStart => exact ⟨0, by omega, rfl, h0⟩
  case round =>
    obtain ⟨j, hj, rfl, hJj⟩ := hrel
    rcases Nat.lt_or_ge j q with h4 | h4
    · have hlt : (j : Int) < (q : Int) := by omega
      obtain ⟨B, hB⟩ := hJ j wr hJj
      obtain ⟨x, hx⟩ : ∃ x, zs[j]? = some x := ⟨_, List.getElem?_eq_getElem (by rw [HQ.out]; exact h4)⟩
      obtain ⟨g, o, rfl, _, hc⟩ := hB.open hx
      have HYr := Lib.hid (hY j x wr hJj hx)
      obtain ⟨fn, tmps, assign, body, hy, hR⟩ := yield_any (n - 1) HYr.out
      have HR := Lib.hid hR
      clear hR HYr hB hx hJj
      gi_wp2_with fail
      refine HR.out.mono ?_
      rintro e W3 (⟨rfl, hJ3⟩ | ⟨rfl, hJx3⟩)
      · gi_wp2
        go_roundw
        case rel => exact ⟨j + 1, by omega, by go_num, hJ3⟩
        case measure => simp [intOf]; omega
      · gi_wp2
        first | go_end0 | (rw [Exit.noGoto_normal]; go_end0) | (refine bodyPost_ret (results_none rfl _ _ _) rfl ?_)
        exact ⟨⟨_, rfl⟩, .inr hJx3⟩
    · have hk4 : j = q := by omega
      subst hk4
      gi_wp2
      first | go_end0 | (rw [Exit.noGoto_normal]; go_end0)
      exact ⟨⟨_, rfl⟩, .inl hJj⟩
end Go.Proofs.YtfdbcfkjablnkaaGreat

namespace Go.Proofs.YtfdbcfkjablnkaaGreat
open Go.RowKit
set_option maxRecDepth 100000
attribute [local go_sem] Oper.semAt_some

/-- a slot of a table: where it lies, what it has -/
structure Sx where
  b : Nat
  m : Nat
  v : Int
  k : Int
  s : Int
  c : Int
  E : List Pl
def Sx.ms (x : Sx) : Tb.Ms := ⟨x.v, x.k, x.s, x.c, x.E.map Pl.ct⟩
def Sx.key (x : Sx) : Int × Nat := (x.s, x.b)
def Sx.At (w : World) (x : Sx) : Prop := SlotAt w x.b x.m x.v x.k x.s x.c x.E
/-- block b is a table: its numbers lie at A, its map in block m; what it may turn lies in S -/
structure TblAt (w : World) (S : Nat → Prop) (b r m : Nat) (A : Option Addr) (n cp : Nat) (X : List Sx) : Prop where
  row : w.heap[b]? = some (.cells #[.int .i64 (r : Int), .slice A n cp, .map (some m)] 97 (0, 0))
  len : X.length = n
  ord : w.ownsRow 0 22 1 (.slice A n cp) n ((X.map Sx.s).map (Value.int .u32))
  map : TMapAt w m (X.map Sx.key)
  slots : ∀ x ∈ X, x.At w
  maps : (m :: X.map Sx.m).Nodup
  room : 1 ≤ r ∧ r ≤ 16
  few : n ≤ r
  inS : S b ∧ S m ∧ (∀ g, (Value.slice A n cp).ownBlock = some g → S g) ∧ ∀ x ∈ X, S x.m
/-- what a table's calls may turn: blocks of S that are no slot and no payload -/
def TOwn (S : Nat → Prop) (w : World) (q : Nat) : Prop := S q ∧ (∀ cs, w.heap[q]? ≠ some (.cells cs 5 (0, 0))) ∧ ∀ cs, w.heap[q]? ≠ some (.cells cs 147 (0, 0))
def TOff (S : Nat → Prop) (w w' : World) : Prop := Off (TOwn S w) w w'
section
variable {S S' : Nat → Prop} {w w' w1 w2 : World}
theorem TOff.refl (S : Nat → Prop) (w : World) : TOff S w w := Off.refl _ _
theorem TOff.of_below (h : Below w.heap.size w w') : TOff S w w' := Off.of_below h
theorem TOff.trans (h : TOff S w w1) (k : TOff S' w1 w2) (hS : ∀ q, q < w.heap.size → S' q → S q) : TOff S w w2 :=
  Off.trans h k fun q hq ⟨h1, h2, h3⟩ => by
    have key : ∀ t : TypeId, (∀ cs, w1.heap[q]? ≠ some (.cells cs t (0, 0))) → (t = 5 ∨ t = 147) → ∀ cs, w.heap[q]? ≠ some (.cells cs t (0, 0)) := fun t ht hor cs hc => by
      have hn : ¬ TOwn S w q := fun ⟨_, o1, o2⟩ => by
        rcases hor with rfl | rfl
        · exact o1 cs hc
        · exact o2 cs hc
      exact ht cs ((Off.block h q hq hn).trans hc)
    exact ⟨hS q hq h1, key _ h2 (.inl rfl), key _ h3 (.inr rfl)⟩
theorem TOff.mono (h : TOff S w w') (hS : ∀ q, q < w.heap.size → S q → S' q) : TOff S' w w' := Off.mono h fun q hq ⟨h1, h2, h3⟩ => ⟨hS q hq h1, h2, h3⟩
theorem TOff.below {B : Nat} (h : TOff S w w') (hS : ∀ q, S q → B ≤ q) (hB : B ≤ w.heap.size) : Below B w w' := Off.below h (fun q hq => hS q hq.1) hB
theorem TOff.size (h : TOff S w w') : w.heap.size ≤ w'.heap.size := Off.size h
/-- one block that is turned -/
theorem TOff.one {q : Nat} (h : Off (fun p => p = q) w w') (hq : S q) (h1 : ∀ cs, w.heap[q]? ≠ some (.cells cs 5 (0, 0))) (h2 : ∀ cs, w.heap[q]? ≠ some (.cells cs 147 (0, 0))) : TOff S w w' :=
  Off.mono h fun p _ e => by subst e; exact ⟨hq, h1, h2⟩
theorem tord_off {T : Nat → Prop} {base size n : Nat} {e : TypeId} {v : Value} {xs : List Value} (h : w.ownsRow base e size v n xs) (hf : Off T w w') (hn : ∀ g, v.ownBlock = some g → ¬ T g) : w'.ownsRow base e size v n xs := by
  obtain ⟨h1, h2⟩ := h
  refine ⟨h1, ?_⟩
  rcases h2 with h2 | ⟨g, cap, cur, rfl, hg, hh, rest⟩
  · exact .inl h2
  · exact .inr ⟨g, cap, cur, rfl, hg, (hf.block g (Array.getElem?_eq_some_iff.1 hh).1 (hn g rfl)).trans hh, rest⟩
theorem tord_row {base n cp g : Nat} {A : Option Addr} {xs : List Value} {e : TypeId} (h : w.ownsRow base e 1 (.slice A n cp) n xs) (hg : (Value.slice A n cp).ownBlock = some g) : ∃ cs, w.heap[g]? = some (.cells cs e (0, 0)) := by
  rcases h.2 with ⟨h0, _⟩ | ⟨g', cap, cur, hv, _, hh, _⟩
  · rw [h0] at hg; cases hg
  · rw [hv] at hg
    have : g' = g := by simpa [Value.ownBlock] using hg
    exact ⟨cur, by rw [← this]; exact hh⟩
theorem Sx.At.off {T : Nat → Prop} {x : Sx} (h : x.At w) (hf : Off T w w') (h1 : ∀ cs, w.heap[x.b]? = some (.cells cs 147 (0, 0)) → ¬ T x.b) (hm : ¬ T x.m) (hS : ∀ g cs, w.heap[g]? = some (.cells cs 5 (0, 0)) → ¬ T g) : x.At w' := SlotAt.off h hf (h1 _ (SlotAt.row h)) hm hS
theorem Sx.At.toff {x : Sx} (h : x.At w) (hf : TOff S w w') (hm : ¬ S x.m) : x.At w' :=
  h.off hf (fun cs hc ho => ho.2.2 cs hc) (fun ho => hm ho.1) (fun _g cs hc ho => ho.2.1 cs hc)
theorem Sx.At.below {x : Sx} (h : x.At w) (hb : Below w.heap.size w w') : x.At w' := SlotAt.below h hb
end
section
variable {w w' : World} {S S' : Nat → Prop} {b r m n cp : Nat} {A : Option Addr} {X : List Sx}
theorem TblAt.lt (h : TblAt w S b r m A n cp X) : b < w.heap.size := (Array.getElem?_eq_some_iff.1 h.row).1
theorem TblAt.cells (h : TblAt w S b r m A n cp X) : w.cell? ⟨b, 0, none⟩ = some (.int .i64 (r : Int)) ∧ w.cell? ⟨b, 1, none⟩ = some (.slice A n cp) ∧ w.cell? ⟨b, 2, none⟩ = some (.map (some m)) := by
  have := h.row
  refine ⟨?_, ?_, ?_⟩ <;> simp [World.cell?, this]
theorem TblAt.thaw (h : TblAt w S b r m A n cp X) (j : Nat) : w.frozen? ⟨b, j, none⟩ = false := by simp [World.frozen?, h.row]
theorem TblAt.mono (h : TblAt w S b r m A n cp X) (hS : ∀ q, S q → S' q) : TblAt w S' b r m A n cp X :=
  ⟨h.row, h.len, h.ord, h.map, h.slots, h.maps, h.room, h.few, hS _ h.inS.1, hS _ h.inS.2.1, fun g hg => hS _ (h.inS.2.2.1 g hg), fun x hx => hS _ (h.inS.2.2.2 x hx)⟩
theorem TblAt.off {T : Nat → Prop} (h : TblAt w S b r m A n cp X) (hf : Off T w w') (hd : ∀ q, S q → ¬ T q) (h1 : ∀ x ∈ X, ∀ cs, w.heap[x.b]? = some (.cells cs 147 (0, 0)) → ¬ T x.b) (hS : ∀ g cs, w.heap[g]? = some (.cells cs 5 (0, 0)) → ¬ T g) : TblAt w' S b r m A n cp X :=
  ⟨(hf.block b h.lt (hd b h.inS.1)).trans h.row, h.len, tord_off h.ord hf fun g hg => hd g (h.inS.2.2.1 g hg), h.map.off hf (hd m h.inS.2.1), fun x hx => (h.slots x hx).off hf (h1 x hx) (hd _ (h.inS.2.2.2 x hx)) hS, h.maps, h.room, h.few, h.inS⟩
theorem TblAt.toff (h : TblAt w S b r m A n cp X) (hf : TOff S' w w') (hd : ∀ q, S q → ¬ S' q) : TblAt w' S b r m A n cp X :=
  h.off hf (fun q hq ho => hd q hq ho.1) (fun _x _ cs hc ho => ho.2.2 cs hc) (fun _g cs hc ho => ho.2.1 cs hc)
theorem TblAt.below (h : TblAt w S b r m A n cp X) (hb : Below w.heap.size w w') : TblAt w' S b r m A n cp X :=
  h.off (Off.of_below (S := fun _ => False) hb) (fun _ _ h => h) (fun _ _ _ _ h => h) (fun _ _ _ h => h)
theorem TblAt.keys (h : TblAt w S b r m A n cp X) : (X.map Sx.s).Nodup ∧ ∀ x ∈ X, 0 ≤ x.s ∧ x.s ≤ 4294967295 := by
  have h1 := h.map.keys
  refine ⟨by have := h1.1; rw [List.map_map] at this; exact this, fun x hx => h1.2 _ (List.mem_map.2 ⟨x, hx, rfl⟩)⟩
theorem TblAt.nums (h : TblAt w S b r m A n cp X) : Nums .u32 w w.heap.size A (X.map Sx.s) := by
  have hl : (X.map Sx.s).length = n := by rw [List.length_map]; exact h.len
  have := h.ord
  rw [← hl] at this
  exact Nums.of_own this
theorem TblAt.room_ge (h : TblAt w S b r m A n cp X) : n ≤ cp := by
  rcases h.ord.2 with ⟨h0, h1⟩ | ⟨g, cap, cur, hv, _, _, hn, _⟩
  · omega
  · injection hv with _ _ hv
    omega
theorem nums_ms (X : List Sx) : Tb.nums (X.map Sx.ms) = X.map Sx.s := by
  unfold Tb.nums
  rw [List.map_map]
  rfl
theorem TblAt.find (h : TblAt w S b r m A n cp X) {x : Sx} (hx : x ∈ X) : Tb.find (X.map Sx.ms) x.s = some x.ms :=
  Tb.find_of (x := x.ms) (by rw [nums_ms]; exact h.keys.1) (List.mem_map.2 ⟨x, hx, rfl⟩)
theorem find_none_ms {n : Int} : Tb.find (X.map Sx.ms) n = none ↔ ∀ x ∈ X, x.s ≠ n := by
  rw [Tb.find_none]
  exact ⟨fun h x hx => h x.ms (List.mem_map.2 ⟨x, hx, rfl⟩), fun h y hy => by obtain ⟨x, hx, rfl⟩ := List.mem_map.1 hy; exact h x hx⟩
theorem te_of (h : TblAt w S b r m A n cp X) {x : Sx} (hx : x ∈ X) : teAt (X.map Sx.key) x.s = some x.b :=
  teAt_of h.map.keys.1 (List.mem_map.2 ⟨x, hx, rfl⟩)
theorem te_none {n : Int} (h : ∀ x ∈ X, x.s ≠ n) : teAt (X.map Sx.key) n = none := teAt_none.2 fun p hp => by
  obtain ⟨x, hx, rfl⟩ := List.mem_map.1 hp
  exact h x hx
theorem slot_zero (w : World) : (zeroValue 114).run Tryz.prog w = .ok (.pointer none) w := by kernel_rfl
theorem TblAt.look (h : TblAt w S b r m A n cp X) (c : Bool) {z : Int} (hz : 0 ≤ z ∧ z ≤ 4294967295) :
    (Instr.lookup 94 (.map (some m)) (.int .u32 z) c).run Tryz.prog w = .ok (teVal (teAt (X.map Sx.key) z) c) w :=
  h.map.run_look c Tryz.underlying94 Tryz.underlying22 (slot_zero w) hz

theorem tlen_any (h : TblAt w S b r m A n cp X) : Calls Tryz.prog 66 #[.pointer (some ⟨b, 0, none⟩)] w fun e w' => e = .returned (.int .i64 (n : Int)) ∧ w' = w := by
  obtain ⟨c0, c1, c2⟩ := h.cells
  clear h
  go_enter Tryz.func66, Tryz.ntmps66
  go_wp2
  go_ret
  exact ⟨rfl, rfl⟩
theorem troom_any (h : TblAt w S b r m A n cp X) : Calls Tryz.prog 67 #[.pointer (some ⟨b, 0, none⟩)] w fun e w' => e = .returned (.int .i64 (r : Int)) ∧ w' = w := by
  obtain ⟨c0, c1, c2⟩ := h.cells
  clear h
  go_enter Tryz.func67, Tryz.ntmps67
  go_wp2
  go_ret
  exact ⟨rfl, rfl⟩
/-- what New answers -/
def TNewR (w : World) (z : Int) (e : Ending) (w' : World) : Prop :=
  (¬ (1 ≤ z ∧ z ≤ 16) ∧ e = .returned (.tuple #[.pointer none, .int .i64 5]) ∧ w' = w) ∨
  (∃ r : Nat, z = (r : Int) ∧ ∃ b m, e = .returned (.tuple #[.pointer (some ⟨b, 0, none⟩), .int .i64 0]) ∧ TblAt w' (fun q => w.heap.size ≤ q) b r m none 0 0 [] ∧ Below w.heap.size w w')
theorem tnew_any (z : Int) (w : World) : Calls Tryz.prog 18 #[.int .i64 z] w (TNewR w z) := by
  have hmm := @run_makeMap Tryz.prog
  by_cases h1 : 1 ≤ z
  · by_cases h2 : z ≤ 16
    · obtain ⟨r, rfl⟩ := Int.eq_ofNat_of_zero_le (a := z) (by omega)
      have hfin : TNewR w (r : Int) (.returned (.tuple #[.pointer (some ⟨w.heap.size + 1, 0, none⟩), .int .i64 0])) ((w.alloc (.map #[] 0)).alloc (.cells #[.int .i64 (r : Int), .slice none 0 0, .map (some w.heap.size)] 97)) := by
        have hr := World.alloc_heap_new (w.alloc (.map #[] 0)) (Obj.cells #[.int .i64 (r : Int), .slice none 0 0, .map (some w.heap.size)] 97)
        rw [World.size_alloc] at hr
        have hm := (TMapAt.new w).below ((Below.refl _ _).alloc (Nat.le_refl _) (Obj.cells #[.int .i64 (r : Int), .slice none 0 0, .map (some w.heap.size)] 97))
        refine .inr ⟨r, rfl, w.heap.size + 1, w.heap.size, rfl, ⟨hr, rfl, World.ownsRow_nil _ _ _ _, hm, fun x hx => (by cases hx), by simp, by omega, by omega, by show w.heap.size ≤ w.heap.size + 1; omega, Nat.le_refl _, fun g hg => by simp [Value.ownBlock] at hg, fun x hx => (by cases hx)⟩, ((Below.refl _ w).alloc (Nat.le_refl _) _).alloc (by simp) _⟩
      have HFIN := Lib.hid hfin
      clear hfin
      generalize TNewR w (r : Int) = G at *
      go_enter Tryz.func18, Tryz.ntmps18
      go_wp2
      exact HFIN.out
    · go_enter Tryz.func18, Tryz.ntmps18
      go_wp2
      go_ret2
      exact .inl ⟨by omega, rfl, rfl⟩
  · go_enter Tryz.func18, Tryz.ntmps18
    go_wp2
    go_ret2
    exact .inl ⟨by omega, rfl, rfl⟩
theorem teach_any (v : Option Addr) (w : World) : Calls Tryz.prog 84 #[.pointer v] w fun e w' => e = .returned (.func (.func 104) #[] #[.pointer (some ⟨w.heap.size, 0, none⟩)]) ∧ w' = w.alloc (.cells #[.pointer v] 66) := by
  have hmf : ∀ W, (Instr.makeFunc (.func 104) #[] #[.pointer (some ⟨w.heap.size, 0, none⟩)]).run Tryz.prog W = .ok (.func (.func 104) #[] #[.pointer (some ⟨w.heap.size, 0, none⟩)]) W := fun W => by kernel_rfl
  go_enter Tryz.func84, Tryz.ntmps84
  go_wp2
  go_ret
  exact ⟨rfl, rfl⟩
theorem teach_in (n : Nat) (hn : 1 ≤ n) (m' l Bs b r m : Nat) (A : Option Addr) (q cp : Nat) (X : List Sx) (J : Nat → World → Prop) (Jx : World → Prop)
    (hJ : ∀ j W, J j W → W.cell? ⟨Bs, 0, none⟩ = some (.pointer (some ⟨b, 0, none⟩)) ∧ ∃ S, TblAt W S b r m A q cp X)
    (hY : ∀ (j : Nat) (x : Sx) (W : World), J j W → X[j]? = some x →
      YieldAt Fence.wide m' Tryz.prog l #[.int .u32 x.s, .pointer (some ⟨x.b, 0, none⟩)] W fun e W' => (e = .returned (.bool true) ∧ J (j + 1) W') ∨ (e = .returned (.bool false) ∧ Jx W'))
    (W : World) (h0 : J 0 W) :
    CallsIn Fence.wide n Tryz.prog 104 #[.func (.yield l) #[] #[], .pointer (some ⟨Bs, 0, none⟩)] W fun e W' => (∃ v, e = .returned v) ∧ (J q W' ∨ Jx W') := by
  obtain ⟨c0, S, hT⟩ := hJ 0 W h0
  obtain ⟨d0, d1, d2⟩ := hT.cells
  have hql := hT.len
  have hq16 : q ≤ 16 := by have := hT.few; have := hT.room; omega
  clear hT
  have HQ := Lib.hid hql
  clear hql
  refine callsIn_of_wp Tryz.func104 rfl trivial ?_ rfl
  simp only [Tryz.ntmps104, List.size_toArray, List.length_cons, List.length_nil, Nat.reduceAdd, Nat.reduceSub, Array.replicate_succ, Array.replicate_zero, List.push_toArray, List.append_toArray, List.nil_append, List.cons_append]
  gi_wp2
  gi_loopw [12] (fun x wr => ∃ j : Nat, j ≤ q ∧ x = .int .i64 (j : Int) ∧ J j wr) (fun x _ => q - (intOf x).toNat)
  case atStart => exact ⟨0, by omega, rfl, h0⟩
  case round =>
    obtain ⟨j, hj, rfl, hJj⟩ := hrel
    rcases Nat.lt_or_ge j q with h4 | h4
    · have hlt : (j : Int) < (q : Int) := by omega
      obtain ⟨e0, S', hT⟩ := hJ j wr hJj
      obtain ⟨_, e1, e2⟩ := hT.cells
      obtain ⟨x, hx⟩ : ∃ x, X[j]? = some x := ⟨_, List.getElem?_eq_getElem (by rw [HQ.out]; exact h4)⟩
      have hxm : x ∈ X := List.mem_of_getElem? hx
      have hw := hT.keys.2 x hxm
      have hlook := hT.look false hw
      rw [te_of hT hxm] at hlook
      simp only [teVal] at hlook
      obtain ⟨g, o, rfl, _, hc⟩ := hT.nums.open (j := j) (c := x.s) (by rw [List.getElem?_map, hx]; rfl)
      have HYr := Lib.hid (hY j x wr hJj hx)
      obtain ⟨fn, tmps, assign, body, hy, hR⟩ := yield_any (n - 1) HYr.out
      have HR := Lib.hid hR
      clear hR HYr hx hJj hT hxm
      gi_wp2_with fail
      refine HR.out.mono ?_
      rintro e W3 (⟨rfl, hJ3⟩ | ⟨rfl, hJx3⟩)
      · gi_wp2
        go_roundw
        case rel => exact ⟨j + 1, by omega, by go_num, hJ3⟩
        case measure => simp [intOf]; omega
      · gi_wp2
        first | go_end0 | (rw [Exit.noGoto_normal]; go_end0) | (refine bodyPost_ret (results_none rfl _ _ _) rfl ?_)
        exact ⟨⟨_, rfl⟩, .inr hJx3⟩
    · have hk4 : j = q := by omega
      subst hk4
      gi_wp2
      first | go_end0 | (rw [Exit.noGoto_normal]; go_end0)
      exact ⟨⟨_, rfl⟩, .inl hJj⟩
end
end Go.Proofs.YtfdbcfkjablnkaaGreat

namespace Go.Proofs.YtfdbcfkjablnkaaGreat
open Go.RowKit
section
variable {P : Program} {ops : Array Oper} {Q : Exit → Act → World → Prop} {md : Region.Mode}
/-- Orders.lean's, with no way out by what an operation asks for -/
def wpOpS (P : Program) (ops : Array Oper) (Q : Exit → Act → World → Prop) (i : Nat) (K : Act → World → Prop) (a : Act) (w : World) : Prop :=
  match ops[i]? with
  | none => K a w
  | some o => if Region.wanted o (yielded ops a.tmps) then o.wp P a w K Q else K (a.put o.dst undef) w
def wpAnyS (P : Program) (md : Region.Mode) (ops : Array Oper) (Q : Exit → Act → World → Prop) : Nat → Array Bool → Act → World → Prop
  | 0, listed, a, w => Region.ready md ops listed = [] ∧ Q .normal a w
  | fuel + 1, listed, a, w =>
    (Region.ready md ops listed = [] → Q .normal a w) ∧
    ∀ i ∈ Region.ready md ops listed, wpOpS P ops Q i (wpAnyS P md ops Q fuel (listed.setIfInBounds i true)) a w
theorem oper_in {lr n : Nat} {o : Oper} {a : Act} {w : World} {K K' : Act → World → Prop} (hd : ∀ c, o.op ≠ .defer c) (hK : ∀ a w, K a w → K' a w) (h : o.wp P a w K Q) : o.wpIn (Fence.wide.inRound lr) n P a w K' Q := by
  refine ⟨fun _ _ => trivial, ?_⟩
  rw [Fence.inRound_round, Oper.semAt_some lr a.eval o hd]
  unfold Oper.wp at h
  generalize (execOp a.eval o).run P w = r at h
  cases r with
  | ok x w' =>
    cases x <;> simp only [Oper.upon, Oper.uponIn] at h ⊢
    case value v => exact hK _ _ h
    case skip => exact hK _ _ h
    case defer d => exact hK _ _ h
    case enter f args =>
      refine ⟨fun hh => by simp [Fence.wide] at hh, CallsIn.inRound lr (callsIn_wide.2 h |>.mono fun e w'' he => ?_)⟩
      cases e <;> first | exact hK _ _ he | exact he
    case row row args => exact ⟨fun hh => by simp [Fence.wide] at hh, fun c cs _ => let ⟨v, w3, r, s⟩ := h c cs; ⟨v, w3, hK _ _ r, stepsIn_wide.2 s⟩⟩
  | halt x w' => cases x <;> simp only [Oper.upon, Oper.uponIn] at h ⊢ <;> exact h
theorem wpAnyIn_of_S {lr n : Nat} (hd : ∀ (j : Nat) o, ops[j]? = some o → ∀ c, o.op ≠ .defer c) : ∀ (fuel : Nat) (listed : Array Bool) (a : Act) (w : World), wpAnyS P md ops Q fuel listed a w → wpAnyIn (Fence.wide.inRound lr) n P md ops Q fuel listed a w
  | 0, _, _, _, h => h
  | fuel + 1, listed, a, w, h => by
    refine ⟨h.1, fun i hi => ?_⟩
    have h1 := h.2 i hi
    unfold wpOpS at h1
    unfold wpOpIn
    cases ho : ops[i]? with
    | none => rw [ho] at h1; exact wpAnyIn_of_S hd fuel _ _ _ h1
    | some o =>
      rw [ho] at h1
      simp only at h1 ⊢
      split
      · rename_i hw
        rw [if_pos hw] at h1
        exact oper_in (hd i o ho) (fun a w hk => wpAnyIn_of_S hd fuel _ a w hk) h1
      · rename_i hw
        rw [if_neg hw] at h1
        exact ⟨fun _ _ => trivial, wpAnyIn_of_S hd fuel _ _ _ h1⟩
end
section
variable {P : Program} {l : List Oper} {vs : List Value} {fs : List Tmp} {FS : Tmp → Value → World → Prop} {I : World → Prop} {a0 : Act}
/-- one operation of such a run -/
theorem op_of_S {N : Nat} {Q' : Exit → Act → World → Prop} {K : Act → World → Prop} (hR : RG .any l.toArray N) (hN : N ≤ a0.tmps.size) (hlen : vs.length = l.length) {listed : Array Bool} {b : Act} {w : World} {i : Nat} {o : Oper} {v : Value}
    (h : Inv l vs fs FS I a0 listed b w) (ho2 : l[i]? = some o) (hun : listed.getD i true = false) (hp : ∀ e ∈ o.after, Region.binds .any e = true → listed.getD e.on true = true) (hv : vs[i]? = some v) (hob : Ob P l.toArray I fs FS o v (lex l vs a0 i))
    (hK : ∀ u w', Below w.heap.size w w' → (∀ d, o.dst = some d → (d ∈ fs → FS d u w') ∧ (d ∉ fs → vs[i]? = some u)) → K (b.put o.dst u) w') : wpOpS P l.toArray Q' i K b w := by
  have ho : l.toArray[i]? = some o := by simpa using ho2
  have hsel : ∀ cs c, o.op ≠ .select cs c := fun cs c => hR.sel i o cs c ho
  have ag : ∀ d ∈ o.looksAt l.toArray, d ∉ fs → (lex l vs a0 i).tmps[d]? = b.tmps[d]? := fun d hd hf => h.agree hR hN hlen ho2 hun hp hd hf
  unfold wpOpS
  simp only [ho]
  rcases hob with ⟨h1, h2, hcalm⟩ | ⟨s, hs, hds, h1, hwt, hsrc⟩ | ⟨s, hs, ⟨j, hj, hje⟩, h1, h2, huse⟩ | ⟨s, R, hs, hds, hRs, h1, hmix⟩
  · have he := exec_agree (ops := l.toArray) hsel fun d hd => ag d hd (h1 d hd)
    have hw := wanted_agree (ops := l.toArray) fun d hd => ag d hd (h1 d hd)
    have kv : ∀ w', Below w.heap.size w w' → K (b.put o.dst v) w' := fun w' hb => hK v w' hb fun d hd => ⟨fun hf => absurd hf (h2 d hd), fun _ => hv⟩
    rcases hcalm with ⟨hwt, hval⟩ | ⟨hwf, rfl⟩
    · rw [hw] at hwt
      rw [if_pos hwt]
      have h3 := hval w h.cls
      rw [he] at h3
      unfold Oper.wp
      generalize (execOp b.eval o).run P w = r at h3
      cases r with
      | ok n w' =>
        cases n <;> simp only [calmUpon] at h3 <;> simp only [Oper.upon]
        case value u => obtain ⟨rfl, rfl⟩ := h3; exact kv _ (Below.refl _ _)
        case skip => obtain ⟨rfl, rfl⟩ := h3; exact kv _ (Below.refl _ _)
        case enter f args =>
          obtain ⟨rfl, hcc⟩ := h3
          exact hcc.mono fun e w'' ⟨he, hb⟩ => by subst he; exact kv _ hb
      | halt x w' => simp only [calmUpon] at h3
    · rw [hw] at hwf
      rw [hwf, if_neg (by simp)]
      exact kv w (Below.refl _ _)
  · have he := exec_agree (ops := l.toArray) hsel fun d hd => ag d hd (h1 d hd)
    have hw := wanted_agree (ops := l.toArray) fun d hd => ag d hd (h1 d hd)
    rw [hw] at hwt
    rw [if_pos hwt]
    have h3 := hsrc w h.cls
    rw [he] at h3
    have kf : ∀ u w', FS s u w' → Below w.heap.size w w' → K (b.put o.dst u) w' := fun u w' hf hb => hK u w' hb fun d hd => by
      obtain rfl : d = s := Option.some.inj (hd.symm.trans hds)
      exact ⟨fun _ => hf, fun hnf => absurd hs hnf⟩
    unfold Oper.wp
    generalize (execOp b.eval o).run P w = r at h3
    cases r with
    | ok n w' =>
      cases n <;> simp only [srcUpon] at h3 <;> simp only [Oper.upon]
      case value u => exact kf u w' h3.1 h3.2
      case enter f args =>
        obtain ⟨rfl, hcc⟩ := h3
        exact hcc.mono fun e w'' ⟨u, he, hf, hb⟩ => by subst he; exact kf u w'' hf hb
    | halt x w' => simp only [srcUpon] at h3
  · obtain ⟨e, hee, heb⟩ := Array.any_eq_true'.1 hje
    simp only [Bool.and_eq_true, beq_iff_eq] at heb
    obtain ⟨hbe, rfl⟩ := heb
    obtain ⟨oj, hoj, hdj⟩ := Option.bind_eq_some_iff.1 hj
    have hoj2 : l[e.on]? = some oj := by simpa using hoj
    obtain ⟨vj, hvj⟩ : ∃ v, vs[e.on]? = some v := ⟨_, List.getElem?_eq_getElem (by rw [hlen]; exact (List.getElem?_eq_some_iff.1 hoj2).1)⟩
    obtain ⟨x, hbx, hfx⟩ := (h.ins e.on oj s vj hoj2 (hp e hee hbe) hdj hvj).1 hs
    have hslt : s < (lex l vs a0 i).tmps.size := by rw [(lex_size l vs a0 i).1]; exact Nat.lt_of_lt_of_le (hR.small _ _ _ hoj hdj) hN
    have ag2 : ∀ d ∈ o.looksAt l.toArray, ((lex l vs a0 i).put (some s) x).tmps[d]? = b.tmps[d]? := fun d hd => by
      by_cases hsd : s = d
      · subst hsd
        rw [put_same x hslt, hbx]
      · rw [put_other x (by simpa using hsd)]
        exact ag d hd fun hf => hsd (h1 d hd hf).symm
    obtain ⟨hwt, h3⟩ := huse x w h.cls hfx
    rw [wanted_agree (ops := l.toArray) ag2] at hwt
    rw [exec_agree (ops := l.toArray) hsel ag2] at h3
    have kv : ∀ w', Below w.heap.size w w' → K (b.put o.dst v) w' := fun w' hb => hK v w' hb fun d hd => ⟨fun hf => absurd hf (h2 d hd), fun _ => hv⟩
    rw [if_pos hwt]
    unfold Oper.wp
    generalize (execOp b.eval o).run P w = r at h3
    cases r with
    | ok n w' =>
      cases n <;> simp only [calmUpon] at h3 <;> simp only [Oper.upon]
      case value u => obtain ⟨rfl, rfl⟩ := h3; exact kv _ (Below.refl _ _)
      case skip => obtain ⟨rfl, rfl⟩ := h3; exact kv _ (Below.refl _ _)
      case enter f args =>
        obtain ⟨rfl, hcc⟩ := h3
        exact hcc.mono fun e w'' ⟨he, hb⟩ => by subst he; exact kv _ hb
    | halt x w' => simp only [calmUpon] at h3

  · have got : ∀ r ∈ R, ∃ x, b.tmps[r]? = some x ∧ FS r x w ∧ r < (lex l vs a0 i).tmps.size := fun r hr => by
      obtain ⟨hrf, j, hj, hje⟩ := hRs r hr
      obtain ⟨e, hee, heb⟩ := Array.any_eq_true'.1 hje
      simp only [Bool.and_eq_true, beq_iff_eq] at heb
      obtain ⟨hbe, rfl⟩ := heb
      obtain ⟨oj, hoj, hdj⟩ := Option.bind_eq_some_iff.1 hj
      have hoj2 : l[e.on]? = some oj := by simpa using hoj
      obtain ⟨vj, hvj⟩ : ∃ v, vs[e.on]? = some v := ⟨_, List.getElem?_eq_getElem (by rw [hlen]; exact (List.getElem?_eq_some_iff.1 hoj2).1)⟩
      obtain ⟨x, hbx, hfx⟩ := (h.ins e.on oj r vj hoj2 (hp e hee hbe) hdj hvj).1 hrf
      exact ⟨x, hbx, hfx, by rw [(lex_size l vs a0 i).1]; exact Nat.lt_of_lt_of_le (hR.small _ _ _ hoj hdj) hN⟩
    have ag2 : ∀ d ∈ o.looksAt l.toArray, (fill R (fun s => b.tmps.getD s undef) (lex l vs a0 i)).tmps[d]? = b.tmps[d]? := fun d hd => by
      by_cases hdR : d ∈ R
      · obtain ⟨x, hbx, _, hlt⟩ := got d hdR
        rw [fill_in R _ _ d hdR hlt, hbx]
        simp [hbx]
      · rw [fill_out R _ _ d hdR]
        exact ag d hd fun hf => hdR (h1 d hd hf)
    obtain ⟨hwt, h3⟩ := hmix (fun s => b.tmps.getD s undef) w h.cls fun r hr => by
      obtain ⟨x, hbx, hfx, _⟩ := got r hr
      simpa [hbx] using hfx
    rw [wanted_agree (ops := l.toArray) ag2] at hwt
    rw [exec_agree (ops := l.toArray) hsel ag2] at h3
    rw [if_pos hwt]
    have kf : ∀ u w', FS s u w' → Below w.heap.size w w' → K (b.put o.dst u) w' := fun u w' hf hb => hK u w' hb fun d hd => by
      obtain rfl : d = s := Option.some.inj (hd.symm.trans hds)
      exact ⟨fun _ => hf, fun hnf => absurd hs hnf⟩
    unfold Oper.wp
    generalize (execOp b.eval o).run P w = r at h3
    cases r with
    | ok n w' =>
      cases n <;> simp only [srcUpon] at h3 <;> simp only [Oper.upon]
      case value u => exact kf u w' h3.1 h3.2
      case enter f args =>
        obtain ⟨rfl, hcc⟩ := h3
        exact hcc.mono fun e w'' ⟨u, he, hf, hb⟩ => by subst he; exact kf u w'' hf hb
    | halt x w' => simp only [srcUpon] at h3

end
/-- where the post lets nothing out there is no way out -/
theorem wpAnyS_of {P : Program} {md : Region.Mode} {ops : Array Oper} {Q : Exit → Act → World → Prop} (hno : ¬ LetsOut Q) : ∀ (fuel : Nat) (listed : Array Bool) (a : Act) (w : World), wpAny P md ops Q fuel listed a w → wpAnyS P md ops Q fuel listed a w
  | 0, _, _, _, h => h
  | fuel + 1, listed, a, w, h => by
    refine ⟨h.1, fun i hi => ?_⟩
    have h1 := h.2 i hi
    unfold Go.wpOp at h1
    unfold wpOpS
    cases ho : ops[i]? with
    | none => rw [ho] at h1; exact wpAnyS_of hno fuel _ _ _ h1
    | some o =>
      rw [ho] at h1
      simp only at h1 ⊢
      split
      · rename_i hw
        rw [if_pos hw] at h1
        rcases h1 with h1 | ⟨_, h1⟩
        · exact Oper.wp_mono (fun a w hk => wpAnyS_of hno fuel _ a w hk) h1
        · exact absurd h1 hno
      · rename_i hw
        rw [if_neg hw] at h1
        exact wpAnyS_of hno fuel _ _ _ h1
/-- XQ7's law in a round -/
theorem wpIn_region_FS {P : Program} {lr n : Nat} {id : Nat} {Q : Exit → Act → World → Prop} {a : Act} {w : World} {l : List Oper} (N k f : Nat) (fs : List Tmp) (FS : Tmp → Value → World → Prop) (I : World → Prop) (St : (Tmp → Value) → World → World → Prop) (hm : P.follows .mixedOrders = true) (hno : ¬ LetsOut Q) (hB : rgB .any l.toArray N = true)
    (hk : decide (k < l.length) = true) (hreach : ((List.range k).all fun j => reachB .any l.toArray f k j) = true) (hfs : (fs.all fun s => (l.take k).any fun o => o.dst == some s) = true) (hN : N ≤ a.tmps.size) (hI : Closed I) (hF : ∀ s x w w', FS s x w → Below w.heap.size w w' → FS s x w') (hC : I w.drew) (hdf : (l.all fun o => match o.op with | .defer _ => false | _ => true) = true)
    (h : wpFS P l.toArray I fs FS St (fun a' => ∀ xs W w', I W → (∀ s ∈ fs, FS s (xs s) W) → St xs W w' → Q .normal (fill fs xs a') w') (some k) l a) : (Code.region id l.toArray true).wpIn (Fence.wide.inRound lr) n P Q a w := by
  refine wpIn_region_any hm (wpAnyIn_of_S (fun j o ho c hc => ?_) _ _ _ _ (wpAnyS_of hno _ _ _ _ (any_region_FS N k f fs FS I St hB hk hreach hfs hN hI hF hC h)))
  have hmem : o ∈ l := List.mem_of_getElem? (by simpa using ho)
  rw [List.all_eq_true] at hdf
  have := hdf o hmem
  rw [hc] at this
  cases this
end Go.Proofs.YtfdbcfkjablnkaaGreat

namespace Go.Proofs.YtfdbcfkjablnkaaGreat
open Go.RowKit
section
variable {P : Program} {ops : Array Oper} {Q : Exit → Act → World → Prop} {md : Region.Mode}
theorem opIn_of_S {lr m i : Nat} {K : Act → World → Prop} {a : Act} {w : World} (hd : ∀ (j : Nat) o, ops[j]? = some o → ∀ c, o.op ≠ .defer c) (h : wpOpS P ops Q i K a w) : wpOpIn (Fence.wide.inRound lr) m P ops Q i K a w := by
  unfold wpOpS at h
  unfold wpOpIn
  cases ho : ops[i]? with
  | none => rw [ho] at h; exact h
  | some o =>
    rw [ho] at h
    simp only at h ⊢
    split
    · rename_i hw
      rw [if_pos hw] at h
      exact oper_in (hd i o ho) (fun _ _ hk => hk) h
    · rename_i hw
      rw [if_neg hw] at h
      exact ⟨fun _ _ => trivial, h⟩
theorem wpAnyIn_of_seq {lr m : Nat} {Q' : Exit → Act → World → Prop} : ∀ (l : List Oper) (k : Nat) (listed : Array Bool) (a : Act) (w : World), (∀ j, l[j]? = ops[k + j]?) →
    Region.seqB md ops l.length k listed = true → wpListIn (Fence.wide.inRound lr) m P ops Q' l a w → wpAnyIn (Fence.wide.inRound lr) m P md ops Q' l.length listed a w
  | [], _, _, _, _, _, hB, h => ⟨by simpa [Region.seqB] using hB, h⟩
  | o :: l, k, listed, a, w, hl, hB, h => by
    have h0 : ops[k]? = some o := by simpa using (hl 0).symm
    simp only [List.length_cons, Region.seqB, Bool.and_eq_true, decide_eq_true_eq] at hB
    refine ⟨fun h1 => (by rw [hB.1] at h1; cases h1), fun i hi => ?_⟩
    rw [hB.1] at hi
    have hik : i = k := by simpa using hi
    subst hik
    have hw : wpOpIn (Fence.wide.inRound lr) m P ops Q' i (wpListIn (Fence.wide.inRound lr) m P ops Q' l) a w := by unfold wpOpIn; simp only [h0]; exact h
    unfold wpOpIn at hw ⊢
    simp only [h0] at hw ⊢
    have ih := fun a' w' h' => wpAnyIn_of_seq (lr := lr) (m := m) (Q' := Q') l (i + 1) (listed.setIfInBounds i true) a' w' (fun j => by have := hl (j + 1); simpa [Nat.add_assoc, Nat.add_comm 1 j] using this) hB.2 h'
    split
    · rename_i hx
      rw [if_pos hx] at hw
      exact Oper.wpIn_mono ih hw
    · rename_i hx
      rw [if_neg hx] at hw
      exact ⟨hw.1, ih _ _ hw.2⟩
end
section
variable {P : Program} {l : List Oper} {vs : List Value} {fs : List Tmp} {FS : Tmp → Value → World → Prop} {I : World → Prop} {a0 : Act}
theorem any_of_FTIn {N n lr m : Nat} {Q' : Exit → Act → World → Prop} (hR : RG .any l.toArray N) (hN : N ≤ a0.tmps.size) (hlen : vs.length = l.length) (hI : Closed I) (hF : ∀ s x w w', FS s x w → Below w.heap.size w w' → FS s x w')
    (hob : ∀ (j : Nat) o v, j < n → l[j]? = some o → vs[j]? = some v → Ob P l.toArray I fs FS o v (lex l vs a0 j)) (hn : n < l.length) (hs : Region.sinkB .any l.toArray n = true) (hc : Region.chainB .any l.toArray n = true) (hdf : ∀ (j : Nat) o, l.toArray[j]? = some o → ∀ c, o.op ≠ .defer c)
    (hQ : ∀ (listed : Array Bool) b w, (∀ j, j < n → listed.getD j true = true) → (∀ t, n ≤ t → t < l.length → listed.getD t true = false) → Inv l vs fs FS I a0 listed b w → wpAnyIn (Fence.wide.inRound lr) m P .any l.toArray Q' (l.length - n) listed b w) :
    ∀ (f : Nat) (listed : Array Bool) (b : Act) (w : World), (listed.toList.take n).count false = f → HeadInv .any l.toArray n listed → Inv l vs fs FS I a0 listed b w → wpAnyIn (Fence.wide.inRound lr) m P .any l.toArray Q' (f + (l.length - n)) listed b w
  | 0, listed, b, w, hcn, hh, h => by
    rw [Nat.zero_add]
    exact hQ listed b w (fun j hj => count_take_zero hcn j hj) (fun t h1 h2 => hh.tail t h1 (by simpa using h2)) h
  | f + 1, listed, b, w, hcn, hh, h => by
    obtain ⟨i0, hi0, hu0⟩ := count_take_pos hcn
    rw [show f + 1 + (l.length - n) = (f + (l.length - n)) + 1 by omega]
    refine ⟨fun h0 => ?_, fun i hi => ?_⟩
    · have hall := ready_all hR h.lsize h0
      rw [hall i0] at hu0
      cases hu0
    have hin : i < n := by
      rcases Nat.lt_or_ge i n with h1 | h1
      · exact h1
      · exact absurd hi (tail_waits hs hc (by simpa using hn) hh _ i0 rfl hi0 hu0 i h1)
    obtain ⟨hun, o, ho, hall⟩ := mem_ready.1 hi
    have ho2 : l[i]? = some o := by simpa using ho
    have hp : ∀ e ∈ o.after, Region.binds .any e = true → listed.getD e.on true = true := fun e he hb => by
      have h1 := hall e he hb
      rw [Array.getD_eq_getD_getElem?] at h1 ⊢
      cases hx : listed[e.on]? with
      | none => rfl
      | some y => rw [hx] at h1; simpa using h1
    obtain ⟨v, hv⟩ : ∃ v, vs[i]? = some v := ⟨_, List.getElem?_eq_getElem (by rw [hlen]; exact (List.getElem?_eq_some_iff.1 ho2).1)⟩
    have hcnt := count_take hin hun
    exact opIn_of_S hdf (op_of_S (Q' := Q') hR hN hlen h ho2 hun hp hv (hob i o v hin ho2 hv) fun u w' hb hu =>
      any_of_FTIn hR hN hlen hI hF hob hn hs hc hdf hQ f _ _ w' (by omega) (hh.set hi hin) (h.next hR hN hI hF ho2 hp hb hu))

/-- ONE WALK IN THE TEXT's ORDER SERVES EVERY ORDER; the tail, behind place n, as it stands -/
theorem wpIn_region_FT {lr m : Nat} {id : Nat} {Q : Exit → Act → World → Prop} {a : Act} {w : World} {l : List Oper} (N n : Nat) (fs : List Tmp) (FS : Tmp → Value → World → Prop) (I : World → Prop) (hm : P.follows .mixedOrders = true) (hB : rgB .any l.toArray N = true)
    (hn : decide (n < l.length) = true) (hs : Region.sinkB .any l.toArray n = true) (hc : Region.chainB .any l.toArray n = true)
    (hq : Region.seqB .any l.toArray (l.length - n) n (List.replicate n true ++ List.replicate (l.length - n) false).toArray = true)
    (hfs : (fs.all fun s => (l.take n).any fun o => o.dst == some s) = true) (hN : N ≤ a.tmps.size) (hI : Closed I) (hF : ∀ s x w w', FS s x w → Below w.heap.size w w' → FS s x w') (hC : I w.drew) (hdf : (l.all fun o => match o.op with | .defer _ => false | _ => true) = true)
    (h : wpF P l.toArray I fs FS (fun a' => ∀ xs w', I w' → (∀ s ∈ fs, FS s (xs s) w') → wpListIn (Fence.wide.inRound lr) m P l.toArray Q (l.drop n) (fill fs xs a') w') (l.take n) a) : (Code.region id l.toArray true).wpIn (Fence.wide.inRound lr) m P Q a w := by
  have hdf' : ∀ (j : Nat) o, l.toArray[j]? = some o → ∀ c, o.op ≠ .defer c := fun j o ho c hc => by
    have hmem : o ∈ l := List.mem_of_getElem? (by simpa using ho)
    rw [List.all_eq_true] at hdf
    have := hdf o hmem
    rw [hc] at this
    cases this
  have hR := rgB_spec hB
  have hn' : n < l.length := by simpa using hn
  obtain ⟨vs0, hlen0, hob0, hE0⟩ := wpF_vals (l.take n) a h
  have htl : (l.take n).length = n := by rw [List.length_take]; omega
  rw [htl] at hlen0 hE0
  obtain ⟨vs, hvs⟩ : ∃ vs, vs0 ++ List.replicate (l.length - n) undef = vs := ⟨_, rfl⟩
  have hlen : vs.length = l.length := by rw [← hvs, List.length_append, List.length_replicate]; omega
  have hlex : ∀ j, j ≤ n → lex (l.take n) vs0 a j = lex l vs a j := fun j hj => by rw [← hvs]; exact lex_take l vs0 _ a n j hj (by rw [hlen0, htl])
  have hob : ∀ (j : Nat) o v, j < n → l[j]? = some o → vs[j]? = some v → Ob P l.toArray I fs FS o v (lex l vs a j) := fun j o v hj ho hv => by
    rw [← hlex j (by omega)]
    refine hob0 j o v (by rw [List.getElem?_take, if_pos hj]; exact ho) ?_
    rw [← hvs, List.getElem?_append_left (by omega)] at hv
    exact hv
  rw [hlex n (Nat.le_refl _)] at hE0
  have inv0 : HeadInv .any l.toArray n (Array.replicate l.toArray.size false) :=
    ⟨by simp, fun j oj _ hl => (by rw [getD_replicate_false] at hl; cases hl), fun t _ ht => getD_in (by simpa using ht) (getD_replicate_false _ _)⟩
  refine wpIn_region_any hm ?_
  have key := any_of_FTIn (Q' := Q) (lr := lr) (m := m) (l := l) (vs := vs) (fs := fs) (FS := FS) (I := I) (a0 := a) (n := n) hR hN hlen hI hF hob hn' hs hc hdf' ?_ n (Array.replicate l.toArray.size false) a w.drew (by
      simp only [List.size_toArray, Array.toList_replicate, List.take_replicate, List.count_replicate_self]; omega) inv0 ?_
  · rw [show n + (l.length - n) = l.toArray.size by simp; omega] at key
    exact key
  · intro listed b W hall hno hinv
    have hw : ∀ s ∈ fs, ∃ x, b.tmps[s]? = some x ∧ FS s x W := fun s hs => by
      rw [List.all_eq_true] at hfs
      have h1 := hfs s hs
      rw [List.any_eq_true] at h1
      obtain ⟨o, ho, hd⟩ := h1
      obtain ⟨j, hj, rfl⟩ := List.getElem_of_mem ho
      have hj1 : j < n := by rw [List.length_take] at hj; omega
      have hj2 : j < l.length := by omega
      have hd' : (l[j]).dst = some s := by simpa using hd
      obtain ⟨v, hv⟩ : ∃ v, vs[j]? = some v := ⟨_, List.getElem?_eq_getElem (by rw [hlen]; exact hj2)⟩
      exact (hinv.ins j l[j] s v (List.getElem?_eq_getElem hj2) (hall j hj1) hd' hv).1 hs
    have hb : b = fill fs (fun s => b.tmps.getD s undef) (lex l vs a n) := by
      have ht : b.tmps = (fill fs (fun s => b.tmps.getD s undef) (lex l vs a n)).tmps := by
        apply Array.ext_getElem?
        intro d
        by_cases hd : d ∈ fs
        · obtain ⟨x, hx, _⟩ := hw d hd
          have hlt : d < (lex l vs a n).tmps.size := by
            rw [(lex_size l vs a n).1, ← hinv.size]
            exact (Array.getElem?_eq_some_iff.1 hx).1
          rw [fill_in fs _ _ d hd hlt, hx]
          simp [hx]
        · rw [fill_out fs _ _ d hd]
          by_cases hwr : ∃ (j : Nat) (oj : Oper), j < n ∧ l[j]? = some oj ∧ oj.dst = some d
          · obtain ⟨j, oj, hjn, hj, hdj⟩ := hwr
            obtain ⟨v, hv⟩ : ∃ v, vs[j]? = some v := ⟨_, List.getElem?_eq_getElem (by rw [hlen]; exact (List.getElem?_eq_some_iff.1 hj).1)⟩
            have hj' : l.toArray[j]? = some oj := by simpa using hj
            rw [(hinv.ins j oj d v hj (hall j hjn) hdj hv).2 hd]
            exact (lex_in l vs a n j oj d v hj hjn hv hdj (Nat.lt_of_lt_of_le (hR.small _ _ _ hj' hdj) hN) fun i oi hi _ hne => hR.once i j oi oj d (by simpa using hi) hj' hdj hne).symm
          · rw [lex_out l vs a n d fun i oi hi hin hdi => hwr ⟨i, oi, hin, hi, hdi⟩]
            refine hinv.out d fun i oi hi hli hdi => hwr ⟨i, oi, ?_, hi, hdi⟩
            rcases Nat.lt_or_ge i n with h1 | h1
            · exact h1
            · rw [hno i h1 (List.getElem?_eq_some_iff.1 hi).1] at hli; cases hli
      have hd : b.defers = (fill fs (fun s => b.tmps.getD s undef) (lex l vs a n)).defers := by
        rw [(fill_size ..).2, (lex_size ..).2]
        exact hinv.defers
      cases b
      simp only at ht hd
      rw [Act.mk.injEq]
      exact ⟨ht, hd⟩
    have hL : listed = (List.replicate n true ++ List.replicate (l.length - n) false).toArray := by
      apply Array.ext
      · simp [hinv.lsize]; omega
      · intro j h1 h2
        have hj : j < l.length := by rw [← hinv.lsize]; exact h1
        by_cases hjn : j < n
        · have h3 := hall j hjn
          rw [Array.getD_eq_getD_getElem?, Array.getElem?_eq_getElem h1] at h3
          simp only [List.getElem_toArray]
          rw [List.getElem_append_left (by simpa using hjn)]
          simpa using h3
        · have h3 := hno j (by omega) hj
          rw [Array.getD_eq_getD_getElem?, Array.getElem?_eq_getElem h1] at h3
          simp only [List.getElem_toArray]
          rw [List.getElem_append_right (by simpa using Nat.le_of_not_lt hjn)]
          simpa using h3
    have hE := hE0 (fun s => b.tmps.getD s undef) W hinv.cls fun s hs => by
      obtain ⟨x, hx, hf⟩ := hw s hs
      simpa [hx] using hf
    rw [← hb] at hE
    have := wpAnyIn_of_seq (lr := lr) (m := m) (md := .any) (Q' := Q) (l.drop n) n listed b W (fun j => by simp [List.getElem?_drop]) (by rw [List.length_drop, hL]; exact hq) hE
    rwa [List.length_drop] at this
  · refine ⟨hC, rfl, rfl, fun _ _ => rfl, fun j o d v hj hlj => ?_, fun j o hj hlj => ?_, by simp⟩
    all_goals
      have hlt := (List.getElem?_eq_some_iff.1 hj).1
      rw [Array.getD_eq_getD_getElem?] at hlj
      simp [hlt] at hlj
end
end Go.Proofs.YtfdbcfkjablnkaaGreat

namespace Go.Proofs.YtfdbcfkjablnkaaGreat
open Go.RowKit Go.Shelf
set_option maxRecDepth 100000
attribute [local go_sem] Oper.semAt_some

/-- slices.Clone of numbers of 32 bits -/
theorem clone_u32 (a : Option Addr) (n cap : Nat) (zs : List Int) (w : World) (hn : zs.length = n) (hl : n ≤ 1000000) (h1 : Nums .u32 w w.heap.size a zs) :
    Calls Tryz.prog 85 #[.slice a n cap] w fun e w' => ∃ v, e = .returned v ∧ MadeK 22 .u32 w w' zs v := by
  subst hn
  obtain ⟨i0, hi, hz0, hz1, hz2⟩ := info_parts wu32Info
  cases a with
  | none =>
    have : zs = [] := by
      apply Classical.byContradiction
      intro hn
      obtain ⟨b, off, e, _⟩ := h1 hn
      cases e
    subst this
    have hq := fun w => Lib.run_eql_slice_nil (P := Tryz.prog) w 95 22 none 0 cap 0 0 Tryz.underlying95
    go_enter Tryz.func85, Tryz.ntmps85
    go_wp2
    go_ret
    exact ⟨_, rfl, MadeK.nil _ _ (Below.refl _ _)⟩
  | some x =>
    have hq := fun w => Lib.run_eql_slice_nil (P := Tryz.prog) w 95 22 (some x) zs.length cap 0 0 Tryz.underlying95
    have HL := Lib.hid (MadeK.lit 22 .u32 (Below.refl w.heap.size w))
    have HN := Lib.hid (h1.below ((Below.refl w.heap.size w).alloc (Nat.le_refl _) (.cells #[] 22)))
    have HX1 : Hid (([] : List Int).length + zs.length ≤ maxLen) := by show _ ≤ _; unfold maxLen; simp only [List.length_nil]; omega
    have HX2 : Hid ((([] : List Int).length + zs.length) * 4 ≤ 140737488355328) := by show _ ≤ _; simp only [List.length_nil]; omega
    go_enter Tryz.func85, Tryz.ntmps85
    go_wp2_with (at_builtin; refine wpList_append_any rfl (.tmp 5) (.tmp 6) 95 rfl w.heap.size 22 i0 (.int .u32 0) 4 Tryz.underlying95 hi hz0 hz1 hz2 rfl .u32 [] zs _ rfl HL.out.1 _ _ _ _ rfl rfl HN.out HX1.out HX2.out HL.out.2.size ?_)
    intro v' w1 hown hg
    have HM := Lib.hid (HL.out.more (zs := zs) (v' := v') (by simpa using hown) hg)
    rw [List.nil_append] at HM
    go_wp2
    go_ret
    exact ⟨_, rfl, HM.out⟩

section
variable {w w' : World} {S S' : Nat → Prop} {b r m n cp : Nat} {A : Option Addr} {X : List Sx}
theorem tseqs_any (h : TblAt w S b r m A n cp X) : Calls Tryz.prog 64 #[.pointer (some ⟨b, 0, none⟩)] w fun e w' => ∃ v, e = .returned v ∧ MadeK 22 .u32 w w' (X.map Sx.s) v := by
  obtain ⟨c0, c1, c2⟩ := h.cells
  have K := clone_u32 A n cp (X.map Sx.s) w (by rw [List.length_map]; exact h.len) (by have := h.few; have := h.room; omega) h.nums
  clear h
  have HK := Lib.hid K
  clear K
  generalize X.map Sx.s = L at *
  go_enter Tryz.func64, Tryz.ntmps64
  go_wp2_with fail
  refine HK.out.mono ?_
  rintro e w1 ⟨v, rfl, hm⟩
  have HM := Lib.hid hm
  clear hm HK
  go_wp2
  go_ret
  exact ⟨_, rfl, HM.out⟩
end

/-- the place of a number that is there -/
def TPlaceR (w : World) (X : List Sx) (z : Int) (e : Ending) (w' : World) : Prop :=
  ∃ (j : Nat) (x : Sx), X[j]? = some x ∧ x.s = z ∧ e = .returned (.int .i64 (j : Int)) ∧ Below w.heap.size w w'
set_option maxHeartbeats 4000000 in
theorem tplace_any {w : World} {S : Nat → Prop} {b r m n cp : Nat} {A : Option Addr} {X : List Sx} (h : TblAt w S b r m A n cp X) {z : Int} (hin : ∃ x ∈ X, x.s = z) :
    Calls Tryz.prog 54 #[.pointer (some ⟨b, 0, none⟩), .int .u32 z] w (TPlaceR w X z) := by
  have hn16 : n ≤ 16 := by have := h.few; have := h.room; omega
  have hlen := h.len
  generalize hG : TPlaceR w X z = G
  have HG := Lib.hid hG
  clear hG
  refine (callsIn_wide (n := 3)).1 ?_
  refine callsIn_of_wp_marks Tryz.func54 rfl trivial ?_ rfl
  simp only [Tryz.ntmps54, List.size_toArray, List.length_cons, List.length_nil, Nat.reduceAdd, Nat.reduceSub, Array.replicate_succ, Array.replicate_zero, List.push_toArray, List.append_toArray, List.nil_append, List.cons_append]
  obtain ⟨w1, hw1⟩ : ∃ w1, (w.alloc (Obj.cells #[Value.int .u32 z] 22)).alloc (Obj.cells #[Value.int .i64 ((0 : Nat) : Int)] 3) = w1 := ⟨_, rfl⟩
  have bZ : Boxed w1 w.heap.size 22 (.int .u32 z) := by rw [← hw1]; exact (Boxed.new w _ _).alloc _
  have bI : Boxed w1 (w.heap.size + 1) 3 (.int .i64 ((0 : Nat) : Int)) := by
    have := Boxed.new (w.alloc (Obj.cells #[Value.int .u32 z] 22)) 3 (.int .i64 ((0 : Nat) : Int))
    rw [World.size_alloc, hw1] at this
    exact this
  have hs1 : w1.heap.size = w.heap.size + 2 := by rw [← hw1]; simp
  have hb1 : Below w.heap.size w w1 := by rw [← hw1]; exact ((Below.refl _ w).alloc (Nat.le_refl _) _).alloc (by simp) _
  have HW1 := Lib.hid hw1
  clear hw1
  have K := teach_any (some ⟨b, 0, none⟩) w1
  gi_wp2_with fail
  refine wpIn_wide.2 (wp_scope_straight ((wpIn_wide (n := 3)).1 ?_))
  gi_wp2_with fail
  apply wpIn_label
  gi_wp2_with fail
  refine ⟨trivial, ?_⟩
  rw [show (0 : Int) = ((0 : Nat) : Int) from rfl, HW1.out]
  refine (callsIn_wide.2 K).mono ?_
  rintro e w2 ⟨rfl, hw2⟩
  clear K
  have bC : Boxed w2 (w.heap.size + 2) 66 (.pointer (some ⟨b, 0, none⟩)) := by
    have := Boxed.new w1 66 (.pointer (some ⟨b, 0, none⟩))
    rw [hs1] at this
    rw [hw2]; exact this
  have hs2 : w2.heap.size = w.heap.size + 3 := by rw [hw2]; simp [hs1]
  have bZ2 : Boxed w2 w.heap.size 22 (.int .u32 z) := by rw [hw2]; exact bZ.alloc _
  have bI2 : Boxed w2 (w.heap.size + 1) 3 (.int .i64 ((0 : Nat) : Int)) := by rw [hw2]; exact bI.alloc _
  have hb2 : Below w.heap.size w w2 := by rw [hw2]; exact hb1.alloc (by omega) _
  clear hw2 bZ bI hb1
  have HT := Lib.hid h
  rw [hs1]
  have hbi : w.heap.size + 1 < w2.heap.size := by omega
  clear h
  gi_wp2_with fail
  refine range_stops rfl (by omega) (gf := 104) (lb := #[.pointer (some ⟨w.heap.size + 2, 0, none⟩)]) rfl trivial (enters_of Tryz.func104 (by kernel_rfl) rfl)
    (fun x : Sx => #[Value.int .u32 x.s, .pointer (some ⟨x.b, 0, none⟩)]) (fun _ => rfl)
    (fun j x V => (Ld w2 (w.heap.size + 1) 3 j V ∧ ∀ (i : Nat) (y : Sx), i < j → X[i]? = some y → y.s ≠ z) ∧ X[j]? = some x)
    (fun j V => Ld w2 (w.heap.size + 1) 3 j V ∧ ∀ (i : Nat) (y : Sx), i < j → X[i]? = some y → y.s ≠ z)
    (fun cd V => cd = .exit 0 ∧ ∃ (j : Nat) (x : Sx), X[j]? = some x ∧ x.s = z ∧ Ld w2 (w.heap.size + 1) 3 j V) (fun _ _ => True) n
    (fun j x V l o o' h hl ho hc' => ⟨⟨h.1.1.below hbi (below_put V o' hl), h.1.2⟩, h.2⟩)
    (fun j V l o o' h hl ho hc' => ⟨h.1.below hbi (below_put V o' hl), h.2⟩)
    (fun cd V l o o' h hl ho hc' => by
      obtain ⟨h1, j, x, h2, h3, h4⟩ := h
      exact ⟨h1, j, x, h2, h3, h4.below hbi (below_put V o' hl)⟩)
    (fun _ _ _ _ _ => trivial) (fun _ _ _ _ _ _ _ => trivial)
    (fun o => ⟨Ld.below ⟨bI2, Off.refl _ _⟩ hbi (((Below.refl w2.heap.size w2).alloc (Nat.le_refl _) _).alloc (by simp) _), fun i y h => absurd h (Nat.not_lt_zero i)⟩) ?a1 ?assign ?body ?iter ?done ?stop
  case assign =>
    intro l x V K hK
    gi_wp2
    exact hK
  case body =>
    rintro l j x V hl ⟨⟨hLd, hno⟩, hx⟩ hj
    have kI := hLd.1.cell
    have fI := hLd.1.frozen
    have kZ : V.cell? ⟨w.heap.size, 0, none⟩ = some (.int .u32 z) := (show Boxed V w.heap.size 22 (.int .u32 z) from (hLd.2.block _ (by omega) (by omega)).trans bZ2).cell
    have hj2 : (j : Int) ≤ 16 := by omega
    have hlu := Lib.hid hLd
    have hno' := Lib.hid hno
    have HX := Lib.hid hx
    clear hLd hno hx hin
    by_cases hjs : x.s = z
    · have hj3 : (x.s == z) = true := by rw [beq_iff_eq]; exact hjs
      have HJ := Lib.hid hjs
      clear hjs
      gi_wp2
      exact ⟨⟨Nat.le_refl _, fun _ _ _ h _ => h⟩, rfl, j, x, HX.out, HJ.out, hlu.out⟩
    · have hj3 : (x.s == z) = false := by rw [beq_eq_false_iff_ne]; exact hjs
      have HJ := Lib.hid hjs
      clear hjs
      gi_wp2
      refine ⟨(KeepsOthers.setCell V ⟨w.heap.size + 1, 0, none⟩ (.int .i64 ((j : Int) + 1))).from w2.heap.size, ⟨hlu.out.next hbi (Below.refl _ V), fun i y hi hy => ?_⟩, trivial⟩
      rcases Nat.lt_or_ge i j with h | h
      · exact hno'.out i y h hy
      · have hij : i = j := by omega
        subst hij
        have := HX.out
        rw [hy] at this
        injection this with this
        subst this
        exact HJ.out
  case iter =>
    intro Bk Xp l V hBk hBlt hX hlw hD hB hY
    refine (teach_in 2 (by omega) 1 l (w.heap.size + 2) b r m A n cp X (fun j V => (Ld w2 (w.heap.size + 1) 3 j V ∧ ∀ (i : Nat) (y : Sx), i < j → X[i]? = some y → y.s ≠ z) ∧ Bk V) Xp ?_ ?_ V ⟨hD, hB⟩).mono ?_
    · rintro j V1 ⟨⟨hLd, _⟩, _⟩
      refine ⟨(show Boxed V1 (w.heap.size + 2) 66 (.pointer (some ⟨b, 0, none⟩)) from (hLd.2.block _ (by omega) (by omega)).trans bC).cell, S, ?_⟩
      exact HT.out.below (hb2.trans (hLd.2.below (fun k hk => by omega) (by omega)))
    · rintro j x V1 ⟨h1, h2⟩ hx
      have hj : j < n := by rw [← hlen]; exact (List.getElem?_eq_some_iff.1 hx).1
      refine (hY j x V1 ⟨h1, hx⟩ h2 hj).mono ?_
      rintro e V2 (⟨rfl, hd, _, _⟩ | ⟨rfl, hx, _⟩)
      · exact .inl ⟨rfl, hd⟩
      · exact .inr ⟨rfl, hx⟩
    · exact fun _ _ h => h
  case done =>
    rintro D V hD ⟨hLd, hno⟩ hK
    obtain ⟨x, hx, hxz⟩ := hin
    obtain ⟨j, hj⟩ := List.getElem?_of_mem hx
    exact absurd hxz (hno j x (by rw [← hlen]; exact (List.getElem?_eq_some_iff.1 hj).1) hj)
  case stop =>
    rintro D cd V hD ⟨rfl, j, x, hx, hxz, hLd⟩ hK
    have kI := hLd.1.cell
    have hwD : w.heap.size ≤ D := by omega
    have hbV : Below w.heap.size w V := hb2.trans (hLd.2.below (fun k hk => by omega) (by omega))
    have HFIN : Hid (G (.returned (.int .i64 (j : Int))) (V.putObj D (.deferred none))) := by
      rw [← HG.out]
      exact ⟨j, x, hx, hxz, rfl, hbV.trans (below_put V _ hwD)⟩
    clear hLd hbV hx hxz hin bC bZ2 bI2 hb2 HT
    gi_wp2
    refine ⟨by simp, .inl ⟨_, _, rfl, run_takeDeferred hK, ?_⟩⟩
    refine ⟨_, results_tmp rfl _ _ _, ?_⟩
    exact HFIN.out
end Go.Proofs.YtfdbcfkjablnkaaGreat

namespace Go.Proofs.YtfdbcfkjablnkaaGreat
open Go.RowKit
set_option maxRecDepth 100000

/-- the cells of a row behind a store of several -/
theorem setCells_row : ∀ (vs : List Value) (o : Nat) (w : World) (g : Nat) (cs : Array Value) (t : TypeId), w.heap[g]? = some (.cells cs t (0, 0)) → o + vs.length ≤ cs.size →
    ∃ cs', (w.setCells g o vs).heap[g]? = some (.cells cs' t (0, 0)) ∧ cs'.size = cs.size ∧ ∀ j, cs'[j]? = if o ≤ j ∧ j < o + vs.length then vs[j - o]? else cs[j]?
  | [], o, w, g, cs, t, h, hl => ⟨cs, h, rfl, fun j => by rw [if_neg (by simp only [List.length_nil]; omega)]⟩
  | v :: r, o, w, g, cs, t, h, hl => by
    simp only [List.length_cons] at hl
    obtain ⟨cs', h1, h2, h3⟩ := setCells_row r (o + 1) (w.setCell ⟨g, o, none⟩ v) g _ t (setCell_at h) (by simp; omega)
    refine ⟨cs', h1, by rw [h2]; simp, fun j => ?_⟩
    rw [h3 j, Array.getElem?_setIfInBounds]
    simp only [List.length_cons]
    by_cases e : j = o
    · subst e
      rw [if_neg (by omega), if_pos rfl, if_pos (by omega), if_pos (by omega), Nat.sub_self, List.getElem?_cons_zero]
    · by_cases e2 : o + 1 ≤ j ∧ j < o + 1 + r.length
      · rw [if_pos e2, if_pos (by omega), show j - o = j - (o + 1) + 1 by omega, List.getElem?_cons_succ]
      · rw [if_neg e2, if_neg (by omega), if_neg (by omega)]
theorem Off.setCells {S : Nat → Prop} {w : World} {g : Nat} (hg : S g) : ∀ (vs : List Value) (o : Nat) {w' : World}, Off S w w' → Off S w (w'.setCells g o vs)
  | [], _, _, h => h
  | v :: r, o, _, h => Off.setCells hg r (o + 1) (h.setCell (p := ⟨g, o, none⟩) hg v)
theorem own_row {w : World} {base cap n g : Nat} {L : List Int} (h : w.ownsRow base 22 1 (.slice (some ⟨g, 0, none⟩) n cap) n (L.map (Value.int .u32))) :
    base ≤ g ∧ n ≤ cap ∧ cap ≤ maxLen ∧ L.length = n ∧ ∃ cur, w.heap[g]? = some (.cells cur 22 (0, 0)) ∧ cur.size = cap ∧ ∀ (j : Nat) c, L[j]? = some c → cur[j]? = some (.int .u32 c) := by
  have hl : L.length = n := by have := h.1; simpa using this
  rcases h.2 with ⟨h0, _⟩ | ⟨g2, cap2, cur, hv, hg, hh, hn, hm, hs, hcur⟩
  · cases h0
  · injection hv with hv1 hv2 hv3
    injection hv1 with hv1
    injection hv1 with hv1
    subst hv1 hv3
    refine ⟨hg, hn, hm, hl, cur, hh, by simpa using hs, fun j z hj => ?_⟩
    have h1 : (cur.toList.take (n * 1))[j]? = some (.int .u32 z) := by rw [hcur, List.getElem?_map, hj]; rfl
    rw [List.getElem?_take] at h1
    split at h1
    · simpa using h1
    · cases h1
theorem own_of_row {w : World} {base cap n g : Nat} {L : List Int} {cur : Array Value} (hb : base ≤ g) (hn : n ≤ cap) (hm : cap ≤ maxLen) (hl : L.length = n) (hh : w.heap[g]? = some (.cells cur 22 (0, 0))) (hs : cur.size = cap) (hc : ∀ (j : Nat) c, L[j]? = some c → cur[j]? = some (.int .u32 c)) :
    w.ownsRow base 22 1 (.slice (some ⟨g, 0, none⟩) n cap) n (L.map (Value.int .u32)) := by
  refine ⟨by simp [hl], .inr ⟨g, cap, cur, rfl, hb, hh, hn, hm, by simpa using hs, ?_⟩⟩
  apply List.ext_getElem?
  intro j
  rw [Nat.mul_one, List.getElem?_take, List.getElem?_map]
  by_cases hj : j < n
  · have h1 := hc j L[j] (List.getElem?_eq_getElem (by omega))
    rw [if_pos hj, Array.getElem?_toList, h1, List.getElem?_eq_getElem (by omega)]
    rfl
  · rw [if_neg hj, List.getElem?_eq_none (by omega)]
    rfl
def DelR (w : World) (base g n cap : Nat) (L : List Int) (e : Ending) (w' : World) : Prop :=
  e = .returned (.slice (some ⟨g, 0, none⟩) n cap) ∧ w'.ownsRow base 22 1 (.slice (some ⟨g, 0, none⟩) n cap) n (L.map (Value.int .u32)) ∧ Off (fun q => q = g) w w'
set_option maxHeartbeats 4000000 in
theorem delete_u32 (base g cap n i : Nat) (L : List Int) (w : World) (hi : i < n) (hown : w.ownsRow base 22 1 (.slice (some ⟨g, 0, none⟩) n cap) n (L.map (Value.int .u32))) :
    Calls Tryz.prog 55 #[.slice (some ⟨g, 0, none⟩) n cap, .int .i64 (i : Int), .int .i64 ((i : Int) + 1)] w (DelR w base g (n - 1) cap (L.take i ++ L.drop (i + 1))) := by
  obtain ⟨hbg, hncap, hcm, hLn, cur, hh, hcs, hcur⟩ := own_row hown
  clear hown
  obtain ⟨i0, hi0, hz0, hz1, hz2⟩ := info_parts wu32Info
  have hv : ∀ w, (zeroValue 22).run Tryz.prog w = .ok (.int .u32 0) w := fun w => by kernel_rfl
  have hcap : cap ≤ 9223372036854775807 := by unfold maxLen at hcm; omega
  obtain ⟨j, hj⟩ : ∃ j : Nat, i + 1 = j := ⟨_, rfl⟩
  have hjn : j ≤ n := by omega
  have hij : i < j := by omega
  obtain ⟨news, hnews⟩ : ∃ news, news = (L.drop j).map (Value.int .u32) := ⟨_, rfl⟩
  have hlen : news.length = n - j := by rw [hnews]; simp [hLn]
  have hcell : ∀ (p : Nat) (c : Int), L[p]? = some c → w.cell? ⟨g, p, none⟩ = some (.int .u32 c) := fun p c hp => by rw [cell_of_row w g p cur _ _ hh]; exact hcur p c hp
  have hthere : ∀ p, p < n → (w.cell? ⟨g, p, none⟩).isSome = true := fun p hp => by rw [hcell p L[p] (List.getElem?_eq_getElem (by omega))]; rfl
  have hthaw : ∀ p, w.frozen? ⟨g, p, none⟩ = false := fun p => by simp [World.frozen?, hh]
  obtain ⟨A, hA, hsrc⟩ : ∃ A : Addr, (if cap = j then some (⟨g, 0, none⟩ : Addr) else some ⟨g, j, none⟩) = some A ∧ Hid (∀ t u, news[t]? = some u → w.drew.cell? (A.add t) = some u) := by
    have key : ∀ t u, news[t]? = some u → w.cell? ⟨g, j + t, none⟩ = some u := fun t u hu => by
      rw [hnews, List.getElem?_map, List.getElem?_drop] at hu
      obtain ⟨c, hc, rfl⟩ := Option.map_eq_some_iff.1 hu
      exact hcell _ c hc
    by_cases h : cap = j
    · refine ⟨⟨g, 0, none⟩, by simp [h], fun t u hu => ?_⟩
      have := (List.getElem?_eq_some_iff.1 hu).1
      omega
    · refine ⟨⟨g, j, none⟩, by simp [h], fun t u hu => ?_⟩
      rw [Addr.add_lit]
      exact key t u hu
  have s1 : Hid (news.length = (n - j) * 1) := by rw [Nat.mul_one]; exact hlen
  have s2 : Hid (∀ u ∈ news, u.oneCell' = true) := by
    intro u hu
    rw [hnews] at hu
    obtain ⟨x, _, rfl⟩ := List.mem_map.1 hu
    rfl
  have s3 : Hid (∀ t, t < news.length → (w.drew.cell? ⟨g, 0 + i * 1 + t, none⟩).isSome = true ∧ w.drew.frozen? ⟨g, 0 + i * 1 + t, none⟩ = false) := by
    intro t ht
    rw [hlen] at ht
    exact ⟨hthere _ (by omega), hthaw _⟩
  obtain ⟨W1, hW1⟩ : ∃ W1, W1 = w.drew.setCells g (0 + i * 1) news := ⟨_, rfl⟩
  have hW1' : W1 = w.drew.setCells g i news := by rw [hW1, Nat.mul_one, Nat.zero_add]
  obtain ⟨cur1, h1h, h1s, h1c⟩ := setCells_row news i w.drew g cur 22 hh (by rw [hlen, hcs]; omega)
  rw [← hW1'] at h1h
  have hoff1 : Off (fun q => q = g) w W1 := by rw [hW1']; exact Off.setCells (S := fun q => q = g) rfl _ _ ⟨rfl, rfl, rfl, Nat.le_refl _, fun _ _ _ => rfl⟩
  have hthere1 : ∀ p, p < cap → (W1.cell? ⟨g, p, none⟩).isSome = true := fun p hp => by
    rw [cell_of_row W1 g p cur1 _ _ h1h]
    simp [h1s, hcs, hp]
  have hthaw1 : ∀ p, W1.frozen? ⟨g, p, none⟩ = false := fun p => by simp [World.frozen?, h1h]
  have hcl : ∀ ty, (Builtin.clear_ #[95] ty #[.slice (some ⟨g, (i + (n - j)), none⟩) (n - (i + (n - j))) (cap - (i + (n - j)))]).run Tryz.prog W1 = .ok (.tuple #[]) (W1.setCells g ((i + (n - j))) (List.replicate (n - (i + (n - j))) (.int .u32 0))) :=
    fun ty => Lib.run_clear_slice W1 _ _ ty _ Tryz.underlying95 hv rfl rfl g ((i + (n - j))) _ _ (by omega) (fun t ht => hthere1 _ (by omega)) (fun t ht => hthaw1 _)
  obtain ⟨cur2, h2h, h2s, h2c⟩ := setCells_row (List.replicate (n - (i + (n - j))) (Value.int .u32 0)) ((i + (n - j))) W1 g cur1 22 h1h (by rw [h1s, hcs, List.length_replicate]; omega)
  have hoff2 : Off (fun q => q = g) w (W1.setCells g ((i + (n - j))) (List.replicate (n - (i + (n - j))) (Value.int .u32 0))) := Off.setCells (S := fun q => q = g) rfl _ _ hoff1
  generalize hW2 : W1.setCells g ((i + (n - j))) (List.replicate (n - (i + (n - j))) (Value.int .u32 0)) = W2 at hcl h2h hoff2
  have hfin : DelR w base g (n - 1) cap (L.take i ++ L.drop (i + 1)) (.returned (.slice (some ⟨g, 0, none⟩) (n - 1) cap)) W2 := by
    refine ⟨rfl, own_of_row hbg (by omega) hcm (by rw [List.length_append, List.length_take, List.length_drop]; omega) h2h (by rw [h2s, h1s, hcs]) (fun p c hp => ?_), hoff2⟩
    have hpl := (List.getElem?_eq_some_iff.1 hp).1
    rw [List.length_append, List.length_take, List.length_drop] at hpl
    rw [h2c p, if_neg (by rw [List.length_replicate]; omega), h1c p]
    by_cases hpi : p < i
    · rw [if_neg (by omega)]
      rw [List.getElem?_append_left (by rw [List.length_take]; omega), List.getElem?_take, if_pos hpi] at hp
      exact hcur p c hp
    · rw [if_pos (by omega), hnews]
      rw [List.getElem?_append_right (by rw [List.length_take]; omega), List.length_take, show p - min i L.length = p - i by omega] at hp
      rw [List.getElem?_map, ← hj, hp]
      rfl
  have HFIN := Lib.hid hfin
  have HW := Lib.hid hW1
  generalize DelR w base g (n - 1) cap (L.take i ++ L.drop (i + 1)) = G at *
  have hic : i ≤ cap := by omega
  have hjc : j ≤ cap := by omega
  have HN1 : Hid (n - 1 = i + (n - j)) := by show _ = _; omega
  rw [show ((i : Int) + 1) = (j : Int) by omega]
  have HJ := Lib.hid hj
  clear hW1 hW1' hW2 h1h h1s h1c h2h h2s h2c hoff1 hoff2 hthere1 hthaw1 hcell hcur hh hcs hnews hlen hthere hthaw hfin hj
  go_enter Tryz.func55, Tryz.ntmps55
  go_wp2_with fail
  go_region_law (refine step_append_room rfl (.tmp 22) (.tmp 25) 95 rfl 22 i0 1 Tryz.underlying95 hi0 hz1 g 0 i cap (by simp [Act.eval, Act.put]) A (n - j) (cap - j) news (by simp [Act.eval, Act.put]) s1.out hsrc.out s2.out (by omega) s3.out ?_; rw [← HW.out])
  go_wp2
  rw [HN1.out] at HFIN
  exact HFIN.out
end Go.Proofs.YtfdbcfkjablnkaaGreat

namespace Go.Proofs.YtfdbcfkjablnkaaGreat
open Go.RowKit Go.Shelf
set_option maxRecDepth 100000

section
variable {w w' : World} {S S' : Nat → Prop} {b r m n cp : Nat} {A : Option Addr} {X : List Sx}
theorem TblAt.apart (h : TblAt w S b r m A n cp X) : b ≠ m ∧ (∀ g, (Value.slice A n cp).ownBlock = some g → g ≠ b ∧ g ≠ m) ∧ ∀ x ∈ X, x.m ≠ b ∧ x.m ≠ m ∧ ∀ g, (Value.slice A n cp).ownBlock = some g → x.m ≠ g := by
  refine ⟨fun e => h.map.not_cells _ _ _ (by rw [← e]; exact h.row), fun g hg => ?_, fun x hx => ?_⟩
  · obtain ⟨cs, hc⟩ := tord_row h.ord hg
    refine ⟨fun e => ?_, fun e => h.map.not_cells _ _ _ (by rw [← e]; exact hc)⟩
    have := h.row
    rw [← e, hc] at this
    injection this with this
    injection this with _ this
    exact absurd this (by decide)
  · have hm := (h.slots x hx).map
    refine ⟨fun e => hm.not_cells _ _ _ (by rw [e]; exact h.row), fun e => ?_, fun g hg e => ?_⟩
    · have := (List.nodup_cons.1 h.maps).1
      exact this (List.mem_map.2 ⟨x, hx, e⟩)
    · obtain ⟨cs, hc⟩ := tord_row h.ord hg
      exact hm.not_cells _ _ _ (by rw [e]; exact hc)
/-- the blocks of the table itself are no slot, no payload -/
theorem TblAt.plain (h : TblAt w S b r m A n cp X) : ∀ q, (q = b ∨ q = m ∨ (Value.slice A n cp).ownBlock = some q) → (∀ cs, w.heap[q]? ≠ some (.cells cs 5 (0, 0))) ∧ ∀ cs, w.heap[q]? ≠ some (.cells cs 147 (0, 0)) := by
  have key : ∀ (q : Nat) (cs : Array Value) (t : TypeId), w.heap[q]? = some (.cells cs t (0, 0)) → t ≠ 5 → t ≠ 147 → (∀ cs, w.heap[q]? ≠ some (.cells cs 5 (0, 0))) ∧ ∀ cs, w.heap[q]? ≠ some (.cells cs 147 (0, 0)) := fun q cs t h0 h1 h2 => by
    refine ⟨fun cs' h3 => ?_, fun cs' h3 => ?_⟩
    · rw [h0] at h3
      injection h3 with h3
      injection h3 with _ h3
      exact h1 h3
    · rw [h0] at h3
      injection h3 with h3
      injection h3 with _ h3
      exact h2 h3
  rintro q (rfl | rfl | hq)
  · exact key _ _ _ h.row (by decide) (by decide)
  · exact ⟨fun cs => h.map.not_cells _ _ _, fun cs => h.map.not_cells _ _ _⟩
  · obtain ⟨cs, hc⟩ := tord_row h.ord hq
    exact key _ _ _ hc (by decide) (by decide)
theorem filter_s {j : Nat} {x : Sx} (hk : (X.map Sx.s).Nodup) (hj : X[j]? = some x) : (X.filter fun y => y.s != x.s) = X.take j ++ X.drop (j + 1) := by
  rw [← List.eraseIdx_eq_take_drop_succ, ← ChangeMaps.filter_eq_eraseIdx (fun y : Sx => y.s == x.s) X j x hj (by simp) ?_]
  · refine List.filter_congr fun y _ => ?_
    simp [bne]
  · refine (List.pairwise_map.1 hk).imp fun {y z} hyz hh => ?_
    simp only [beq_iff_eq] at hh
    exact hyz (hh.1.trans hh.2.symm)
theorem filter_key (X : List Sx) (z : Int) : (X.map Sx.key).filter (fun p => p.1 != z) = (X.filter fun y => y.s != z).map Sx.key := by
  rw [List.filter_map]
  rfl
theorem filter_ms (X : List Sx) (z : Int) : Tb.drop (X.map Sx.ms) z = (X.filter fun y => y.s != z).map Sx.ms := by
  unfold Tb.drop
  rw [List.filter_map]
  rfl
/-- what Drop leaves -/
def TDropR (w : World) (S : Nat → Prop) (b r m : Nat) (A : Option Addr) (n cp : Nat) (X : List Sx) (z : Int) (e : Ending) (w' : World) : Prop :=
  ((∀ x ∈ X, x.s ≠ z) ∧ e = .returned (.bool false) ∧ w' = w) ∨
  ((∃ x ∈ X, x.s = z) ∧ e = .returned (.bool true) ∧ TOff (fun q => q = b ∨ q = m ∨ (Value.slice A n cp).ownBlock = some q) w w' ∧ TblAt w' S b r m A (n - 1) cp (X.filter fun y => y.s != z))
theorem own_blk {A : Option Addr} {n n' cp cp' : Nat} : (Value.slice A n cp).ownBlock = (Value.slice A n' cp').ownBlock := by cases A <;> rfl
/-- the table behind a delete -/
theorem TblAt.dropped {w1 w2 w4 : World} {g j : Nat} {x : Sx} (h : TblAt w S b r m (some ⟨g, 0, none⟩) n cp X) (hj : X[j]? = some x) (hb1 : Below w.heap.size w w1)
    (hown : w2.ownsRow 0 22 1 (.slice (some ⟨g, 0, none⟩) (n - 1) cp) (n - 1) (((X.map Sx.s).take j ++ (X.map Sx.s).drop (j + 1)).map (Value.int .u32))) (ho2 : Off (fun q => q = g) w1 w2)
    (hmap : TMapAt w4 m ((X.map Sx.key).filter fun p => p.1 != x.s)) (ho4 : Off (fun q => q = m) (w2.setCell ⟨b, 1, none⟩ (.slice (some ⟨g, 0, none⟩) (n - 1) cp)) w4) :
    TOff (fun q => q = b ∨ q = m ∨ (Value.slice (some ⟨g, 0, none⟩) n cp).ownBlock = some q) w w4 ∧ TblAt w4 S b r m (some ⟨g, 0, none⟩) (n - 1) cp (X.filter fun y => y.s != x.s) := by
  have hj2 : j < n := by rw [← h.len]; exact (List.getElem?_eq_some_iff.1 hj).1
  obtain ⟨hbm, hgn, hxs⟩ := h.apart
  obtain ⟨hgb, hgm⟩ := hgn g rfl
  have hpl := h.plain
  have hr2 : w2.heap[b]? = some (.cells #[.int .i64 (r : Int), .slice (some ⟨g, 0, none⟩) n cp, .map (some m)] 97 (0, 0)) := (ho2.block b (Nat.lt_of_lt_of_le h.lt hb1.size) (Ne.symm hgb)).trans (h.below hb1).row
  have hlt2 : b < w2.heap.size := (Array.getElem?_eq_some_iff.1 hr2).1
  have hoff : Off (fun q => q = b ∨ q = m ∨ q = g) w w4 := by
    have h1 : Off (fun q => q = b ∨ q = m ∨ q = g) w w2 := (Off.of_below hb1).trans ho2 (fun q _ e => .inr (.inr e))
    exact (h1.setCell (p := ⟨b, 1, none⟩) (.inl rfl) _).trans ho4 (fun q _ e => .inr (.inl e))
  have htoff : TOff (fun q => q = b ∨ q = m ∨ (Value.slice (some ⟨g, 0, none⟩) n cp).ownBlock = some q) w w4 := Off.mono hoff fun q _ hq => by
    have hq' : q = b ∨ q = m ∨ (Value.slice (some ⟨g, 0, none⟩) n cp).ownBlock = some q := by
      rcases hq with e | e | e
      · exact .inl e
      · exact .inr (.inl e)
      · exact .inr (.inr (by rw [e]; rfl))
    exact ⟨hq', hpl q hq'⟩
  have hf := filter_s h.keys.1 hj
  have hlen : (X.filter fun y => y.s != x.s).length = n - 1 := by
    have := h.len
    rw [hf, List.length_append, List.length_take, List.length_drop]
    omega
  have ho24 : Off (fun q => q = b ∨ q = m) w2 w4 := ((Off.refl _ w2).setCell (p := ⟨b, 1, none⟩) (.inl rfl) _).trans ho4 fun q _ e => .inr e
  refine ⟨htoff, ?_, hlen, ?_, ?_, fun y hy => ?_, ?_, h.room, by have := h.few; omega, h.inS.1, h.inS.2.1, fun q hq => h.inS.2.2.1 q (by rw [← hq]; exact own_blk), fun y hy => h.inS.2.2.2 y (List.mem_filter.1 hy).1⟩
  · refine (ho4.block b (by simpa [World.setCell] using hlt2) hbm).trans ?_
    rw [setCell_at hr2]
    rfl
  · rw [hf, List.map_append, List.map_take, List.map_drop]
    exact tord_off hown ho24 fun q hq e => by
      obtain rfl : g = q := by simpa [Value.ownBlock] using hq
      rcases e with e | e
      · exact hgb e
      · exact hgm e
  · rw [← filter_key]
    exact hmap
  · have hy2 := (List.mem_filter.1 hy).1
    obtain ⟨n1, n2, n3⟩ := hxs y hy2
    refine (h.slots y hy2).toff htoff fun e => ?_
    rcases e with e | e | e
    · exact n1 e
    · exact n2 e
    · exact n3 _ e rfl
  · exact (List.Sublist.cons_cons m (List.filter_sublist.map Sx.m)).nodup h.maps
set_option maxHeartbeats 4000000 in
theorem tdrop_any (h : TblAt w S b r m A n cp X) {z : Int} (hz : 0 ≤ z ∧ z ≤ 4294967295) :
    Calls Tryz.prog 29 #[.pointer (some ⟨b, 0, none⟩), .int .u32 z] w (TDropR w S b r m A n cp X z) := by
  obtain ⟨c0, c1, c2⟩ := h.cells
  have hlook := h.look false hz
  by_cases hin : ∃ x ∈ X, x.s = z
  · obtain ⟨x0, hx0, hz0⟩ := hin
    have hte := te_of h hx0
    rw [hz0] at hte
    rw [hte] at hlook
    simp only [teVal] at hlook
    have KP := Lib.hid (tplace_any h ⟨x0, hx0, hz0⟩)
    obtain ⟨g, rfl⟩ : ∃ g, A = some ⟨g, 0, none⟩ := by
      rcases h.ord.2 with ⟨h0, h1⟩ | ⟨g, cap, cur, hv, _⟩
      · have := h.len
        cases X with
        | nil => cases hx0
        | cons _ _ => simp only [List.length_cons] at this; omega
      · injection hv with hv
        exact ⟨g, hv⟩
    have hgb := (h.apart.2.1 g rfl).1
    have HT := Lib.hid h
    generalize hG : TDropR w S b r m (some ⟨g, 0, none⟩) n cp X z = G
    have HG := Lib.hid hG
    clear h hG hte
    go_enter Tryz.func29, Tryz.ntmps29
    go_wp2_with fail
    refine KP.out.mono ?_
    rintro e w1 ⟨j, x, hj, hxz, rfl, hb1⟩
    have hjn : j < n := by rw [← HT.out.len]; exact (List.getElem?_eq_some_iff.1 hj).1
    have hT1 := HT.out.below hb1
    obtain ⟨d0, d1, d2⟩ := hT1.cells
    have hj16 : (j : Int) ≤ 16 := by have := HT.out.few; have := HT.out.room; omega
    have KD := delete_u32 0 g cp n j (X.map Sx.s) w1 hjn hT1.ord
    have HT1 := Lib.hid hT1
    have HJ := Lib.hid hj
    have HB1 := Lib.hid hb1
    have HXZ := Lib.hid hxz
    clear hT1 hj hxz hb1 KP c0 c1 c2 hlook
    go_wp2_with fail
    refine KD.mono ?_
    rintro e w2 ⟨rfl, hown, ho2⟩
    have hr2 : w2.heap[b]? = some (.cells #[.int .i64 (r : Int), .slice (some ⟨g, 0, none⟩) n cp, .map (some m)] 97 (0, 0)) := (ho2.block b HT1.out.lt (Ne.symm hgb)).trans HT1.out.row
    have hgm : g ≠ m := (HT.out.apart.2.1 g rfl).2
    have hm2 : TMapAt (w2.setCell ⟨b, 1, none⟩ (.slice (some ⟨g, 0, none⟩) (n - 1) cp)) m (X.map Sx.key) := ((HT1.out.map.off ho2 (Ne.symm hgm)).off (((Off.refl (fun q => q = b) w2).setCell (p := ⟨b, 1, none⟩) rfl _)) (Ne.symm HT.out.apart.1))
    have hin2 : teAt (X.map Sx.key) z = some x.b := by rw [← HXZ.out]; exact te_of HT.out (List.mem_of_getElem? HJ.out)
    obtain ⟨w4, hdel, hmap4, ho4, hs4⟩ := hm2.run_del Tryz.underlying94 Tryz.underlying22 hz hin2
    have e2 : w2.cell? ⟨b, 2, none⟩ = some (.map (some m)) := by simp [World.cell?, hr2]
    have e1 : w2.cell? ⟨b, 1, none⟩ = some (.slice (some ⟨g, 0, none⟩) n cp) := by simp [World.cell?, hr2]
    have f1 : w2.frozen? ⟨b, 1, none⟩ = false := by simp [World.frozen?, hr2]
    have HFIN : Hid (G (.returned (.bool true)) w4) := by
      rw [← HG.out]
      rw [← HXZ.out] at hmap4
      obtain ⟨q1, q2⟩ := HT.out.dropped HJ.out HB1.out hown ho2 hmap4 ho4
      rw [HXZ.out] at q2
      exact .inr ⟨⟨x, List.mem_of_getElem? HJ.out, HXZ.out⟩, rfl, q1, q2⟩
    clear KD hown ho2 hr2 hm2 hin2 hmap4 ho4 HJ HB1 HXZ HT HT1 hs4
    go_wp2
    exact HFIN.out
  · have hno : ∀ x ∈ X, x.s ≠ z := fun x hx e => hin ⟨x, hx, e⟩
    rw [te_none hno] at hlook
    simp only [teVal] at hlook
    have HFIN : Hid (TDropR w S b r m A n cp X z (.returned (.bool false)) w) := .inl ⟨hno, rfl, rfl⟩
    clear h hin hno
    generalize TDropR w S b r m A n cp X z = G at *
    go_enter Tryz.func29, Tryz.ntmps29
    go_wp2
    exact HFIN.out
end
end Go.Proofs.YtfdbcfkjablnkaaGreat

namespace Go.Proofs.YtfdbcfkjablnkaaGreat
open Go.RowKit Go.Shelf
set_option maxRecDepth 100000
attribute [local go_sem] Oper.semAt_some

/-- the function that is handed to taken: by Newest (true), by Oldest (false) -/
abbrev stead : Bool → Value
  | true => .func (.func 80) #[] #[]
  | false => .func (.func 102) #[] #[]

theorem taken_any (a : Option Addr) (n c : Nat) (f : Bool) (w : World) :
    Calls Tryz.prog 101 #[.slice a n c, stead f] w fun e w' => e = .returned (.func (.func 109) #[] #[.pointer (some ⟨w.heap.size, 0, none⟩), .pointer (some ⟨w.heap.size + 1, 0, none⟩)]) ∧ w' = (w.alloc (.cells #[.slice a n c] 95)).alloc (.cells #[stead f] 104) := by
  cases f <;>
  · go_enter Tryz.func101, Tryz.ntmps101
    go_wp2
    go_ret
    exact ⟨by simp, rfl⟩

set_option maxHeartbeats 2000000 in
/-- the closure: it hands the first number, and each that is to be taken in the stead of the one that was taken ahead of it, to the loop's body, till the body says no more, or there is none left -/
theorem takenN_in (n : Nat) (hn : 1 ≤ n) (m' l Bs Bf m c : Nat) (S : Nat → Prop) (w : World) (hS : ∀ k, S k → k < w.heap.size) (A : Option Addr) (zs : List Int) (hm : zs.length = m) (hl : m ≤ 1000000) (hz : Sr.U zs) (hc : m ≤ c) (J : Nat → World → Prop) (Jx : World → Prop)
    (hY : ∀ (j : Nat) (x : Int) (W : World), J j W → KeepS S w W → (Sr.tk true true 0 zs)[j]? = some x →
      YieldAt Fence.wide m' Tryz.prog l #[.int .u32 x] W fun e W' => (e = .returned (.bool true) ∧ J (j + 1) W' ∧ KeepS S W W') ∨ (e = .returned (.bool false) ∧ Jx W'))
    (W : World) (hSB : S Bs) (hSF : S Bf) (hBs : w.cell? ⟨Bs, 0, none⟩ = some (.slice A m c)) (hBf : w.cell? ⟨Bf, 0, none⟩ = some (.func (.func 80) #[] #[])) (hK : KeepS S w W) (hN : NumsS .u32 w S A zs) (h0 : J 0 W) :
    CallsIn Fence.wide n Tryz.prog 109 #[.func (.yield l) #[] #[], .pointer (some ⟨Bs, 0, none⟩), .pointer (some ⟨Bf, 0, none⟩)] W fun e W' => (∃ v, e = .returned v) ∧ ((J (Sr.tk true true 0 zs).length W' ∧ KeepS S w W') ∨ Jx W') := by
  have HM := Lib.hid hm
  clear hm
  have HZ := Lib.hid hz
  clear hz
  have bs0 : W.cell? ⟨Bs, 0, none⟩ = some (.slice A m c) := (hK.cell (p := ⟨Bs, 0, none⟩) hSB).trans hBs
  refine callsIn_of_wp Tryz.func109 rfl trivial ?_ rfl
  simp only [Tryz.ntmps109, List.size_toArray, List.length_cons, List.length_nil, Nat.reduceAdd, Nat.reduceSub, Array.replicate_succ, Array.replicate_zero, List.push_toArray, List.append_toArray, List.nil_append, List.cons_append]
  gi_wp2
  refine wpIn_wide.2 (wp_scope_straight ((wpIn_wide (n := n)).1 ?_))
  gi_wp2
  apply wpIn_label
  gi_wp2
  clear bs0
  gi_loopw [4, 9] (fun u v wr => ∃ (k : Nat) (now : Int) (pre : List Int), k ≤ m ∧ (0 ≤ now ∧ now < 4294967296) ∧ u = .int .u32 now ∧ v = .int .i64 (k : Int) ∧ Hid (Sr.tk true true 0 zs = pre ++ Sr.tk true (decide (k = 0)) now (zs.drop k)) ∧ J pre.length wr ∧ KeepS S w wr)
    (fun _ v _ => m - (intOf v).toNat)
  case atStart => exact ⟨0, 0, [], by omega, by omega, rfl, rfl, rfl, h0, hK⟩
  case round =>
    obtain ⟨k, now, pre, hkm, hnow, rfl, rfl, HP, hJ, hk⟩ := hrel
    have hbx : wr.cell? ⟨Bs, 0, none⟩ = some (.slice A m c) := (hk.cell (p := ⟨Bs, 0, none⟩) hSB).trans hBs
    have hbf : wr.cell? ⟨Bf, 0, none⟩ = some (.func (.func 80) #[] #[]) := (hk.cell (p := ⟨Bf, 0, none⟩) hSF).trans hBf
    have hmc : (m : Int) ≤ (c : Int) := by omega
    rcases Nat.lt_or_ge k m with h4 | h4
    · obtain ⟨z, hget⟩ : ∃ z, zs[k]? = some z := ⟨_, List.getElem?_eq_getElem (by rw [HM.out]; exact h4)⟩
      have hzU : 0 ≤ z ∧ z < 4294967296 := HZ.out z (List.mem_of_getElem? hget)
      obtain ⟨b1, o1, rfl, hb1, hc1⟩ := ((hN.keeps hk).nums hS).open hget
      have h4' : (k : Int) < (m : Int) := by omega
      by_cases hk0 : k = 0
      · subst hk0
        have HS : Hid (Sr.tk true true 0 zs = (pre ++ [z]) ++ Sr.tk true (decide (0 + 1 = 0)) z (zs.drop (0 + 1))) := by
          show _ = _
          rw [HP.out, Sr.tk_step _ _ _ hget, if_pos (by simp), List.append_assoc, List.singleton_append, decide_eq_false (Nat.succ_ne_zero 0)]
        have hge : (Sr.tk true true 0 zs)[pre.length]? = some z := by
          rw [HS.out, List.append_assoc, List.getElem?_append_right (Nat.le_refl _), Nat.sub_self]; rfl
        have HYr := Lib.hid (hY pre.length z wr hJ hk hge)
        clear hge
        rw [Nat.add_zero] at hc1
        have he0 : ((0 : Nat) : Int) = 0 := rfl
        clear hget
        rw [he0]
        obtain ⟨fn, tmps, assign, body, hy, hR⟩ := yield_any (n - 1) HYr.out
        have HR := Lib.hid hR
        clear hR HYr
        gi_wp2_with fail
        refine ⟨fun f hf => (by cases hf), ?_⟩
        gi_wp2_with fail
        refine HR.out.mono ?_
        rintro e W3 (⟨rfl, hJ3, hk3⟩ | ⟨rfl, hJx3⟩)
        · gi_wp2
          go_roundw
          case rel => exact ⟨0 + 1, z, pre ++ [z], by omega, hzU, rfl, by go_num, HS, by rw [List.length_append, List.length_singleton]; exact hJ3, hk.trans hk3⟩
          case measure => simp [intOf]; omega
        · gi_wp2
          first | go_end0 | (rw [Exit.noGoto_normal]; go_end0)
          exact ⟨⟨_, rfl⟩, .inr hJx3⟩
      · have hk1 : (0 : Int) < (k : Int) := by omega
        have K := after_any z now wr hzU hnow
        have HC : Hid (Sr.st true z now = Sr.after z now) := rfl
        generalize Sr.after z now = r at *
        have hd0 : decide (k = 0) = false := decide_eq_false hk0
        cases r with
        | true =>
          have HS : Hid (Sr.tk true true 0 zs = (pre ++ [z]) ++ Sr.tk true (decide (k + 1 = 0)) z (zs.drop (k + 1))) := by
            show _ = _
            rw [HP.out, Sr.tk_step _ _ _ hget, if_pos (by rw [HC.out, Bool.or_true]), List.append_assoc, List.singleton_append, decide_eq_false (Nat.succ_ne_zero k)]
          have hge : (Sr.tk true true 0 zs)[pre.length]? = some z := by
            rw [HS.out, List.append_assoc, List.getElem?_append_right (Nat.le_refl _), Nat.sub_self]; rfl
          have HYr := Lib.hid (hY pre.length z wr hJ hk hge)
          clear hge
          clear hget hd0 hk0
          gi_wp2_with fail
          refine ⟨trivial, ?_⟩
          refine (callsIn_wide.2 K).mono ?_
          rintro e w1 ⟨rfl, rfl⟩
          clear K
          obtain ⟨fn, tmps, assign, body, hy, hR⟩ := yield_any (n - 1) HYr.out
          have HR := Lib.hid hR
          clear hR HYr
          gi_wp2_with fail
          refine HR.out.mono ?_
          rintro e W3 (⟨rfl, hJ3, hk3⟩ | ⟨rfl, hJx3⟩)
          · gi_wp2
            go_roundw
            case rel => exact ⟨k + 1, z, pre ++ [z], by omega, hzU, rfl, by go_num, HS, by rw [List.length_append, List.length_singleton]; exact hJ3, hk.trans hk3⟩
            case measure => simp [intOf]; omega
          · gi_wp2
            first | go_end0 | (rw [Exit.noGoto_normal]; go_end0)
            exact ⟨⟨_, rfl⟩, .inr hJx3⟩
        | false =>
          have HS : Hid (Sr.tk true true 0 zs = pre ++ Sr.tk true (decide (k + 1 = 0)) now (zs.drop (k + 1))) := by
            show _ = _
            rw [HP.out, Sr.tk_step _ _ _ hget, if_neg (by rw [HC.out, hd0]; simp), decide_eq_false (Nat.succ_ne_zero k)]
          clear hget hd0 hk0
          gi_wp2_with fail
          refine ⟨trivial, ?_⟩
          refine (callsIn_wide.2 K).mono ?_
          rintro e w1 ⟨rfl, rfl⟩
          clear K
          gi_wp2
          go_roundw
          case rel => exact ⟨k + 1, now, pre, by omega, hnow, rfl, by go_num, HS, hJ, hk⟩
          case measure => simp [intOf]; omega
    · have hkm' : k = m := by omega
      have HS : Hid (Sr.tk true true 0 zs = pre) := by
        show _ = _
        rw [HP.out, List.drop_eq_nil_of_le (by rw [HM.out]; exact h4)]
        exact List.append_nil _
      subst hkm'
      gi_wp2
      first | go_end0 | (rw [Exit.noGoto_normal]; go_end0)
      rw [HS.out]
      exact ⟨⟨_, rfl⟩, .inl ⟨hJ, hk⟩⟩

set_option maxHeartbeats 2000000 in
/-- the closure: it hands the first number, and each that is to be taken in the stead of the one that was taken ahead of it, to the loop's body, till the body says no more, or there is none left -/
theorem takenO_in (n : Nat) (hn : 1 ≤ n) (m' l Bs Bf m c : Nat) (S : Nat → Prop) (w : World) (hS : ∀ k, S k → k < w.heap.size) (A : Option Addr) (zs : List Int) (hm : zs.length = m) (hl : m ≤ 1000000) (hz : Sr.U zs) (hc : m ≤ c) (J : Nat → World → Prop) (Jx : World → Prop)
    (hY : ∀ (j : Nat) (x : Int) (W : World), J j W → KeepS S w W → (Sr.tk false true 0 zs)[j]? = some x →
      YieldAt Fence.wide m' Tryz.prog l #[.int .u32 x] W fun e W' => (e = .returned (.bool true) ∧ J (j + 1) W' ∧ KeepS S W W') ∨ (e = .returned (.bool false) ∧ Jx W'))
    (W : World) (hSB : S Bs) (hSF : S Bf) (hBs : w.cell? ⟨Bs, 0, none⟩ = some (.slice A m c)) (hBf : w.cell? ⟨Bf, 0, none⟩ = some (.func (.func 102) #[] #[])) (hK : KeepS S w W) (hN : NumsS .u32 w S A zs) (h0 : J 0 W) :
    CallsIn Fence.wide n Tryz.prog 109 #[.func (.yield l) #[] #[], .pointer (some ⟨Bs, 0, none⟩), .pointer (some ⟨Bf, 0, none⟩)] W fun e W' => (∃ v, e = .returned v) ∧ ((J (Sr.tk false true 0 zs).length W' ∧ KeepS S w W') ∨ Jx W') := by
  have HM := Lib.hid hm
  clear hm
  have HZ := Lib.hid hz
  clear hz
  have bs0 : W.cell? ⟨Bs, 0, none⟩ = some (.slice A m c) := (hK.cell (p := ⟨Bs, 0, none⟩) hSB).trans hBs
  refine callsIn_of_wp Tryz.func109 rfl trivial ?_ rfl
  simp only [Tryz.ntmps109, List.size_toArray, List.length_cons, List.length_nil, Nat.reduceAdd, Nat.reduceSub, Array.replicate_succ, Array.replicate_zero, List.push_toArray, List.append_toArray, List.nil_append, List.cons_append]
  gi_wp2
  refine wpIn_wide.2 (wp_scope_straight ((wpIn_wide (n := n)).1 ?_))
  gi_wp2
  apply wpIn_label
  gi_wp2
  clear bs0
  gi_loopw [4, 9] (fun u v wr => ∃ (k : Nat) (now : Int) (pre : List Int), k ≤ m ∧ (0 ≤ now ∧ now < 4294967296) ∧ u = .int .u32 now ∧ v = .int .i64 (k : Int) ∧ Hid (Sr.tk false true 0 zs = pre ++ Sr.tk false (decide (k = 0)) now (zs.drop k)) ∧ J pre.length wr ∧ KeepS S w wr)
    (fun _ v _ => m - (intOf v).toNat)
  case atStart => exact ⟨0, 0, [], by omega, by omega, rfl, rfl, rfl, h0, hK⟩
  case round =>
    obtain ⟨k, now, pre, hkm, hnow, rfl, rfl, HP, hJ, hk⟩ := hrel
    have hbx : wr.cell? ⟨Bs, 0, none⟩ = some (.slice A m c) := (hk.cell (p := ⟨Bs, 0, none⟩) hSB).trans hBs
    have hbf : wr.cell? ⟨Bf, 0, none⟩ = some (.func (.func 102) #[] #[]) := (hk.cell (p := ⟨Bf, 0, none⟩) hSF).trans hBf
    have hmc : (m : Int) ≤ (c : Int) := by omega
    rcases Nat.lt_or_ge k m with h4 | h4
    · obtain ⟨z, hget⟩ : ∃ z, zs[k]? = some z := ⟨_, List.getElem?_eq_getElem (by rw [HM.out]; exact h4)⟩
      have hzU : 0 ≤ z ∧ z < 4294967296 := HZ.out z (List.mem_of_getElem? hget)
      obtain ⟨b1, o1, rfl, hb1, hc1⟩ := ((hN.keeps hk).nums hS).open hget
      have h4' : (k : Int) < (m : Int) := by omega
      by_cases hk0 : k = 0
      · subst hk0
        have HS : Hid (Sr.tk false true 0 zs = (pre ++ [z]) ++ Sr.tk false (decide (0 + 1 = 0)) z (zs.drop (0 + 1))) := by
          show _ = _
          rw [HP.out, Sr.tk_step _ _ _ hget, if_pos (by simp), List.append_assoc, List.singleton_append, decide_eq_false (Nat.succ_ne_zero 0)]
        have hge : (Sr.tk false true 0 zs)[pre.length]? = some z := by
          rw [HS.out, List.append_assoc, List.getElem?_append_right (Nat.le_refl _), Nat.sub_self]; rfl
        have HYr := Lib.hid (hY pre.length z wr hJ hk hge)
        clear hge
        rw [Nat.add_zero] at hc1
        have he0 : ((0 : Nat) : Int) = 0 := rfl
        clear hget
        rw [he0]
        obtain ⟨fn, tmps, assign, body, hy, hR⟩ := yield_any (n - 1) HYr.out
        have HR := Lib.hid hR
        clear hR HYr
        gi_wp2_with fail
        refine ⟨fun f hf => (by cases hf), ?_⟩
        gi_wp2_with fail
        refine HR.out.mono ?_
        rintro e W3 (⟨rfl, hJ3, hk3⟩ | ⟨rfl, hJx3⟩)
        · gi_wp2
          go_roundw
          case rel => exact ⟨0 + 1, z, pre ++ [z], by omega, hzU, rfl, by go_num, HS, by rw [List.length_append, List.length_singleton]; exact hJ3, hk.trans hk3⟩
          case measure => simp [intOf]; omega
        · gi_wp2
          first | go_end0 | (rw [Exit.noGoto_normal]; go_end0)
          exact ⟨⟨_, rfl⟩, .inr hJx3⟩
      · have hk1 : (0 : Int) < (k : Int) := by omega
        have K := ahead_any z now wr hzU hnow
        have HC : Hid (Sr.st false z now = Sr.after now z) := rfl
        generalize Sr.after now z = r at *
        have hd0 : decide (k = 0) = false := decide_eq_false hk0
        cases r with
        | true =>
          have HS : Hid (Sr.tk false true 0 zs = (pre ++ [z]) ++ Sr.tk false (decide (k + 1 = 0)) z (zs.drop (k + 1))) := by
            show _ = _
            rw [HP.out, Sr.tk_step _ _ _ hget, if_pos (by rw [HC.out, Bool.or_true]), List.append_assoc, List.singleton_append, decide_eq_false (Nat.succ_ne_zero k)]
          have hge : (Sr.tk false true 0 zs)[pre.length]? = some z := by
            rw [HS.out, List.append_assoc, List.getElem?_append_right (Nat.le_refl _), Nat.sub_self]; rfl
          have HYr := Lib.hid (hY pre.length z wr hJ hk hge)
          clear hge
          clear hget hd0 hk0
          gi_wp2_with fail
          refine ⟨trivial, ?_⟩
          refine (callsIn_wide.2 K).mono ?_
          rintro e w1 ⟨rfl, rfl⟩
          clear K
          obtain ⟨fn, tmps, assign, body, hy, hR⟩ := yield_any (n - 1) HYr.out
          have HR := Lib.hid hR
          clear hR HYr
          gi_wp2_with fail
          refine HR.out.mono ?_
          rintro e W3 (⟨rfl, hJ3, hk3⟩ | ⟨rfl, hJx3⟩)
          · gi_wp2
            go_roundw
            case rel => exact ⟨k + 1, z, pre ++ [z], by omega, hzU, rfl, by go_num, HS, by rw [List.length_append, List.length_singleton]; exact hJ3, hk.trans hk3⟩
            case measure => simp [intOf]; omega
          · gi_wp2
            first | go_end0 | (rw [Exit.noGoto_normal]; go_end0)
            exact ⟨⟨_, rfl⟩, .inr hJx3⟩
        | false =>
          have HS : Hid (Sr.tk false true 0 zs = pre ++ Sr.tk false (decide (k + 1 = 0)) now (zs.drop (k + 1))) := by
            show _ = _
            rw [HP.out, Sr.tk_step _ _ _ hget, if_neg (by rw [HC.out, hd0]; simp), decide_eq_false (Nat.succ_ne_zero k)]
          clear hget hd0 hk0
          gi_wp2_with fail
          refine ⟨trivial, ?_⟩
          refine (callsIn_wide.2 K).mono ?_
          rintro e w1 ⟨rfl, rfl⟩
          clear K
          gi_wp2
          go_roundw
          case rel => exact ⟨k + 1, now, pre, by omega, hnow, rfl, by go_num, HS, hJ, hk⟩
          case measure => simp [intOf]; omega
    · have hkm' : k = m := by omega
      have HS : Hid (Sr.tk false true 0 zs = pre) := by
        show _ = _
        rw [HP.out, List.drop_eq_nil_of_le (by rw [HM.out]; exact h4)]
        exact List.append_nil _
      subst hkm'
      gi_wp2
      first | go_end0 | (rw [Exit.noGoto_normal]; go_end0)
      rw [HS.out]
      exact ⟨⟨_, rfl⟩, .inl ⟨hJ, hk⟩⟩
end Go.Proofs.YtfdbcfkjablnkaaGreat

namespace Go.Proofs.YtfdbcfkjablnkaaGreat
open Go.RowKit Go.Shelf
set_option maxRecDepth 100000
attribute [local go_sem] Oper.semAt_some

/-- either closure, in one -/
theorem taken_in (f : Bool) (n : Nat) (hn : 1 ≤ n) (m' l Bs Bf m c : Nat) (S : Nat → Prop) (w : World) (hS : ∀ k, S k → k < w.heap.size) (A : Option Addr) (zs : List Int) (hm : zs.length = m) (hl : m ≤ 1000000) (hz : Sr.U zs) (hc : m ≤ c) (J : Nat → World → Prop) (Jx : World → Prop)
    (hY : ∀ (j : Nat) (x : Int) (W : World), J j W → KeepS S w W → (Sr.tk f true 0 zs)[j]? = some x →
      YieldAt Fence.wide m' Tryz.prog l #[.int .u32 x] W fun e W' => (e = .returned (.bool true) ∧ J (j + 1) W' ∧ KeepS S W W') ∨ (e = .returned (.bool false) ∧ Jx W'))
    (W : World) (hSB : S Bs) (hSF : S Bf) (hBs : w.cell? ⟨Bs, 0, none⟩ = some (.slice A m c)) (hBf : w.cell? ⟨Bf, 0, none⟩ = some (stead f)) (hK : KeepS S w W) (hN : NumsS .u32 w S A zs) (h0 : J 0 W) :
    CallsIn Fence.wide n Tryz.prog 109 #[.func (.yield l) #[] #[], .pointer (some ⟨Bs, 0, none⟩), .pointer (some ⟨Bf, 0, none⟩)] W fun e W' => (∃ v, e = .returned v) ∧ ((J (Sr.tk f true 0 zs).length W' ∧ KeepS S w W') ∨ Jx W') := by
  cases f
  · exact takenO_in n hn m' l Bs Bf m c S w hS A zs hm hl hz hc J Jx hY W hSB hSF hBs hBf hK hN h0
  · exact takenN_in n hn m' l Bs Bf m c S w hS A zs hm hl hz hc J Jx hY W hSB hSF hBs hBf hK hN h0

/-- behind j numbers that were given: the boxes s and s + 1 hold the last one and whether there is one; all else is as it was -/
def Lst (w : World) (s : Nat) (j : Nat) (x : Int) (b : Bool) (V : World) : Prop :=
  Boxed V s 22 (.int .u32 x) ∧ Boxed V (s + 1) 4 (.bool b) ∧ Off (fun k => k = s ∨ k = s + 1) w V ∧ (0 < j → b = true) ∧ (j = 0 → b = false)
theorem Lst.below {w V V' : World} {s j : Nat} {x : Int} {b : Bool} (h : Lst w s j x b V) (hs : s + 1 < w.heap.size) (hB : Below w.heap.size V V') : Lst w s j x b V' :=
  ⟨(hB.block s (by omega)).trans h.1, (hB.block (s + 1) hs).trans h.2.1, off_below h.2.2.1 hB, h.2.2.2⟩
theorem Lst.put {w V : World} {s j : Nat} {y : Int} {b : Bool} (x : Int) (h : Lst w s j y b V) : Lst w s j x b (V.setCell ⟨s, 0, none⟩ (.int .u32 x)) :=
  ⟨Boxed.set _ h.1, (Below.heap_setCell V ⟨s, 0, none⟩ _ (s + 1) (by simp)).trans h.2.1, h.2.2.1.setCell (p := ⟨s, 0, none⟩) (.inl rfl) _, h.2.2.2⟩
theorem Lst.flag {w V : World} {s j : Nat} {x : Int} {b : Bool} (h : Lst w s j x b V) : Lst w s (j + 1) x true (V.setCell ⟨s + 1, 0, none⟩ (.bool true)) :=
  ⟨(Below.heap_setCell V ⟨s + 1, 0, none⟩ _ s (by simp)).trans h.1, Boxed.set _ h.2.1, h.2.2.1.setCell (p := ⟨s + 1, 0, none⟩) (.inr rfl) _, fun _ => rfl, fun h => absurd h (Nat.succ_ne_zero j)⟩

set_option maxHeartbeats 4000000 in
theorem slast_any (f : Bool) (Bs Bf m c : Nat) (A : Option Addr) (zs : List Int) (w : World) (hm : zs.length = m) (hl : m ≤ 1000000) (hz : Sr.U zs) (hc : m ≤ c)
    (hBsl : Bs < w.heap.size) (hBfl : Bf < w.heap.size) (hBs : w.cell? ⟨Bs, 0, none⟩ = some (.slice A m c)) (hBf : w.cell? ⟨Bf, 0, none⟩ = some (stead f)) (hN : Nums .u32 w w.heap.size A zs) :
    Calls Tryz.prog 100 #[.func (.func 109) #[] #[.pointer (some ⟨Bs, 0, none⟩), .pointer (some ⟨Bf, 0, none⟩)]] w fun e w' =>
      e = .returned (.tuple #[.int .u32 (Sr.bst f zs), .bool (decide (0 < m))]) ∧ Below w.heap.size w w' := by
  refine (callsIn_wide (n := 3)).1 ?_
  refine callsIn_of_wp_marks Tryz.func100 rfl trivial ?_ rfl
  simp only [Tryz.ntmps100, List.size_toArray, List.length_cons, List.length_nil, Nat.reduceAdd, Nat.reduceSub, Array.replicate_succ, Array.replicate_zero, List.push_toArray, List.append_toArray, List.nil_append, List.cons_append]
  obtain ⟨w2, hw2⟩ : ∃ w2, w2 = (w.alloc (Obj.cells #[Value.int IntKind.u32 0] 22)).alloc (Obj.cells #[Value.bool false] 4) := ⟨_, rfl⟩
  have hs2 : w2.heap.size = w.heap.size + 2 := by rw [hw2]; simp
  have bN : Boxed w2 w.heap.size 22 (.int .u32 0) := by rw [hw2]; exact (Boxed.new w _ _).alloc _
  have bS : Boxed w2 (w.heap.size + 1) 4 (.bool false) := by
    rw [hw2]
    have := Boxed.new (w.alloc (.cells #[Value.int IntKind.u32 0] 22)) 4 (.bool false)
    rwa [World.size_alloc] at this
  have hb2 : Below w.heap.size w w2 := by rw [hw2]; exact ((Below.refl _ w).alloc (Nat.le_refl _) _).alloc (by simp) _
  obtain ⟨S, hSd⟩ : ∃ S : Nat → Prop, S = fun k => k < w.heap.size := ⟨_, rfl⟩
  have hSlt : ∀ k, S k → k < w2.heap.size := fun k hk => by rw [hSd] at hk; omega
  have hSN : ¬ S w.heap.size := fun hk => by rw [hSd] at hk; omega
  have hSS : ¬ S (w.heap.size + 1) := fun hk => by rw [hSd] at hk; omega
  have hSs : S Bs := by rw [hSd]; exact hBsl
  have hSf : S Bf := by rw [hSd]; exact hBfl
  have hk2 : KeepS S w w2 := KeepS.of_below hb2 (fun k hk => by rw [hSd] at hk; exact hk)
  have hBs2 : w2.cell? ⟨Bs, 0, none⟩ = some (.slice A m c) := (hk2.cell (p := ⟨Bs, 0, none⟩) hSs).trans hBs
  have hBf2 : w2.cell? ⟨Bf, 0, none⟩ = some (stead f) := (hk2.cell (p := ⟨Bf, 0, none⟩) hSf).trans hBf
  have hN2 : NumsS .u32 w2 S A zs := (hN.below hb2).numsS (fun k hk => by rw [hSd]; exact hk)
  have hbl : w.heap.size + 1 < w2.heap.size := by omega
  have hKo : ∀ (V : World) (l' : Nat) (o' : Obj), w2.heap.size ≤ l' → KeepS S V (V.putObj l' o') := fun V l' o' hl' => ⟨by simp [World.putObj], fun k hk => World.putObj_heap_other (by have := hSlt k hk; omega)⟩
  clear hSd hN hBs hBf hk2
  have HW2 := Lib.hid hw2
  clear hw2
  have HP := Lib.hid (Sr.tk_pos f zs)
  have HB := Lib.hid (Sr.tk_bst f zs)
  obtain ⟨L, hL⟩ : ∃ L, Sr.tk f true 0 zs = L := ⟨_, rfl⟩
  rw [hL] at HP HB
  gi_wp2_with fail
  rw [← HW2.out]
  refine range_stopb rfl (by omega) (gf := 109) (lb := #[.pointer (some ⟨Bs, 0, none⟩), .pointer (some ⟨Bf, 0, none⟩)]) rfl trivial (enters_of Tryz.func109 (by kernel_rfl) rfl)
    (fun x : Int => #[Value.int .u32 x]) (fun _ => rfl)
    (fun j x V => Lst w2 w.heap.size j ((L.take j).getLastD 0) (decide (0 < j)) V ∧ L[j]? = some x)
    (fun j x _ V => Lst w2 w.heap.size j x (decide (0 < j)) V ∧ L[j]? = some x)
    (fun j V => Lst w2 w.heap.size j ((L.take j).getLastD 0) (decide (0 < j)) V) (fun _ _ => False) (KeepS S) L.length
    (fun j x q V l o o' h hl ho hc' => ⟨h.1.below hbl (below_put V o' hl), h.2⟩)
    (fun j V l o o' h hl ho hc' => h.below hbl (below_put V o' hl))
    (fun _ _ _ _ _ h _ _ _ => h)
    (fun _ _ _ h k => h.trans k) (fun V l o o' hl ho hc' => hKo V l o' hl)
    (fun o => Lst.below ⟨bN, bS, Off.refl _ _, fun h => absurd h (Nat.lt_irrefl 0), fun _ => rfl⟩ hbl (((Below.refl w2.heap.size w2).alloc (Nat.le_refl _) _).alloc (by simp) _)) ?round ?iter ?done ?stop
  case round =>
    rintro l j x V K ⟨hLst, hx⟩ hj hK
    have fN := hLst.1.frozen
    have kN := hLst.1.cell
    have hK' := Lib.hid hK
    clear hK
    gi_wp2_with fail
    refine hK'.out _ 0 _ ⟨hLst.put x, hx⟩ ((KeepsOthers.setCell V ⟨w.heap.size, 0, none⟩ (.int .u32 x)).from w2.heap.size) ((KeepS.refl S V).set hSN _) ?_
    clear hK' hLst kN fN
    rintro l V hl ⟨hLst, _⟩
    have fS := hLst.2.1.frozen
    have kS := hLst.2.1.cell
    have hfl := Lib.hid hLst.flag
    clear hLst
    gi_wp2
    refine ⟨(KeepsOthers.setCell V ⟨w.heap.size + 1, 0, none⟩ (.bool true)).from w2.heap.size, ?_, (KeepS.refl S V).set hSS _⟩
    rw [Sr.last_next hx, decide_eq_true (Nat.succ_pos j)]
    exact hfl.out
  case iter =>
    intro Bk X l V hBk hBlt hX hlw hD hB hY
    have hKV : KeepS S w2 V := ⟨hD.2.2.1.size, fun k hk => hD.2.2.1.block k (hSlt k hk) (fun e => by rcases e with e | e <;> subst e; exact hSN hk; exact hSS hk)⟩
    refine (taken_in f 2 (by omega) 1 l Bs Bf m c S w2 hSlt A zs hm hl hz hc (fun j V => Lst w2 w.heap.size j ((L.take j).getLastD 0) (decide (0 < j)) V ∧ Bk V) X ?_ V hSs hSf hBs2 hBf2 hKV hN2 ⟨hD, hB⟩).mono ?_
    · rintro j x V1 ⟨h1, h2⟩ hk hx
      rw [hL] at hx
      refine (hY j x V1 ⟨h1, hx⟩ h2 (by
        rcases Nat.lt_or_ge j L.length with h | h
        · exact h
        · rw [List.getElem?_eq_none h] at hx; cases hx)).mono ?_
      rintro e V2 (⟨rfl, hd, hkk, _⟩ | ⟨rfl, hx, _⟩)
      · exact .inl ⟨rfl, hd, hkk⟩
      · exact .inr ⟨rfl, hx⟩
    · rw [hL]
      rintro e V2 ⟨hv, ⟨h1, _⟩ | h⟩
      · exact ⟨hv, .inl h1⟩
      · exact ⟨hv, .inr h⟩
  case done =>
    rintro D V hD hLst hK
    rw [List.take_length, HB.out, HP.out, hm] at hLst
    have kN := hLst.1.cell
    have kS := hLst.2.1.cell
    have hbV : Below w.heap.size w V := hb2.trans (hLst.2.2.1.below (fun k hk => by rcases hk with h | h <;> omega) (by omega))
    have hfin := Lib.hid (fun q => (below_drewN hbV q).trans (below_put (B := w.heap.size) (V.drewN q) (.deferred none) (by omega : w.heap.size ≤ D)))
    have hKq : ∀ q, (V.drewN q).heap[D]? = some (.deferred (some [])) := fun _ => hK
    clear bN bS hb2 hLst hbV
    gi_wp2
    refine wpIn_wide.2 ?_
    go_quiet (fail)
    gi_wp2
    refine ⟨by simp, .inl ⟨_, _, rfl, run_takeDeferred (hKq nq), ?_⟩⟩
    exact ⟨_, results_tmp2 rfl _ _ _, rfl, hfin.out nq⟩
  case stop =>
    rintro D cd W' _ h _
    exact h.elim
theorem oldest_any (m c : Nat) (A : Option Addr) (zs : List Int) (w : World) (hm : zs.length = m) (hl : m ≤ 1000000) (hz : Sr.U zs) (hc : m ≤ c) (hN : Nums .u32 w w.heap.size A zs) :
    Calls Tryz.prog 79 #[.slice A m c] w fun e w' => e = .returned (.tuple #[.int .u32 (Sr.bst false zs), .bool (decide (0 < m))]) ∧ Below w.heap.size w w' := by
  have K := taken_any A m c false w
  obtain ⟨w1, hw1⟩ : ∃ w1, w1 = (w.alloc (.cells #[.slice A m c] 95)).alloc (.cells #[stead false] 104) := ⟨_, rfl⟩
  rw [← hw1] at K
  have hs1 : w.heap.size + 1 < w1.heap.size := by rw [hw1]; simp
  have b0 : w1.cell? ⟨w.heap.size, 0, none⟩ = some (.slice A m c) := by rw [hw1]; exact ((Boxed.new w _ _).alloc _).cell
  have b1 : w1.cell? ⟨w.heap.size + 1, 0, none⟩ = some (stead false) := by
    rw [hw1]
    have := (Boxed.new (w.alloc (.cells #[.slice A m c] 95)) 104 (stead false)).cell
    rwa [World.size_alloc] at this
  have hb : Below w.heap.size w w1 := by rw [hw1]; exact ((Below.refl _ w).alloc (Nat.le_refl _) _).alloc (by simp) _
  have KL := Lib.hid (slast_any false w.heap.size (w.heap.size + 1) m c A zs w1 hm hl hz hc (by omega) hs1 b0 b1 ((hN.below hb).mono hb.size))
  clear hw1 b0 b1 hN
  go_enter Tryz.func79, Tryz.ntmps79
  go_wp2_with fail
  refine K.mono ?_
  rintro e w' ⟨rfl, rfl⟩
  go_wp2_with fail
  refine KL.out.mono ?_
  rintro e w' ⟨rfl, hb2⟩
  go_wp2
  go_ret2
  exact ⟨rfl, hb.trans (hb2.mono (by omega))⟩
end Go.Proofs.YtfdbcfkjablnkaaGreat
