/-
  A part of the texts of one proof, put together: Mem, Row, FldN, Given, Stops, Keep, FldA, FldP, Q2, Q5, Q6, Q7, Q9, Q10, FldO, FldI, FldK, KpC, Ld, FldW, StopA, StopB, FldF, SchV.
-/
import Derived.WalkKit
import Derived.Deep.Draws
import Derived.Laws.OwnMore
import Derived.Deep.AppendLies
import Derived.OpenShut
import Derived.Maps.AppendAt
import Derived.BigQuiet
import Derived.Laws.CopyOwn
import Derived.Lib.AppendZerosOnto
import Derived.Laws.Strings
import Derived.RangeFuncNested
import Derived.RangeFuncWrites
import Derived.RangeFuncBox
import Derived.RangeFuncLeaves
import Derived.OwnWalkIn
import Derived.RangeFuncKeeps
import Derived.Test.YtlbfibnfmijahaaGreatProg
import Derived.WalkLawsBesides
import Derived.WalkMore
import Derived.Lib.Hide
import Derived.WalkSpells
import Derived.Shelf.RegionOpen
import Derived.TacticsInMore
import Derived.Handy
import Derived.LoopNIn
import Derived.LoopIn
import Derived.Deep.Quiet
import Derived.Below
import Derived.StillTail
import Derived.RangeFuncBound
import Derived.RangeFuncCalls
namespace Go.Proofs.YtlbfibnfmijahaaGreat
open Go.RowKit

/-- the numbers zs, of kind k, lie at the slice's address, below block B; where there are none the address is whatever it is -/
def Nums (k : IntKind) (w : World) (B : Nat) (a : Option Addr) (zs : List Int) : Prop :=
  zs ≠ [] → ∃ b off, a = some ⟨b, off, none⟩ ∧ b < B ∧ ∀ j c, zs[j]? = some c → w.cell? ⟨b, off + j, none⟩ = some (.int k c)

theorem below_drewN {B : Nat} {a w : World} (h : Below B a w) (n : Nat) : Below B a (w.drewN n) := ⟨h.os, h.tape, h.output, h.size, h.block⟩

section
variable {k : IntKind} {w w' : World} {B B' : Nat} {a : Option Addr} {zs : List Int}
theorem Nums.nil : Nums k w B a [] := fun h => absurd rfl h
theorem Nums.open (h : Nums k w B a zs) {j : Nat} {c : Int} (hj : zs[j]? = some c) : ∃ b off, a = some ⟨b, off, none⟩ ∧ b < B ∧ w.cell? ⟨b, off + j, none⟩ = some (.int k c) := by
  obtain ⟨b, off, e, hb, hc⟩ := h (by intro e; subst e; simp at hj)
  exact ⟨b, off, e, hb, hc j c hj⟩
theorem Nums.kept (h : Nums k w B a zs) (hk : ∀ p : Addr, p.block < B → w'.cell? p = w.cell? p) : Nums k w' B a zs := fun hn => by
  obtain ⟨b, off, e, hb, hc⟩ := h hn
  exact ⟨b, off, e, hb, fun j c hj => (hk ⟨b, off + j, none⟩ hb).trans (hc j c hj)⟩
theorem Nums.below (h : Nums k w B a zs) (hb : Below B w w') : Nums k w' B a zs := h.kept fun _ hp => hb.cell hp
theorem Nums.mono (h : Nums k w B a zs) (hB : B ≤ B') : Nums k w B' a zs := fun hn => by
  obtain ⟨b, off, e, hb, hc⟩ := h hn
  exact ⟨b, off, e, by omega, hc⟩
theorem Nums.take (h : Nums k w B a zs) (n : Nat) : Nums k w B a (zs.take n) := fun hn => by
  obtain ⟨b, off, e, hb, hc⟩ := h (by intro e; subst e; simp at hn)
  refine ⟨b, off, e, hb, fun j c hj => hc j c ?_⟩
  rw [List.getElem?_take] at hj
  by_cases hlt : j < n
  · simpa [hlt] using hj
  · simp [hlt] at hj
/-- 's[i:]' of a slice, as the model spells its address -/
theorem Nums.drop (h : Nums k w B a zs) {i cap : Nat} (hc : zs.length ≤ cap) : Nums k w B (if cap = i then a else a.map (·.add i)) (zs.drop i) := fun hn => by
  have hi : i < zs.length := by
    rcases Nat.lt_or_ge i zs.length with h1 | h1
    · exact h1
    · exact absurd (List.drop_eq_nil_of_le h1) hn
  obtain ⟨b, off, rfl, hb, hcell⟩ := h (by intro e; subst e; simp at hi)
  refine ⟨b, off + i, ?_, hb, fun j c hj => ?_⟩
  · rw [if_neg (by omega)]; simp [Addr.add]

  · rw [Nat.add_assoc]
    exact hcell (i + j) c (by rw [← hj, List.getElem?_drop])
theorem Nums.of_own {base e : Nat} {c : Nat} (h : w.ownsRow base e 1 (.slice a zs.length c) zs.length (zs.map (Value.int k))) : Nums k w w.heap.size a zs := fun hn => by
  have hp : 0 < zs.length := by
    rcases Nat.eq_zero_or_pos zs.length with h0 | h0
    · exact absurd (List.eq_nil_of_length_eq_zero h0) hn
    · exact h0
  obtain ⟨g, cap, hv, _, hlt⟩ := h.form hp
  have ha : a = some ⟨g, 0, none⟩ := by injection hv
  subst ha
  refine ⟨g, 0, rfl, hlt, fun j c hj => ?_⟩
  have := h.cells (g := g) rfl j (.int k c) (by rw [List.getElem?_map, hj]; rfl)
  rw [Nat.zero_add]
  by_cases h0 : j = 0
  · subst h0; simpa [Addr.add] using this
  · simpa [Addr.add, h0] using this
/-- one number at a place -/
theorem Nums.one {k : IntKind} {w : World} {B b off : Nat} {z : Int} (hb : b < B) (hc : w.cell? ⟨b, off, none⟩ = some (.int k z)) : Nums k w B (some ⟨b, off, none⟩) [z] := fun _ =>
  ⟨b, off, rfl, hb, fun j c hj => by
    cases j with
    | zero => simp at hj; subst hj; exact hc
    | succ j => simp at hj⟩
/-- a slice that has just been laid -/
theorem Nums.new (k : IntKind) (w : World) (t : TypeId) (zs : List Int) (cs : Array Value) (h : cs = (zs.map (Value.int k)).toArray) : Nums k (w.alloc (.cells cs t)) (w.heap.size + 1) (some ⟨w.heap.size, 0, none⟩) zs := fun _ => by
  refine ⟨w.heap.size, 0, rfl, by omega, fun j c hj => ?_⟩
  rw [World.cell?_alloc_at _ _ _ _ rfl, h]
  simp [hj]
end

/-- a slice of integers that came in: nil, or a row of 'cap' cells with the numbers zs, of which the first len are its elements -/
def IsRow (k : IntKind) (w : World) (a : Option Addr) (len cap : Nat) (zs : List Int) : Prop :=
  (a = none ∧ len = 0 ∧ cap = 0 ∧ zs = []) ∨
  ∃ x, a = some x ∧ len ≤ cap ∧ cap ≤ maxLen ∧ zs.length = cap ∧ (∀ i, i < zs.length → w.cell? (x.add i) = some (.int k (zs.getD i 0))) ∧ ∀ n ∈ zs, (Lit.int k n).wf = true
theorem block_of_cell {w : World} {p : Addr} {v : Value} (h : w.cell? p = some v) : p.block < w.heap.size := by
  rcases Nat.lt_or_ge p.block w.heap.size with h1 | h1
  · exact h1
  · simp [World.cell?, Array.getElem?_eq_none h1] at h
/-- .. as its elements lie -/
theorem IsRow.elems {k : IntKind} {w : World} {a : Option Addr} {len cap : Nat} {zs : List Int} (h : IsRow k w a len cap zs) :
    ∃ es : List Int, es.length = len ∧ len ≤ cap ∧ cap ≤ maxLen ∧ Nums k w w.heap.size a es ∧ ∀ n ∈ es, (Lit.int k n).wf = true := by
  rcases h with ⟨rfl, rfl, rfl, rfl⟩ | ⟨x, rfl, hl, hm, hz, hc, hw⟩
  · exact ⟨[], rfl, by omega, by omega, Nums.nil, by simp⟩
  · refine ⟨zs.take len, by rw [List.length_take]; omega, hl, hm, ?_, fun n hn => hw n (List.mem_of_mem_take hn)⟩
    refine Nums.take (fun hn => ?_) len
    have h0 : 0 < zs.length := by
      rcases Nat.eq_zero_or_pos zs.length with h | h
      · exact absurd (List.eq_nil_of_length_eq_zero h) hn
      · exact h
    obtain ⟨b, off, spot⟩ := x
    have hc0 := hc 0 h0
    have hspot : spot = none := by simpa [Addr.add] using World.cell?_spot hc0
    subst hspot
    refine ⟨b, off, rfl, by simpa [Addr.add] using block_of_cell hc0, fun j c hj => ?_⟩
    have hlt : j < zs.length := by
      rcases Nat.lt_or_ge j zs.length with h | h
      · exact h
      · rw [List.getElem?_eq_none h] at hj; simp at hj
    have hcj := hc j hlt
    rw [List.getD, hj] at hcj
    by_cases hj0 : j = 0
    · subst hj0; simpa [Addr.add] using hcj
    · simpa [Addr.add, hj0] using hcj

/-! ### numbers that a call has made, of an element type e and a kind k -/
def MadeK (e : TypeId) (k : IntKind) (w w' : World) (L : List Int) (v : Value) : Prop := w'.ownsRow w.heap.size e 1 v L.length (L.map (Value.int k)) ∧ Below w.heap.size w w'
section
variable {e : TypeId} {k : IntKind} {w w1 w2 : World} {L : List Int} {v v' : Value}
theorem MadeK.nil (e : TypeId) (k : IntKind) (h : Below w.heap.size w w1) : MadeK e k w w1 [] (.slice none 0 0) := ⟨World.ownsRow_nil _ _ _ _, h⟩
theorem MadeK.slice (h : MadeK e k w w1 L v) : ∃ A c, v = .slice A L.length c ∧ L.length ≤ c ∧ Nums k w1 w1.heap.size A L := by
  have h1 := h.1
  obtain ⟨_, h2⟩ := h1
  rcases h2 with ⟨rfl, h0⟩ | ⟨g, cap, cur, rfl, hg, hh, hn, _⟩
  · have : L = [] := List.eq_nil_of_length_eq_zero h0
    subst this
    exact ⟨none, 0, rfl, by simp, Nums.nil⟩
  · exact ⟨some ⟨g, 0, none⟩, cap, rfl, hn, Nums.of_own h.1⟩
theorem MadeK.own_ge (h : MadeK e k w w1 L v) {g : Nat} (hg : v.ownBlock = some g) : w.heap.size ≤ g ∧ ∃ cur, w1.heap[g]? = some (.cells cur e (0, 0)) := by
  have hv := h.1
  obtain ⟨_, h2⟩ := hv
  rcases h2 with ⟨rfl, h0⟩ | ⟨g', cap, cur, rfl, hg', hh, hn, _⟩
  · simp [Value.ownBlock] at hg
  · simp [Value.ownBlock] at hg; subst hg; exact ⟨hg', cur, hh⟩
theorem MadeK.app {x y : Int} {o : Obj} (h : MadeK e k w w1 L v) (hown : w2.ownsRow w.heap.size e 1 v' (L.length + 1) (L.map (Value.int k) ++ [.int k x])) (hg : (w1.alloc o).grownBy w2 v.ownBlock) (hx : x = y) : MadeK e k w w2 (L ++ [y]) v' := by
  subst hx
  exact ⟨by simpa using hown, ((h.2.alloc h.2.size o).grown hg (by have := h.2.size; simp; omega) (fun g hk => (h.own_ge hk).1))⟩
/-- another row, of another element type, has grown -/
theorem MadeK.far {e2 : TypeId} {k2 : IntKind} {L2 : List Int} {v2 : Value} {o : Obj} (h : MadeK e k w w1 L v) (h2 : MadeK e2 k2 w w1 L2 v2) (hne : e ≠ e2) (hg : (w1.alloc o).grownBy w2 v2.ownBlock) (hb : Below w.heap.size w w2) : MadeK e k w w2 L v := by
  refine ⟨(h.1.alloc o).kept hg ?_, hb⟩
  cases hv : v.ownBlock with
  | none => exact .inl rfl
  | some g =>
    right
    intro he
    obtain ⟨_, cur, hc⟩ := h.own_ge hv
    obtain ⟨_, cur2, hc2⟩ := h2.own_ge he.symm
    rw [hc] at hc2
    injection hc2 with hc2
    injection hc2 with _ ht
    exact hne ht
theorem MadeK.later (h : MadeK e k w w1 L v) (o : Obj) : MadeK e k w (w1.alloc o) L v := ⟨h.1.alloc o, h.2.alloc h.2.size o⟩
end
end Go.Proofs.YtlbfibnfmijahaaGreat

namespace Go.Proofs.YtlbfibnfmijahaaGreat
open Go.RowKit

/-- of the blocks that are there, those outside S are as they were -/
structure Off (S : Nat → Prop) (w w' : World) : Prop where
  os : w'.os = w.os
  tape : w'.tape = w.tape
  output : w'.output = w.output
  size : w.heap.size ≤ w'.heap.size
  block : ∀ k, k < w.heap.size → ¬ S k → w'.heap[k]? = w.heap[k]?
section
variable {S S' : Nat → Prop} {w w1 w' : World} {B : Nat}
theorem Off.refl (S : Nat → Prop) (w : World) : Off S w w := ⟨rfl, rfl, rfl, Nat.le_refl _, fun _ _ _ => rfl⟩
theorem Off.trans (h : Off S w w1) (k : Off S' w1 w') (hS : ∀ j, j < w.heap.size → S' j → S j) : Off S w w' :=
  ⟨k.os.trans h.os, k.tape.trans h.tape, k.output.trans h.output, Nat.le_trans h.size k.size, fun i hi hn => (k.block i (Nat.lt_of_lt_of_le hi h.size) (fun hs => hn (hS i hi hs))).trans (h.block i hi hn)⟩
theorem Off.mono (h : Off S w w') (hS : ∀ j, j < w.heap.size → S j → S' j) : Off S' w w' := ⟨h.os, h.tape, h.output, h.size, fun k hk hn => h.block k hk fun hs => hn (hS k hk hs)⟩
theorem Off.of_below (h : Below w.heap.size w w') : Off S w w' := ⟨h.os, h.tape, h.output, h.size, fun k hk _ => h.block k hk⟩
theorem Off.below (h : Off S w w') (hS : ∀ k, S k → B ≤ k) (hB : B ≤ w.heap.size) : Below B w w' := ⟨h.os, h.tape, h.output, h.size, fun k hk => h.block k (by omega) (fun hs => by have := hS k hs; omega)⟩
theorem Off.cell (h : Off S w w') {p : Addr} {v : Value} (hv : w.cell? p = some v) (hn : ¬ S p.block) : w'.cell? p = some v :=
  (World.cell?_of_block (h.block p.block (World.block_lt_of_cell? w p hv) hn)).trans hv
theorem Off.setCell (h : Off S w w') {p : Addr} (hp : S p.block) (u : Value) : Off S w (w'.setCell p u) :=
  ⟨h.os, h.tape, h.output, by simpa [World.setCell] using h.size, fun k hk hn => (Below.heap_setCell _ _ _ _ (fun e => hn (by subst e; exact hp))).trans (h.block k hk hn)⟩
theorem Off.setRow (h : Off S w w') {g : Nat} (hp : S g) (cs : Array Value) : Off S w (w'.setRow g cs) :=
  ⟨h.os, h.tape, h.output, by simpa [World.setRow] using h.size, fun k hk hn => (setRow_other _ _ _ _ (fun e => hn (by subst e; exact hp))).trans (h.block k hk hn)⟩
end

/-- the block of a slice's address -/
def blockOf (A : Option Addr) (g : Nat) : Prop := ∃ o s, A = some ⟨g, o, s⟩

theorem Nums.off {S : Nat → Prop} {k : IntKind} {w w' : World} {B : Nat} {A : Option Addr} {zs : List Int} (h : Nums k w B A zs) (hf : Off S w w') (hn : zs ≠ [] → ∀ g, blockOf A g → ¬ S g) : Nums k w' B A zs := fun h0 => by
  obtain ⟨b, off, e, hb, hc⟩ := h h0
  exact ⟨b, off, e, hb, fun j c hj => hf.cell (hc j c hj) (hn h0 b ⟨_, _, e⟩)⟩

/-- a row that the call made, known whole: nil, or cap cells of type T, the numbers cur -/
def KRow (T : TypeId) (k : IntKind) (w : World) (A : Option Addr) (cap : Nat) (cur : List Int) : Prop :=
  cur.length = cap ∧ ((A = none ∧ cap = 0) ∨ ∃ g, A = some ⟨g, 0, none⟩ ∧ cap ≤ maxLen ∧ w.heap[g]? = some (.cells (cur.map (Value.int k)).toArray T (0, 0)))
section
variable {T : TypeId} {k : IntKind} {w w' : World} {A : Option Addr} {cap : Nat} {cur : List Int}
theorem KRow.nil (T : TypeId) (k : IntKind) (w : World) : KRow T k w none 0 [] := ⟨rfl, .inl ⟨rfl, rfl⟩⟩
theorem KRow.lt (h : KRow T k w A cap cur) {g : Nat} (hg : blockOf A g) : g < w.heap.size := by
  obtain ⟨o, s, rfl⟩ := hg
  rcases h.2 with ⟨h0, _⟩ | ⟨g', e, _, hh⟩
  · simp at h0
  · injection e with e; injection e with e1; subst e1
    exact (Array.getElem?_eq_some_iff.1 hh).1
theorem KRow.off {S : Nat → Prop} (h : KRow T k w A cap cur) (hf : Off S w w') (hn : ∀ g, blockOf A g → ¬ S g) : KRow T k w' A cap cur := by
  refine ⟨h.1, ?_⟩
  rcases h.2 with h0 | ⟨g, rfl, hm, hh⟩
  · exact .inl h0
  · exact .inr ⟨g, rfl, hm, by rw [hf.block g (Array.getElem?_eq_some_iff.1 hh).1 (hn g ⟨_, _, rfl⟩)]; exact hh⟩
theorem KRow.cells (h : KRow T k w A cap cur) {g o : Nat} (hA : A = some ⟨g, o, none⟩) : o = 0 ∧ w.heap[g]? = some (.cells (cur.map (Value.int k)).toArray T (0, 0)) := by
  rcases h.2 with ⟨h0, _⟩ | ⟨g', e, _, hh⟩
  · rw [hA] at h0; simp at h0
  · rw [hA] at e; injection e with e; injection e with e1 e2; subst e1; exact ⟨e2, hh⟩
theorem KRow.cell (h : KRow T k w A cap cur) {g o : Nat} (hA : A = some ⟨g, o, none⟩) {j : Nat} {c : Int} (hj : cur[j]? = some c) : w.cell? ⟨g, j, none⟩ = some (.int k c) := by
  obtain ⟨_, hh⟩ := h.cells hA
  simp [World.cell?, hh, hj]
theorem KRow.nums (h : KRow T k w A cap cur) (n : Nat) : Nums k w w.heap.size A (cur.take n) := by
  refine Nums.take (fun hn => ?_) n
  rcases h.2 with ⟨_, h1⟩ | ⟨g, rfl, _, hh⟩
  · exact absurd (List.eq_nil_of_length_eq_zero (h.1.trans h1)) hn
  · exact ⟨g, 0, rfl, (Array.getElem?_eq_some_iff.1 hh).1, fun j c hj => by rw [Nat.zero_add]; exact h.cell rfl hj⟩
theorem zeroCells_int (k : IntKind) (n : Nat) : Builtin.zeroCells #[.int k 0] n = ((List.replicate n (0 : Int)).map (Value.int k)).toArray := by
  apply Array.ext
  · simp [Builtin.zeroCells]
  · intro i h1 h2
    simp [Builtin.zeroCells, Nat.mod_one]
end
theorem setCell_at {w : World} {b j : Nat} {cs : Array Value} {t : TypeId} {u : Value} (h : w.heap[b]? = some (.cells cs t (0, 0))) : (w.setCell ⟨b, j, none⟩ u).heap[b]? = some (.cells (cs.setIfInBounds j u) t (0, 0)) := by
  have hlt := (Array.getElem?_eq_some_iff.1 h).1
  have hv := (Array.getElem?_eq_some_iff.1 h).2
  simp [World.setCell, Array.getElem?_modify, h]
end Go.Proofs.YtlbfibnfmijahaaGreat

namespace Go.Proofs.YtlbfibnfmijahaaGreat
open Go.RowKit
set_option maxRecDepth 100000

structure Fd where
  nm : ByteArray
  so : Int
  pl : Int
  le : Int
  mo : Int
  si : Int
  ab : Int
def Fd.cs (f : Fd) : Array Value := #[.string f.nm, .int .i64 f.so, .int .i64 f.pl, .int .i64 f.le, .int .i64 f.mo, .int .i64 f.si, .int .i64 f.ab]
def Fd.v (f : Fd) : Value := .agg f.cs
def Fd.zero : Fd := ⟨⟨#[]⟩, 0, 0, 0, 0, 0, 0⟩
/-- each with its place -/
def pls : List Fd → Int → List Fd
  | [], _ => []
  | f :: r, p => if f.so < 3 then { f with pl := p } :: pls r (p + 1) else { f with pl := -1 } :: pls r p
/-- how many numbers are there -/
def nums3 : List Fd → Int
  | [] => 0
  | f :: r => (if f.so < 3 then 1 else 0) + nums3 r
def raw (k : Int) : List Fd :=
  if k = 1 then [⟨⟨#[114, 111, 98, 111, 116]⟩, 1, 0, 0, 65535, 1, 0⟩, ⟨⟨#[115, 112, 101, 101, 100]⟩, 1, 0, 1, 5000, 1, 0⟩, ⟨⟨#[97, 99, 99, 101, 108]⟩, 1, 0, 1, 10000, 2, 500⟩, ⟨⟨#[112, 97, 116, 104]⟩, 3, 0, 1, 16, 1, 0⟩, ⟨⟨#[116, 97, 103]⟩, 6, 0, 0, 16, 2, 0⟩]
  else if k = 2 then [⟨⟨#[114, 111, 98, 111, 116]⟩, 1, 0, 0, 65535, 1, 0⟩, ⟨⟨#[114, 101, 97, 115, 111, 110]⟩, 1, 0, 0, 15, 1, 0⟩, ⟨⟨#[122, 111, 110, 101]⟩, 1, 0, 0, 4095, 2, 0⟩]
  else if k = 3 then [⟨⟨#[114, 111, 98, 111, 116]⟩, 1, 0, 0, 65535, 1, 0⟩, ⟨⟨#[122, 111, 110, 101]⟩, 1, 0, 0, 4095, 1, 0⟩, ⟨⟨#[108, 101, 97, 115, 101]⟩, 1, 0, 1, 255, 2, 1⟩, ⟨⟨#[99, 101, 108, 108, 115]⟩, 4, 0, 1, 32, 1, 0⟩]
  else if k = 4 then [⟨⟨#[114, 111, 98, 111, 116]⟩, 1, 0, 0, 65535, 1, 0⟩, ⟨⟨#[120]⟩, 2, 0, -1000000, 1000000, 1, 0⟩, ⟨⟨#[121]⟩, 2, 0, -1000000, 1000000, 1, 0⟩, ⟨⟨#[104, 101, 97, 100, 105, 110, 103]⟩, 1, 0, 0, 35999, 1, 0⟩, ⟨⟨#[98, 97, 116, 116, 101, 114, 121]⟩, 1, 0, 0, 1000, 1, 0⟩, ⟨⟨#[115, 117, 114, 101]⟩, 1, 0, 0, 100, 2, 100⟩]
  else if k = 5 then [⟨⟨#[114, 111, 98, 111, 116]⟩, 1, 0, 0, 65535, 1, 0⟩, ⟨⟨#[99, 111, 100, 101]⟩, 1, 0, 1, 9999, 1, 0⟩, ⟨⟨#[115, 101, 118, 101, 114, 105, 116, 121]⟩, 1, 0, 0, 4, 1, 0⟩, ⟨⟨#[112, 97, 114, 116]⟩, 1, 0, 0, 255, 2, 0⟩, ⟨⟨#[116, 105, 109, 101, 115]⟩, 1, 0, 1, 1000000, 2, 1⟩, ⟨⟨#[116, 101, 120, 116]⟩, 5, 0, 0, 64, 1, 0⟩]
  else []
def FD (k : Int) : List Fd := pls (raw k) 0
/-- a kind's word -/
def wd (k : Int) : ByteArray :=
  if k = 1 then ⟨#[109, 111, 118, 101]⟩ else if k = 2 then ⟨#[104, 111, 108, 100]⟩ else if k = 3 then ⟨#[103, 114, 97, 110, 116]⟩ else if k = 4 then ⟨#[112, 111, 115, 101]⟩ else if k = 5 then ⟨#[102, 97, 117, 108, 116]⟩ else ⟨#[]⟩

theorem str_ne {x y : ByteArray} (h : x ≠ y) : (x.toList == y.toList) = false := by
  have h1 : x.toList ≠ y.toList := fun e => h (by
    rw [ByteArray.toList_eq, ByteArray.toList_eq] at e
    cases x with | mk a => cases y with | mk b => (simp only [ByteArray.mk.injEq]; exact Array.toList_inj.1 e))
  simpa using h1
theorem str_nil {x : ByteArray} (h : x ≠ ⟨#[]⟩) : x.toList ≠ [] := fun e => h (by
  rw [ByteArray.toList_eq] at e
  cases x with | mk a => (simp only [ByteArray.mk.injEq]; exact Array.toList_inj.1 (by simpa using e)))
theorem str_beq {x y : ByteArray} (h : x ≠ y) : (x == y) = false := by
  rcases hb : (x == y) with _ | _
  · rfl
  · exact absurd (by cases x with | mk a => cases y with | mk b => exact congrArg ByteArray.mk (eq_of_beq (show (a == b) = true from hb))) h
theorem pls_len : ∀ (l : List Fd) (p : Int), (pls l p).length = l.length
  | [], _ => rfl
  | f :: r, p => by
    rw [pls]
    split <;> simp [pls_len r]
theorem raw_so (k : Int) : ∀ f ∈ raw k, 1 ≤ f.so ∧ f.so ≤ 6 := by
  unfold raw
  repeat' split
  all_goals simp
theorem raw_few (k : Int) : (raw k).length ≤ 6 := by
  unfold raw
  repeat' split
  all_goals simp
theorem nums3_nonneg : ∀ (l : List Fd), 0 ≤ nums3 l ∧ nums3 l ≤ l.length
  | [] => ⟨Int.le_refl _, Int.le_refl _⟩
  | f :: r => by
    have := nums3_nonneg r
    rw [nums3, List.length_cons]
    split <;> omega
theorem nums3_take : ∀ (l : List Fd) (i : Nat) (f : Fd), l[i]? = some f → nums3 (l.take (i + 1)) = nums3 (l.take i) + (if f.so < 3 then 1 else 0)
  | [], _, _, h => by simp at h
  | g :: r, 0, f, h => by
    simp only [List.getElem?_cons_zero, Option.some.injEq] at h
    subst h
    simp [nums3]
  | g :: r, i + 1, f, h => by
    rw [List.take_succ_cons, List.take_succ_cons, nums3, nums3, nums3_take r i f (by simpa using h)]
    omega
/-- the i-th with its place -/
theorem pls_get : ∀ (l : List Fd) (p : Int) (i : Nat) (f : Fd), l[i]? = some f → (pls l p)[i]? = some { f with pl := if f.so < 3 then p + nums3 (l.take i) else -1 }
  | [], _, _, _, h => by simp at h
  | g :: r, p, 0, f, h => by
    simp only [List.getElem?_cons_zero, Option.some.injEq] at h
    subst h
    rw [pls]
    split <;> simp [nums3, *]
  | g :: r, p, i + 1, f, h => by
    have h' : r[i]? = some f := by simpa using h
    rw [pls, List.take_succ_cons, nums3]
    split
    · rw [List.getElem?_cons_succ, pls_get r (p + 1) i f h']
      split <;> simp <;> omega
    · rw [List.getElem?_cons_succ, pls_get r p i f h']
      simp
end Go.Proofs.YtlbfibnfmijahaaGreat

namespace Go.Proofs.YtlbfibnfmijahaaGreat
open Go.RowKit

/-- whatever is no cells, lies from B on and is not l lies as it lay -/
structure KeepsBut (B l : Nat) (W W' : World) : Prop where
  size : W.heap.size ≤ W'.heap.size
  same : ∀ (k : Nat) (o : Obj), k ≠ l → B ≤ k → W.heap[k]? = some o → o.isCells = false → W'.heap[k]? = some o

section
variable {F : Fence} {n : Nat} {P : Program} {g : Operand} {ps : Array Tmp} {assign body : Code} {Q : Exit → Act → World → Prop} {a : Act} {w : World}
end

theorem yield_any {m : Nat} (m' : Nat) {P : Program} {l : Nat} {args : Array Value} {W : World} {R : Ending → World → Prop} (h : YieldAt Fence.wide m P l args W R) : YieldAt Fence.wide m' P l args W R := by
  obtain ⟨fn, tmps, assign, body, hy, hR⟩ := h
  exact ⟨fn, tmps, assign, body, hy, hR.1, fun c cs _ => hR.2 c cs (fun d hd => by cases hd)⟩
end Go.Proofs.YtlbfibnfmijahaaGreat

namespace Go.Proofs.YtlbfibnfmijahaaGreat
open Go.RowKit

/-- what a round's body leaves: it goes on (D), or it leaves by a code (X) -/
def stopPost (B : Nat) (Kp : World → World → Prop) (D : World → Prop) (X : Code → World → Prop) (W : World) : Exit → Act → World → Prop
  | .normal, _, W' => KeepsFrom B W W' ∧ D W' ∧ Kp W W'
  | .ret, _, W' => KeepsFrom B W W' ∧ X .ret W'
  | .exit id, _, W' => KeepsFrom B W W' ∧ X (.exit id) W'
  | _, _, _ => False
/-- what a yield answers, as the iterator sees it -/
def YPost (B l : Nat) (Kp : World → World → Prop) (D X : World → Prop) (W1 : World) (e : Ending) (W2 : World) : Prop :=
  (e = .returned (.bool true) ∧ D W2 ∧ Kp W1 W2 ∧ KeepsBut B l W1 W2) ∨ (e = .returned (.bool false) ∧ X W2 ∧ KeepsBut B l W1 W2)

section
variable {F : Fence} {n : Nat} {P : Program} {g : Operand} {ps : Array Tmp} {assign body : Code} {Q : Exit → Act → World → Prop} {a : Act} {w : World}
/-- .. where what is kept stands while a loop's own record turns (maps may lie above the loop's start) -/
theorem range_stopsL {α : Type} (hro : F.round = none) (h1 : 1 ≤ n) {gf : Nat} {lb : Array Value} (hg : a.eval g = .func (.func gf) #[] lb) (hFg : F.fn gf) (eg : ∀ args w, (callFunc gf args).run P w = .ok (.enter gf args) w)
    (enc : α → Array Value) (hps : ∀ x, (enc x).size = ps.size) (Rd : Nat → α → World → Prop) (Dn : Nat → World → Prop) (Sx : Code → World → Prop) (Kp : World → World → Prop) (N : Nat)
    (hRp : ∀ j x W l (o : Loop) o', Rd j x W → w.heap.size ≤ l → W.heap[l]? = some (.loop o) → Rd j x (W.putObj l o'))
    (hDp : ∀ j W l (o : Loop) o', Dn j W → w.heap.size ≤ l → W.heap[l]? = some (.loop o) → Dn j (W.putObj l o'))
    (hSp : ∀ c W l o o', Sx c W → w.heap.size ≤ l → W.heap[l]? = some o → o.isCells = false → Sx c (W.putObj l o'))
    (hKt : ∀ A B C, Kp A B → Kp B C → Kp A C)
    (hKp : ∀ W l o o', w.heap.size ≤ l → W.heap[l]? = some o → o.isCells = false → Kp W (W.putObj l o'))
    (hD0 : ∀ o, Dn 0 ((w.alloc (.deferred (some []))).alloc o)) (a₁ : α → Act)
    (hassign : ∀ (l : Nat) (x : α) (W : World) (K : Act → World → Prop), K (a₁ x) W → assign.wpIn (F.inRound l) (n - 1 - 1) P (Exit.then K (fun _ _ _ => False)) { tmps := (ps.zip (enc x)).foldl (fun t (p, v) => t.setIfInBounds p v) a.tmps, defers := [] } W)
    (hbody : ∀ (l j : Nat) (x : α) (W : World), w.heap.size ≤ l → Rd j x W → j < N → body.wpIn (F.inRound l) (n - 1 - 1) P (stopPost w.heap.size Kp (Dn (j + 1)) Sx W) (a₁ x) W)
    (hiter : ∀ (Bk : World → Prop) (X : World → Prop) (l : Nat) (W : World), (∀ A B, Bk A → A.heap.size ≤ B.heap.size → (∀ k, w.heap.size ≤ k → k < w.heap.size + 2 → B.heap[k]? = A.heap[k]?) → Bk B) → (∀ A, Bk A → w.heap.size + 2 ≤ A.heap.size) →
      (∀ A l' o o', X A → w.heap.size + 2 ≤ l' → A.heap[l']? = some o → o.isCells = false → X (A.putObj l' o')) → l < w.heap.size + 2 → Dn 0 W → Bk W →
      (∀ j x W1, Rd j x W1 → Bk W1 → j < N → YieldAt F (n - 1 - 1) P l (enc x) W1 (YPost w.heap.size l Kp (fun W2 => Dn (j + 1) W2 ∧ Bk W2) X W1)) →
      CallsIn F (n - 1) P gf (#[.func (.yield l) #[] #[]] ++ lb) W fun e W' => (∃ v, e = .returned v) ∧ ((Dn N W' ∧ Bk W') ∨ X W'))
    (hdone : ∀ (D : Nat) (W : World), w.heap.size ≤ D → Dn N W → W.heap[D]? = some (.deferred (some [])) → Q .normal { a with defers := { target := .collected D, args := #[] } :: a.defers } W)
    (hstop : ∀ (D : Nat) (c : Code) (W : World), w.heap.size ≤ D → Sx c W → W.heap[D]? = some (.deferred (some [])) → c.wpIn F n P Q { a with defers := { target := .collected D, args := #[] } :: a.defers } W) :
    (Code.rangeFunc g ps assign body).wpIn F n P Q a w := by
  apply wpIn_rangeFunc
  intro fn hfn
  rw [hro]
  have hent := run_enterLoop_outer (P := P) (w := w) fn a.tmps ps assign body
  obtain ⟨lp, hlp⟩ : ∃ lp : LoopState → Option Code → Loop, lp = fun st pe => { state := st, pending := pe, fn := fn, tmps := a.tmps, params := ps, assign := assign, body := body, defers := w.heap.size } := ⟨_, rfl⟩
  have hlp0 : ({ state := .ready, pending := none, fn, tmps := a.tmps, params := ps, assign, body, defers := w.heap.size } : Loop) = lp .ready none := by rw [hlp]
  rw [hlp0] at hent
  have hD0' := hD0 (.loop (lp .ready none))
  have hl0 : ((w.alloc (.deferred (some []))).alloc (.loop (lp .ready none))).heap[w.heap.size + 1]? = some (.loop (lp .ready none)) := by
    have h := World.alloc_heap_new (w.alloc (.deferred (some []))) (.loop (lp .ready none))
    rwa [World.size_alloc] at h
  have hd0 : ((w.alloc (.deferred (some []))).alloc (.loop (lp .ready none))).heap[w.heap.size]? = some (.deferred (some [])) := (Below.heap_alloc _ _ _ (by simp)).trans (World.alloc_heap_new w _)
  generalize (w.alloc (.deferred (some []))).alloc (.loop (lp .ready none)) = W0 at *
  refine ⟨_, _, _, { target := .fn (.func gf) lb, args := #[.func (.yield (w.heap.size + 1)) #[] #[]] }, W0, gf, #[.func (.yield (w.heap.size + 1)) #[] #[]] ++ lb, W0, hent, ?_, ?_, ?_, fun _ => h1, ?_⟩
  · simp only [resolve, hg]
    simp [go_sem]
  · intro f' hf'
    simp [Target.leads] at hf'
    subst hf'
    exact hFg
  · simp [invoke, go_sem, eg]
  let Bk : World → Prop := fun W => W.heap[w.heap.size + 1]? = some (.loop (lp .ready none)) ∧ W.heap[w.heap.size]? = some (.deferred (some []))
  let X : World → Prop := fun W => ∃ c, Sx c W ∧ W.heap[w.heap.size + 1]? = some (.loop (lp .done (some c))) ∧ W.heap[w.heap.size]? = some (.deferred (some []))
  have hBlt : ∀ A, Bk A → w.heap.size + 2 ≤ A.heap.size := fun A h => (Array.getElem?_eq_some_iff.1 h.1).1
  refine (hiter Bk X (w.heap.size + 1) W0 (fun A B hA _ hAB => ⟨(hAB _ (by omega) (by omega)).trans hA.1, (hAB _ (by omega) (by omega)).trans hA.2⟩) hBlt
    (fun A l' o o' hA hl' ho hc => by
      obtain ⟨c, h1, h2, h3⟩ := hA
      exact ⟨c, hSp c A l' o o' h1 (by omega) ho hc, (World.putObj_heap_other (by omega)).trans h2, (World.putObj_heap_other (by omega)).trans h3⟩) (by omega) hD0' ⟨hl0, hd0⟩ ?_).mono ?_
  · rintro j x W1 hR hB hj
    have hsz := hBlt W1 hB
    have hy := run_yield (P := P) (args := enc x) hB.1 (by rw [hlp]; exact hps x)
    have hbeg := run_beginRound (P := P) hB.1 (by rw [hlp])
    rw [hlp] at hy hbeg
    refine ⟨fn, _, assign, body, hy, roundIn_of_wpIn hfn (hassign _ x W1 _ ⟨_, hbeg, ?_⟩)⟩
    refine wpIn_mono (hbody _ j x _ (by omega) (hRp j x W1 _ _ _ hR (by omega) hB.1) hj) ?_
    have b1 : (W1.putObj (w.heap.size + 1) (.loop { lp .ready none with state := .busy })).heap[w.heap.size + 1]? = some (.loop { lp .ready none with state := .busy }) := World.putObj_heap_same (by omega)
    have b2 : (W1.putObj (w.heap.size + 1) (.loop { lp .ready none with state := .busy })).heap[w.heap.size]? = some (.deferred (some [])) := (World.putObj_heap_other (by omega)).trans hB.2
    have hK1 := hKp W1 (w.heap.size + 1) _ (.loop { lp .ready none with state := .busy }) (by omega) hB.1 rfl
    rw [hlp] at b1 b2 hK1
    have fin : ∀ (jump : Option Code) (W3 : World), KeepsFrom w.heap.size (W1.putObj (w.heap.size + 1) (.loop { lp .ready none with state := .busy })) W3 →
        (Instr.endRound (w.heap.size + 1) jump).run P W3 = .ok (.bool jump.isNone) (W3.putObj (w.heap.size + 1) (.loop (lp (if jump.isNone then .ready else .done) jump))) ∧
        W3.heap[w.heap.size + 1]? = some (.loop { lp .ready none with state := .busy }) ∧
        (W3.putObj (w.heap.size + 1) (.loop (lp (if jump.isNone then .ready else .done) jump))).heap[w.heap.size + 1]? = some (.loop (lp (if jump.isNone then .ready else .done) jump)) ∧
        (W3.putObj (w.heap.size + 1) (.loop (lp (if jump.isNone then .ready else .done) jump))).heap[w.heap.size]? = some (.deferred (some [])) ∧
        KeepsBut w.heap.size (w.heap.size + 1) W1 (W3.putObj (w.heap.size + 1) (.loop (lp (if jump.isNone then .ready else .done) jump))) := fun jump W3 hk => by
      rw [hlp] at hk ⊢
      have c1 := hk.same _ _ (by omega) b1 rfl
      have c2 := hk.same _ _ (Nat.le_refl _) b2 rfl
      have hend := run_endRound (P := P) jump c1
      refine ⟨hend, c1, World.putObj_heap_same (Array.getElem?_eq_some_iff.1 c1).1, (World.putObj_heap_other (by omega)).trans c2, ?_, ?_⟩
      · have h1 := hk.size
        simp only [World.putObj, Array.size_setIfInBounds] at h1 ⊢
        exact h1
      · intro k o hkl hk2 ho hc
        exact (World.putObj_heap_other (by omega)).trans (hk.same k o hk2 ((World.putObj_heap_other (by omega)).trans ho) hc)
    rintro e a3 W3 hp
    rw [hlp] at fin
    cases e with
    | normal =>
      obtain ⟨hk, hDn, hKp3⟩ := hp
      obtain ⟨hend, c1, d1, d2, hkb⟩ := fin none W3 hk
      exact ⟨_, _, hend, .inl ⟨rfl, ⟨hDp _ _ _ _ _ hDn (by omega) c1, by rw [hlp]; exact d1, d2⟩, hKt _ _ _ hK1 (hKt _ _ _ hKp3 (hKp W3 _ _ _ (by omega) c1 rfl)), hkb⟩⟩
    | ret =>
      obtain ⟨hk, hx⟩ := hp
      obtain ⟨hend, c1, d1, d2, hkb⟩ := fin (some .ret) W3 hk
      exact ⟨_, _, hend, .inr ⟨rfl, ⟨.ret, hSp _ _ _ _ _ hx (by omega) c1 rfl, by rw [hlp]; exact d1, d2⟩, hkb⟩⟩
    | exit id =>
      obtain ⟨hk, hx⟩ := hp
      obtain ⟨hend, c1, d1, d2, hkb⟩ := fin (some (.exit id)) W3 hk
      exact ⟨_, _, hend, .inr ⟨rfl, ⟨.exit id, hSp _ _ _ _ _ hx (by omega) c1 rfl, by rw [hlp]; exact d1, d2⟩, hkb⟩⟩
    | goto t => exact hp.elim
    | panic ch => exact hp.elim
    | outgrown => exact hp.elim
  · rintro e W2 ⟨⟨v, rfl⟩, ⟨hDN, hB⟩ | ⟨c, hc, hl, hd⟩⟩
    · have hend := run_endLoop (P := P) hB.1 (by rw [hlp]; simp)
      rw [hlp] at hend
      exact ⟨none, _, hend, hdone _ _ (Nat.le_refl _) (hDp _ _ _ _ _ hDN (by omega) hB.1) ((World.putObj_heap_other (by omega)).trans hB.2)⟩
    · have hend := run_endLoop (P := P) hl (by rw [hlp]; simp)
      rw [hlp] at hend
      exact ⟨some c, _, hend, hstop _ c _ (Nat.le_refl _) (hSp _ _ _ _ _ hc (by omega) hl rfl) ((World.putObj_heap_other (by omega)).trans hd)⟩
theorem range_stops {α : Type} (hro : F.round = none) (h1 : 1 ≤ n) {gf : Nat} {lb : Array Value} (hg : a.eval g = .func (.func gf) #[] lb) (hFg : F.fn gf) (eg : ∀ args w, (callFunc gf args).run P w = .ok (.enter gf args) w)
    (enc : α → Array Value) (hps : ∀ x, (enc x).size = ps.size) (Rd : Nat → α → World → Prop) (Dn : Nat → World → Prop) (Sx : Code → World → Prop) (Kp : World → World → Prop) (N : Nat)
    (hRp : ∀ j x W l o o', Rd j x W → w.heap.size ≤ l → W.heap[l]? = some o → o.isCells = false → Rd j x (W.putObj l o'))
    (hDp : ∀ j W l o o', Dn j W → w.heap.size ≤ l → W.heap[l]? = some o → o.isCells = false → Dn j (W.putObj l o'))
    (hSp : ∀ c W l o o', Sx c W → w.heap.size ≤ l → W.heap[l]? = some o → o.isCells = false → Sx c (W.putObj l o'))
    (hKt : ∀ A B C, Kp A B → Kp B C → Kp A C)
    (hKp : ∀ W l o o', w.heap.size ≤ l → W.heap[l]? = some o → o.isCells = false → Kp W (W.putObj l o'))
    (hD0 : ∀ o, Dn 0 ((w.alloc (.deferred (some []))).alloc o)) (a₁ : α → Act)
    (hassign : ∀ (l : Nat) (x : α) (W : World) (K : Act → World → Prop), K (a₁ x) W → assign.wpIn (F.inRound l) (n - 1 - 1) P (Exit.then K (fun _ _ _ => False)) { tmps := (ps.zip (enc x)).foldl (fun t (p, v) => t.setIfInBounds p v) a.tmps, defers := [] } W)
    (hbody : ∀ (l j : Nat) (x : α) (W : World), w.heap.size ≤ l → Rd j x W → j < N → body.wpIn (F.inRound l) (n - 1 - 1) P (stopPost w.heap.size Kp (Dn (j + 1)) Sx W) (a₁ x) W)
    (hiter : ∀ (Bk : World → Prop) (X : World → Prop) (l : Nat) (W : World), (∀ A B, Bk A → A.heap.size ≤ B.heap.size → (∀ k, w.heap.size ≤ k → k < w.heap.size + 2 → B.heap[k]? = A.heap[k]?) → Bk B) → (∀ A, Bk A → w.heap.size + 2 ≤ A.heap.size) →
      (∀ A l' o o', X A → w.heap.size + 2 ≤ l' → A.heap[l']? = some o → o.isCells = false → X (A.putObj l' o')) → l < w.heap.size + 2 → Dn 0 W → Bk W →
      (∀ j x W1, Rd j x W1 → Bk W1 → j < N → YieldAt F (n - 1 - 1) P l (enc x) W1 (YPost w.heap.size l Kp (fun W2 => Dn (j + 1) W2 ∧ Bk W2) X W1)) →
      CallsIn F (n - 1) P gf (#[.func (.yield l) #[] #[]] ++ lb) W fun e W' => (∃ v, e = .returned v) ∧ ((Dn N W' ∧ Bk W') ∨ X W'))
    (hdone : ∀ (D : Nat) (W : World), w.heap.size ≤ D → Dn N W → W.heap[D]? = some (.deferred (some [])) → Q .normal { a with defers := { target := .collected D, args := #[] } :: a.defers } W)
    (hstop : ∀ (D : Nat) (c : Code) (W : World), w.heap.size ≤ D → Sx c W → W.heap[D]? = some (.deferred (some [])) → c.wpIn F n P Q { a with defers := { target := .collected D, args := #[] } :: a.defers } W) :
    (Code.rangeFunc g ps assign body).wpIn F n P Q a w :=
  range_stopsL hro h1 hg hFg eg enc hps Rd Dn Sx Kp N (fun j x W l _ o' h hl ho => hRp j x W l _ o' h hl ho rfl) (fun j W l _ o' h hl ho => hDp j W l _ o' h hl ho rfl) hSp hKt hKp hD0 a₁ hassign hbody hiter hdone hstop
end
end Go.Proofs.YtlbfibnfmijahaaGreat

namespace Go.Proofs.YtlbfibnfmijahaaGreat
open Go.RowKit

/-- the blocks of S are as they were -/
def KeepS (S : Nat → Prop) (W W' : World) : Prop := W.heap.size ≤ W'.heap.size ∧ ∀ k, S k → W'.heap[k]? = W.heap[k]?
section
variable {S S' : Nat → Prop} {A B C : World}
theorem KeepS.refl (S : Nat → Prop) (W : World) : KeepS S W W := ⟨Nat.le_refl _, fun _ _ => rfl⟩
theorem KeepS.trans (h : KeepS S A B) (k : KeepS S B C) : KeepS S A C := ⟨Nat.le_trans h.1 k.1, fun i h1 => (k.2 i h1).trans (h.2 i h1)⟩
theorem KeepS.of_below {n : Nat} (h : Below n A B) (hS : ∀ k, S k → k < n) : KeepS S A B := ⟨h.size, fun k h1 => h.block k (hS k h1)⟩
theorem KeepS.cell (h : KeepS S A B) {p : Addr} (h1 : S p.block) : B.cell? p = A.cell? p := World.cell?_of_block (h.2 p.block h1)
theorem KeepS.less (h : KeepS S A B) (hS : ∀ k, S' k → S k) : KeepS S' A B := ⟨h.1, fun k hk => h.2 k (hS k hk)⟩
theorem KeepS.set (h : KeepS S A B) {b : Nat} (hb : ¬ S b) (v : Value) : KeepS S A (B.setCell ⟨b, 0, none⟩ v) :=
  ⟨by simpa [World.setCell] using h.1, fun k hk => (Below.heap_setCell B ⟨b, 0, none⟩ v k (fun e => by subst e; exact hb hk)).trans (h.2 k hk)⟩
theorem KeepS.grown {row : Option Nat} (h : KeepS S A B) (hg : B.grownBy C row) (hS : ∀ k, S k → k < B.heap.size) (hr : ∀ k, row = some k → ¬ S k) : KeepS S A C :=
  ⟨Nat.le_trans h.1 hg.size, fun k hk => (hg.block k (hS k hk) (fun e => hr k e.symm hk)).trans (h.2 k hk)⟩
end

/-- the numbers zs lie at a, in a block of S -/
def NumsS (k : IntKind) (w : World) (S : Nat → Prop) (a : Option Addr) (zs : List Int) : Prop :=
  zs ≠ [] → ∃ b off, a = some ⟨b, off, none⟩ ∧ S b ∧ ∀ j c, zs[j]? = some c → w.cell? ⟨b, off + j, none⟩ = some (.int k c)
section
variable {k : IntKind} {S S' : Nat → Prop} {w w' : World} {B : Nat} {a : Option Addr} {zs : List Int}
theorem NumsS.nil : NumsS k w S a [] := fun h => absurd rfl h
theorem NumsS.keeps (h : NumsS k w S a zs) (hk : KeepS S w w') : NumsS k w' S a zs := fun hn => by
  obtain ⟨b, off, e, h1, hc⟩ := h hn
  exact ⟨b, off, e, h1, fun j c hj => (hk.cell (p := ⟨b, off + j, none⟩) h1).trans (hc j c hj)⟩
theorem NumsS.nums (h : NumsS k w S a zs) (hS : ∀ k, S k → k < B) : Nums k w B a zs := fun hn => by
  obtain ⟨b, off, e, h1, hc⟩ := h hn
  exact ⟨b, off, e, hS b h1, hc⟩
theorem NumsS.more (h : NumsS k w S a zs) (hS : ∀ k, S k → S' k) : NumsS k w S' a zs := fun hn => by
  obtain ⟨b, off, e, h1, hc⟩ := h hn
  exact ⟨b, off, e, hS b h1, hc⟩
theorem NumsS.take (h : NumsS k w S a zs) (n : Nat) : NumsS k w S a (zs.take n) := fun hn => by
  obtain ⟨b, off, e, h1, hc⟩ := h (by intro e; subst e; simp at hn)
  refine ⟨b, off, e, h1, fun j c hj => hc j c ?_⟩
  rw [List.getElem?_take] at hj
  by_cases hlt : j < n
  · simpa [hlt] using hj
  · simp [hlt] at hj
end
end Go.Proofs.YtlbfibnfmijahaaGreat

namespace Go.Proofs.YtlbfibnfmijahaaGreat
open Go.RowKit Go.Shelf
set_option maxRecDepth 100000
attribute [local go_sem] Oper.semAt_some

theorem kind_ways (k : Int) : k = 1 ∨ k = 2 ∨ k = 3 ∨ k = 4 ∨ k = 5 ∨ (k ≠ 1 ∧ k ≠ 2 ∧ k ≠ 3 ∧ k ≠ 4 ∧ k ≠ 5) := by omega

theorem old_any (nm : ByteArray) (so le mo : Int) (w : World) :
    Calls Tryz.prog 67 #[.string nm, .int .i64 so, .int .i64 le, .int .i64 mo] w fun e w' => e = .returned (Fd.v ⟨nm, so, 0, le, mo, 1, 0⟩) ∧ Below w.heap.size w w' := by
  unfold Fd.v Fd.cs
  go_enter Tryz.func67, Tryz.ntmps67
  go_wp2
  refine bodyPost_ret (v := .agg #[.string nm, .int .i64 so, .int .i64 0, .int .i64 le, .int .i64 mo, .int .i64 1, .int .i64 0]) (by simp [results, Tryz.results67, go_sem]) rfl ?_
  exact ⟨rfl, (Below.refl _ w).alloc (Nat.le_refl _) _⟩

theorem added_any (f : Fd) (ab : Int) (w : World) :
    Calls Tryz.prog 69 #[f.v, .int .i64 ab] w fun e w' => e = .returned (Fd.v { f with si := 2, ab := ab }) ∧ Below w.heap.size w w' := by
  unfold Fd.v Fd.cs
  go_enter Tryz.func69, Tryz.ntmps69
  go_wp2
  refine bodyPost_ret (v := .agg #[.string f.nm, .int .i64 f.so, .int .i64 f.pl, .int .i64 f.le, .int .i64 f.mo, .int .i64 2, .int .i64 ab]) (by simp [results, Tryz.results69, go_sem]) rfl ?_
  exact ⟨rfl, ((Below.refl _ w).alloc (Nat.le_refl _) _).alloc (by simp) _⟩

theorem word_any (k : Int) (w : World) :
    Calls Tryz.prog 41 #[.int .i64 k] w fun e w' => e = .returned (.string (wd k)) ∧ w = w' := by
  rcases kind_ways k with rfl | rfl | rfl | rfl | rfl | ⟨h1, h2, h3, h4, h5⟩
  all_goals simp only [wd, *, if_false, if_true, Int.reduceEq]
  case' inr.inr.inr.inr.inr =>
    have n1 : (k == 1) = false := by simpa using h1
    have n2 : (k == 2) = false := by simpa using h2
    have n3 : (k == 3) = false := by simpa using h3
    have n4 : (k == 4) = false := by simpa using h4
    have n5 : (k == 5) = false := by simpa using h5
  all_goals
    go_enter Tryz.func41, Tryz.ntmps41
    go_wp2
    go_ret
    exact ⟨rfl, rfl⟩

end Go.Proofs.YtlbfibnfmijahaaGreat

namespace Go.Proofs.YtlbfibnfmijahaaGreat
open Go.RowKit Go.Shelf
set_option maxRecDepth 100000
attribute [local go_sem] Oper.semAt_some

def flat7 : List Fd → List Value
  | [] => []
  | f :: r => f.cs.toList ++ flat7 r
theorem flat7_get : ∀ (l : List Fd) (j : Nat) (f : Fd), l[j]? = some f → ∀ q : Nat, q < 7 → (flat7 l)[j * 7 + q]? = f.cs[q]?
  | [], _, _, h, _, _ => by simp at h
  | g :: r, 0, f, h, q, hq => by
    simp only [List.getElem?_cons_zero, Option.some.injEq] at h
    subst h
    rw [flat7, Nat.zero_mul, Nat.zero_add, List.getElem?_append_left (by simp [Fd.cs]; omega)]
    simp
  | g :: r, j + 1, f, h, q, hq => by
    have h' : r[j]? = some f := by simpa using h
    rw [flat7, List.getElem?_append_right (by simp [Fd.cs]; omega), ← flat7_get r j f h' q hq]
    congr 1
    simp [Fd.cs]
    omega
theorem flat7_set : ∀ (l : List Fd) (j : Nat) (f : Fd) (p : Int), l[j]? = some f → (flat7 l).set (j * 7 + 2) (.int .i64 p) = flat7 (l.set j { f with pl := p })
  | [], _, _, _, h => by simp at h
  | g :: r, 0, f, p, h => by
    simp only [List.getElem?_cons_zero, Option.some.injEq] at h
    subst h
    simp [flat7, Fd.cs]
  | g :: r, j + 1, f, p, h => by
    have h' : r[j]? = some f := by simpa using h
    rw [flat7, List.set_cons_succ, flat7, ← flat7_set r j f p h', List.set_append_right _ _ (by simp [Fd.cs]; omega)]
    congr 2
    simp [Fd.cs]
    omega
theorem flat7_app (l m : List Fd) : flat7 (l ++ m) = flat7 l ++ flat7 m := by
  induction l with
  | nil => rfl
  | cons f r ih => rw [List.cons_append, flat7, flat7, ih, List.append_assoc]

/-- the first i with their places -/
def plsTo (L : List Fd) (i : Nat) : List Fd := (pls L 0).take i ++ L.drop i
theorem plsTo_get {L : List Fd} {i : Nat} {f : Fd} (h : L[i]? = some f) : (plsTo L i)[i]? = some f := by
  have hi : i < L.length := (List.getElem?_eq_some_iff.1 h).1
  unfold plsTo
  rw [List.getElem?_append_right (by rw [List.length_take]; omega), List.length_take, pls_len, Nat.min_eq_left (by omega), Nat.sub_self, List.getElem?_drop]
  simpa using h
theorem plsTo_next {L : List Fd} {i : Nat} {f : Fd} {p : Int} (h : L[i]? = some f) (hp : p = if f.so < 3 then nums3 (L.take i) else -1) : (plsTo L i).set i { f with pl := p } = plsTo L (i + 1) := by
  have hi : i < L.length := (List.getElem?_eq_some_iff.1 h).1
  have hg := pls_get L 0 i f h
  rw [Int.zero_add, ← hp] at hg
  unfold plsTo
  have hl : ((pls L 0).take i).length = i := by rw [List.length_take, pls_len]; omega
  have hd : L.drop i = f :: L.drop (i + 1) := by
    rw [List.drop_eq_getElem_cons hi]
    congr 1
    have := (List.getElem?_eq_some_iff.1 h).2
    exact this
  rw [List.set_append_right _ _ (by omega), hl, Nat.sub_self, hd, List.set_cons_zero, List.take_add_one, hg]
  simp

/-- a row of fields that is written in place -/
def FRow (T : TypeId) (w : World) (g : Nat) (L : List Fd) : Prop := w.heap[g]? = some (.cells (flat7 L).toArray T (0, 0))
theorem FRow.cell {T : TypeId} {w : World} {g : Nat} {L : List Fd} (h : FRow T w g L) {j : Nat} {f : Fd} (hj : L[j]? = some f) {q : Nat} (hq : q < 7) : w.cell? ⟨g, j * 7 + q, none⟩ = f.cs[q]? := by
  unfold FRow at h
  rw [← flat7_get L j f hj q hq]
  simp [World.cell?, h]
theorem FRow.frozen {T : TypeId} {w : World} {g : Nat} {L : List Fd} (h : FRow T w g L) (j : Nat) : w.frozen? ⟨g, j, none⟩ = false := frozen_of_row w g j _ _ h
theorem FRow.set {T : TypeId} {w : World} {g : Nat} {L : List Fd} (h : FRow T w g L) {j : Nat} {f : Fd} (hj : L[j]? = some f) (p : Int) : FRow T (w.setCell ⟨g, j * 7 + 2, none⟩ (.int .i64 p)) g (L.set j { f with pl := p }) := by
  unfold FRow at *
  rw [setCell_at h, ← flat7_set L j f p hj]
  simp

set_option maxHeartbeats 2000000 in
theorem placed_any (L : List Fd) (hso : ∀ f ∈ L, 1 ≤ f.so ∧ f.so ≤ 6) (n cap g : Nat) (hn : L.length = n) (hf : n ≤ 6) (w : World) (hr : FRow 87 w g L) :
    Calls Tryz.prog 68 #[.slice (some ⟨g, 0, none⟩) n cap] w fun e w' => e = .returned (.slice (some ⟨g, 0, none⟩) n cap) ∧ Off (fun k => k = g) w w' ∧ FRow 87 w' g (pls L 0) := by
  have HN := Lib.hid hn
  clear hn
  go_enter Tryz.func68, Tryz.ntmps68
  go_wp2_with fail
  go_loopw [3, 7] (fun x iv wr => ∃ k : Nat, k ≤ n ∧ iv = .int .i64 (k : Int) ∧ x = .int .i64 (nums3 (L.take k)) ∧ Hid (FRow 87 wr g (plsTo L k)) ∧ Hid (Off (fun k => k = g) w wr)) (fun _ iv _ => n - (intOf iv).toNat)
  case atStart => exact ⟨0, by omega, rfl, rfl, Lib.hid (by simpa [plsTo] using hr), Lib.hid (Off.refl _ _)⟩
  case round =>
    obtain ⟨k, hk, rfl, rfl, HR, HO⟩ := hrel
    rcases Nat.lt_or_ge k n with hlt | hge
    · obtain ⟨f, hf'⟩ : ∃ f, L[k]? = some f := ⟨_, List.getElem?_eq_getElem (by rw [HN.out]; exact hlt)⟩
      have hs := hso f (List.mem_of_getElem? hf')
      have c1 := HR.out.cell (plsTo_get hf') (q := 1) (by omega)
      have c2 := HR.out.cell (plsTo_get hf') (q := 2) (by omega)
      have z2 := HR.out.frozen (k * 7 + 2)
      simp only [Fd.cs, List.getElem?_toArray, List.getElem?_cons_succ, List.getElem?_cons_zero] at c1 c2
      obtain ⟨m, hm⟩ : ∃ m, nums3 (L.take k) = m := ⟨_, rfl⟩
      rw [hm]
      have hm2 := nums3_nonneg (L.take k)
      rw [hm, List.length_take] at hm2
      have HM := Lib.hid hm
      have HF := Lib.hid hf'
      clear hm hf'
      have hrow : ∀ p : Int, p = (if f.so < 3 then nums3 (L.take k) else -1) → Hid (FRow 87 (wr.setCell ⟨g, k * 7 + 2, none⟩ (.int .i64 p)) g (plsTo L (k + 1))) := fun p hp => Lib.hid (by
        rw [← plsTo_next HF.out hp]
        exact HR.out.set (plsTo_get HF.out) p)
      have hoff : ∀ p : Int, Hid (Off (fun k => k = g) w (wr.setCell ⟨g, k * 7 + 2, none⟩ (.int .i64 p))) := fun p => Lib.hid (HO.out.setCell (p := ⟨g, k * 7 + 2, none⟩) rfl _)
      have ht := nums3_take L k f HF.out
      rw [HM.out] at hrow ht
      have HG := Lib.hid (And.intro hrow (And.intro hoff ht))
      clear hrow hoff ht HM
      have hmm : 0 ≤ m ∧ m ≤ 6 := by omega
      clear hm2
      by_cases h1 : f.so = 1
      · go_wp2
        obtain ⟨a, b, c⟩ := HG.out
        refine ⟨⟨k + 1, by omega, by go_num, ?_, a m (by rw [if_pos (by omega)]), b m⟩, by simp only [intOf]; omega⟩
        rw [c, if_pos (by omega)]
      · by_cases h2 : f.so = 2
        · go_wp2
          obtain ⟨a, b, c⟩ := HG.out
          refine ⟨⟨k + 1, by omega, by go_num, ?_, a m (by rw [if_pos (by omega)]), b m⟩, by simp only [intOf]; omega⟩
          rw [c, if_pos (by omega)]
        · go_wp2
          obtain ⟨a, b, c⟩ := HG.out
          refine ⟨⟨k + 1, by omega, by go_num, ?_, a (-1) (by rw [if_neg (by omega)]), b (-1)⟩, by simp only [intOf]; omega⟩
          rw [c, if_neg (by omega), Int.add_zero]
    · obtain rfl : k = n := by omega
      go_wp2
      go_ret
      have h1 := HR.out
      unfold plsTo at h1
      rw [← HN.out, List.drop_length, List.append_nil, List.take_of_length_le (by rw [pls_len]; exact Nat.le_refl _)] at h1
      exact ⟨rfl, HO.out, h1⟩
end Go.Proofs.YtlbfibnfmijahaaGreat

namespace Go.Proofs.YtlbfibnfmijahaaGreat
section
variable {P : Program} {ops : Array Oper} {md : Region.Mode}

/-- 0: it looks at no memory and enters no function; 2: a store; 1: all others -/
def pureOp (o : Oper) : Bool :=
  match o.op with
  | .move _ | .assign _ | .binOp _ _ _ _ _ | .unOp _ _ _ | .convert _ _ _ | .slice _ _ _ _ _ | .fieldAddr _ _ _ | .indexAddr _ _ _ | .extract _ _ | .pick _ _ _ => true
  | .call c =>
    match c.callee with
    | .builtin .len | .builtin .cap | .builtin .min | .builtin .max => true
    | _ => false
  | _ => false
def kindOf (o : Oper) : Nat :=
  if pureOp o then 0 else match o.op with
    | .store _ _ _ => 2
    | _ => 1
theorem run_value (s : Sem Value) (w w' : World) (f : FuncId) (args : Array Value) : (do pure (Next.value (← s)) : Sem Next).run P w ≠ .ok (.enter f args) w' := by
  intro h
  rw [Sem.run_bind] at h
  cases hs : s.run P w with
  | ok x w1 => rw [hs] at h; simp [Result.andThen] at h
  | halt x w1 => rw [hs] at h; simp [Result.andThen] at h
theorem andThen_value (r : Result Value) (w' : World) (f : FuncId) (args : Array Value) : (r.andThen fun a w' => Result.ok (Next.value a) w') ≠ .ok (.enter f args) w' := by
  intro h
  cases r <;> simp [Result.andThen] at h
theorem pure_no_enter {o : Oper} (ho : pureOp o = true) (ρ : Operand → Value) (w w' : World) (f : FuncId) (args : Array Value) : (execOp ρ o).run P w ≠ .ok (.enter f args) w' := by
  unfold pureOp at ho
  unfold execOp
  cases hop : o.op <;> simp only [hop] at ho ⊢ <;> try contradiction
  all_goals first
    | exact run_value _ _ _ _ _
    | (intro h; simp at h; done)
    | skip
  case pick c x y =>
    intro h
    rw [Sem.run_bind] at h
    cases hs : (asBool (ρ c)).run P w with
    | ok x w1 => rw [hs] at h; simp [Result.andThen] at h
    | halt x w1 => rw [hs] at h; simp [Result.andThen] at h
  case call c =>
    obtain ⟨callee, cargs, cts⟩ := c
    cases callee with
    | builtin b =>
      cases b <;> simp at ho <;>
      · intro h
        simp [resolve, invoke, builtin] at h
        exact andThen_value _ _ _ _ h
    | _ => simp at ho

def stepUpon (C' : World → Prop) (v : Value) : Result Next → Prop
  | .ok (.value u) w' => u = v ∧ C' w'
  | .ok .skip w' => v = undef ∧ C' w'
  | _ => False
def StepsIn (P : Program) (ops : Array Oper) (C C' : World → Prop) (o : Oper) (v : Value) (a : Act) : Prop :=
  (Region.wanted o (yielded ops a.tmps) = true ∧ ∀ w, C w → stepUpon C' v ((execOp a.eval o).run P w)) ∨ (Region.wanted o (yielded ops a.tmps) = false ∧ v = undef ∧ C' = C)
/-- what an operation does to the class of worlds, and its value -/
def OpR (P : Program) (ops : Array Oper) (C C' : World → Prop) (o : Oper) (v : Value) (a : Act) : Prop :=
  (kindOf o = 0 ∧ C' = C ∧ YieldsIn P ops (fun _ => True) o v a) ∨ (kindOf o = 1 ∧ C' = C ∧ YieldsIn P ops C o v a) ∨ (kindOf o = 2 ∧ StepsIn P ops C C' o v a)
theorem kind_pure {o : Oper} (h : kindOf o = 0) : pureOp o = true := by
  unfold kindOf at h
  split at h
  · assumption
  · split at h <;> simp at h
theorem yields_pure {o : Oper} {v : Value} {a : Act} (hk : kindOf o = 0) (h : YieldsIn P ops (fun _ => True) o v a) (C : World → Prop) : YieldsIn P ops C o v a := by
  rcases h with ⟨hw, h⟩ | h
  · refine .inl ⟨hw, fun w _ => ?_⟩
    have h1 := h w trivial
    have h2 := pure_no_enter (P := P) (kind_pure hk) a.eval w
    unfold Oper.quietAt at h1 ⊢
    generalize (execOp a.eval o).run P w = r at h1 h2
    cases r with
    | ok n w' =>
      cases n with
      | enter f args => exact absurd rfl (h2 w' f args)
      | _ => exact h1
    | halt x w' => exact h1
  · exact .inr h
theorem OpR.of_same {C C' : World → Prop} {o : Oper} {v : Value} {a a' : Act} (h : OpR P ops C C' o v a) (he : execOp a'.eval o = execOp a.eval o) (hw : Region.wanted o (yielded ops a'.tmps) = Region.wanted o (yielded ops a.tmps)) : OpR P ops C C' o v a' := by
  rcases h with ⟨hk, hc, h⟩ | ⟨hk, hc, h⟩ | ⟨hk, h⟩
  · exact .inl ⟨hk, hc, h.of_same he hw⟩
  · exact .inr (.inl ⟨hk, hc, h.of_same he hw⟩)
  · refine .inr (.inr ⟨hk, ?_⟩)
    unfold StepsIn at *
    rw [he, hw]
    exact h
theorem OpR.wpOp {C C' : World → Prop} {i : Nat} {o : Oper} {v : Value} {a : Act} {K : Act → World → Prop} {Q' : Exit → Act → World → Prop} {w : World} (hi : ops[i]? = some o) (h : OpR P ops C C' o v a) (hC : C w) (hK : ∀ w', C' w' → K (a.put o.dst v) w') : wpOp P ops Q' i K a w := by
  have quiet : ∀ {D : World → Prop}, D w → (∀ w', D w' → K (a.put o.dst v) w') → YieldsIn P ops D o v a → Go.wpOp P ops Q' i K a w := fun {D} hD hK hy => by
    unfold Go.wpOp
    simp only [hi]
    rcases hy with ⟨hw, hv⟩ | ⟨hw, rfl⟩
    · simp only [hw, if_true]
      exact .inl (Oper.wp_of_quiet (C := D) (K := fun a' => a' = a.put o.dst v) hD (fun a' w' hw' e => by subst e; exact hK w' hw') ⟨v, hv, rfl⟩)
    · simp only [hw, Bool.false_eq_true, if_false]
      exact hK w hD
  rcases h with ⟨hk, rfl, h⟩ | ⟨hk, rfl, h⟩ | ⟨hk, h⟩
  · exact quiet hC hK (yields_pure hk h _)
  · exact quiet hC hK h
  · unfold Go.wpOp
    simp only [hi]
    rcases h with ⟨hw, hv⟩ | ⟨hw, rfl, rfl⟩
    · simp only [hw, if_true]
      left
      have h1 := hv w hC
      unfold Oper.wp
      generalize (execOp a.eval o).run P w = r at h1
      cases r with
      | ok n w' =>
        cases n <;> simp only [stepUpon] at h1 <;> simp only [Oper.upon]
        case value u => rw [h1.1]; exact hK w' h1.2
        case skip => rw [← h1.1]; exact hK w' h1.2
      | halt x w' => simp only [stepUpon] at h1
    · simp only [hw, Bool.false_eq_true, if_false]
      exact hK w hC

/-- whatever order is picked from here on -/
def wpAny2 (P : Program) (md : Region.Mode) (ops : Array Oper) (Q : (World → Prop) → Act → Prop) : Nat → Array Bool → (World → Prop) → Act → Prop
  | 0, listed, C, a => Region.ready md ops listed = [] ∧ Q C a
  | fuel + 1, listed, C, a =>
    (Region.ready md ops listed = [] → Q C a) ∧
    ∀ i ∈ Region.ready md ops listed, ∀ o, ops[i]? = some o → ∃ v C', OpR P ops C C' o v a ∧ wpAny2 P md ops Q fuel (listed.setIfInBounds i true) C' (a.put o.dst v)
theorem wpAny_of_2 {Q : (World → Prop) → Act → Prop} {Q' : Exit → Act → World → Prop} (hQ : ∀ (C : World → Prop) a w, C w → Q C a → Q' .normal a w) : ∀ (fuel : Nat) (listed : Array Bool) (C : World → Prop) (a : Act) (w : World), C w →
    wpAny2 P md ops Q fuel listed C a → wpAny P md ops Q' fuel listed a w
  | 0, _, _, _, _, hw, h => ⟨h.1, hQ _ _ _ hw h.2⟩
  | fuel + 1, _, _, _, _, hw, h => ⟨fun h0 => hQ _ _ _ hw (h.1 h0), fun i hi => by
      obtain ⟨_, o, ho, _⟩ := mem_ready.1 hi
      obtain ⟨v, C', hr, hn⟩ := h.2 i hi o ho
      exact hr.wpOp ho hw fun w' hw' => wpAny_of_2 hQ fuel _ C' _ w' hw' hn⟩

/-- nothing that may come up beside it stands in its way -/
def free2 (md : Region.Mode) (ops : Array Oper) (listed : Array Bool) (k : Nat) : Bool :=
  match ops[k]? with
  | none => false
  | some ok => (List.range ops.size).all fun j => j == k || listed.getD j true ||
    (match ops[j]? with
     | some oj => oj.after.any (fun e => Region.binds md e && e.on == k) || (ok.apart ops oj && (kindOf ok == 0 || (kindOf ok == 1 && kindOf oj != 2)))
     | none => true)
def Free (md : Region.Mode) (ops : Array Oper) (listed : Array Bool) (i : Nat) (oi : Oper) : Prop :=
  ∀ j oj, ops[j]? = some oj → j ≠ i → listed.getD j true = false → (∀ e ∈ oj.after, Region.binds md e = true → e.on ≠ i) → oi.apart ops oj = true ∧ (kindOf oi = 0 ∨ (kindOf oi = 1 ∧ kindOf oj ≠ 2))
theorem free2_spec {i : Nat} {oi : Oper} {listed : Array Bool} (hi : ops[i]? = some oi) (h : free2 md ops listed i = true) : Free md ops listed i oi := by
  intro j oj hj hne hun hno
  simp only [free2, hi, List.all_eq_true, List.mem_range] at h
  have h1 := h j (Array.getElem?_eq_some_iff.1 hj).1
  simp only [hj, Bool.or_eq_true, beq_iff_eq, hne, false_or, hun, Bool.false_eq_true, Bool.and_eq_true, bne_iff_ne, ne_eq] at h1
  rcases h1 with h1 | h1
  · obtain ⟨e, he, hb⟩ := Array.any_eq_true'.1 h1
    simp only [Bool.and_eq_true, beq_iff_eq] at hb
    exact absurd hb.2 (hno e he hb.1)
  · exact h1
/-- an operation that may come up now may be taken first -/
theorem wpAny2_first {Q : (World → Prop) → Act → Prop} {i : Nat} {oi : Oper} {v : Value} (hi : ops[i]? = some oi) (hsel : ∀ (j : Nat) (o : Oper) cs b, ops[j]? = some o → o.op ≠ .select cs b) :
    ∀ (fuel : Nat) (listed : Array Bool) (C C1 : World → Prop) (a : Act), Free md ops listed i oi → i ∈ Region.ready md ops listed → OpR P ops C C1 oi v a →
      wpAny2 P md ops Q fuel (listed.setIfInBounds i true) C1 (a.put oi.dst v) → wpAny2 P md ops Q (fuel + 1) listed C a := by
  intro fuel
  induction fuel with
  | zero =>
    intro listed C C1 a _ hr hy H
    refine ⟨fun h => (by rw [h] at hr; cases hr), fun j hj o ho => ?_⟩
    by_cases hji : j = i
    · subst hji
      have : o = oi := Option.some.inj (ho.symm.trans hi)
      subst this
      exact ⟨v, C1, hy, H⟩
    · have := ready_mono hj hji
      rw [H.1] at this
      cases this
  | succ fuel ih =>
    intro listed C C1 a hfree hr hy H
    refine ⟨fun h => (by rw [h] at hr; cases hr), fun j hj oj hoj => ?_⟩
    by_cases hji : j = i
    · subst hji
      have : oj = oi := Option.some.inj (hoj.symm.trans hi)
      subst this
      exact ⟨v, C1, hy, H⟩
    · obtain ⟨hjun, oj', hoj', hall⟩ := mem_ready.1 hj
      have : oj' = oj := Option.some.inj (hoj'.symm.trans hoj)
      subst this
      have hnot : ∀ e ∈ oj'.after, Region.binds md e = true → e.on ≠ i := fun e he hb heq => by
        have h1 := hall e he hb
        have h0 := (mem_ready.1 hr).1
        rw [heq] at h1
        rcases Nat.lt_or_ge i listed.size with h' | h'
        · simp [h'] at h0 h1; rw [h0] at h1; cases h1
        · simp [Array.getElem?_eq_none h'] at h1
      obtain ⟨hap, hkind⟩ := hfree j oj' hoj hji hjun hnot
      obtain ⟨p1, p2, p3⟩ := Oper.apart_spec hap
      have hC1 : C1 = C := by
        rcases hy with ⟨_, h, _⟩ | ⟨_, h, _⟩ | ⟨hk2, _⟩
        · exact h
        · exact h
        · rcases hkind with h | ⟨h, _⟩ <;> rw [h] at hk2 <;> simp at hk2
      subst hC1
      obtain ⟨u, C2, hR, hn⟩ := H.2 j (ready_mono hj hji) oj' hoj
      have hsi : ∀ cs b, oi.op ≠ .select cs b := fun cs b => hsel i oi cs b hi
      have hsj : ∀ cs b, oj'.op ≠ .select cs b := fun cs b => hsel j oj' cs b hoj
      have hRa : OpR P ops C1 C2 oj' u a := hR.of_same (execOp_put oj' hsj a oi.dst v p1).symm (wanted_put oj' a oi.dst v p1).symm
      have hyu : OpR P ops C2 C2 oi v (a.put oj'.dst u) := by
        have h0 := hy.of_same (a' := a.put oj'.dst u) (execOp_put oi hsi a oj'.dst u p3) (wanted_put oi a oj'.dst u p3)
        rcases h0 with ⟨hk, _, h⟩ | ⟨hk, _, h⟩ | ⟨hk, _⟩
        · exact .inl ⟨hk, rfl, h⟩
        · have hC2 : C2 = C1 := by
            rcases hkind with h' | ⟨_, h'⟩
            · rw [hk] at h'; simp at h'
            · rcases hR with ⟨_, h2, _⟩ | ⟨_, h2, _⟩ | ⟨h2, _⟩
              · exact h2
              · exact h2
              · exact absurd h2 h'
          subst hC2
          exact .inr (.inl ⟨hk, rfl, h⟩)
        · rcases hkind with h' | ⟨h', _⟩ <;> rw [hk] at h' <;> simp at h'
      refine ⟨u, C2, hRa, ih (listed.setIfInBounds j true) C2 C2 _ ?_ (ready_mono hr (Ne.symm hji)) hyu ?_⟩
      · intro k ok hk hki hun hno
        refine hfree k ok hk hki ?_ hno
        by_cases hjk : j = k
        · subst hjk; exact hjun
        · rw [getD_set_ne true hjk] at hun; exact hun
      · rw [Array.setIfInBounds_comm _ _ hji]
        rw [Act.put_comm a v u p2] at hn
        exact hn

def lexFrom2 (md : Region.Mode) (ops : Array Oper) : Nat → Nat → Array Bool → Bool
  | 0, _, listed => (Region.ready md ops listed).isEmpty
  | fuel + 1, k, listed => (Region.ready md ops listed).contains k && free2 md ops listed k && lexFrom2 md ops fuel (k + 1) (listed.setIfInBounds k true)
def lexB2 (md : Region.Mode) (ops : Array Oper) : Bool := Region.noSelect ops && lexFrom2 md ops ops.size 0 (Array.replicate ops.size false)
/-- the walk in the text's order -/
def wpQ2 (P : Program) (ops : Array Oper) (Q : (World → Prop) → Act → Prop) : List Oper → (World → Prop) → Act → Prop
  | [], C, a => Q C a
  | o :: rest, C, a => ∃ v C', OpR P ops C C' o v a ∧ wpQ2 P ops Q rest C' (a.put o.dst v)
theorem wpAny2_lex {Q : (World → Prop) → Act → Prop} (hs : Region.noSelect ops = true) : ∀ (l : List Oper) (k : Nat) (listed : Array Bool) (C : World → Prop) (a : Act), (∀ j, l[j]? = ops[k + j]?) →
    lexFrom2 md ops l.length k listed = true → wpQ2 P ops Q l C a → wpAny2 P md ops Q l.length listed C a
  | [], _, _, _, _, _, hB, h => ⟨by simpa [lexFrom2] using hB, h⟩
  | o :: l, k, listed, C, a, hl, hB, h => by
    have h0 : ops[k]? = some o := by simpa using (hl 0).symm
    simp only [List.length_cons, lexFrom2, Bool.and_eq_true] at hB
    obtain ⟨⟨hr, hf⟩, hB'⟩ := hB
    obtain ⟨v, C', hR, hn⟩ := h
    exact wpAny2_first h0 (Region.noSelect_spec hs) l.length listed C C' a (free2_spec h0 hf) (by simpa using hr) hR
      (wpAny2_lex hs l (k + 1) _ C' _ (fun j => by have := hl (j + 1); simpa [Nat.add_assoc, Nat.add_comm 1 j] using this) hB' hn)
/-- ONE WALK IN THE TEXT's ORDER SERVES EVERY ORDER -/
theorem wp_region_lex2 {id : Nat} {Q : Exit → Act → World → Prop} {a : Act} {w : World} {l : List Oper} {C : World → Prop} (hm : P.follows .mixedOrders = true) (hB : lexB2 .any l.toArray = true) (hC : C w.drew)
    (h : wpQ2 P l.toArray (fun C a' => ∀ w', C w' → Q .normal a' w') l C a) : (Code.region id l.toArray true).wp P Q a w := by
  simp only [lexB2, Bool.and_eq_true] at hB
  refine wp_region_any hm (wpAny_of_2 (Q := fun C a' => ∀ w', C w' → Q .normal a' w') (fun C a w' hw' h => h w' hw') _ _ C _ _ hC ?_)
  have := wpAny2_lex (md := .any) hB.1 l 0 (Array.replicate l.toArray.size false) C a (by simp) (by simpa using hB.2) h
  simpa using this
/-! one operation of the walk -/
theorem wpQ2_quiet {Q : (World → Prop) → Act → Prop} {o : Oper} {rest : List Oper} {C D : World → Prop} {a : Act} (hk : (kindOf o = 0 ∧ D = fun _ => True) ∨ (kindOf o = 1 ∧ D = C)) (h : wpQuiet P ops D (fun a' => wpQ2 P ops Q rest C a') [o] a) : wpQ2 P ops Q (o :: rest) C a := by
  have key : ∃ v, YieldsIn P ops D o v a ∧ wpQ2 P ops Q rest C (a.put o.dst v) := by
    unfold wpQuiet at h
    by_cases hw : Region.wanted o (yielded ops a.tmps) = true
    · simp only [hw, if_true] at h
      obtain ⟨v, h1, h2⟩ := h
      exact ⟨v, .inl ⟨hw, h1⟩, h2⟩
    · simp only [hw] at h
      exact ⟨undef, .inr ⟨by simpa using hw, rfl⟩, h⟩
  obtain ⟨v, hy, hn⟩ := key
  rcases hk with ⟨hk, rfl⟩ | ⟨hk, rfl⟩
  · exact ⟨v, C, .inl ⟨hk, rfl, hy⟩, hn⟩
  · exact ⟨v, D, .inr (.inl ⟨hk, rfl, hy⟩), hn⟩
theorem wpQ2_pure {Q : (World → Prop) → Act → Prop} {o : Oper} {rest : List Oper} {C : World → Prop} {a : Act} (hk : kindOf o = 0) (h : wpQuiet P ops (fun _ => True) (fun a' => wpQ2 P ops Q rest C a') [o] a) : wpQ2 P ops Q (o :: rest) C a := wpQ2_quiet (.inl ⟨hk, rfl⟩) h
theorem wpQ2_look {Q : (World → Prop) → Act → Prop} {o : Oper} {rest : List Oper} {C : World → Prop} {a : Act} (hk : kindOf o = 1) (h : wpQuiet P ops C (fun a' => wpQ2 P ops Q rest C a') [o] a) : wpQ2 P ops Q (o :: rest) C a := wpQ2_quiet (.inr ⟨hk, rfl⟩) h
/-- a store of one cell -/
theorem wpQ2_store {Q : (World → Prop) → Act → Prop} {o : Oper} {rest : List Oper} {C : World → Prop} {a : Act} (C' : World → Prop) {t : TypeId} {x y : Operand} (ho : o.op = .store t x y) (hd : o.dst = none) (hg : o.guard = none) (ad : Addr) (v : Value) (hx : a.eval x = .pointer (some ad)) (hy : a.eval y = v)
    (hrun : ∀ w, C w → ∃ w', (Instr.storeAt t (.pointer (some ad)) v).run P w = .ok () w' ∧ C' w') (h : wpQ2 P ops Q rest C' a) : wpQ2 P ops Q (o :: rest) C a := by
  refine ⟨undef, C', .inr (.inr ⟨?_, .inl ⟨by simp [Region.wanted, hg], fun w hw => ?_⟩⟩), ?_⟩
  · simp [kindOf, pureOp, ho]
  · obtain ⟨w', hr, hc⟩ := hrun w hw
    unfold execOp
    simp only [ho, hx, hy]
    rw [Sem.run_bind, hr]
    exact ⟨rfl, hc⟩
  · rw [hd]; exact h
end
end Go.Proofs.YtlbfibnfmijahaaGreat

namespace Go.Proofs.YtlbfibnfmijahaaGreat
open Go.RowKit
section
variable {P : Program} {ops : Array Oper} {md : Region.Mode}

/-- it stands while memory grows -/
def Closed (I : World → Prop) : Prop := ∀ w w', I w → Below w.heap.size w w' → I w'
def calmUpon (P : Program) (w : World) (v : Value) : Result Next → Prop
  | .ok (.value u) w' => w' = w ∧ u = v
  | .ok .skip w' => w' = w ∧ v = undef
  | .ok (.enter f args) w' => w' = w ∧ Calls P f args w (fun e w'' => e = .returned v ∧ Below w.heap.size w w'')
  | _ => False
def srcUpon (P : Program) (F : Value → World → Prop) (w : World) : Result Next → Prop
  | .ok (.value u) w' => F u w' ∧ Below w.heap.size w w'
  | .ok (.enter f args) w' => w' = w ∧ Calls P f args w (fun e w'' => ∃ u, e = .returned u ∧ F u w'' ∧ Below w.heap.size w w'')
  | _ => False
/-- one value, in every world of the class -/
def CalmIn (P : Program) (ops : Array Oper) (I : World → Prop) (o : Oper) (v : Value) (a : Act) : Prop :=
  (Region.wanted o (yielded ops a.tmps) = true ∧ ∀ w, I w → calmUpon P w v ((execOp a.eval o).run P w)) ∨ (Region.wanted o (yielded ops a.tmps) = false ∧ v = undef)
theorem put_same {a : Act} {d : Tmp} (v : Value) (h : d < a.tmps.size) : (a.put (some d) v).tmps[d]? = some v := by simp [Act.put, h]
theorem put_other {a : Act} {x : Option Tmp} {d : Tmp} (v : Value) (h : x ≠ some d) : (a.put x v).tmps[d]? = a.tmps[d]? := by
  cases x with
  | none => rfl
  | some e =>
    have hne : e ≠ d := fun he => h (by rw [he])
    simp [Act.put, Array.getElem?_setIfInBounds_ne hne]
theorem put_size (a : Act) (x : Option Tmp) (v : Value) : (a.put x v).tmps.size = a.tmps.size := by cases x <;> simp [Act.put]
theorem put_defers (a : Act) (x : Option Tmp) (v : Value) : (a.put x v).defers = a.defers := by cases x <;> rfl
def fill : List Tmp → (Tmp → Value) → Act → Act
  | [], _, a => a
  | s :: r, xs, a => fill r xs (a.put (some s) (xs s))
theorem fill_size : ∀ (fs : List Tmp) (xs : Tmp → Value) (a : Act), (fill fs xs a).tmps.size = a.tmps.size ∧ (fill fs xs a).defers = a.defers
  | [], _, _ => ⟨rfl, rfl⟩
  | s :: r, xs, a => by
    obtain ⟨h1, h2⟩ := fill_size r xs (a.put (some s) (xs s))
    exact ⟨h1.trans (put_size ..), h2.trans (put_defers ..)⟩
theorem fill_out : ∀ (fs : List Tmp) (xs : Tmp → Value) (a : Act) (d : Tmp), d ∉ fs → (fill fs xs a).tmps[d]? = a.tmps[d]?
  | [], _, _, _, _ => rfl
  | s :: r, xs, a, d, h => by
    rw [List.mem_cons, not_or] at h
    exact (fill_out r xs _ d h.2).trans (put_other _ (by simpa using fun e => h.1 e.symm))
theorem fill_in : ∀ (fs : List Tmp) (xs : Tmp → Value) (a : Act) (d : Tmp), d ∈ fs → d < a.tmps.size → (fill fs xs a).tmps[d]? = some (xs d)
  | s :: r, xs, a, d, h, hlt => by
    by_cases hr : d ∈ r
    · exact fill_in r xs _ d hr (by rw [put_size]; exact hlt)
    · rcases List.mem_cons.1 h with rfl | h
      · exact (fill_out r xs _ d hr).trans (put_same _ hlt)
      · exact absurd h hr
/-- what is to be shown of one operation: it looks at no source; it is one; it looks at one; it is one and looks at others -/
def Ob (P : Program) (ops : Array Oper) (I : World → Prop) (fs : List Tmp) (FS : Tmp → Value → World → Prop) (o : Oper) (v : Value) (a : Act) : Prop :=
  ((∀ d ∈ o.looksAt ops, d ∉ fs) ∧ (∀ d, o.dst = some d → d ∉ fs) ∧ CalmIn P ops I o v a) ∨
  (∃ s, s ∈ fs ∧ o.dst = some s ∧ (∀ d ∈ o.looksAt ops, d ∉ fs) ∧ Region.wanted o (yielded ops a.tmps) = true ∧ ∀ w, I w → srcUpon P (FS s) w ((execOp a.eval o).run P w)) ∨
  (∃ s, s ∈ fs ∧ (∃ j, (ops[j]?).bind (·.dst) = some s ∧ o.after.any (fun e => Region.binds .any e && e.on == j) = true) ∧ (∀ d ∈ o.looksAt ops, d ∈ fs → d = s) ∧ (∀ d, o.dst = some d → d ∉ fs) ∧
    ∀ x w, I w → FS s x w → Region.wanted o (yielded ops (a.put (some s) x).tmps) = true ∧ calmUpon P w v ((execOp (a.put (some s) x).eval o).run P w)) ∨
  (∃ s R, s ∈ fs ∧ o.dst = some s ∧ (∀ r ∈ R, r ∈ fs ∧ ∃ j, (ops[j]?).bind (·.dst) = some r ∧ o.after.any (fun e => Region.binds .any e && e.on == j) = true) ∧ (∀ d ∈ o.looksAt ops, d ∈ fs → d ∈ R) ∧
    ∀ xs w, I w → (∀ r ∈ R, FS r (xs r) w) → Region.wanted o (yielded ops (fill R xs a).tmps) = true ∧ srcUpon P (FS s) w ((execOp (fill R xs a).eval o).run P w))
/-- the walk in the text's order -/
def wpF (P : Program) (ops : Array Oper) (I : World → Prop) (fs : List Tmp) (FS : Tmp → Value → World → Prop) (E : Act → Prop) : List Oper → Act → Prop
  | [], a => E a
  | o :: r, a => ∃ v, Ob P ops I fs FS o v a ∧ wpF P ops I fs FS E r (a.put o.dst v)
def lex : List Oper → List Value → Act → Nat → Act
  | o :: r, v :: vs, a, k + 1 => lex r vs (a.put o.dst v) k
  | _, _, a, _ => a
theorem lex_zero (l : List Oper) (vs : List Value) (a : Act) : lex l vs a 0 = a := by cases l <;> cases vs <;> rfl
section
variable {I : World → Prop} {fs : List Tmp} {FS : Tmp → Value → World → Prop} {E : Act → Prop}
theorem wpF_vals : ∀ (l : List Oper) (a : Act), wpF P ops I fs FS E l a → ∃ vs : List Value, vs.length = l.length ∧
    (∀ (k : Nat) o v, l[k]? = some o → vs[k]? = some v → Ob P ops I fs FS o v (lex l vs a k)) ∧ E (lex l vs a l.length)
  | [], a, h => ⟨[], rfl, by simp, h⟩
  | o :: r, a, ⟨v, hob, hr⟩ => by
    obtain ⟨vs, h1, h2, h3⟩ := wpF_vals r _ hr
    refine ⟨v :: vs, by simp [h1], fun k o' v' ho hv => ?_, h3⟩
    cases k with
    | zero =>
      simp only [List.getElem?_cons_zero, Option.some.injEq] at ho hv
      subst ho hv
      exact hob
    | succ k =>
      simp only [List.getElem?_cons_succ] at ho hv
      exact h2 k o' v' ho hv
end
theorem lex_size : ∀ (l : List Oper) (vs : List Value) (a : Act) (k : Nat), (lex l vs a k).tmps.size = a.tmps.size ∧ (lex l vs a k).defers = a.defers
  | o :: r, v :: vs, a, k + 1 => by
    obtain ⟨h1, h2⟩ := lex_size r vs (a.put o.dst v) k
    exact ⟨h1.trans (put_size ..), h2.trans (put_defers ..)⟩
  | [], _, _, _ => by simp [lex]
  | _ :: _, [], _, _ => by simp [lex]
  | _ :: _, _ :: _, _, 0 => by simp [lex]
theorem lex_out : ∀ (l : List Oper) (vs : List Value) (a : Act) (k : Nat) (d : Tmp), (∀ (j : Nat) o, l[j]? = some o → j < k → o.dst ≠ some d) → (lex l vs a k).tmps[d]? = a.tmps[d]?
  | o :: r, v :: vs, a, k + 1, d, h => by
    have h0 := h 0 o rfl (by omega)
    exact (lex_out r vs (a.put o.dst v) k d fun j o' hj hk => h (j + 1) o' (by simpa using hj) (by omega)).trans (put_other v h0)
  | [], _, _, _, _, _ => by simp [lex]
  | _ :: _, [], _, _, _, _ => by simp [lex]
  | _ :: _, _ :: _, _, 0, _, _ => by simp [lex]
theorem lex_in : ∀ (l : List Oper) (vs : List Value) (a : Act) (k j : Nat) (o : Oper) (d : Tmp) (v : Value), l[j]? = some o → j < k → vs[j]? = some v → o.dst = some d → d < a.tmps.size →
    (∀ (i : Nat) oi, l[i]? = some oi → i < k → i ≠ j → oi.dst ≠ some d) → (lex l vs a k).tmps[d]? = some v
  | o :: r, v :: vs, a, k + 1, 0, o', d, v', ho, _, hv, hd, hlt, hu => by
    simp only [List.getElem?_cons_zero, Option.some.injEq] at ho hv
    subst ho hv
    refine (lex_out r vs _ k d fun i oi hi hik => hu (i + 1) oi (by simpa using hi) (by omega) (by omega)).trans ?_
    rw [hd]
    exact put_same v hlt
  | o :: r, v :: vs, a, k + 1, j + 1, o', d, v', ho, hjk, hv, hd, hlt, hu => by
    simp only [List.getElem?_cons_succ] at ho hv
    exact lex_in r vs _ k j o' d v' ho (by omega) hv hd (by rw [put_size]; exact hlt) fun i oi hi hik hij => hu (i + 1) oi (by simpa using hi) (by omega) (by omega)
  | [], _, _, _, _, _, _, _, ho, _, _, _, _, _ => by simp at ho
  | _ :: _, [], _, _, _, _, _, _, _, _, hv, _, _, _ => by simp at hv
  | _ :: _, _ :: _, _, 0, _, _, _, _, _, hk, _, _, _, _ => by omega

/-- k waits for j -/
def seenB (md : Region.Mode) (ops : Array Oper) (k j : Nat) : Bool :=
  match ops[k]? with
  | some o => o.after.any fun e => Region.binds md e && e.on == j
  | none => false
/-- each operation waits for earlier ones alone; slots are written once; who looks at a slot waits for its writer, or the writer for him -/
def rgB (md : Region.Mode) (ops : Array Oper) (N : Nat) : Bool :=
  Region.noSelect ops && (List.range ops.size).all fun k =>
    match ops[k]? with
    | none => false
    | some o =>
      (match o.dst with | some d => decide (d < N) | none => true) && o.after.all (fun e => !Region.binds md e || decide (e.on < k)) &&
      (List.range ops.size).all fun j =>
        match ops[j]? with
        | none => false
        | some oj =>
          match oj.dst with
          | none => true
          | some d => (k == j || o.dst != some d) && (!(o.looksAt ops).contains d || (decide (j < k) && seenB md ops k j) || (decide (k < j) && seenB md ops j k))
structure RG (md : Region.Mode) (ops : Array Oper) (N : Nat) : Prop where
  sel : ∀ (j : Nat) (o : Oper) cs b, ops[j]? = some o → o.op ≠ .select cs b
  small : ∀ (k : Nat) o d, ops[k]? = some o → o.dst = some d → d < N
  back : ∀ (k : Nat) o, ops[k]? = some o → ∀ e ∈ o.after, Region.binds md e = true → e.on < k
  once : ∀ (k j : Nat) o oj d, ops[k]? = some o → ops[j]? = some oj → oj.dst = some d → k ≠ j → o.dst ≠ some d
  look : ∀ (k j : Nat) o oj d, ops[k]? = some o → ops[j]? = some oj → oj.dst = some d → d ∈ o.looksAt ops →
    (j < k ∧ ∃ e ∈ o.after, Region.binds md e = true ∧ e.on = j) ∨ (k < j ∧ ∃ e ∈ oj.after, Region.binds md e = true ∧ e.on = k)
theorem seenB_spec {k j : Nat} {o : Oper} (ho : ops[k]? = some o) (h : seenB md ops k j = true) : ∃ e ∈ o.after, Region.binds md e = true ∧ e.on = j := by
  simp only [seenB, ho] at h
  obtain ⟨e, he, hb⟩ := Array.any_eq_true'.1 h
  simp only [Bool.and_eq_true, beq_iff_eq] at hb
  exact ⟨e, he, hb.1, hb.2⟩
theorem rgB_spec {N : Nat} (h : rgB md ops N = true) : RG md ops N := by
  simp only [rgB, Bool.and_eq_true, List.all_eq_true, List.mem_range] at h
  obtain ⟨hs, h⟩ := h
  have at_ : ∀ (k : Nat) o, ops[k]? = some o → ((match o.dst with | some d => decide (d < N) | none => true) = true ∧ o.after.all (fun e => !Region.binds md e || decide (e.on < k)) = true) ∧
      ∀ (j : Nat) oj, ops[j]? = some oj → (match oj.dst with | none => true | some d => (k == j || o.dst != some d) && (!(o.looksAt ops).contains d || (decide (j < k) && seenB md ops k j) || (decide (k < j) && seenB md ops j k))) = true := fun k o ho => by
    have h1 := h k (Array.getElem?_eq_some_iff.1 ho).1
    simp only [ho, Bool.and_eq_true, List.all_eq_true, List.mem_range] at h1
    refine ⟨h1.1, fun j oj hj => ?_⟩
    have h2 := h1.2 j (Array.getElem?_eq_some_iff.1 hj).1
    simpa only [hj] using h2
  refine ⟨fun j o cs b hj => Region.noSelect_spec hs j o cs b hj, fun k o d ho hd => ?_, fun k o ho e he hb => ?_, fun k j o oj d ho hj hd hne => ?_, fun k j o oj d ho hj hd hl => ?_⟩
  · have := (at_ k o ho).1.1
    simpa [hd] using this
  · have := (at_ k o ho).1.2
    rw [Array.all_eq_true_iff_forall_mem] at this
    have := this e he
    simpa [hb] using this
  · have := (at_ k o ho).2 j oj hj
    simp only [hd, Bool.and_eq_true, Bool.or_eq_true, beq_iff_eq, hne, false_or, bne_iff_ne, ne_eq] at this
    exact this.1
  · have := (at_ k o ho).2 j oj hj
    simp only [hd, Bool.and_eq_true, Bool.or_eq_true, decide_eq_true_eq, Bool.not_eq_true'] at this
    rcases this.2 with (h1 | h1) | h1
    · have : (o.looksAt ops).contains d = true := by simpa using hl
      rw [this] at h1; cases h1
    · exact .inl ⟨h1.1, seenB_spec ho h1.2⟩
    · exact .inr ⟨h1.1, seenB_spec hj h1.2⟩

/-- two frames agree at the slots that an operation looks at -/
theorem exec_agree {o : Oper} {a b : Act} (hs : ∀ cs c, o.op ≠ .select cs c) (h : ∀ d ∈ o.looksAt ops, a.tmps[d]? = b.tmps[d]?) : execOp a.eval o = execOp b.eval o :=
  execOp_congr o hs fun x hx => by
    cases x with
    | tmp t =>
      have := h t (List.mem_append_left _ (List.mem_filterMap.2 ⟨.tmp t, by simpa using hx, rfl⟩))
      simp [Act.eval, this]
    | _ => rfl
theorem wanted_agree {o : Oper} {a b : Act} (h : ∀ d ∈ o.looksAt ops, a.tmps[d]? = b.tmps[d]?) : Region.wanted o (yielded ops a.tmps) = Region.wanted o (yielded ops b.tmps) := by
  unfold Region.wanted
  cases hg : o.guard with
  | none => rfl
  | some gw =>
    obtain ⟨g, want⟩ := gw
    have hy : yielded ops a.tmps g = yielded ops b.tmps g := by
      unfold yielded
      cases ht : (ops[g]?).bind (·.dst) with
      | none => rfl
      | some t =>
        have := h t (List.mem_append_right _ (by simp [hg, ht]))
        simp [this]
    simp only [hy]

/-! ### what an actual run has left so far -/
section
variable {l : List Oper} {vs : List Value} {fs : List Tmp} {FS : Tmp → Value → World → Prop} {I : World → Prop} {a0 : Act}
structure Inv (l : List Oper) (vs : List Value) (fs : List Tmp) (FS : Tmp → Value → World → Prop) (I : World → Prop) (a0 : Act) (listed : Array Bool) (b : Act) (w : World) : Prop where
  cls : I w
  size : b.tmps.size = a0.tmps.size
  defers : b.defers = a0.defers
  out : ∀ d, (∀ (j : Nat) o, l[j]? = some o → listed.getD j true = true → o.dst ≠ some d) → b.tmps[d]? = a0.tmps[d]?
  ins : ∀ (j : Nat) o d v, l[j]? = some o → listed.getD j true = true → o.dst = some d → vs[j]? = some v → (d ∈ fs → ∃ x, b.tmps[d]? = some x ∧ FS d x w) ∧ (d ∉ fs → b.tmps[d]? = some v)
  down : ∀ (j : Nat) o, l[j]? = some o → listed.getD j true = true → ∀ e ∈ o.after, Region.binds .any e = true → listed.getD e.on true = true
  lsize : listed.size = l.length
theorem getD_set_same (L : Array Bool) (i : Nat) : (L.setIfInBounds i true).getD i true = true := by
  rw [Array.getD_eq_getD_getElem?, Array.getElem?_setIfInBounds, if_pos rfl]
  split <;> rfl
theorem getD_set_far (L : Array Bool) {i j : Nat} (h : i ≠ j) : (L.setIfInBounds i true).getD j true = L.getD j true := by
  rw [Array.getD_eq_getD_getElem?, Array.getElem?_setIfInBounds, if_neg h, ← Array.getD_eq_getD_getElem?]
theorem getD_set_up (L : Array Bool) {i j : Nat} (h : L.getD j true = true) : (L.setIfInBounds i true).getD j true = true := by
  by_cases hij : i = j
  · subst hij; exact getD_set_same L i
  · rw [getD_set_far L hij]; exact h
theorem Inv.next {N : Nat} (hR : RG .any l.toArray N) (hN : N ≤ a0.tmps.size) (hI : Closed I) (hF : ∀ s x w w', FS s x w → Below w.heap.size w w' → FS s x w') {listed : Array Bool} {b : Act} {w w' : World} {i : Nat} {o : Oper} {u : Value}
    (h : Inv l vs fs FS I a0 listed b w) (ho : l[i]? = some o) (hp : ∀ e ∈ o.after, Region.binds .any e = true → listed.getD e.on true = true) (hb : Below w.heap.size w w')
    (hu : ∀ d, o.dst = some d → (d ∈ fs → FS d u w') ∧ (d ∉ fs → vs[i]? = some u)) : Inv l vs fs FS I a0 (listed.setIfInBounds i true) (b.put o.dst u) w' := by
  have ho' : l.toArray[i]? = some o := by simpa using ho
  refine ⟨hI w w' h.cls hb, (put_size ..).trans h.size, (put_defers ..).trans h.defers, fun d hd => ?_, fun j oj d v hj hlj hdj hv => ?_, fun j oj hj hlj e he hbe => ?_, by simpa using h.lsize⟩
  · rw [put_other u (hd i o ho (getD_set_same _ _))]
    exact h.out d fun j oj hj hlj => hd j oj hj (getD_set_up _ hlj)
  · by_cases hij : i = j
    · subst hij
      obtain rfl : o = oj := Option.some.inj (ho.symm.trans hj)
      obtain ⟨h1, h2⟩ := hu d hdj
      rw [hdj]
      have hlt : d < b.tmps.size := by rw [h.size]; exact Nat.lt_of_lt_of_le (hR.small i o d ho' hdj) hN
      refine ⟨fun hd => ⟨u, put_same u hlt, h1 hd⟩, fun hd => ?_⟩
      rw [put_same u hlt]
      exact (h2 hd).symm.trans hv
    · rw [getD_set_far _ hij] at hlj
      obtain ⟨h1, h2⟩ := h.ins j oj d v hj hlj hdj hv
      have hne : o.dst ≠ some d := hR.once i j o oj d ho' (by simpa using hj) hdj hij
      rw [put_other u hne]
      exact ⟨fun hd => let ⟨x, hx, hfx⟩ := h1 hd; ⟨x, hx, hF d x w w' hfx hb⟩, h2⟩
  · by_cases hij : i = j
    · subst hij
      obtain rfl : o = oj := Option.some.inj (ho.symm.trans hj)
      exact getD_set_up _ (hp e he hbe)
    · rw [getD_set_far _ hij] at hlj
      exact getD_set_up _ (h.down j oj hj hlj e he hbe)
/-- at what an operation looks at, the run and the walk agree -/
theorem Inv.agree {N : Nat} (hR : RG .any l.toArray N) (hN : N ≤ a0.tmps.size) (hlen : vs.length = l.length) {listed : Array Bool} {b : Act} {w : World} {k : Nat} {o : Oper}
    (h : Inv l vs fs FS I a0 listed b w) (ho : l[k]? = some o) (hun : listed.getD k true = false) (hp : ∀ e ∈ o.after, Region.binds .any e = true → listed.getD e.on true = true) {d : Tmp} (hd : d ∈ o.looksAt l.toArray) (hf : d ∉ fs) :
    (lex l vs a0 k).tmps[d]? = b.tmps[d]? := by
  have ho' : l.toArray[k]? = some o := by simpa using ho
  by_cases hw : ∃ (j : Nat) (oj : Oper), l[j]? = some oj ∧ oj.dst = some d
  · obtain ⟨j, oj, hj, hdj⟩ := hw
    have hj' : l.toArray[j]? = some oj := by simpa using hj
    rcases hR.look k j o oj d ho' hj' hdj hd with ⟨hjk, e, he, hbe, rfl⟩ | ⟨hkj, e, he, hbe, rfl⟩
    · obtain ⟨v, hv⟩ : ∃ v, vs[e.on]? = some v := ⟨_, List.getElem?_eq_getElem (by rw [hlen]; exact (List.getElem?_eq_some_iff.1 hj).1)⟩
      rw [lex_in l vs a0 k e.on oj d v hj hjk hv hdj (Nat.lt_of_lt_of_le (hR.small _ _ _ hj' hdj) hN) fun i oi hi _ hne => hR.once i e.on oi oj d (by simpa using hi) hj' hdj hne]
      exact ((h.ins e.on oj d v hj (hp e he hbe) hdj hv).2 hf).symm
    · have hjun : listed.getD j true = false := by
        cases hc : listed.getD j true with
        | false => rfl
        | true => rw [h.down j oj hj hc e he hbe] at hun; cases hun
      rw [lex_out l vs a0 _ d fun i oi hi hik hdi => hR.once i j oi oj d (by simpa using hi) hj' hdj (by omega) hdi]
      refine (h.out d fun i oi hi hli hdi => ?_).symm
      by_cases hij : i = j
      · subst hij; rw [hjun] at hli; cases hli
      · exact hR.once i j oi oj d (by simpa using hi) hj' hdj hij hdi
  · rw [lex_out l vs a0 k d fun i oi hi _ hdi => hw ⟨i, oi, hi, hdi⟩]
    exact (h.out d fun i oi hi _ hdi => hw ⟨i, oi, hi, hdi⟩).symm
theorem count_zero {L : Array Bool} (h : L.toList.count false = 0) (j : Nat) : L.getD j true = true := by
  rw [List.count_eq_zero] at h
  rw [Array.getD_eq_getD_getElem?]
  cases hc : L[j]? with
  | none => rfl
  | some x =>
    cases x with
    | true => rfl
    | false => exact absurd (Array.mem_toList_iff.2 (Array.mem_of_getElem? hc)) h
theorem count_set {L : Array Bool} {i : Nat} (h : L.getD i true = false) : (L.setIfInBounds i true).toList.count false + 1 = L.toList.count false := by
  have h1 : L.toList[i]? = some false := by
    rw [Array.getD_eq_getD_getElem?] at h
    cases hc : L[i]? with
    | none => rw [hc] at h; simp at h
    | some x => rw [hc] at h; simp at h; subst h; simpa using hc
  rw [Array.toList_setIfInBounds]
  generalize L.toList = M at h1
  clear h
  induction M generalizing i with
  | nil => simp at h1
  | cons y M ih =>
    cases i with
    | zero =>
      simp at h1
      subst h1
      simp
    | succ i =>
      have := ih (i := i) (by simpa using h1)
      rw [List.set_cons_succ, List.count_cons, List.count_cons, ← this]
      omega
theorem ready_all {N : Nat} (hR : RG .any l.toArray N) {listed : Array Bool} (hs : listed.size = l.length) (h : Region.ready .any l.toArray listed = []) : ∀ j, listed.getD j true = true := by
  intro j
  induction j using Nat.strongRecOn with
  | ind j ih =>
    cases hc : listed.getD j true with
    | true => rfl
    | false =>
      have hlt : j < l.length := by
        rcases Nat.lt_or_ge j l.length with h1 | h1
        · exact h1
        · rw [Array.getD_eq_getD_getElem?, Array.getElem?_eq_none (by omega)] at hc; simp at hc
      have ho : l.toArray[j]? = some l[j] := by simp [hlt]
      have : j ∈ Region.ready .any l.toArray listed := mem_ready.2 ⟨hc, l[j], ho, fun e he hb => by
        have hlt2 := hR.back j l[j] ho e he hb
        have := ih e.on hlt2
        rw [Array.getD_eq_getD_getElem?] at this ⊢
        rw [Array.getElem?_eq_getElem (show e.on < listed.size by omega)] at this ⊢
        simpa using this⟩
      rw [h] at this
      cases this

theorem any_of_F {N : Nat} {Q' : Exit → Act → World → Prop} (hR : RG .any l.toArray N) (hN : N ≤ a0.tmps.size) (hlen : vs.length = l.length) (hI : Closed I) (hF : ∀ s x w w', FS s x w → Below w.heap.size w w' → FS s x w')
    (hob : ∀ (k : Nat) o v, l[k]? = some o → vs[k]? = some v → Ob P l.toArray I fs FS o v (lex l vs a0 k))
    (hQ : ∀ (listed : Array Bool) b w, (∀ j, listed.getD j true = true) → Inv l vs fs FS I a0 listed b w → Q' .normal b w) :
    ∀ (fuel : Nat) (listed : Array Bool) (b : Act) (w : World), listed.toList.count false ≤ fuel → Inv l vs fs FS I a0 listed b w → wpAny P .any l.toArray Q' fuel listed b w
  | 0, listed, b, w, hc, h => by
    have hall := count_zero (L := listed) (by omega)
    refine ⟨?_, hQ listed b w hall h⟩
    rw [List.eq_nil_iff_forall_not_mem]
    intro i hi
    have := (mem_ready.1 hi).1
    rw [hall i] at this
    cases this
  | fuel + 1, listed, b, w, hc, h => by
    refine ⟨fun h0 => hQ listed b w (ready_all hR h.lsize h0) h, fun i hi => ?_⟩
    obtain ⟨hun, o, ho, hall⟩ := mem_ready.1 hi
    have ho2 : l[i]? = some o := by simpa using ho
    have hp : ∀ e ∈ o.after, Region.binds .any e = true → listed.getD e.on true = true := fun e he hb => by
      have h1 := hall e he hb
      rw [Array.getD_eq_getD_getElem?] at h1 ⊢
      cases hx : listed[e.on]? with
      | none => rfl
      | some y => rw [hx] at h1; simpa using h1
    obtain ⟨v, hv⟩ : ∃ v, vs[i]? = some v := ⟨_, List.getElem?_eq_getElem (by rw [hlen]; exact (List.getElem?_eq_some_iff.1 ho2).1)⟩
    have K : ∀ u w', Below w.heap.size w w' → (∀ d, o.dst = some d → (d ∈ fs → FS d u w') ∧ (d ∉ fs → vs[i]? = some u)) → wpAny P .any l.toArray Q' fuel (listed.setIfInBounds i true) (b.put o.dst u) w' := fun u w' hb hu =>
      any_of_F hR hN hlen hI hF hob hQ fuel _ _ _ (by have := count_set hun; omega) (h.next hR hN hI hF ho2 hp hb hu)
    have hsel : ∀ cs c, o.op ≠ .select cs c := fun cs c => hR.sel i o cs c ho
    have ag : ∀ d ∈ o.looksAt l.toArray, d ∉ fs → (lex l vs a0 i).tmps[d]? = b.tmps[d]? := fun d hd hf => h.agree hR hN hlen ho2 hun hp hd hf
    unfold Go.wpOp
    simp only [ho]
    rcases hob i o v ho2 hv with ⟨h1, h2, hcalm⟩ | ⟨s, hs, hds, h1, hwt, hsrc⟩ | ⟨s, hs, ⟨j, hj, hje⟩, h1, h2, huse⟩ | ⟨s, R, hs, hds, hRs, h1, hmix⟩
    · have he := exec_agree (ops := l.toArray) hsel fun d hd => ag d hd (h1 d hd)
      have hw := wanted_agree (ops := l.toArray) fun d hd => ag d hd (h1 d hd)
      have kv : ∀ w', Below w.heap.size w w' → wpAny P .any l.toArray Q' fuel (listed.setIfInBounds i true) (b.put o.dst v) w' := fun w' hb => K v w' hb fun d hd => ⟨fun hf => absurd hf (h2 d hd), fun _ => hv⟩
      rcases hcalm with ⟨hwt, hval⟩ | ⟨hwf, rfl⟩
      · rw [hw] at hwt
        rw [if_pos hwt]
        left
        have h3 := hval w h.cls
        rw [he] at h3
        unfold Oper.wp
        generalize (execOp b.eval o).run P w = r at h3
        cases r with
        | ok n w' =>
          cases n <;> simp only [calmUpon] at h3 <;> simp only [Oper.upon]
          case value u => obtain ⟨rfl, rfl⟩ := h3; exact kv _ (Below.refl _ _)
          case skip => obtain ⟨rfl, rfl⟩ := h3; exact kv _ (Below.refl _ _)
          case enter f args =>
            obtain ⟨rfl, hcc⟩ := h3
            exact hcc.mono fun e w'' ⟨he, hb⟩ => by subst he; exact kv _ hb
        | halt x w' => simp only [calmUpon] at h3
      · rw [hw] at hwf
        rw [hwf, if_neg (by simp)]
        exact kv w (Below.refl _ _)
    · have he := exec_agree (ops := l.toArray) hsel fun d hd => ag d hd (h1 d hd)
      have hw := wanted_agree (ops := l.toArray) fun d hd => ag d hd (h1 d hd)
      rw [hw] at hwt
      rw [if_pos hwt]
      left
      have h3 := hsrc w h.cls
      rw [he] at h3
      have kf : ∀ u w', FS s u w' → Below w.heap.size w w' → wpAny P .any l.toArray Q' fuel (listed.setIfInBounds i true) (b.put o.dst u) w' := fun u w' hf hb => K u w' hb fun d hd => by
        obtain rfl : d = s := Option.some.inj (hd.symm.trans hds)
        exact ⟨fun _ => hf, fun hnf => absurd hs hnf⟩
      unfold Oper.wp
      generalize (execOp b.eval o).run P w = r at h3
      cases r with
      | ok n w' =>
        cases n <;> simp only [srcUpon] at h3 <;> simp only [Oper.upon]
        case value u => exact kf u w' h3.1 h3.2
        case enter f args =>
          obtain ⟨rfl, hcc⟩ := h3
          exact hcc.mono fun e w'' ⟨u, he, hf, hb⟩ => by subst he; exact kf u w'' hf hb
      | halt x w' => simp only [srcUpon] at h3
    · obtain ⟨e, hee, heb⟩ := Array.any_eq_true'.1 hje
      simp only [Bool.and_eq_true, beq_iff_eq] at heb
      obtain ⟨hbe, rfl⟩ := heb
      obtain ⟨oj, hoj, hdj⟩ := Option.bind_eq_some_iff.1 hj
      have hoj2 : l[e.on]? = some oj := by simpa using hoj
      obtain ⟨vj, hvj⟩ : ∃ v, vs[e.on]? = some v := ⟨_, List.getElem?_eq_getElem (by rw [hlen]; exact (List.getElem?_eq_some_iff.1 hoj2).1)⟩
      obtain ⟨x, hbx, hfx⟩ := (h.ins e.on oj s vj hoj2 (hp e hee hbe) hdj hvj).1 hs
      have hslt : s < (lex l vs a0 i).tmps.size := by rw [(lex_size l vs a0 i).1]; exact Nat.lt_of_lt_of_le (hR.small _ _ _ hoj hdj) hN
      have ag2 : ∀ d ∈ o.looksAt l.toArray, ((lex l vs a0 i).put (some s) x).tmps[d]? = b.tmps[d]? := fun d hd => by
        by_cases hsd : s = d
        · subst hsd
          rw [put_same x hslt, hbx]
        · rw [put_other x (by simpa using hsd)]
          exact ag d hd fun hf => hsd (h1 d hd hf).symm
      obtain ⟨hwt, h3⟩ := huse x w h.cls hfx
      rw [wanted_agree (ops := l.toArray) ag2] at hwt
      rw [exec_agree (ops := l.toArray) hsel ag2] at h3
      have kv : ∀ w', Below w.heap.size w w' → wpAny P .any l.toArray Q' fuel (listed.setIfInBounds i true) (b.put o.dst v) w' := fun w' hb => K v w' hb fun d hd => ⟨fun hf => absurd hf (h2 d hd), fun _ => hv⟩
      rw [if_pos hwt]
      left
      unfold Oper.wp
      generalize (execOp b.eval o).run P w = r at h3
      cases r with
      | ok n w' =>
        cases n <;> simp only [calmUpon] at h3 <;> simp only [Oper.upon]
        case value u => obtain ⟨rfl, rfl⟩ := h3; exact kv _ (Below.refl _ _)
        case skip => obtain ⟨rfl, rfl⟩ := h3; exact kv _ (Below.refl _ _)
        case enter f args =>
          obtain ⟨rfl, hcc⟩ := h3
          exact hcc.mono fun e w'' ⟨he, hb⟩ => by subst he; exact kv _ hb
      | halt x w' => simp only [calmUpon] at h3

    · have got : ∀ r ∈ R, ∃ x, b.tmps[r]? = some x ∧ FS r x w ∧ r < (lex l vs a0 i).tmps.size := fun r hr => by
        obtain ⟨hrf, j, hj, hje⟩ := hRs r hr
        obtain ⟨e, hee, heb⟩ := Array.any_eq_true'.1 hje
        simp only [Bool.and_eq_true, beq_iff_eq] at heb
        obtain ⟨hbe, rfl⟩ := heb
        obtain ⟨oj, hoj, hdj⟩ := Option.bind_eq_some_iff.1 hj
        have hoj2 : l[e.on]? = some oj := by simpa using hoj
        obtain ⟨vj, hvj⟩ : ∃ v, vs[e.on]? = some v := ⟨_, List.getElem?_eq_getElem (by rw [hlen]; exact (List.getElem?_eq_some_iff.1 hoj2).1)⟩
        obtain ⟨x, hbx, hfx⟩ := (h.ins e.on oj r vj hoj2 (hp e hee hbe) hdj hvj).1 hrf
        exact ⟨x, hbx, hfx, by rw [(lex_size l vs a0 i).1]; exact Nat.lt_of_lt_of_le (hR.small _ _ _ hoj hdj) hN⟩
      have ag2 : ∀ d ∈ o.looksAt l.toArray, (fill R (fun s => b.tmps.getD s undef) (lex l vs a0 i)).tmps[d]? = b.tmps[d]? := fun d hd => by
        by_cases hdR : d ∈ R
        · obtain ⟨x, hbx, _, hlt⟩ := got d hdR
          rw [fill_in R _ _ d hdR hlt, hbx]
          simp [hbx]
        · rw [fill_out R _ _ d hdR]
          exact ag d hd fun hf => hdR (h1 d hd hf)
      obtain ⟨hwt, h3⟩ := hmix (fun s => b.tmps.getD s undef) w h.cls fun r hr => by
        obtain ⟨x, hbx, hfx, _⟩ := got r hr
        simpa [hbx] using hfx
      rw [wanted_agree (ops := l.toArray) ag2] at hwt
      rw [exec_agree (ops := l.toArray) hsel ag2] at h3
      rw [if_pos hwt]
      left
      have kf : ∀ u w', FS s u w' → Below w.heap.size w w' → wpAny P .any l.toArray Q' fuel (listed.setIfInBounds i true) (b.put o.dst u) w' := fun u w' hf hb => K u w' hb fun d hd => by
        obtain rfl : d = s := Option.some.inj (hd.symm.trans hds)
        exact ⟨fun _ => hf, fun hnf => absurd hs hnf⟩
      unfold Oper.wp
      generalize (execOp b.eval o).run P w = r at h3
      cases r with
      | ok n w' =>
        cases n <;> simp only [srcUpon] at h3 <;> simp only [Oper.upon]
        case value u => exact kf u w' h3.1 h3.2
        case enter f args =>
          obtain ⟨rfl, hcc⟩ := h3
          exact hcc.mono fun e w'' ⟨u, he, hf, hb⟩ => by subst he; exact kf u w'' hf hb
      | halt x w' => simp only [srcUpon] at h3

/-- ONE WALK IN THE TEXT's ORDER SERVES EVERY ORDER -/
theorem wp_region_F {id : Nat} {Q : Exit → Act → World → Prop} {a : Act} {w : World} {l : List Oper} (N : Nat) (fs : List Tmp) (FS : Tmp → Value → World → Prop) (I : World → Prop) (hm : P.follows .mixedOrders = true) (hB : rgB .any l.toArray N = true)
    (hfs : (fs.all fun s => l.any fun o => o.dst == some s) = true) (hN : N ≤ a.tmps.size) (hI : Closed I) (hF : ∀ s x w w', FS s x w → Below w.heap.size w w' → FS s x w') (hC : I w.drew)
    (h : wpF P l.toArray I fs FS (fun a' => ∀ xs w', I w' → (∀ s ∈ fs, FS s (xs s) w') → Q .normal (fill fs xs a') w') l a) : (Code.region id l.toArray true).wp P Q a w := by
  have hR := rgB_spec hB
  obtain ⟨vs, hlen, hob, hE⟩ := wpF_vals l a h
  refine wp_region_any hm ?_
  refine any_of_F (l := l) (vs := vs) (fs := fs) (FS := FS) (I := I) (a0 := a) hR hN hlen hI hF hob ?_ _ _ _ _ ?_ ?_
  · intro listed b w' hall hinv
    have hw : ∀ s ∈ fs, ∃ x, b.tmps[s]? = some x ∧ FS s x w' := fun s hs => by
      rw [List.all_eq_true] at hfs
      have h1 := hfs s hs
      rw [List.any_eq_true] at h1
      obtain ⟨o, ho, hd⟩ := h1
      obtain ⟨j, hj, rfl⟩ := List.getElem_of_mem ho
      have hd' : (l[j]).dst = some s := by simpa using hd
      obtain ⟨v, hv⟩ : ∃ v, vs[j]? = some v := ⟨_, List.getElem?_eq_getElem (by rw [hlen]; exact hj)⟩
      exact (hinv.ins j l[j] s v (List.getElem?_eq_getElem hj) (hall j) hd' hv).1 hs
    have hb : b = fill fs (fun s => b.tmps.getD s undef) (lex l vs a l.length) := by
      have ht : b.tmps = (fill fs (fun s => b.tmps.getD s undef) (lex l vs a l.length)).tmps := by
        apply Array.ext_getElem?
        intro d
        by_cases hd : d ∈ fs
        · obtain ⟨x, hx, _⟩ := hw d hd
          have hlt : d < (lex l vs a l.length).tmps.size := by
            rw [(lex_size l vs a l.length).1, ← hinv.size]
            exact (Array.getElem?_eq_some_iff.1 hx).1
          rw [fill_in fs _ _ d hd hlt, hx]
          simp [hx]
        · rw [fill_out fs _ _ d hd]
          by_cases hwr : ∃ (j : Nat) (oj : Oper), l[j]? = some oj ∧ oj.dst = some d
          · obtain ⟨j, oj, hj, hdj⟩ := hwr
            obtain ⟨v, hv⟩ : ∃ v, vs[j]? = some v := ⟨_, List.getElem?_eq_getElem (by rw [hlen]; exact (List.getElem?_eq_some_iff.1 hj).1)⟩
            have hj' : l.toArray[j]? = some oj := by simpa using hj
            rw [(hinv.ins j oj d v hj (hall j) hdj hv).2 hd]
            exact (lex_in l vs a l.length j oj d v hj (List.getElem?_eq_some_iff.1 hj).1 hv hdj (Nat.lt_of_lt_of_le (hR.small _ _ _ hj' hdj) hN) fun i oi hi _ hne => hR.once i j oi oj d (by simpa using hi) hj' hdj hne).symm
          · rw [lex_out l vs a l.length d fun i oi hi _ hdi => hwr ⟨i, oi, hi, hdi⟩]
            exact hinv.out d fun i oi hi _ hdi => hwr ⟨i, oi, hi, hdi⟩
      have hd : b.defers = (fill fs (fun s => b.tmps.getD s undef) (lex l vs a l.length)).defers := by
        rw [(fill_size ..).2, (lex_size ..).2]
        exact hinv.defers
      cases b
      simp only at ht hd
      rw [Act.mk.injEq]
      exact ⟨ht, hd⟩
    rw [hb]
    refine hE _ w' hinv.cls fun s hs => ?_
    obtain ⟨x, hx, hf⟩ := hw s hs
    simpa [hx] using hf
  · simp
  · refine ⟨hC, rfl, rfl, fun _ _ => rfl, fun j o d v hj hlj => ?_, fun j o hj hlj => ?_, by simp⟩
    all_goals
      have hlt := (List.getElem?_eq_some_iff.1 hj).1
      rw [Array.getD_eq_getD_getElem?] at hlj
      simp [hlt] at hlj
end
end
end Go.Proofs.YtlbfibnfmijahaaGreat

namespace Go.Proofs.YtlbfibnfmijahaaGreat
open Go.RowKit
section
variable {P : Program} {l : List Oper} {I : World → Prop} {fs : List Tmp} {FS : Tmp → Value → World → Prop} {E : Act → Prop} {o : Oper} {rest : List Oper} {a : Act}
def noB (ops : Array Oper) (fs : List Tmp) (o : Oper) : Bool := ((o.looksAt ops).all fun d => !fs.contains d) && (match o.dst with | some d => !fs.contains d | none => true)
theorem noB_spec (h : noB l.toArray fs o = true) : (∀ d ∈ o.looksAt l.toArray, d ∉ fs) ∧ (∀ d, o.dst = some d → d ∉ fs) := by
  simp only [noB, Bool.and_eq_true, List.all_eq_true, Bool.not_eq_true'] at h
  refine ⟨fun d hd hf => ?_, fun d hd hf => ?_⟩
  · have := h.1 d hd
    simp [hf] at this
  · have := h.2
    rw [hd] at this
    simp [hf] at this
/-- it looks at no memory and enters no function -/
theorem wpF_pure (hk : kindOf o = 0) (hn : noB l.toArray fs o = true) (h : wpQuiet P l.toArray (fun _ => True) (fun a' => wpF P l.toArray I fs FS E rest a') [o] a) : wpF P l.toArray I fs FS E (o :: rest) a := by
  obtain ⟨h1, h2⟩ := noB_spec hn
  unfold wpQuiet at h
  by_cases hw : Region.wanted o (yielded l.toArray a.tmps) = true
  · simp only [hw, if_true] at h
    obtain ⟨v, hv, hr⟩ := h
    refine ⟨v, .inl ⟨h1, h2, .inl ⟨hw, fun w _ => ?_⟩⟩, hr⟩
    have h3 := hv w trivial
    have h4 := pure_no_enter (P := P) (kind_pure hk) a.eval w
    unfold Oper.quietAt at h3
    generalize (execOp a.eval o).run P w = r at h3 h4
    cases r with
    | ok n w' =>
      cases n with
      | enter f args => exact absurd rfl (h4 w' f args)
      | value u => exact h3
      | skip => exact h3
      | _ => simp only [Oper.quietUpon] at h3
    | halt x w' => simp only [Oper.quietUpon] at h3
  · simp only [hw] at h
    exact ⟨undef, .inl ⟨h1, h2, .inr ⟨by simpa using hw, rfl⟩⟩, h⟩
/-- a call of one value -/
theorem wpF_call {f : FuncId} {args : Array Value} (v : Value) (hn : noB l.toArray fs o = true) (hw : Region.wanted o (yielded l.toArray a.tmps) = true) (hrun : ∀ w, (execOp a.eval o).run P w = .ok (.enter f args) w)
    (hc : ∀ w, I w → Calls P f args w fun e w'' => e = .returned v ∧ Below w.heap.size w w'') (h : wpF P l.toArray I fs FS E rest (a.put o.dst v)) : wpF P l.toArray I fs FS E (o :: rest) a := by
  obtain ⟨h1, h2⟩ := noB_spec hn
  refine ⟨v, .inl ⟨h1, h2, .inl ⟨hw, fun w hI => ?_⟩⟩, h⟩
  rw [hrun w]
  exact ⟨rfl, hc w hI⟩
/-- a load -/
theorem wpF_load {t : TypeId} {x : Operand} {ad : Addr} (v : Value) (hop : o.op = .load t x) (hn : noB l.toArray fs o = true) (hw : Region.wanted o (yielded l.toArray a.tmps) = true) (hx : a.eval x = .pointer (some ad))
    (hrun : ∀ w, I w → (Instr.loadAt t (.pointer (some ad))).run P w = .ok v w) (h : wpF P l.toArray I fs FS E rest (a.put o.dst v)) : wpF P l.toArray I fs FS E (o :: rest) a := by
  obtain ⟨h1, h2⟩ := noB_spec hn
  refine ⟨v, .inl ⟨h1, h2, .inl ⟨hw, fun w hI => ?_⟩⟩, h⟩
  unfold execOp
  simp only [hop, hx]
  rw [Sem.run_bind, hrun w hI]
  exact ⟨rfl, rfl⟩
/-- an operation that makes memory: its value is known by what it is good for -/
theorem wpF_src (s : Tmp) (hs : s ∈ fs) (hd : o.dst = some s) (hn : ((o.looksAt l.toArray).all fun d => !fs.contains d) = true) (hw : Region.wanted o (yielded l.toArray a.tmps) = true)
    (hrun : ∀ w, I w → ∃ u w', (execOp a.eval o).run P w = .ok (.value u) w' ∧ FS s u w' ∧ Below w.heap.size w w') (h : wpF P l.toArray I fs FS E rest (a.put o.dst undef)) : wpF P l.toArray I fs FS E (o :: rest) a := by
  refine ⟨undef, .inr (.inl ⟨s, hs, hd, fun d hd hf => ?_, hw, fun w hI => ?_⟩), h⟩
  · rw [List.all_eq_true] at hn
    have := hn d hd
    simp [hf] at this
  · obtain ⟨u, w', hr, h1, h2⟩ := hrun w hI
    rw [hr]
    exact ⟨h1, h2⟩
/-- a call that is handed such a value -/
theorem wpF_use (s : Tmp) (j : Nat) {f : FuncId} (args : Value → Array Value) (v : Value) (hs : s ∈ fs) (hj : (l[j]?).bind (·.dst) = some s) (hje : (o.after.any fun e => Region.binds .any e && e.on == j) = true)
    (hn : ((o.looksAt l.toArray).all fun d => !fs.contains d || d == s) = true) (hdst : (match o.dst with | some d => !fs.contains d | none => true) = true) (hw : ∀ x, Region.wanted o (yielded l.toArray (a.put (some s) x).tmps) = true)
    (hrun : ∀ x w, (execOp (a.put (some s) x).eval o).run P w = .ok (.enter f (args x)) w)
    (hc : ∀ x w, I w → FS s x w → Calls P f (args x) w fun e w'' => e = .returned v ∧ Below w.heap.size w w'') (h : wpF P l.toArray I fs FS E rest (a.put o.dst v)) : wpF P l.toArray I fs FS E (o :: rest) a := by
  refine ⟨v, .inr (.inr (.inl ⟨s, hs, ⟨j, by simpa using hj, hje⟩, fun d hd hf => ?_, fun d hd hf => ?_, fun x w hI hx => ⟨hw x, ?_⟩⟩)), h⟩
  · rw [List.all_eq_true] at hn
    have := hn d hd
    simpa [hf] using this
  · rw [hd] at hdst
    simp [hf] at hdst
  · rw [hrun x w]
    exact ⟨rfl, hc x w hI hx⟩
/-- a call that hands back a value that is known by what it is good for -/
theorem wpF_callsrc (s : Tmp) {f : FuncId} {args : Array Value} (hs : s ∈ fs) (hd : o.dst = some s) (hn : ((o.looksAt l.toArray).all fun d => !fs.contains d) = true) (hw : Region.wanted o (yielded l.toArray a.tmps) = true)
    (hrun : ∀ w, (execOp a.eval o).run P w = .ok (.enter f args) w) (hc : ∀ w, I w → Calls P f args w fun e w'' => ∃ u, e = .returned u ∧ FS s u w'' ∧ Below w.heap.size w w'') (h : wpF P l.toArray I fs FS E rest (a.put o.dst undef)) : wpF P l.toArray I fs FS E (o :: rest) a := by
  refine ⟨undef, .inr (.inl ⟨s, hs, hd, fun d hd hf => ?_, hw, fun w hI => ?_⟩), h⟩
  · rw [List.all_eq_true] at hn
    have := hn d hd
    simp [hf] at this
  · rw [hrun w]
    exact ⟨rfl, hc w hI⟩
/-- a call that is handed such values (R) and hands back such a value -/
theorem wpF_mixcall (s : Tmp) (R : List Tmp) {f : FuncId} (args : (Tmp → Value) → Array Value) (hs : s ∈ fs) (hd : o.dst = some s)
    (hR : (R.all fun r => fs.contains r && (List.range l.length).any fun j => (((l[j]?).bind (·.dst)) == some r) && o.after.any fun e => Region.binds .any e && e.on == j) = true)
    (hn : ((o.looksAt l.toArray).all fun d => !fs.contains d || R.contains d) = true) (hw : ∀ xs, Region.wanted o (yielded l.toArray (fill R xs a).tmps) = true)
    (hrun : ∀ xs w, (execOp (fill R xs a).eval o).run P w = .ok (.enter f (args xs)) w)
    (hc : ∀ xs w, I w → (∀ r ∈ R, FS r (xs r) w) → Calls P f (args xs) w fun e w'' => ∃ u, e = .returned u ∧ FS s u w'' ∧ Below w.heap.size w w'') (h : wpF P l.toArray I fs FS E rest (a.put o.dst undef)) : wpF P l.toArray I fs FS E (o :: rest) a := by
  refine ⟨undef, .inr (.inr (.inr ⟨s, R, hs, hd, fun r hr => ?_, fun d hd hf => ?_, fun xs w hI hx => ⟨hw xs, ?_⟩⟩)), h⟩
  · rw [List.all_eq_true] at hR
    have := hR r hr
    simp only [Bool.and_eq_true, List.contains_iff_mem, List.any_eq_true, beq_iff_eq] at this
    obtain ⟨h1, j, _, h2, h3⟩ := this
    exact ⟨h1, j, by simpa using h2, h3⟩
  · rw [List.all_eq_true] at hn
    have := hn d hd
    simpa [hf] using this
  · rw [hrun xs w]
    exact ⟨rfl, hc xs w hI hx⟩
end
end Go.Proofs.YtlbfibnfmijahaaGreat

namespace Go.Proofs.YtlbfibnfmijahaaGreat
open Go.RowKit
section
variable {P : Program} {l : List Oper} {vs : List Value} {fs : List Tmp} {FS : Tmp → Value → World → Prop} {I : World → Prop} {a0 : Act}
/-- one operation of such a run -/
theorem op_of_F {N : Nat} {Q' : Exit → Act → World → Prop} {K : Act → World → Prop} (hR : RG .any l.toArray N) (hN : N ≤ a0.tmps.size) (hlen : vs.length = l.length) {listed : Array Bool} {b : Act} {w : World} {i : Nat} {o : Oper} {v : Value}
    (h : Inv l vs fs FS I a0 listed b w) (ho2 : l[i]? = some o) (hun : listed.getD i true = false) (hp : ∀ e ∈ o.after, Region.binds .any e = true → listed.getD e.on true = true) (hv : vs[i]? = some v) (hob : Ob P l.toArray I fs FS o v (lex l vs a0 i))
    (hK : ∀ u w', Below w.heap.size w w' → (∀ d, o.dst = some d → (d ∈ fs → FS d u w') ∧ (d ∉ fs → vs[i]? = some u)) → K (b.put o.dst u) w') : Go.wpOp P l.toArray Q' i K b w := by
  have ho : l.toArray[i]? = some o := by simpa using ho2
  have hsel : ∀ cs c, o.op ≠ .select cs c := fun cs c => hR.sel i o cs c ho
  have ag : ∀ d ∈ o.looksAt l.toArray, d ∉ fs → (lex l vs a0 i).tmps[d]? = b.tmps[d]? := fun d hd hf => h.agree hR hN hlen ho2 hun hp hd hf
  unfold Go.wpOp
  simp only [ho]
  rcases hob with ⟨h1, h2, hcalm⟩ | ⟨s, hs, hds, h1, hwt, hsrc⟩ | ⟨s, hs, ⟨j, hj, hje⟩, h1, h2, huse⟩ | ⟨s, R, hs, hds, hRs, h1, hmix⟩
  · have he := exec_agree (ops := l.toArray) hsel fun d hd => ag d hd (h1 d hd)
    have hw := wanted_agree (ops := l.toArray) fun d hd => ag d hd (h1 d hd)
    have kv : ∀ w', Below w.heap.size w w' → K (b.put o.dst v) w' := fun w' hb => hK v w' hb fun d hd => ⟨fun hf => absurd hf (h2 d hd), fun _ => hv⟩
    rcases hcalm with ⟨hwt, hval⟩ | ⟨hwf, rfl⟩
    · rw [hw] at hwt
      rw [if_pos hwt]
      left
      have h3 := hval w h.cls
      rw [he] at h3
      unfold Oper.wp
      generalize (execOp b.eval o).run P w = r at h3
      cases r with
      | ok n w' =>
        cases n <;> simp only [calmUpon] at h3 <;> simp only [Oper.upon]
        case value u => obtain ⟨rfl, rfl⟩ := h3; exact kv _ (Below.refl _ _)
        case skip => obtain ⟨rfl, rfl⟩ := h3; exact kv _ (Below.refl _ _)
        case enter f args =>
          obtain ⟨rfl, hcc⟩ := h3
          exact hcc.mono fun e w'' ⟨he, hb⟩ => by subst he; exact kv _ hb
      | halt x w' => simp only [calmUpon] at h3
    · rw [hw] at hwf
      rw [hwf, if_neg (by simp)]
      exact kv w (Below.refl _ _)
  · have he := exec_agree (ops := l.toArray) hsel fun d hd => ag d hd (h1 d hd)
    have hw := wanted_agree (ops := l.toArray) fun d hd => ag d hd (h1 d hd)
    rw [hw] at hwt
    rw [if_pos hwt]
    left
    have h3 := hsrc w h.cls
    rw [he] at h3
    have kf : ∀ u w', FS s u w' → Below w.heap.size w w' → K (b.put o.dst u) w' := fun u w' hf hb => hK u w' hb fun d hd => by
      obtain rfl : d = s := Option.some.inj (hd.symm.trans hds)
      exact ⟨fun _ => hf, fun hnf => absurd hs hnf⟩
    unfold Oper.wp
    generalize (execOp b.eval o).run P w = r at h3
    cases r with
    | ok n w' =>
      cases n <;> simp only [srcUpon] at h3 <;> simp only [Oper.upon]
      case value u => exact kf u w' h3.1 h3.2
      case enter f args =>
        obtain ⟨rfl, hcc⟩ := h3
        exact hcc.mono fun e w'' ⟨u, he, hf, hb⟩ => by subst he; exact kf u w'' hf hb
    | halt x w' => simp only [srcUpon] at h3
  · obtain ⟨e, hee, heb⟩ := Array.any_eq_true'.1 hje
    simp only [Bool.and_eq_true, beq_iff_eq] at heb
    obtain ⟨hbe, rfl⟩ := heb
    obtain ⟨oj, hoj, hdj⟩ := Option.bind_eq_some_iff.1 hj
    have hoj2 : l[e.on]? = some oj := by simpa using hoj
    obtain ⟨vj, hvj⟩ : ∃ v, vs[e.on]? = some v := ⟨_, List.getElem?_eq_getElem (by rw [hlen]; exact (List.getElem?_eq_some_iff.1 hoj2).1)⟩
    obtain ⟨x, hbx, hfx⟩ := (h.ins e.on oj s vj hoj2 (hp e hee hbe) hdj hvj).1 hs
    have hslt : s < (lex l vs a0 i).tmps.size := by rw [(lex_size l vs a0 i).1]; exact Nat.lt_of_lt_of_le (hR.small _ _ _ hoj hdj) hN
    have ag2 : ∀ d ∈ o.looksAt l.toArray, ((lex l vs a0 i).put (some s) x).tmps[d]? = b.tmps[d]? := fun d hd => by
      by_cases hsd : s = d
      · subst hsd
        rw [put_same x hslt, hbx]
      · rw [put_other x (by simpa using hsd)]
        exact ag d hd fun hf => hsd (h1 d hd hf).symm
    obtain ⟨hwt, h3⟩ := huse x w h.cls hfx
    rw [wanted_agree (ops := l.toArray) ag2] at hwt
    rw [exec_agree (ops := l.toArray) hsel ag2] at h3
    have kv : ∀ w', Below w.heap.size w w' → K (b.put o.dst v) w' := fun w' hb => hK v w' hb fun d hd => ⟨fun hf => absurd hf (h2 d hd), fun _ => hv⟩
    rw [if_pos hwt]
    left
    unfold Oper.wp
    generalize (execOp b.eval o).run P w = r at h3
    cases r with
    | ok n w' =>
      cases n <;> simp only [calmUpon] at h3 <;> simp only [Oper.upon]
      case value u => obtain ⟨rfl, rfl⟩ := h3; exact kv _ (Below.refl _ _)
      case skip => obtain ⟨rfl, rfl⟩ := h3; exact kv _ (Below.refl _ _)
      case enter f args =>
        obtain ⟨rfl, hcc⟩ := h3
        exact hcc.mono fun e w'' ⟨he, hb⟩ => by subst he; exact kv _ hb
    | halt x w' => simp only [calmUpon] at h3

  · have got : ∀ r ∈ R, ∃ x, b.tmps[r]? = some x ∧ FS r x w ∧ r < (lex l vs a0 i).tmps.size := fun r hr => by
      obtain ⟨hrf, j, hj, hje⟩ := hRs r hr
      obtain ⟨e, hee, heb⟩ := Array.any_eq_true'.1 hje
      simp only [Bool.and_eq_true, beq_iff_eq] at heb
      obtain ⟨hbe, rfl⟩ := heb
      obtain ⟨oj, hoj, hdj⟩ := Option.bind_eq_some_iff.1 hj
      have hoj2 : l[e.on]? = some oj := by simpa using hoj
      obtain ⟨vj, hvj⟩ : ∃ v, vs[e.on]? = some v := ⟨_, List.getElem?_eq_getElem (by rw [hlen]; exact (List.getElem?_eq_some_iff.1 hoj2).1)⟩
      obtain ⟨x, hbx, hfx⟩ := (h.ins e.on oj r vj hoj2 (hp e hee hbe) hdj hvj).1 hrf
      exact ⟨x, hbx, hfx, by rw [(lex_size l vs a0 i).1]; exact Nat.lt_of_lt_of_le (hR.small _ _ _ hoj hdj) hN⟩
    have ag2 : ∀ d ∈ o.looksAt l.toArray, (fill R (fun s => b.tmps.getD s undef) (lex l vs a0 i)).tmps[d]? = b.tmps[d]? := fun d hd => by
      by_cases hdR : d ∈ R
      · obtain ⟨x, hbx, _, hlt⟩ := got d hdR
        rw [fill_in R _ _ d hdR hlt, hbx]
        simp [hbx]
      · rw [fill_out R _ _ d hdR]
        exact ag d hd fun hf => hdR (h1 d hd hf)
    obtain ⟨hwt, h3⟩ := hmix (fun s => b.tmps.getD s undef) w h.cls fun r hr => by
      obtain ⟨x, hbx, hfx, _⟩ := got r hr
      simpa [hbx] using hfx
    rw [wanted_agree (ops := l.toArray) ag2] at hwt
    rw [exec_agree (ops := l.toArray) hsel ag2] at h3
    rw [if_pos hwt]
    left
    have kf : ∀ u w', FS s u w' → Below w.heap.size w w' → K (b.put o.dst u) w' := fun u w' hf hb => hK u w' hb fun d hd => by
      obtain rfl : d = s := Option.some.inj (hd.symm.trans hds)
      exact ⟨fun _ => hf, fun hnf => absurd hs hnf⟩
    unfold Oper.wp
    generalize (execOp b.eval o).run P w = r at h3
    cases r with
    | ok n w' =>
      cases n <;> simp only [srcUpon] at h3 <;> simp only [Oper.upon]
      case value u => exact kf u w' h3.1 h3.2
      case enter f args =>
        obtain ⟨rfl, hcc⟩ := h3
        exact hcc.mono fun e w'' ⟨u, he, hf, hb⟩ => by subst he; exact kf u w'' hf hb
    | halt x w' => simp only [srcUpon] at h3

section
variable {ops : Array Oper} {St : (Tmp → Value) → World → World → Prop} {E : Act → Prop}
end
/-! ### its steps -/
section
variable {St : (Tmp → Value) → World → World → Prop} {E : Act → Prop} {o : Oper} {rest : List Oper} {a : Act}
end
end
end Go.Proofs.YtlbfibnfmijahaaGreat

namespace Go.Proofs.YtlbfibnfmijahaaGreat
open Go.RowKit
section
variable {P : Program} {l : List Oper} {vs : List Value} {fs : List Tmp} {FS : Tmp → Value → World → Prop} {I : World → Prop} {a0 : Act}
theorem lex_take : ∀ (l : List Oper) (vs us : List Value) (a : Act) (n j : Nat), j ≤ n → vs.length = (l.take n).length → lex (l.take n) vs a j = lex l (vs ++ us) a j
  | _, _, _, _, _, 0, _, _ => by rw [lex_zero, lex_zero]
  | [], vs, us, a, n, j + 1, _, _ => by simp [lex]
  | o :: r, [], us, a, n + 1, j + 1, _, h2 => by simp at h2
  | o :: r, v :: vs, us, a, n + 1, j + 1, h1, h2 => by
    rw [List.take_succ_cons, List.cons_append, lex, lex]
    exact lex_take r vs us _ n j (by omega) (by simpa using h2)
theorem count_take {L : Array Bool} {n i : Nat} (hi : i < n) (h : L.getD i true = false) : ((L.setIfInBounds i true).toList.take n).count false + 1 = (L.toList.take n).count false := by
  have hL : (L.setIfInBounds i true).toList.take n = (((L.toList.take n).toArray).setIfInBounds i true).toList := by
    simp [List.take_set]
  rw [hL]
  refine count_set (L := (L.toList.take n).toArray) ?_
  rw [Array.getD_eq_getD_getElem?] at h ⊢
  simpa [List.getElem?_take, hi] using h
theorem count_take_zero {L : Array Bool} {n : Nat} (h : (L.toList.take n).count false = 0) (j : Nat) (hj : j < n) : L.getD j true = true := by
  have := count_zero (L := (L.toList.take n).toArray) (by simpa using h) j
  rw [Array.getD_eq_getD_getElem?] at this ⊢
  simpa [List.getElem?_take, hj] using this
theorem count_take_pos {L : Array Bool} {n f : Nat} (h : (L.toList.take n).count false = f + 1) : ∃ i, i < n ∧ L.getD i true = false := by
  have : 0 < (L.toList.take n).count false := by omega
  rw [List.count_pos_iff] at this
  obtain ⟨i, hi, hv⟩ := List.getElem_of_mem this
  rw [List.length_take] at hi
  refine ⟨i, by omega, ?_⟩
  rw [Array.getD_eq_getD_getElem?]
  have h2 : i < L.size := by have : L.toList.length = L.size := by simp
                             omega
  rw [List.getElem_take] at hv
  simp [h2]
  simpa using hv

theorem any_of_FT {N n : Nat} {Q' : Exit → Act → World → Prop} (hR : RG .any l.toArray N) (hN : N ≤ a0.tmps.size) (hlen : vs.length = l.length) (hI : Closed I) (hF : ∀ s x w w', FS s x w → Below w.heap.size w w' → FS s x w')
    (hob : ∀ (j : Nat) o v, j < n → l[j]? = some o → vs[j]? = some v → Ob P l.toArray I fs FS o v (lex l vs a0 j)) (hn : n < l.length) (hs : Region.sinkB .any l.toArray n = true) (hc : Region.chainB .any l.toArray n = true)
    (hQ : ∀ (listed : Array Bool) b w, (∀ j, j < n → listed.getD j true = true) → (∀ t, n ≤ t → t < l.length → listed.getD t true = false) → Inv l vs fs FS I a0 listed b w → wpAny P .any l.toArray Q' (l.length - n) listed b w) :
    ∀ (f : Nat) (listed : Array Bool) (b : Act) (w : World), (listed.toList.take n).count false = f → HeadInv .any l.toArray n listed → Inv l vs fs FS I a0 listed b w → wpAny P .any l.toArray Q' (f + (l.length - n)) listed b w
  | 0, listed, b, w, hcn, hh, h => by
    rw [Nat.zero_add]
    exact hQ listed b w (fun j hj => count_take_zero hcn j hj) (fun t h1 h2 => hh.tail t h1 (by simpa using h2)) h
  | f + 1, listed, b, w, hcn, hh, h => by
    obtain ⟨i0, hi0, hu0⟩ := count_take_pos hcn
    rw [show f + 1 + (l.length - n) = (f + (l.length - n)) + 1 by omega]
    refine ⟨fun h0 => ?_, fun i hi => ?_⟩
    · have hall := ready_all hR h.lsize h0
      rw [hall i0] at hu0
      cases hu0
    have hin : i < n := by
      rcases Nat.lt_or_ge i n with h1 | h1
      · exact h1
      · exact absurd hi (tail_waits hs hc (by simpa using hn) hh _ i0 rfl hi0 hu0 i h1)
    obtain ⟨hun, o, ho, hall⟩ := mem_ready.1 hi
    have ho2 : l[i]? = some o := by simpa using ho
    have hp : ∀ e ∈ o.after, Region.binds .any e = true → listed.getD e.on true = true := fun e he hb => by
      have h1 := hall e he hb
      rw [Array.getD_eq_getD_getElem?] at h1 ⊢
      cases hx : listed[e.on]? with
      | none => rfl
      | some y => rw [hx] at h1; simpa using h1
    obtain ⟨v, hv⟩ : ∃ v, vs[i]? = some v := ⟨_, List.getElem?_eq_getElem (by rw [hlen]; exact (List.getElem?_eq_some_iff.1 ho2).1)⟩
    have hcnt := count_take hin hun
    exact op_of_F hR hN hlen h ho2 hun hp hv (hob i o v hin ho2 hv) fun u w' hb hu =>
      any_of_FT hR hN hlen hI hF hob hn hs hc hQ f _ _ w' (by omega) (hh.set hi hin) (h.next hR hN hI hF ho2 hp hb hu)

/-- ONE WALK IN THE TEXT's ORDER SERVES EVERY ORDER; the tail, behind place n, as it stands -/
theorem wp_region_FT {id : Nat} {Q : Exit → Act → World → Prop} {a : Act} {w : World} {l : List Oper} (N n : Nat) (fs : List Tmp) (FS : Tmp → Value → World → Prop) (I : World → Prop) (hm : P.follows .mixedOrders = true) (hB : rgB .any l.toArray N = true)
    (hn : decide (n < l.length) = true) (hs : Region.sinkB .any l.toArray n = true) (hc : Region.chainB .any l.toArray n = true)
    (hq : Region.seqB .any l.toArray (l.length - n) n (List.replicate n true ++ List.replicate (l.length - n) false).toArray = true)
    (hfs : (fs.all fun s => (l.take n).any fun o => o.dst == some s) = true) (hN : N ≤ a.tmps.size) (hI : Closed I) (hF : ∀ s x w w', FS s x w → Below w.heap.size w w' → FS s x w') (hC : I w.drew)
    (h : wpF P l.toArray I fs FS (fun a' => ∀ xs w', I w' → (∀ s ∈ fs, FS s (xs s) w') → wpList P l.toArray Q (l.drop n) (fill fs xs a') w') (l.take n) a) : (Code.region id l.toArray true).wp P Q a w := by
  have hR := rgB_spec hB
  have hn' : n < l.length := by simpa using hn
  obtain ⟨vs0, hlen0, hob0, hE0⟩ := wpF_vals (l.take n) a h
  have htl : (l.take n).length = n := by rw [List.length_take]; omega
  rw [htl] at hlen0 hE0
  obtain ⟨vs, hvs⟩ : ∃ vs, vs0 ++ List.replicate (l.length - n) undef = vs := ⟨_, rfl⟩
  have hlen : vs.length = l.length := by rw [← hvs, List.length_append, List.length_replicate]; omega
  have hlex : ∀ j, j ≤ n → lex (l.take n) vs0 a j = lex l vs a j := fun j hj => by rw [← hvs]; exact lex_take l vs0 _ a n j hj (by rw [hlen0, htl])
  have hob : ∀ (j : Nat) o v, j < n → l[j]? = some o → vs[j]? = some v → Ob P l.toArray I fs FS o v (lex l vs a j) := fun j o v hj ho hv => by
    rw [← hlex j (by omega)]
    refine hob0 j o v (by rw [List.getElem?_take, if_pos hj]; exact ho) ?_
    rw [← hvs, List.getElem?_append_left (by omega)] at hv
    exact hv
  rw [hlex n (Nat.le_refl _)] at hE0
  have inv0 : HeadInv .any l.toArray n (Array.replicate l.toArray.size false) :=
    ⟨by simp, fun j oj _ hl => (by rw [getD_replicate_false] at hl; cases hl), fun t _ ht => getD_in (by simpa using ht) (getD_replicate_false _ _)⟩
  refine wp_region_any hm ?_
  have key := any_of_FT (Q' := Q) (l := l) (vs := vs) (fs := fs) (FS := FS) (I := I) (a0 := a) (n := n) hR hN hlen hI hF hob hn' hs hc ?_ n (Array.replicate l.toArray.size false) a w.drew (by
      simp only [List.size_toArray, Array.toList_replicate, List.take_replicate, List.count_replicate_self]; omega) inv0 ?_
  · rw [show n + (l.length - n) = l.toArray.size by simp; omega] at key
    exact key
  · intro listed b W hall hno hinv
    have hw : ∀ s ∈ fs, ∃ x, b.tmps[s]? = some x ∧ FS s x W := fun s hs => by
      rw [List.all_eq_true] at hfs
      have h1 := hfs s hs
      rw [List.any_eq_true] at h1
      obtain ⟨o, ho, hd⟩ := h1
      obtain ⟨j, hj, rfl⟩ := List.getElem_of_mem ho
      have hj1 : j < n := by rw [List.length_take] at hj; omega
      have hj2 : j < l.length := by omega
      have hd' : (l[j]).dst = some s := by simpa using hd
      obtain ⟨v, hv⟩ : ∃ v, vs[j]? = some v := ⟨_, List.getElem?_eq_getElem (by rw [hlen]; exact hj2)⟩
      exact (hinv.ins j l[j] s v (List.getElem?_eq_getElem hj2) (hall j hj1) hd' hv).1 hs
    have hb : b = fill fs (fun s => b.tmps.getD s undef) (lex l vs a n) := by
      have ht : b.tmps = (fill fs (fun s => b.tmps.getD s undef) (lex l vs a n)).tmps := by
        apply Array.ext_getElem?
        intro d
        by_cases hd : d ∈ fs
        · obtain ⟨x, hx, _⟩ := hw d hd
          have hlt : d < (lex l vs a n).tmps.size := by
            rw [(lex_size l vs a n).1, ← hinv.size]
            exact (Array.getElem?_eq_some_iff.1 hx).1
          rw [fill_in fs _ _ d hd hlt, hx]
          simp [hx]
        · rw [fill_out fs _ _ d hd]
          by_cases hwr : ∃ (j : Nat) (oj : Oper), j < n ∧ l[j]? = some oj ∧ oj.dst = some d
          · obtain ⟨j, oj, hjn, hj, hdj⟩ := hwr
            obtain ⟨v, hv⟩ : ∃ v, vs[j]? = some v := ⟨_, List.getElem?_eq_getElem (by rw [hlen]; exact (List.getElem?_eq_some_iff.1 hj).1)⟩
            have hj' : l.toArray[j]? = some oj := by simpa using hj
            rw [(hinv.ins j oj d v hj (hall j hjn) hdj hv).2 hd]
            exact (lex_in l vs a n j oj d v hj hjn hv hdj (Nat.lt_of_lt_of_le (hR.small _ _ _ hj' hdj) hN) fun i oi hi _ hne => hR.once i j oi oj d (by simpa using hi) hj' hdj hne).symm
          · rw [lex_out l vs a n d fun i oi hi hin hdi => hwr ⟨i, oi, hin, hi, hdi⟩]
            refine hinv.out d fun i oi hi hli hdi => hwr ⟨i, oi, ?_, hi, hdi⟩
            rcases Nat.lt_or_ge i n with h1 | h1
            · exact h1
            · rw [hno i h1 (List.getElem?_eq_some_iff.1 hi).1] at hli; cases hli
      have hd : b.defers = (fill fs (fun s => b.tmps.getD s undef) (lex l vs a n)).defers := by
        rw [(fill_size ..).2, (lex_size ..).2]
        exact hinv.defers
      cases b
      simp only at ht hd
      rw [Act.mk.injEq]
      exact ⟨ht, hd⟩
    have hL : listed = (List.replicate n true ++ List.replicate (l.length - n) false).toArray := by
      apply Array.ext
      · simp [hinv.lsize]; omega
      · intro j h1 h2
        have hj : j < l.length := by rw [← hinv.lsize]; exact h1
        by_cases hjn : j < n
        · have h3 := hall j hjn
          rw [Array.getD_eq_getD_getElem?, Array.getElem?_eq_getElem h1] at h3
          simp only [List.getElem_toArray]
          rw [List.getElem_append_left (by simpa using hjn)]
          simpa using h3
        · have h3 := hno j (by omega) hj
          rw [Array.getD_eq_getD_getElem?, Array.getElem?_eq_getElem h1] at h3
          simp only [List.getElem_toArray]
          rw [List.getElem_append_right (by simpa using Nat.le_of_not_lt hjn)]
          simpa using h3
    have hE := hE0 (fun s => b.tmps.getD s undef) W hinv.cls fun s hs => by
      obtain ⟨x, hx, hf⟩ := hw s hs
      simpa [hx] using hf
    rw [← hb] at hE
    have := wpAny_of_seq (md := .any) (Q' := Q) (l.drop n) n listed b W (fun j => by simp [List.getElem?_drop]) (by rw [List.length_drop, hL]; exact hq) hE
    rwa [List.length_drop] at this
  · refine ⟨hC, rfl, rfl, fun _ _ => rfl, fun j o d v hj hlj => ?_, fun j o hj hlj => ?_, by simp⟩
    all_goals
      have hlt := (List.getElem?_eq_some_iff.1 hj).1
      rw [Array.getD_eq_getD_getElem?] at hlj
      simp [hlt] at hlj
end
end Go.Proofs.YtlbfibnfmijahaaGreat

namespace Go.Proofs.YtlbfibnfmijahaaGreat
open Go.RowKit
section
variable {P : Program} {l : List Oper} {fs : List Tmp} {FS : Tmp → Value → World → Prop} {I : World → Prop} {E : Act → Prop} {o : Oper} {rest : List Oper} {a : Act}
/-- an operation whose value is the same in every world of the class, and which leaves the world -/
theorem wpF_val (v : Value) (hn : noB l.toArray fs o = true) (hw : Region.wanted o (yielded l.toArray a.tmps) = true)
    (hrun : ∀ w, I w → (execOp a.eval o).run P w = .ok (.value v) w) (h : wpF P l.toArray I fs FS E rest (a.put o.dst v)) : wpF P l.toArray I fs FS E (o :: rest) a := by
  obtain ⟨h1, h2⟩ := noB_spec hn
  refine ⟨v, .inl ⟨h1, h2, .inl ⟨hw, fun w hI => ?_⟩⟩, h⟩
  rw [hrun w hI]
  exact ⟨rfl, rfl⟩
theorem wpF_nil {x : Operand} {ad : Addr} (hop : o.op = .nilCheck x) (hn : noB l.toArray fs o = true) (hw : Region.wanted o (yielded l.toArray a.tmps) = true) (hx : a.eval x = .pointer (some ad))
    (h : wpF P l.toArray I fs FS E rest (a.put o.dst (.pointer (some ad)))) : wpF P l.toArray I fs FS E (o :: rest) a :=
  wpF_val _ hn hw (fun w _ => by simp only [execOp, hop, hx]; rfl) h
end
end Go.Proofs.YtlbfibnfmijahaaGreat

namespace Go.Proofs.YtlbfibnfmijahaaGreat
open Go.RowKit Go.Shelf
set_option maxRecDepth 100000
attribute [local go_sem] Oper.semAt_some

/-- fields that lie in a row of their own, at lo or above -/
def FdsAt (T : TypeId) (lo : Nat) (w : World) (A : Option Addr) (L : List Fd) : Prop := L ≠ [] → ∃ g, A = some ⟨g, 0, none⟩ ∧ lo ≤ g ∧ FRow T w g L
def OfR (T : TypeId) (L : List Fd) (w : World) (e : Ending) (w' : World) : Prop := ∃ A c, e = .returned (.slice A L.length c) ∧ L.length ≤ c ∧ FdsAt T w.heap.size w' A L ∧ Below w.heap.size w w'

theorem fd_block {w : World} {b : Nat} {T : TypeId} {f : Fd} (h : w.heap[b]? = some (.cells f.cs T (0, 0))) :
    w.cell? ⟨b, 0, none⟩ = some (.string f.nm) ∧ w.cell? ⟨b, 1, none⟩ = some (.int .i64 f.so) ∧ w.cell? ⟨b, 2, none⟩ = some (.int .i64 f.pl) ∧ w.cell? ⟨b, 3, none⟩ = some (.int .i64 f.le) ∧ w.cell? ⟨b, 4, none⟩ = some (.int .i64 f.mo) ∧ w.cell? ⟨b, 5, none⟩ = some (.int .i64 f.si) ∧ w.cell? ⟨b, 6, none⟩ = some (.int .i64 f.ab) := by
  refine ⟨?_, ?_, ?_, ?_, ?_, ?_, ?_⟩ <;> simp [World.cell?, h, Fd.cs]

theorem placed_of {k : Int} {n : Nat} {cs : Array Value} (hn : (raw k).length = n) (hp : 0 < n) (hcs : cs = (flat7 (raw k)).toArray) (w V : World) (hV : Below w.heap.size w V) :
    Calls Tryz.prog 68 #[.slice (some ⟨V.heap.size, 0, none⟩) n n] (V.alloc (.cells cs 87)) fun e w' => e = .returned (.slice (some ⟨V.heap.size, 0, none⟩) n n) ∧ OfR 87 (FD k) w (.returned (.slice (some ⟨V.heap.size, 0, none⟩) n n)) w' := by
  subst hcs
  refine (placed_any (raw k) (raw_so k) n n V.heap.size hn (by have := raw_few k; omega) _ (World.alloc_heap_new _ _)).mono ?_
  rintro e w' ⟨rfl, hO, hR⟩
  have hl : (FD k).length = n := by unfold FD; rw [pls_len]; exact hn
  refine ⟨rfl, _, _, by rw [hl], by omega, fun _ => ⟨_, rfl, hV.size, hR⟩, ?_⟩
  exact (hV.alloc hV.size _).trans (hO.below (fun k hk => by rw [hk]; exact hV.size) (by rw [World.size_alloc]; have := hV.size; omega))

set_option maxHeartbeats 4000000 in
theorem of_any (k : Int) (w : World) : Calls Tryz.prog 52 #[.int .i64 k] w fun e w' => OfR 87 (FD k) w e w' := by
  have O1 := fun W => old_any ⟨#[114, 111, 98, 111, 116]⟩ 1 0 65535 W
  have O2 := fun W => old_any ⟨#[122, 111, 110, 101]⟩ 1 0 4095 W
  unfold Fd.v Fd.cs at O1 O2
  rcases kind_ways k with rfl | rfl | rfl | rfl | rfl | ⟨h1, h2, h3, h4, h5⟩
  case' inr.inr.inr.inr.inr =>
    have n1 : (k == 1) = false := by simpa using h1
    have n2 : (k == 2) = false := by simpa using h2
    have n3 : (k == 3) = false := by simpa using h3
    have n4 : (k == 4) = false := by simpa using h4
    have n5 : (k == 5) = false := by simpa using h5
    have hFD : FD k = [] := by simp [FD, raw, h1, h2, h3, h4, h5, pls]
    clear h1 h2 h3 h4 h5
  all_goals
    go_enter Tryz.func52, Tryz.ntmps52
    go_wp2_with fail
    refine (O1 _).mono ?_
    rintro e w1 ⟨rfl, hb1⟩
    go_wp2_with fail
    refine (O2 _).mono ?_
    rintro e w2 ⟨rfl, hb2⟩
    have hs2 := hb2.size
    rw [World.size_alloc] at hs2
    have hR : ∀ V, Below (w2.alloc (.cells (Fd.cs ⟨⟨#[122, 111, 110, 101]⟩, 1, 0, 0, 4095, 1, 0⟩) 87)).heap.size (w2.alloc (.cells (Fd.cs ⟨⟨#[122, 111, 110, 101]⟩, 1, 0, 0, 4095, 1, 0⟩) 87)) V → _ := fun V hV =>
      fd_block (f := ⟨⟨#[114, 111, 98, 111, 116]⟩, 1, 0, 0, 65535, 1, 0⟩) (w := V) (b := w1.heap.size) (T := 87) ((hV.block _ (by rw [World.size_alloc]; omega)).trans ((Below.heap_alloc _ _ _ (by omega)).trans ((hb2.block _ (by rw [World.size_alloc]; omega)).trans (World.alloc_heap_new _ _))))
    have hZ : ∀ V, Below (w2.alloc (.cells (Fd.cs ⟨⟨#[122, 111, 110, 101]⟩, 1, 0, 0, 4095, 1, 0⟩) 87)).heap.size (w2.alloc (.cells (Fd.cs ⟨⟨#[122, 111, 110, 101]⟩, 1, 0, 0, 4095, 1, 0⟩) 87)) V → _ := fun V hV =>
      fd_block (f := ⟨⟨#[122, 111, 110, 101]⟩, 1, 0, 0, 4095, 1, 0⟩) (w := V) (b := w2.heap.size) (T := 87) ((hV.block _ (by rw [World.size_alloc]; omega)).trans (World.alloc_heap_new _ _))
    have hb : Below w.heap.size w (w2.alloc (.cells (Fd.cs ⟨⟨#[122, 111, 110, 101]⟩, 1, 0, 0, 4095, 1, 0⟩) 87)) := ((hb1.trans (((Below.refl w1.heap.size w1).alloc (Nat.le_refl _) _).mono hb1.size)).trans (hb2.mono (by rw [World.size_alloc]; have := hb1.size; omega))).alloc (by have := hb1.size; omega) _
    have HR := Lib.hid hR
    have HZ := Lib.hid hZ
    have HB := Lib.hid hb
    clear hR hZ hb hb1 hb2 hs2 O1 O2
    unfold Fd.cs at HR HZ HB
  · go_wp2
    go_ret
    rw [hFD]
    exact ⟨none, 0, rfl, Nat.le_refl _, fun h => absurd rfl h, HB.out⟩
  · go_wp2_with fail
    refine wp_region_FT 59 7 [] (fun _ _ _ => True) (fun V => Below (w2.alloc (.cells #[.string ⟨#[122, 111, 110, 101]⟩, .int .i64 1, .int .i64 0, .int .i64 0, .int .i64 4095, .int .i64 1, .int .i64 0] 87)).heap.size (w2.alloc (.cells #[.string ⟨#[122, 111, 110, 101]⟩, .int .i64 1, .int .i64 0, .int .i64 0, .int .i64 4095, .int .i64 1, .int .i64 0] 87)) V) (by kernel_rfl) (by kernel_rfl) (by rfl) (by kernel_rfl) (by kernel_rfl) (by kernel_rfl) (by rfl) (by simp) (fun V V' h hb => h.trans (hb.mono h.size)) (fun _ _ _ _ _ _ => trivial) (Below.refl _ _).drew ?_
    simp only [List.take_succ_cons, List.take_zero, List.drop_succ_cons, List.drop_zero]
    refine wpF_load (.agg #[.string ⟨#[114, 111, 98, 111, 116]⟩, .int .i64 1, .int .i64 0, .int .i64 0, .int .i64 65535, .int .i64 1, .int .i64 0]) rfl (by rfl) (by rfl) (by rfl) (fun V hV => by obtain ⟨d0, d1, d2, d3, d4, d5, d6⟩ := HR.out V hV; simp [Instr.loadAt, go_sem, d0, d1, d2, d3, d4, d5, d6]) ?_
    simp only [Act.put, List.setIfInBounds_toArray, List.set_cons_succ, List.set_cons_zero]
    refine wpF_call (f := 67) (args := #[.string ⟨#[115, 112, 101, 101, 100]⟩, .int .i64 1, .int .i64 1, .int .i64 5000]) (.agg #[.string ⟨#[115, 112, 101, 101, 100]⟩, .int .i64 1, .int .i64 0, .int .i64 1, .int .i64 5000, .int .i64 1, .int .i64 0]) rfl rfl (fun x => by first | rfl | (simp [go_sem]; done)) (fun V _ => old_any _ _ _ _ V) ?_
    simp only [Act.put, List.setIfInBounds_toArray, List.set_cons_succ, List.set_cons_zero]
    refine wpF_call (f := 67) (args := #[.string ⟨#[97, 99, 99, 101, 108]⟩, .int .i64 1, .int .i64 1, .int .i64 10000]) (.agg #[.string ⟨#[97, 99, 99, 101, 108]⟩, .int .i64 1, .int .i64 0, .int .i64 1, .int .i64 10000, .int .i64 1, .int .i64 0]) rfl rfl (fun x => by first | rfl | (simp [go_sem]; done)) (fun V _ => old_any _ _ _ _ V) ?_
    simp only [Act.put, List.setIfInBounds_toArray, List.set_cons_succ, List.set_cons_zero]
    refine wpF_call (f := 69) (args := #[.agg #[.string ⟨#[97, 99, 99, 101, 108]⟩, .int .i64 1, .int .i64 0, .int .i64 1, .int .i64 10000, .int .i64 1, .int .i64 0], .int .i64 500]) (.agg #[.string ⟨#[97, 99, 99, 101, 108]⟩, .int .i64 1, .int .i64 0, .int .i64 1, .int .i64 10000, .int .i64 2, .int .i64 500]) rfl rfl (fun x => by first | rfl | (simp [go_sem]; done)) (fun V _ => added_any ⟨⟨#[97, 99, 99, 101, 108]⟩, 1, 0, 1, 10000, 1, 0⟩ 500 V) ?_
    simp only [Act.put, List.setIfInBounds_toArray, List.set_cons_succ, List.set_cons_zero]
    refine wpF_call (f := 67) (args := #[.string ⟨#[112, 97, 116, 104]⟩, .int .i64 3, .int .i64 1, .int .i64 16]) (.agg #[.string ⟨#[112, 97, 116, 104]⟩, .int .i64 3, .int .i64 0, .int .i64 1, .int .i64 16, .int .i64 1, .int .i64 0]) rfl rfl (fun x => by first | rfl | (simp [go_sem]; done)) (fun V _ => old_any _ _ _ _ V) ?_
    simp only [Act.put, List.setIfInBounds_toArray, List.set_cons_succ, List.set_cons_zero]
    refine wpF_call (f := 67) (args := #[.string ⟨#[116, 97, 103]⟩, .int .i64 6, .int .i64 0, .int .i64 16]) (.agg #[.string ⟨#[116, 97, 103]⟩, .int .i64 6, .int .i64 0, .int .i64 0, .int .i64 16, .int .i64 1, .int .i64 0]) rfl rfl (fun x => by first | rfl | (simp [go_sem]; done)) (fun V _ => old_any _ _ _ _ V) ?_
    simp only [Act.put, List.setIfInBounds_toArray, List.set_cons_succ, List.set_cons_zero]
    refine wpF_call (f := 69) (args := #[.agg #[.string ⟨#[116, 97, 103]⟩, .int .i64 6, .int .i64 0, .int .i64 0, .int .i64 16, .int .i64 1, .int .i64 0], .int .i64 0]) (.agg #[.string ⟨#[116, 97, 103]⟩, .int .i64 6, .int .i64 0, .int .i64 0, .int .i64 16, .int .i64 2, .int .i64 0]) rfl rfl (fun x => by first | rfl | (simp [go_sem]; done)) (fun V _ => added_any ⟨⟨#[116, 97, 103]⟩, 6, 0, 0, 16, 1, 0⟩ 0 V) ?_
    simp only [Act.put, List.setIfInBounds_toArray, List.set_cons_succ, List.set_cons_zero]
    intro xs V hV _
    simp only [fill]
    have HV := Lib.hid (HB.out.trans (hV.mono HB.out.size))
    clear hV HR HZ HB
    go_wp2_with fail
    refine (placed_of (k := 1) (n := 5) rfl (by omega) (by rfl) w V HV.out).mono ?_
    rintro e w4 ⟨rfl, HX⟩
    have HX := Lib.hid HX
    clear HV
    go_wp2
    go_ret
    exact HX.out
  · go_wp2_with fail
    refine wp_region_FT 59 4 [] (fun _ _ _ => True) (fun V => Below (w2.alloc (.cells #[.string ⟨#[122, 111, 110, 101]⟩, .int .i64 1, .int .i64 0, .int .i64 0, .int .i64 4095, .int .i64 1, .int .i64 0] 87)).heap.size (w2.alloc (.cells #[.string ⟨#[122, 111, 110, 101]⟩, .int .i64 1, .int .i64 0, .int .i64 0, .int .i64 4095, .int .i64 1, .int .i64 0] 87)) V) (by kernel_rfl) (by kernel_rfl) (by rfl) (by kernel_rfl) (by kernel_rfl) (by kernel_rfl) (by rfl) (by simp) (fun V V' h hb => h.trans (hb.mono h.size)) (fun _ _ _ _ _ _ => trivial) (Below.refl _ _).drew ?_
    simp only [List.take_succ_cons, List.take_zero, List.drop_succ_cons, List.drop_zero]
    refine wpF_load (.agg #[.string ⟨#[114, 111, 98, 111, 116]⟩, .int .i64 1, .int .i64 0, .int .i64 0, .int .i64 65535, .int .i64 1, .int .i64 0]) rfl (by rfl) (by rfl) (by rfl) (fun V hV => by obtain ⟨d0, d1, d2, d3, d4, d5, d6⟩ := HR.out V hV; simp [Instr.loadAt, go_sem, d0, d1, d2, d3, d4, d5, d6]) ?_
    simp only [Act.put, List.setIfInBounds_toArray, List.set_cons_succ, List.set_cons_zero]
    refine wpF_call (f := 67) (args := #[.string ⟨#[114, 101, 97, 115, 111, 110]⟩, .int .i64 1, .int .i64 0, .int .i64 15]) (.agg #[.string ⟨#[114, 101, 97, 115, 111, 110]⟩, .int .i64 1, .int .i64 0, .int .i64 0, .int .i64 15, .int .i64 1, .int .i64 0]) rfl rfl (fun x => by first | rfl | (simp [go_sem]; done)) (fun V _ => old_any _ _ _ _ V) ?_
    simp only [Act.put, List.setIfInBounds_toArray, List.set_cons_succ, List.set_cons_zero]
    refine wpF_load (.agg #[.string ⟨#[122, 111, 110, 101]⟩, .int .i64 1, .int .i64 0, .int .i64 0, .int .i64 4095, .int .i64 1, .int .i64 0]) rfl (by rfl) (by rfl) (by rfl) (fun V hV => by obtain ⟨d0, d1, d2, d3, d4, d5, d6⟩ := HZ.out V hV; simp [Instr.loadAt, go_sem, d0, d1, d2, d3, d4, d5, d6]) ?_
    simp only [Act.put, List.setIfInBounds_toArray, List.set_cons_succ, List.set_cons_zero]
    refine wpF_call (f := 69) (args := #[.agg #[.string ⟨#[122, 111, 110, 101]⟩, .int .i64 1, .int .i64 0, .int .i64 0, .int .i64 4095, .int .i64 1, .int .i64 0], .int .i64 0]) (.agg #[.string ⟨#[122, 111, 110, 101]⟩, .int .i64 1, .int .i64 0, .int .i64 0, .int .i64 4095, .int .i64 2, .int .i64 0]) rfl rfl (fun x => by first | rfl | (simp [go_sem]; done)) (fun V _ => added_any ⟨⟨#[122, 111, 110, 101]⟩, 1, 0, 0, 4095, 1, 0⟩ 0 V) ?_
    simp only [Act.put, List.setIfInBounds_toArray, List.set_cons_succ, List.set_cons_zero]
    intro xs V hV _
    simp only [fill]
    have HV := Lib.hid (HB.out.trans (hV.mono HB.out.size))
    clear hV HR HZ HB
    go_wp2_with fail
    refine (placed_of (k := 2) (n := 3) rfl (by omega) (by rfl) w V HV.out).mono ?_
    rintro e w4 ⟨rfl, HX⟩
    have HX := Lib.hid HX
    clear HV
    go_wp2
    go_ret
    exact HX.out
  · go_wp2_with fail
    refine wp_region_FT 59 5 [] (fun _ _ _ => True) (fun V => Below (w2.alloc (.cells #[.string ⟨#[122, 111, 110, 101]⟩, .int .i64 1, .int .i64 0, .int .i64 0, .int .i64 4095, .int .i64 1, .int .i64 0] 87)).heap.size (w2.alloc (.cells #[.string ⟨#[122, 111, 110, 101]⟩, .int .i64 1, .int .i64 0, .int .i64 0, .int .i64 4095, .int .i64 1, .int .i64 0] 87)) V) (by kernel_rfl) (by kernel_rfl) (by rfl) (by kernel_rfl) (by kernel_rfl) (by kernel_rfl) (by rfl) (by simp) (fun V V' h hb => h.trans (hb.mono h.size)) (fun _ _ _ _ _ _ => trivial) (Below.refl _ _).drew ?_
    simp only [List.take_succ_cons, List.take_zero, List.drop_succ_cons, List.drop_zero]
    refine wpF_load (.agg #[.string ⟨#[114, 111, 98, 111, 116]⟩, .int .i64 1, .int .i64 0, .int .i64 0, .int .i64 65535, .int .i64 1, .int .i64 0]) rfl (by rfl) (by rfl) (by rfl) (fun V hV => by obtain ⟨d0, d1, d2, d3, d4, d5, d6⟩ := HR.out V hV; simp [Instr.loadAt, go_sem, d0, d1, d2, d3, d4, d5, d6]) ?_
    simp only [Act.put, List.setIfInBounds_toArray, List.set_cons_succ, List.set_cons_zero]
    refine wpF_load (.agg #[.string ⟨#[122, 111, 110, 101]⟩, .int .i64 1, .int .i64 0, .int .i64 0, .int .i64 4095, .int .i64 1, .int .i64 0]) rfl (by rfl) (by rfl) (by rfl) (fun V hV => by obtain ⟨d0, d1, d2, d3, d4, d5, d6⟩ := HZ.out V hV; simp [Instr.loadAt, go_sem, d0, d1, d2, d3, d4, d5, d6]) ?_
    simp only [Act.put, List.setIfInBounds_toArray, List.set_cons_succ, List.set_cons_zero]
    refine wpF_call (f := 67) (args := #[.string ⟨#[108, 101, 97, 115, 101]⟩, .int .i64 1, .int .i64 1, .int .i64 255]) (.agg #[.string ⟨#[108, 101, 97, 115, 101]⟩, .int .i64 1, .int .i64 0, .int .i64 1, .int .i64 255, .int .i64 1, .int .i64 0]) rfl rfl (fun x => by first | rfl | (simp [go_sem]; done)) (fun V _ => old_any _ _ _ _ V) ?_
    simp only [Act.put, List.setIfInBounds_toArray, List.set_cons_succ, List.set_cons_zero]
    refine wpF_call (f := 69) (args := #[.agg #[.string ⟨#[108, 101, 97, 115, 101]⟩, .int .i64 1, .int .i64 0, .int .i64 1, .int .i64 255, .int .i64 1, .int .i64 0], .int .i64 1]) (.agg #[.string ⟨#[108, 101, 97, 115, 101]⟩, .int .i64 1, .int .i64 0, .int .i64 1, .int .i64 255, .int .i64 2, .int .i64 1]) rfl rfl (fun x => by first | rfl | (simp [go_sem]; done)) (fun V _ => added_any ⟨⟨#[108, 101, 97, 115, 101]⟩, 1, 0, 1, 255, 1, 0⟩ 1 V) ?_
    simp only [Act.put, List.setIfInBounds_toArray, List.set_cons_succ, List.set_cons_zero]
    refine wpF_call (f := 67) (args := #[.string ⟨#[99, 101, 108, 108, 115]⟩, .int .i64 4, .int .i64 1, .int .i64 32]) (.agg #[.string ⟨#[99, 101, 108, 108, 115]⟩, .int .i64 4, .int .i64 0, .int .i64 1, .int .i64 32, .int .i64 1, .int .i64 0]) rfl rfl (fun x => by first | rfl | (simp [go_sem]; done)) (fun V _ => old_any _ _ _ _ V) ?_
    simp only [Act.put, List.setIfInBounds_toArray, List.set_cons_succ, List.set_cons_zero]
    intro xs V hV _
    simp only [fill]
    have HV := Lib.hid (HB.out.trans (hV.mono HB.out.size))
    clear hV HR HZ HB
    go_wp2_with fail
    refine (placed_of (k := 3) (n := 4) rfl (by omega) (by rfl) w V HV.out).mono ?_
    rintro e w4 ⟨rfl, HX⟩
    have HX := Lib.hid HX
    clear HV
    go_wp2
    go_ret
    exact HX.out
  · go_wp2_with fail
    refine wp_region_FT 59 7 [] (fun _ _ _ => True) (fun V => Below (w2.alloc (.cells #[.string ⟨#[122, 111, 110, 101]⟩, .int .i64 1, .int .i64 0, .int .i64 0, .int .i64 4095, .int .i64 1, .int .i64 0] 87)).heap.size (w2.alloc (.cells #[.string ⟨#[122, 111, 110, 101]⟩, .int .i64 1, .int .i64 0, .int .i64 0, .int .i64 4095, .int .i64 1, .int .i64 0] 87)) V) (by kernel_rfl) (by kernel_rfl) (by rfl) (by kernel_rfl) (by kernel_rfl) (by kernel_rfl) (by rfl) (by simp) (fun V V' h hb => h.trans (hb.mono h.size)) (fun _ _ _ _ _ _ => trivial) (Below.refl _ _).drew ?_
    simp only [List.take_succ_cons, List.take_zero, List.drop_succ_cons, List.drop_zero]
    refine wpF_load (.agg #[.string ⟨#[114, 111, 98, 111, 116]⟩, .int .i64 1, .int .i64 0, .int .i64 0, .int .i64 65535, .int .i64 1, .int .i64 0]) rfl (by rfl) (by rfl) (by rfl) (fun V hV => by obtain ⟨d0, d1, d2, d3, d4, d5, d6⟩ := HR.out V hV; simp [Instr.loadAt, go_sem, d0, d1, d2, d3, d4, d5, d6]) ?_
    simp only [Act.put, List.setIfInBounds_toArray, List.set_cons_succ, List.set_cons_zero]
    refine wpF_call (f := 67) (args := #[.string ⟨#[120]⟩, .int .i64 2, .int .i64 (-1000000), .int .i64 1000000]) (.agg #[.string ⟨#[120]⟩, .int .i64 2, .int .i64 0, .int .i64 (-1000000), .int .i64 1000000, .int .i64 1, .int .i64 0]) rfl rfl (fun x => by first | rfl | (simp [go_sem]; done)) (fun V _ => old_any _ _ _ _ V) ?_
    simp only [Act.put, List.setIfInBounds_toArray, List.set_cons_succ, List.set_cons_zero]
    refine wpF_call (f := 67) (args := #[.string ⟨#[121]⟩, .int .i64 2, .int .i64 (-1000000), .int .i64 1000000]) (.agg #[.string ⟨#[121]⟩, .int .i64 2, .int .i64 0, .int .i64 (-1000000), .int .i64 1000000, .int .i64 1, .int .i64 0]) rfl rfl (fun x => by first | rfl | (simp [go_sem]; done)) (fun V _ => old_any _ _ _ _ V) ?_
    simp only [Act.put, List.setIfInBounds_toArray, List.set_cons_succ, List.set_cons_zero]
    refine wpF_call (f := 67) (args := #[.string ⟨#[104, 101, 97, 100, 105, 110, 103]⟩, .int .i64 1, .int .i64 0, .int .i64 35999]) (.agg #[.string ⟨#[104, 101, 97, 100, 105, 110, 103]⟩, .int .i64 1, .int .i64 0, .int .i64 0, .int .i64 35999, .int .i64 1, .int .i64 0]) rfl rfl (fun x => by first | rfl | (simp [go_sem]; done)) (fun V _ => old_any _ _ _ _ V) ?_
    simp only [Act.put, List.setIfInBounds_toArray, List.set_cons_succ, List.set_cons_zero]
    refine wpF_call (f := 67) (args := #[.string ⟨#[98, 97, 116, 116, 101, 114, 121]⟩, .int .i64 1, .int .i64 0, .int .i64 1000]) (.agg #[.string ⟨#[98, 97, 116, 116, 101, 114, 121]⟩, .int .i64 1, .int .i64 0, .int .i64 0, .int .i64 1000, .int .i64 1, .int .i64 0]) rfl rfl (fun x => by first | rfl | (simp [go_sem]; done)) (fun V _ => old_any _ _ _ _ V) ?_
    simp only [Act.put, List.setIfInBounds_toArray, List.set_cons_succ, List.set_cons_zero]
    refine wpF_call (f := 67) (args := #[.string ⟨#[115, 117, 114, 101]⟩, .int .i64 1, .int .i64 0, .int .i64 100]) (.agg #[.string ⟨#[115, 117, 114, 101]⟩, .int .i64 1, .int .i64 0, .int .i64 0, .int .i64 100, .int .i64 1, .int .i64 0]) rfl rfl (fun x => by first | rfl | (simp [go_sem]; done)) (fun V _ => old_any _ _ _ _ V) ?_
    simp only [Act.put, List.setIfInBounds_toArray, List.set_cons_succ, List.set_cons_zero]
    refine wpF_call (f := 69) (args := #[.agg #[.string ⟨#[115, 117, 114, 101]⟩, .int .i64 1, .int .i64 0, .int .i64 0, .int .i64 100, .int .i64 1, .int .i64 0], .int .i64 100]) (.agg #[.string ⟨#[115, 117, 114, 101]⟩, .int .i64 1, .int .i64 0, .int .i64 0, .int .i64 100, .int .i64 2, .int .i64 100]) rfl rfl (fun x => by first | rfl | (simp [go_sem]; done)) (fun V _ => added_any ⟨⟨#[115, 117, 114, 101]⟩, 1, 0, 0, 100, 1, 0⟩ 100 V) ?_
    simp only [Act.put, List.setIfInBounds_toArray, List.set_cons_succ, List.set_cons_zero]
    intro xs V hV _
    simp only [fill]
    have HV := Lib.hid (HB.out.trans (hV.mono HB.out.size))
    clear hV HR HZ HB
    go_wp2_with fail
    refine (placed_of (k := 4) (n := 6) rfl (by omega) (by rfl) w V HV.out).mono ?_
    rintro e w4 ⟨rfl, HX⟩
    have HX := Lib.hid HX
    clear HV
    go_wp2
    go_ret
    exact HX.out
  · go_wp2_with fail
    refine wp_region_FT 59 8 [] (fun _ _ _ => True) (fun V => Below (w2.alloc (.cells #[.string ⟨#[122, 111, 110, 101]⟩, .int .i64 1, .int .i64 0, .int .i64 0, .int .i64 4095, .int .i64 1, .int .i64 0] 87)).heap.size (w2.alloc (.cells #[.string ⟨#[122, 111, 110, 101]⟩, .int .i64 1, .int .i64 0, .int .i64 0, .int .i64 4095, .int .i64 1, .int .i64 0] 87)) V) (by kernel_rfl) (by kernel_rfl) (by rfl) (by kernel_rfl) (by kernel_rfl) (by kernel_rfl) (by rfl) (by simp) (fun V V' h hb => h.trans (hb.mono h.size)) (fun _ _ _ _ _ _ => trivial) (Below.refl _ _).drew ?_
    simp only [List.take_succ_cons, List.take_zero, List.drop_succ_cons, List.drop_zero]
    refine wpF_load (.agg #[.string ⟨#[114, 111, 98, 111, 116]⟩, .int .i64 1, .int .i64 0, .int .i64 0, .int .i64 65535, .int .i64 1, .int .i64 0]) rfl (by rfl) (by rfl) (by rfl) (fun V hV => by obtain ⟨d0, d1, d2, d3, d4, d5, d6⟩ := HR.out V hV; simp [Instr.loadAt, go_sem, d0, d1, d2, d3, d4, d5, d6]) ?_
    simp only [Act.put, List.setIfInBounds_toArray, List.set_cons_succ, List.set_cons_zero]
    refine wpF_call (f := 67) (args := #[.string ⟨#[99, 111, 100, 101]⟩, .int .i64 1, .int .i64 1, .int .i64 9999]) (.agg #[.string ⟨#[99, 111, 100, 101]⟩, .int .i64 1, .int .i64 0, .int .i64 1, .int .i64 9999, .int .i64 1, .int .i64 0]) rfl rfl (fun x => by first | rfl | (simp [go_sem]; done)) (fun V _ => old_any _ _ _ _ V) ?_
    simp only [Act.put, List.setIfInBounds_toArray, List.set_cons_succ, List.set_cons_zero]
    refine wpF_call (f := 67) (args := #[.string ⟨#[115, 101, 118, 101, 114, 105, 116, 121]⟩, .int .i64 1, .int .i64 0, .int .i64 4]) (.agg #[.string ⟨#[115, 101, 118, 101, 114, 105, 116, 121]⟩, .int .i64 1, .int .i64 0, .int .i64 0, .int .i64 4, .int .i64 1, .int .i64 0]) rfl rfl (fun x => by first | rfl | (simp [go_sem]; done)) (fun V _ => old_any _ _ _ _ V) ?_
    simp only [Act.put, List.setIfInBounds_toArray, List.set_cons_succ, List.set_cons_zero]
    refine wpF_call (f := 67) (args := #[.string ⟨#[112, 97, 114, 116]⟩, .int .i64 1, .int .i64 0, .int .i64 255]) (.agg #[.string ⟨#[112, 97, 114, 116]⟩, .int .i64 1, .int .i64 0, .int .i64 0, .int .i64 255, .int .i64 1, .int .i64 0]) rfl rfl (fun x => by first | rfl | (simp [go_sem]; done)) (fun V _ => old_any _ _ _ _ V) ?_
    simp only [Act.put, List.setIfInBounds_toArray, List.set_cons_succ, List.set_cons_zero]
    refine wpF_call (f := 69) (args := #[.agg #[.string ⟨#[112, 97, 114, 116]⟩, .int .i64 1, .int .i64 0, .int .i64 0, .int .i64 255, .int .i64 1, .int .i64 0], .int .i64 0]) (.agg #[.string ⟨#[112, 97, 114, 116]⟩, .int .i64 1, .int .i64 0, .int .i64 0, .int .i64 255, .int .i64 2, .int .i64 0]) rfl rfl (fun x => by first | rfl | (simp [go_sem]; done)) (fun V _ => added_any ⟨⟨#[112, 97, 114, 116]⟩, 1, 0, 0, 255, 1, 0⟩ 0 V) ?_
    simp only [Act.put, List.setIfInBounds_toArray, List.set_cons_succ, List.set_cons_zero]
    refine wpF_call (f := 67) (args := #[.string ⟨#[116, 105, 109, 101, 115]⟩, .int .i64 1, .int .i64 1, .int .i64 1000000]) (.agg #[.string ⟨#[116, 105, 109, 101, 115]⟩, .int .i64 1, .int .i64 0, .int .i64 1, .int .i64 1000000, .int .i64 1, .int .i64 0]) rfl rfl (fun x => by first | rfl | (simp [go_sem]; done)) (fun V _ => old_any _ _ _ _ V) ?_
    simp only [Act.put, List.setIfInBounds_toArray, List.set_cons_succ, List.set_cons_zero]
    refine wpF_call (f := 69) (args := #[.agg #[.string ⟨#[116, 105, 109, 101, 115]⟩, .int .i64 1, .int .i64 0, .int .i64 1, .int .i64 1000000, .int .i64 1, .int .i64 0], .int .i64 1]) (.agg #[.string ⟨#[116, 105, 109, 101, 115]⟩, .int .i64 1, .int .i64 0, .int .i64 1, .int .i64 1000000, .int .i64 2, .int .i64 1]) rfl rfl (fun x => by first | rfl | (simp [go_sem]; done)) (fun V _ => added_any ⟨⟨#[116, 105, 109, 101, 115]⟩, 1, 0, 1, 1000000, 1, 0⟩ 1 V) ?_
    simp only [Act.put, List.setIfInBounds_toArray, List.set_cons_succ, List.set_cons_zero]
    refine wpF_call (f := 67) (args := #[.string ⟨#[116, 101, 120, 116]⟩, .int .i64 5, .int .i64 0, .int .i64 64]) (.agg #[.string ⟨#[116, 101, 120, 116]⟩, .int .i64 5, .int .i64 0, .int .i64 0, .int .i64 64, .int .i64 1, .int .i64 0]) rfl rfl (fun x => by first | rfl | (simp [go_sem]; done)) (fun V _ => old_any _ _ _ _ V) ?_
    simp only [Act.put, List.setIfInBounds_toArray, List.set_cons_succ, List.set_cons_zero]
    intro xs V hV _
    simp only [fill]
    have HV := Lib.hid (HB.out.trans (hV.mono HB.out.size))
    clear hV HR HZ HB
    go_wp2_with fail
    refine (placed_of (k := 5) (n := 6) rfl (by omega) (by rfl) w V HV.out).mono ?_
    rintro e w4 ⟨rfl, HX⟩
    have HX := Lib.hid HX
    clear HV
    go_wp2
    go_ret
    exact HX.out
end Go.Proofs.YtlbfibnfmijahaaGreat

namespace Go.Proofs.YtlbfibnfmijahaaGreat
open Go.RowKit Go.Shelf
set_option maxRecDepth 100000
attribute [local go_sem] Oper.semAt_some

/-- those that a version has -/
def FDv (k v : Int) : List Fd := (FD k).filter fun f => decide (f.si ≤ v)
/-- rows of fields and boxes of numbers at lo or above are as they were -/
structure KeT (tf ti : TypeId) (lo : Nat) (A B : World) : Prop where
  size : A.heap.size ≤ B.heap.size
  same : ∀ (q : Nat) (cs : Array Value) (t : TypeId), lo ≤ q → t = tf ∨ t = ti → A.heap[q]? = some (.cells cs t (0, 0)) → B.heap[q]? = A.heap[q]?
section
variable {tf ti : TypeId} {lo : Nat} {A B C : World}
theorem KeT.refl (A : World) : KeT tf ti lo A A := ⟨Nat.le_refl _, fun _ _ _ _ _ _ => rfl⟩
theorem KeT.trans (h : KeT tf ti lo A B) (k : KeT tf ti lo B C) : KeT tf ti lo A C := ⟨Nat.le_trans h.size k.size, fun q cs t hq ht hA => (k.same q cs t hq ht ((h.same q cs t hq ht hA).trans hA)).trans (h.same q cs t hq ht hA)⟩
theorem KeT.of_below (h : Below A.heap.size A B) : KeT tf ti lo A B := ⟨h.size, fun q _ _ _ _ hA => h.block q (Array.getElem?_eq_some_iff.1 hA).1⟩
theorem KeT.block (h : KeT tf ti lo A B) {q : Nat} {cs : Array Value} {t : TypeId} (hq : lo ≤ q) (ht : t = tf ∨ t = ti) (hA : A.heap[q]? = some (.cells cs t (0, 0))) : B.heap[q]? = some (.cells cs t (0, 0)) := (h.same q cs t hq ht hA).trans hA
theorem KeT.putObj {l : Nat} {o o' : Obj} (ho : A.heap[l]? = some o) (hc : o.isCells = false) : KeT tf ti lo A (A.putObj l o') := ⟨by simp [World.putObj], fun q cs t _ _ hA => World.putObj_heap_other (fun e => by
  subst e
  rw [ho] at hA
  injection hA with hA
  subst hA
  cases hc)⟩
theorem KeT.setCell (h : KeT tf ti lo A B) {p : Addr} (hp : p.block < lo) (u : Value) : KeT tf ti lo A (B.setCell p u) := ⟨by have := h.size; simpa [World.setCell] using this, fun q cs t hq ht hA => (Below.heap_setCell B p u q (by omega)).trans (h.same q cs t hq ht hA)⟩
end

theorem fall_any (k v : Int) (w : World) : Calls Tryz.prog 34 #[.int .i64 k, .int .i64 v] w fun e w' => e = .returned (.func (.func 51) #[] #[.pointer (some ⟨w.heap.size, 0, none⟩), .pointer (some ⟨w.heap.size + 1, 0, none⟩)]) ∧
    w'.heap[w.heap.size]? = some (.cells #[.int .i64 k] 3 (0, 0)) ∧ w'.heap[w.heap.size + 1]? = some (.cells #[.int .i64 v] 3 (0, 0)) ∧ Below w.heap.size w w' := by
  go_enter Tryz.func34, Tryz.ntmps34
  go_wp2
  go_ret
  refine ⟨rfl, ?_, ?_, ((Below.refl _ w).alloc (Nat.le_refl _) _).alloc (by simp) _⟩
  · rw [Below.heap_alloc _ _ _ (by simp)]
    exact World.alloc_heap_new _ _
  · rw [show w.heap.size + 1 = (w.alloc (.cells #[.int .i64 k] 3)).heap.size by simp]
    exact World.alloc_heap_new _ _

theorem FRow.sevenP {T : TypeId} {w : World} {g : Nat} {L : List Fd} (h : FRow T w g L) {j : Nat} {f : Fd} (hj : L[j]? = some f) :
    w.cell? ⟨g, j * 7, none⟩ = some (.string f.nm) ∧ w.cell? ⟨g, j * 7 + 1, none⟩ = some (.int .i64 f.so) ∧ w.cell? ⟨g, j * 7 + 2, none⟩ = some (.int .i64 f.pl) ∧ w.cell? ⟨g, j * 7 + 3, none⟩ = some (.int .i64 f.le) ∧ w.cell? ⟨g, j * 7 + 4, none⟩ = some (.int .i64 f.mo) ∧ w.cell? ⟨g, j * 7 + 5, none⟩ = some (.int .i64 f.si) ∧ w.cell? ⟨g, j * 7 + 6, none⟩ = some (.int .i64 f.ab) :=
  ⟨h.cell hj (q := 0) (by omega), h.cell hj (q := 1) (by omega), h.cell hj (q := 2) (by omega), h.cell hj (q := 3) (by omega), h.cell hj (q := 4) (by omega), h.cell hj (q := 5) (by omega), h.cell hj (q := 6) (by omega)⟩
theorem filter_take {L : List Fd} {p : Fd → Bool} {i : Nat} {f : Fd} (hf : L[i]? = some f) : ((L.take (i + 1)).filter p).length = ((L.take i).filter p).length + (if p f then 1 else 0) := by
  rw [List.take_add_one, hf, List.filter_append, List.length_append]
  by_cases h : p f <;> simp [h]
theorem filter_get {L : List Fd} {p : Fd → Bool} {i : Nat} {f : Fd} (hf : L[i]? = some f) (hp : p f = true) : (L.filter p)[((L.take i).filter p).length]? = some f := by
  have h1 : L = L.take i ++ f :: L.drop (i + 1) := by
    have hi := (List.getElem?_eq_some_iff.1 hf).1
    conv => lhs; rw [← List.take_append_drop i L, List.drop_eq_getElem_cons hi]
    rw [(List.getElem?_eq_some_iff.1 hf).2]
  have key : ((L.take i ++ f :: L.drop (i + 1)).filter p)[((L.take i).filter p).length]? = some f := by
    rw [List.filter_append, List.filter_cons_of_pos hp]
    simp
  rwa [← h1] at key

set_option maxHeartbeats 2000000 in
theorem fall_in (n : Nat) (hn : 1 ≤ n) (m' l g : Nat) (k v : Int) (J : Nat → World → Prop) (Jx : World → Prop) (hJ : ∀ j A B, J j A → Below A.heap.size A B → J j B)
    (hY : ∀ j f W, J j W → (FDv k v)[j]? = some f → YieldAt Fence.wide m' Tryz.prog l #[f.v] W fun e W' => (e = .returned (.bool true) ∧ J (j + 1) W' ∧ KeT 87 3 g W W') ∨ (e = .returned (.bool false) ∧ Jx W'))
    (W : World) (hg0 : W.heap[g]? = some (.cells #[.int .i64 k] 3 (0, 0))) (hg1 : W.heap[g + 1]? = some (.cells #[.int .i64 v] 3 (0, 0))) (h0 : J 0 W) :
    CallsIn Fence.wide n Tryz.prog 51 #[.func (.yield l) #[] #[], .pointer (some ⟨g, 0, none⟩), .pointer (some ⟨g + 1, 0, none⟩)] W fun e W' => (∃ v, e = .returned v) ∧ (J (FDv k v).length W' ∨ Jx W') := by
  have c0 : W.cell? ⟨g, 0, none⟩ = some (.int .i64 k) := by simp [World.cell?, hg0]
  have hlt := (Array.getElem?_eq_some_iff.1 hg1).1
  have hlt0 := (Array.getElem?_eq_some_iff.1 hg0).1
  obtain ⟨R, hR⟩ : ∃ R, (FDv k v).length = R := ⟨_, rfl⟩
  rw [hR]
  refine callsIn_of_wp Tryz.func51 rfl trivial ?_ rfl
  simp only [Tryz.ntmps51, List.size_toArray, List.length_cons, List.length_nil, Nat.reduceAdd, Nat.reduceSub, Array.replicate_succ, Array.replicate_zero, List.push_toArray, List.append_toArray, List.nil_append, List.cons_append]
  gi_wp2_with fail
  refine ⟨trivial, (callsIn_wide.2 (of_any k W)).mono ?_⟩
  rintro e w1 ⟨A, c, rfl, hc, hA, hb1⟩
  have hN6 : (FD k).length ≤ 6 := by
    unfold FD
    rw [pls_len]
    exact raw_few k
  unfold FDv at hY hR
  generalize FD k = L at *
  obtain ⟨N, hN⟩ : ∃ N, L.length = N := ⟨_, rfl⟩
  rw [hN] at hc hN6 ⊢
  have hgW : g + 1 < W.heap.size := hlt
  have HJ0 := Lib.hid (hJ 0 _ _ h0 hb1)
  have HN := Lib.hid hN
  have HR := Lib.hid hR
  have HY := Lib.hid hY
  have HJ := Lib.hid hJ
  have HV := Lib.hid ((hb1.block (g + 1) hlt).trans hg1)
  clear hN hR hY hg0 hg1 h0 c0 hlt hlt0 hJ hb1
  by_cases hL : L = []
  · subst hL
    obtain rfl : 0 = N := HN.out
    obtain rfl : 0 = R := HR.out
    gi_wp2_with fail
    gi_loopw [9] (fun x wr => x = .int .i64 0 ∧ wr = w1) (fun _ _ => 0)
    case atStart => exact ⟨rfl, rfl⟩
    case round =>
      obtain ⟨rfl, rfl⟩ := hrel
      gi_wp2
      go_end0
      exact ⟨⟨_, rfl⟩, .inl HJ0.out⟩
  · obtain ⟨ga, rfl, hga, hF⟩ := hA hL
    have HF := Lib.hid hF
    have hgag : g ≤ ga := by omega
    clear hF hA hga
    gi_wp2_with fail
    gi_loopw [9] (fun x wr => ∃ p : Nat, p ≤ N ∧ x = .int .i64 (p : Int) ∧ Hid (J ((L.take p).filter fun f => decide (f.si ≤ v)).length wr) ∧ Hid (FRow 87 wr ga L) ∧ Hid (wr.heap[g + 1]? = some (.cells #[.int .i64 v] 3 (0, 0)))) (fun x _ => N - (intOf x).toNat)
    case atStart => exact ⟨0, by omega, rfl, HJ0, HF, HV⟩
    case round =>
      obtain ⟨p, hp, rfl, HJp, HFp, HVp⟩ := hrel
      rcases Nat.lt_or_ge p N with hlt | hge
      · obtain ⟨f, hf⟩ : ∃ f, L[p]? = some f := ⟨_, List.getElem?_eq_getElem (by rw [HN.out]; exact hlt)⟩
        obtain ⟨d0, d1, d2, d3, d4, d5, d6⟩ := HFp.out.sevenP hf
        have dv : wr.cell? ⟨g + 1, 0, none⟩ = some (.int .i64 v) := by simp [World.cell?, HVp.out]
        have hsz := (Array.getElem?_eq_some_iff.1 HVp.out).1
        have hfl := filter_take (p := fun f => decide (f.si ≤ v)) hf
        have hfg := filter_get (p := fun f => decide (f.si ≤ v)) hf
        have Hfl := Lib.hid hfl
        by_cases hv : f.si ≤ v
        · have HYj := HY.out _ f (wr.alloc (.cells f.cs 87)) (HJ.out _ _ _ HJp.out ((Below.refl _ wr).alloc (Nat.le_refl _) _)) (hfg (by simpa using hv))
          unfold Fd.v Fd.cs at HYj
          obtain ⟨fn, tmps, assign, body, hy, hR⟩ := yield_any (n - 1) HYj
          have HR2 := Lib.hid hR
          clear hR HYj hfl hfg
          have hFlt : ga < wr.heap.size := (Array.getElem?_eq_some_iff.1 HFp.out).1
          gi_wp2_with fail
          refine HR2.out.mono ?_
          rintro e W3 (⟨rfl, hJ3, hK3⟩ | ⟨rfl, hJx3⟩)
          · have HJ3 : Hid (J ((L.take (p + 1)).filter fun f => decide (f.si ≤ v)).length W3) := by
              show J _ _
              rw [Hfl.out, if_pos (by simpa using hv)]
              exact hJ3
            have HF3 : Hid (FRow 87 W3 ga L) := hK3.block hgag (.inl rfl) ((Below.heap_alloc _ _ _ hFlt).trans HFp.out)
            have HV3 : Hid (W3.heap[g + 1]? = some (.cells #[.int .i64 v] 3 (0, 0))) := hK3.block (by omega) (.inr rfl) ((Below.heap_alloc _ _ _ hsz).trans HVp.out)
            clear hJ3 hK3 d0 d1 d2 d3 d4 d5 d6 dv
            gi_wp2
            go_roundw
            case rel => exact ⟨p + 1, by omega, by go_num, HJ3, HF3, HV3⟩
            case measure => simp [intOf]; omega
          · gi_wp2
            refine bodyPost_ret (results_none rfl _ _ _) rfl ?_
            exact ⟨⟨_, rfl⟩, .inr hJx3⟩
        · have HJ3 : Hid (J ((L.take (p + 1)).filter fun f => decide (f.si ≤ v)).length (wr.alloc (.cells #[.string f.nm, .int .i64 f.so, .int .i64 f.pl, .int .i64 f.le, .int .i64 f.mo, .int .i64 f.si, .int .i64 f.ab] 87))) := by
            show J _ _
            rw [Hfl.out, if_neg (by simpa using hv)]
            exact HJ.out _ _ _ HJp.out ((Below.refl _ wr).alloc (Nat.le_refl _) _)
          have HF3 : Hid (FRow 87 (wr.alloc (.cells #[.string f.nm, .int .i64 f.so, .int .i64 f.pl, .int .i64 f.le, .int .i64 f.mo, .int .i64 f.si, .int .i64 f.ab] 87)) ga L) := (Below.heap_alloc _ _ _ (Array.getElem?_eq_some_iff.1 HFp.out).1).trans HFp.out
          have HV3 : Hid ((wr.alloc (.cells #[.string f.nm, .int .i64 f.so, .int .i64 f.pl, .int .i64 f.le, .int .i64 f.mo, .int .i64 f.si, .int .i64 f.ab] 87)).heap[g + 1]? = some (.cells #[.int .i64 v] 3 (0, 0))) := (Below.heap_alloc _ _ _ hsz).trans HVp.out
          clear hfl hfg
          gi_wp2
          refine ⟨fun f hf => (by cases hf), ?_⟩
          gi_wp2
          go_roundw
          case rel => exact ⟨p + 1, by omega, by go_num, HJ3, HF3, HV3⟩
          case measure => simp [intOf]; omega
      · obtain rfl : p = N := by omega
        gi_wp2
        go_end0
        have h1 := HJp.out
        rw [List.take_of_length_le (by rw [HN.out]; exact Nat.le_refl _), HR.out] at h1
        exact ⟨⟨_, rfl⟩, .inl h1⟩
end Go.Proofs.YtlbfibnfmijahaaGreat

namespace Go.Proofs.YtlbfibnfmijahaaGreat
open Go.RowKit Go.Shelf
set_option maxRecDepth 100000
attribute [local go_sem] Oper.semAt_some

end Go.Proofs.YtlbfibnfmijahaaGreat

namespace Go.Proofs.YtlbfibnfmijahaaGreat
open Go.RowKit

/-- whatever is cells, but block b, is as it was -/
structure KpC (b : Nat) (W W' : World) : Prop where
  size : W.heap.size ≤ W'.heap.size
  same : ∀ (k : Nat) (o : Obj), k ≠ b → W.heap[k]? = some o → o.isCells = true → W'.heap[k]? = some o
theorem KpC.trans {b : Nat} {A B C : World} (h : KpC b A B) (k : KpC b B C) : KpC b A C := ⟨Nat.le_trans h.size k.size, fun i o hi ho hc => k.same i o hi (h.same i o hi ho hc) hc⟩
theorem KpC.putObj {b l : Nat} {W : World} {o o' : Obj} (ho : W.heap[l]? = some o) (hc : o.isCells = false) : KpC b W (W.putObj l o') := by
  refine ⟨by simp [World.putObj], fun k p hk hp hpc => (World.putObj_heap_other (fun e => ?_)).trans hp⟩
  subst e
  rw [hp] at ho
  injection ho with ho
  subst ho
  rw [hpc] at hc; cases hc
theorem KpC.of_below {b : Nat} {W W' : World} (h : Below W.heap.size W W') : KpC b W W' := ⟨h.size, fun k _ _ ho _ => (h.block k (Array.getElem?_eq_some_iff.1 ho).1).trans ho⟩
theorem KpC.set {b : Nat} {W W' : World} (h : KpC b W W') (v : Value) : KpC b W (W'.setCell ⟨b, 0, none⟩ v) :=
  ⟨by simpa [World.setCell] using h.size, fun k _ hk ho hc => (Below.heap_setCell W' ⟨b, 0, none⟩ v k (fun e => hk (by simpa using e))).trans (h.same k _ hk ho hc)⟩

theorem below_put {B l : Nat} (W : World) (o' : Obj) (h : B ≤ l) : Below B W (W.putObj l o') := ⟨rfl, rfl, rfl, by simp [World.putObj], fun k hk => World.putObj_heap_other (by omega)⟩
end Go.Proofs.YtlbfibnfmijahaaGreat

namespace Go.Proofs.YtlbfibnfmijahaaGreat
open Go.RowKit

theorem cells_of_cell {W : World} {p : Addr} {v : Value} (h : W.cell? p = some v) : ∃ o : Obj, W.heap[p.block]? = some o ∧ o.isCells = true := by
  unfold World.cell? at h
  cases ho : W.heap[p.block]? with
  | none => simp [ho] at h
  | some o => exact ⟨o, rfl, by cases o <;> simp_all [Obj.isCells]⟩
theorem Nums.putObj {k : IntKind} {V : World} {B l : Nat} {a : Option Addr} {zs : List Int} {o : Obj} (h : Nums k V B a zs) (ho : V.heap[l]? = some o) (hc : o.isCells = false) (o' : Obj) : Nums k (V.putObj l o') B a zs := fun hn => by
  obtain ⟨b, off, e, hb, hcl⟩ := h hn
  refine ⟨b, off, e, hb, fun j c hj => ?_⟩
  have h1 := hcl j c hj
  obtain ⟨o2, h2, h3⟩ := cells_of_cell h1
  refine (World.cell?_of_block (World.putObj_heap_other (fun e => ?_))).trans h1
  simp only at h2 e
  subst e
  rw [ho] at h2
  injection h2 with h2
  subst h2
  rw [hc] at h3; cases h3
theorem off_below {S : Nat → Prop} {w V V' : World} (h : Off S w V) (hb : Below w.heap.size V V') : Off S w V' :=
  ⟨hb.os.trans h.os, hb.tape.trans h.tape, hb.output.trans h.output, Nat.le_trans h.size hb.size, fun k hk hn => (hb.block k hk).trans (h.block k hk hn)⟩
/-- behind j rounds of the law's loop: the box b holds j, all else is as it was -/
def Ld (w : World) (b : Nat) (t : TypeId) (j : Nat) (V : World) : Prop := Boxed V b t (.int .i64 ((j : Nat) : Int)) ∧ Off (fun k => k = b) w V
theorem Ld.below {w V V' : World} {b : Nat} {t : TypeId} {j : Nat} (h : Ld w b t j V) (hb : b < w.heap.size) (hB : Below w.heap.size V V') : Ld w b t j V' :=
  ⟨(hB.block b hb).trans h.1, off_below h.2 hB⟩
theorem Ld.next {w V V1 : World} {b : Nat} {t : TypeId} {j : Nat} (h : Ld w b t j V) (hb : b < w.heap.size) (h1 : Below w.heap.size V V1) : Ld w b t (j + 1) (V1.setCell ⟨b, 0, none⟩ (.int .i64 ((j : Int) + 1))) :=
  ⟨by have := Boxed.set (.int .i64 ((j : Int) + 1)) ((h1.block b hb).trans h.1 : Boxed V1 b t _); rw [Int.natCast_succ]; exact this, (off_below h.2 h1).setCell (p := ⟨b, 0, none⟩) rfl _⟩
end Go.Proofs.YtlbfibnfmijahaaGreat

namespace Go.Proofs.YtlbfibnfmijahaaGreat
open Go.RowKit Go.Shelf
set_option maxRecDepth 100000
attribute [local go_sem] Oper.semAt_some

end Go.Proofs.YtlbfibnfmijahaaGreat

namespace Go.Proofs.YtlbfibnfmijahaaGreat
open Go.RowKit

section
variable {F : Fence} {n : Nat} {P : Program} {g : Operand} {ps : Array Tmp} {assign body : Code} {Q : Exit → Act → World → Prop} {a : Act} {w : World}
theorem range_stopa {α : Type} (hro : F.round = none) (h1 : 1 ≤ n) {gf : Nat} {lb : Array Value} (hg : a.eval g = .func (.func gf) #[] lb) (hFg : F.fn gf) (eg : ∀ args w, (callFunc gf args).run P w = .ok (.enter gf args) w)
    (enc : α → Array Value) (hps : ∀ x, (enc x).size = ps.size) (Rd : Nat → α → World → Prop) (Ra : Nat → α → Act → World → Prop) (Dn : Nat → World → Prop) (Sx : Code → World → Prop) (Kp : World → World → Prop) (N : Nat)
    (hRp : ∀ j x b W l o o', Ra j x b W → w.heap.size ≤ l → W.heap[l]? = some o → o.isCells = false → Ra j x b (W.putObj l o'))
    (hDp : ∀ j W l o o', Dn j W → w.heap.size ≤ l → W.heap[l]? = some o → o.isCells = false → Dn j (W.putObj l o'))
    (hSp : ∀ c W l o o', Sx c W → w.heap.size ≤ l → W.heap[l]? = some o → o.isCells = false → Sx c (W.putObj l o'))
    (hKt : ∀ A B C, Kp A B → Kp B C → Kp A C)
    (hKp : ∀ W l o o', w.heap.size ≤ l → W.heap[l]? = some o → o.isCells = false → Kp W (W.putObj l o'))
    (hD0 : ∀ o, Dn 0 ((w.alloc (.deferred (some []))).alloc o))
    (hassign : ∀ (l j : Nat) (x : α) (W : World) (K : Act → World → Prop), Rd j x W → j < N → (∀ b W', Ra j x b W' → KeepsFrom w.heap.size W W' → Kp W W' → K b W') →
      assign.wpIn (F.inRound l) (n - 1 - 1) P (Exit.then K (fun _ _ _ => False)) { tmps := (ps.zip (enc x)).foldl (fun t (p, v) => t.setIfInBounds p v) a.tmps, defers := [] } W)
    (hbody : ∀ (l j : Nat) (x : α) (b : Act) (W : World), w.heap.size ≤ l → Ra j x b W → j < N → body.wpIn (F.inRound l) (n - 1 - 1) P (stopPost w.heap.size Kp (Dn (j + 1)) Sx W) b W)
    (hiter : ∀ (Bk : World → Prop) (X : World → Prop) (l : Nat) (W : World), (∀ A B, Bk A → A.heap.size ≤ B.heap.size → (∀ k, w.heap.size ≤ k → k < w.heap.size + 2 → B.heap[k]? = A.heap[k]?) → Bk B) → (∀ A, Bk A → w.heap.size + 2 ≤ A.heap.size) →
      (∀ A l' o o', X A → w.heap.size + 2 ≤ l' → A.heap[l']? = some o → o.isCells = false → X (A.putObj l' o')) → l < w.heap.size + 2 → Dn 0 W → Bk W →
      (∀ j x W1, Rd j x W1 → Bk W1 → j < N → YieldAt F (n - 1 - 1) P l (enc x) W1 (YPost w.heap.size l Kp (fun W2 => Dn (j + 1) W2 ∧ Bk W2) X W1)) →
      CallsIn F (n - 1) P gf (#[.func (.yield l) #[] #[]] ++ lb) W fun e W' => (∃ v, e = .returned v) ∧ ((Dn N W' ∧ Bk W') ∨ X W'))
    (hdone : ∀ (D : Nat) (W : World), w.heap.size ≤ D → Dn N W → W.heap[D]? = some (.deferred (some [])) → Q .normal { a with defers := { target := .collected D, args := #[] } :: a.defers } W)
    (hstop : ∀ (D : Nat) (c : Code) (W : World), w.heap.size ≤ D → Sx c W → W.heap[D]? = some (.deferred (some [])) → c.wpIn F n P Q { a with defers := { target := .collected D, args := #[] } :: a.defers } W) :
    (Code.rangeFunc g ps assign body).wpIn F n P Q a w := by
  apply wpIn_rangeFunc
  intro fn hfn
  rw [hro]
  have hent := run_enterLoop_outer (P := P) (w := w) fn a.tmps ps assign body
  obtain ⟨lp, hlp⟩ : ∃ lp : LoopState → Option Code → Loop, lp = fun st pe => { state := st, pending := pe, fn := fn, tmps := a.tmps, params := ps, assign := assign, body := body, defers := w.heap.size } := ⟨_, rfl⟩
  have hlp0 : ({ state := .ready, pending := none, fn, tmps := a.tmps, params := ps, assign, body, defers := w.heap.size } : Loop) = lp .ready none := by rw [hlp]
  rw [hlp0] at hent
  have hD0' := hD0 (.loop (lp .ready none))
  have hl0 : ((w.alloc (.deferred (some []))).alloc (.loop (lp .ready none))).heap[w.heap.size + 1]? = some (.loop (lp .ready none)) := by
    have h := World.alloc_heap_new (w.alloc (.deferred (some []))) (.loop (lp .ready none))
    rwa [World.size_alloc] at h
  have hd0 : ((w.alloc (.deferred (some []))).alloc (.loop (lp .ready none))).heap[w.heap.size]? = some (.deferred (some [])) := (Below.heap_alloc _ _ _ (by simp)).trans (World.alloc_heap_new w _)
  generalize (w.alloc (.deferred (some []))).alloc (.loop (lp .ready none)) = W0 at *
  refine ⟨_, _, _, { target := .fn (.func gf) lb, args := #[.func (.yield (w.heap.size + 1)) #[] #[]] }, W0, gf, #[.func (.yield (w.heap.size + 1)) #[] #[]] ++ lb, W0, hent, ?_, ?_, ?_, fun _ => h1, ?_⟩
  · simp only [resolve, hg]
    simp [go_sem]
  · intro f' hf'
    simp [Target.leads] at hf'
    subst hf'
    exact hFg
  · simp [invoke, go_sem, eg]
  let Bk : World → Prop := fun W => W.heap[w.heap.size + 1]? = some (.loop (lp .ready none)) ∧ W.heap[w.heap.size]? = some (.deferred (some []))
  let X : World → Prop := fun W => ∃ c, Sx c W ∧ W.heap[w.heap.size + 1]? = some (.loop (lp .done (some c))) ∧ W.heap[w.heap.size]? = some (.deferred (some []))
  have hBlt : ∀ A, Bk A → w.heap.size + 2 ≤ A.heap.size := fun A h => (Array.getElem?_eq_some_iff.1 h.1).1
  refine (hiter Bk X (w.heap.size + 1) W0 (fun A B hA _ hAB => ⟨(hAB _ (by omega) (by omega)).trans hA.1, (hAB _ (by omega) (by omega)).trans hA.2⟩) hBlt
    (fun A l' o o' hA hl' ho hc => by
      obtain ⟨c, h1, h2, h3⟩ := hA
      exact ⟨c, hSp c A l' o o' h1 (by omega) ho hc, (World.putObj_heap_other (by omega)).trans h2, (World.putObj_heap_other (by omega)).trans h3⟩) (by omega) hD0' ⟨hl0, hd0⟩ ?_).mono ?_
  · rintro j x W1 hR hB hj
    have hsz := hBlt W1 hB
    have hy := run_yield (P := P) (args := enc x) hB.1 (by rw [hlp]; exact hps x)
    rw [hlp] at hy
    refine ⟨fn, _, assign, body, hy, roundIn_of_wpIn hfn (hassign _ j x W1 _ hR hj (fun b2 W2 hR2 hkf hKp2 => ?_))⟩
    have hB2 : Bk W2 := ⟨hkf.same _ _ (by omega) hB.1 rfl, hkf.same _ _ (Nat.le_refl _) hB.2 rfl⟩
    have hsz2 := hBlt W2 hB2
    have hbeg := run_beginRound (P := P) hB2.1 (by rw [hlp])
    rw [hlp] at hbeg
    refine ⟨_, hbeg, ?_⟩
    refine wpIn_mono (hbody _ j x b2 _ (by omega) (hRp j x b2 W2 _ _ _ hR2 (by omega) hB2.1 rfl) hj) ?_
    have b1 : (W2.putObj (w.heap.size + 1) (.loop { lp .ready none with state := .busy })).heap[w.heap.size + 1]? = some (.loop { lp .ready none with state := .busy }) := World.putObj_heap_same (by omega)
    have b2 : (W2.putObj (w.heap.size + 1) (.loop { lp .ready none with state := .busy })).heap[w.heap.size]? = some (.deferred (some [])) := (World.putObj_heap_other (by omega)).trans hB2.2
    have hK1 := hKp W2 (w.heap.size + 1) _ (.loop { lp .ready none with state := .busy }) (by omega) hB2.1 rfl
    rw [hlp] at b1 b2 hK1
    have fin : ∀ (jump : Option Code) (W3 : World), KeepsFrom w.heap.size (W2.putObj (w.heap.size + 1) (.loop { lp .ready none with state := .busy })) W3 →
        (Instr.endRound (w.heap.size + 1) jump).run P W3 = .ok (.bool jump.isNone) (W3.putObj (w.heap.size + 1) (.loop (lp (if jump.isNone then .ready else .done) jump))) ∧
        W3.heap[w.heap.size + 1]? = some (.loop { lp .ready none with state := .busy }) ∧
        (W3.putObj (w.heap.size + 1) (.loop (lp (if jump.isNone then .ready else .done) jump))).heap[w.heap.size + 1]? = some (.loop (lp (if jump.isNone then .ready else .done) jump)) ∧
        (W3.putObj (w.heap.size + 1) (.loop (lp (if jump.isNone then .ready else .done) jump))).heap[w.heap.size]? = some (.deferred (some [])) ∧
        KeepsBut w.heap.size (w.heap.size + 1) W1 (W3.putObj (w.heap.size + 1) (.loop (lp (if jump.isNone then .ready else .done) jump))) := fun jump W3 hk => by
      rw [hlp] at hk ⊢
      have c1 := hk.same _ _ (by omega) b1 rfl
      have c2 := hk.same _ _ (Nat.le_refl _) b2 rfl
      have hend := run_endRound (P := P) jump c1
      refine ⟨hend, c1, World.putObj_heap_same (Array.getElem?_eq_some_iff.1 c1).1, (World.putObj_heap_other (by omega)).trans c2, ?_, ?_⟩
      · have h1 := hk.size
        have h2 := hkf.size
        simp only [World.putObj, Array.size_setIfInBounds] at h1 ⊢
        omega
      · intro k o hkl hk2 ho hc
        exact (World.putObj_heap_other (by omega)).trans (hk.same k o hk2 ((World.putObj_heap_other (by omega)).trans (hkf.same k o hk2 ho hc)) hc)
    rintro e a3 W3 hp
    rw [hlp] at fin
    cases e with
    | normal =>
      obtain ⟨hk, hDn, hKp3⟩ := hp
      obtain ⟨hend, c1, d1, d2, hkb⟩ := fin none W3 hk
      exact ⟨_, _, hend, .inl ⟨rfl, ⟨hDp _ _ _ _ _ hDn (by omega) c1 rfl, by rw [hlp]; exact d1, d2⟩, hKt _ _ _ hKp2 (hKt _ _ _ hK1 (hKt _ _ _ hKp3 (hKp W3 _ _ _ (by omega) c1 rfl))), hkb⟩⟩
    | ret =>
      obtain ⟨hk, hx⟩ := hp
      obtain ⟨hend, c1, d1, d2, hkb⟩ := fin (some .ret) W3 hk
      exact ⟨_, _, hend, .inr ⟨rfl, ⟨.ret, hSp _ _ _ _ _ hx (by omega) c1 rfl, by rw [hlp]; exact d1, d2⟩, hkb⟩⟩
    | exit id =>
      obtain ⟨hk, hx⟩ := hp
      obtain ⟨hend, c1, d1, d2, hkb⟩ := fin (some (.exit id)) W3 hk
      exact ⟨_, _, hend, .inr ⟨rfl, ⟨.exit id, hSp _ _ _ _ _ hx (by omega) c1 rfl, by rw [hlp]; exact d1, d2⟩, hkb⟩⟩
    | goto t => exact hp.elim
    | panic ch => exact hp.elim
    | outgrown => exact hp.elim
  · rintro e W2 ⟨⟨v, rfl⟩, ⟨hDN, hB⟩ | ⟨c, hc, hl, hd⟩⟩
    · have hend := run_endLoop (P := P) hB.1 (by rw [hlp]; simp)
      rw [hlp] at hend
      exact ⟨none, _, hend, hdone _ _ (Nat.le_refl _) (hDp _ _ _ _ _ hDN (by omega) hB.1 rfl) ((World.putObj_heap_other (by omega)).trans hB.2)⟩
    · have hend := run_endLoop (P := P) hl (by rw [hlp]; simp)
      rw [hlp] at hend
      exact ⟨some c, _, hend, hstop _ c _ (Nat.le_refl _) (hSp _ _ _ _ _ hc (by omega) hl rfl) ((World.putObj_heap_other (by omega)).trans hd)⟩
end
end Go.Proofs.YtlbfibnfmijahaaGreat

namespace Go.Proofs.YtlbfibnfmijahaaGreat
open Go.RowKit

section
variable {F : Fence} {n : Nat} {P : Program} {g : Operand} {ps : Array Tmp} {assign body : Code} {Q : Exit → Act → World → Prop} {a : Act} {w : World}
theorem range_stopb {α : Type} (hro : F.round = none) (h1 : 1 ≤ n) {gf : Nat} {lb : Array Value} (hg : a.eval g = .func (.func gf) #[] lb) (hFg : F.fn gf) (eg : ∀ args w, (callFunc gf args).run P w = .ok (.enter gf args) w)
    (enc : α → Array Value) (hps : ∀ x, (enc x).size = ps.size) (Rd : Nat → α → World → Prop) (Fx : Nat → α → Nat → World → Prop) (Dn : Nat → World → Prop) (Sx : Code → World → Prop) (Kp : World → World → Prop) (N : Nat)
    (hFp : ∀ j x q W l o o', Fx j x q W → w.heap.size ≤ l → W.heap[l]? = some o → o.isCells = false → Fx j x q (W.putObj l o'))
    (hDp : ∀ j W l o o', Dn j W → w.heap.size ≤ l → W.heap[l]? = some o → o.isCells = false → Dn j (W.putObj l o'))
    (hSp : ∀ c W l o o', Sx c W → w.heap.size ≤ l → W.heap[l]? = some o → o.isCells = false → Sx c (W.putObj l o'))
    (hKt : ∀ A B C, Kp A B → Kp B C → Kp A C)
    (hKp : ∀ W l o o', w.heap.size ≤ l → W.heap[l]? = some o → o.isCells = false → Kp W (W.putObj l o'))
    (hD0 : ∀ o, Dn 0 ((w.alloc (.deferred (some []))).alloc o))
    (hround : ∀ (l j : Nat) (x : α) (W : World) (K : Act → World → Prop), Rd j x W → j < N →
      (∀ b q W', Fx j x q W' → KeepsFrom w.heap.size W W' → Kp W W' → (∀ l V, w.heap.size ≤ l → Fx j x q V → body.wpIn (F.inRound l) (n - 1 - 1) P (stopPost w.heap.size Kp (Dn (j + 1)) Sx V) b V) → K b W') →
      assign.wpIn (F.inRound l) (n - 1 - 1) P (Exit.then K (fun _ _ _ => False)) { tmps := (ps.zip (enc x)).foldl (fun t (p, v) => t.setIfInBounds p v) a.tmps, defers := [] } W)
    (hiter : ∀ (Bk : World → Prop) (X : World → Prop) (l : Nat) (W : World), (∀ A B, Bk A → A.heap.size ≤ B.heap.size → (∀ k, w.heap.size ≤ k → k < w.heap.size + 2 → B.heap[k]? = A.heap[k]?) → Bk B) → (∀ A, Bk A → w.heap.size + 2 ≤ A.heap.size) →
      (∀ A l' o o', X A → w.heap.size + 2 ≤ l' → A.heap[l']? = some o → o.isCells = false → X (A.putObj l' o')) → l < w.heap.size + 2 → Dn 0 W → Bk W →
      (∀ j x W1, Rd j x W1 → Bk W1 → j < N → YieldAt F (n - 1 - 1) P l (enc x) W1 (YPost w.heap.size l Kp (fun W2 => Dn (j + 1) W2 ∧ Bk W2) X W1)) →
      CallsIn F (n - 1) P gf (#[.func (.yield l) #[] #[]] ++ lb) W fun e W' => (∃ v, e = .returned v) ∧ ((Dn N W' ∧ Bk W') ∨ X W'))
    (hdone : ∀ (D : Nat) (W : World), w.heap.size ≤ D → Dn N W → W.heap[D]? = some (.deferred (some [])) → Q .normal { a with defers := { target := .collected D, args := #[] } :: a.defers } W)
    (hstop : ∀ (D : Nat) (c : Code) (W : World), w.heap.size ≤ D → Sx c W → W.heap[D]? = some (.deferred (some [])) → c.wpIn F n P Q { a with defers := { target := .collected D, args := #[] } :: a.defers } W) :
    (Code.rangeFunc g ps assign body).wpIn F n P Q a w :=
  range_stopa hro h1 hg hFg eg enc hps Rd
    (fun j x b W => ∃ q, Fx j x q W ∧ ∀ l V, w.heap.size ≤ l → Fx j x q V → body.wpIn (F.inRound l) (n - 1 - 1) P (stopPost w.heap.size Kp (Dn (j + 1)) Sx V) b V) Dn Sx Kp N
    (fun j x _ W l o o' h hl ho hc => by
      obtain ⟨q, h1, h2⟩ := h
      exact ⟨q, hFp j x q W l o o' h1 hl ho hc, h2⟩)
    hDp hSp hKt hKp hD0
    (fun l j x W K hr hj hK => hround l j x W K hr hj fun b q W' h1 h2 h3 h4 => hK b W' ⟨q, h1, h4⟩ h2 h3)
    (fun l _ _ _ W hl h _ => by
      obtain ⟨q, h1, h2⟩ := h
      exact h2 l W hl h1)
    hiter hdone hstop
end
end Go.Proofs.YtlbfibnfmijahaaGreat

namespace Go.Proofs.YtlbfibnfmijahaaGreat
open Go.RowKit Go.Shelf
set_option maxRecDepth 100000
attribute [local go_sem] Oper.semAt_some

theorem FD_all (k : Int) : ∀ f ∈ FD k, (f.si = 1 ∨ f.si = 2) ∧ f.nm ≠ ⟨#[]⟩ := by
  rcases kind_ways k with rfl | rfl | rfl | rfl | rfl | ⟨h1, h2, h3, h4, h5⟩
  case' inr.inr.inr.inr.inr => rw [show FD k = [] by simp [FD, raw, h1, h2, h3, h4, h5, pls]]
  all_goals simp [FD, raw, pls]
theorem FDv_two (k : Int) : FDv k 2 = FD k := List.filter_eq_self.2 fun f hf => by
  have := (FD_all k f hf).1
  simp
  omega
end Go.Proofs.YtlbfibnfmijahaaGreat

namespace Go.Proofs.YtlbfibnfmijahaaGreat
open Go.RowKit Go.Shelf
set_option maxRecDepth 100000
attribute [local go_sem] Oper.semAt_some

theorem svers_any (w : World) : Calls Tryz.prog 26 #[] w fun e w' => e = .returned (.func (.func 47) #[] #[]) ∧ w = w' := by
  go_enter Tryz.func26, Tryz.ntmps26
  go_wp2
  go_ret
  exact ⟨rfl, rfl⟩

set_option maxHeartbeats 2000000 in
theorem svers_in (n : Nat) (hn : 1 ≤ n) (m' l : Nat) (J : Nat → World → Prop) (Jx : World → Prop)
    (hY : ∀ (j : Nat) W, J j W → j < 2 → YieldAt Fence.wide m' Tryz.prog l #[.int .i64 ((j : Int) + 1)] W fun e W' => (e = .returned (.bool true) ∧ J (j + 1) W') ∨ (e = .returned (.bool false) ∧ Jx W'))
    (W : World) (h0 : J 0 W) : CallsIn Fence.wide n Tryz.prog 47 #[.func (.yield l) #[] #[]] W fun e W' => (∃ v, e = .returned v) ∧ (J 2 W' ∨ Jx W') := by
  refine callsIn_of_wp Tryz.func47 rfl trivial ?_ rfl
  simp only [Tryz.ntmps47, List.size_toArray, List.length_cons, List.length_nil, Nat.reduceAdd, Nat.reduceSub, Array.replicate_succ, Array.replicate_zero, List.push_toArray, List.append_toArray, List.nil_append, List.cons_append]
  have HY := Lib.hid hY
  clear hY
  gi_wp2
  refine wpIn_wide.2 (wp_scope_straight ((wpIn_wide (n := n)).1 ?_))
  gi_wp2
  apply wpIn_label
  gi_wp2_with fail
  gi_loopw [2] (fun x wr => ∃ j : Nat, j ≤ 2 ∧ x = .int .i64 ((j : Int) + 1) ∧ Hid (J j wr)) (fun x _ => 3 - (intOf x).toNat)
  case atStart => exact ⟨0, by omega, rfl, Lib.hid h0⟩
  case round =>
    obtain ⟨j, hj, rfl, HJ⟩ := hrel
    rcases Nat.lt_or_ge j 2 with hlt | hge
    · have HYj := HY.out j wr HJ.out hlt
      obtain ⟨fn, tmps, assign, body, hy, hR⟩ := yield_any (n - 1) HYj
      have HR2 := Lib.hid hR
      clear hR HYj
      gi_wp2_with fail
      refine HR2.out.mono ?_
      rintro e W3 (⟨rfl, hJ3⟩ | ⟨rfl, hJx3⟩)
      · have HJ3 := Lib.hid hJ3
        clear hJ3
        gi_wp2
        go_roundw
        case rel => exact ⟨j + 1, by omega, by go_num, HJ3⟩
        case measure => simp [intOf]; omega
      · gi_wp2
        first | go_end0 | (rw [Exit.noGoto_normal]; go_end0) | (refine bodyPost_ret (results_none rfl _ _ _) rfl ?_)
        exact ⟨⟨_, rfl⟩, .inr hJx3⟩
    · obtain rfl : j = 2 := by omega
      gi_wp2
      first | go_end0 | (rw [Exit.noGoto_normal]; go_end0)
      exact ⟨⟨_, rfl⟩, .inl HJ.out⟩

/-- the version of a number, or none -/
def kv (v : Int) : Int := if v = 1 ∨ v = 2 then v else 0
set_option maxHeartbeats 4000000 in
theorem vknown_any (x : Int) (w : World) : Calls Tryz.prog 24 #[.int .i64 x] w fun e w' => e = .returned (.agg #[.int .i64 (kv x)]) ∧ Below w.heap.size w w' := by
  obtain ⟨w2, hw2⟩ : ∃ w2, w2 = ((w.alloc (.cells #[.int .i64 x] 3)).alloc (.cells #[.int .i64 0] 66)).alloc (.cells #[.int .i64 0] 66) := ⟨_, rfl⟩
  have hs2 : w2.heap.size = w.heap.size + 3 := by rw [hw2]; simp
  have bX : Boxed w2 w.heap.size 3 (.int .i64 x) := by rw [hw2]; exact (Below.heap_alloc _ _ _ (by simp; omega)).trans ((Below.heap_alloc _ _ _ (by simp)).trans (Boxed.new w 3 (.int .i64 x)))
  have bR : Boxed w2 (w.heap.size + 1) 66 (.int .i64 0) := by
    rw [hw2]
    have := Boxed.new (w.alloc (.cells #[.int .i64 x] 3)) 66 (.int .i64 0)
    rw [World.size_alloc] at this
    exact (Below.heap_alloc _ _ _ (by simp)).trans this
  have bF : Boxed w2 (w.heap.size + 1 + 1) 66 (.int .i64 0) := by
    rw [hw2]
    have := Boxed.new ((w.alloc (.cells #[.int .i64 x] 3)).alloc (.cells #[.int .i64 0] 66)) 66 (.int .i64 0)
    rwa [World.size_alloc, World.size_alloc] at this
  have hb2 : Below w.heap.size w w2 := by rw [hw2]; exact (((Below.refl _ w).alloc (Nat.le_refl _) _).alloc (by simp) _).alloc (by simp; omega) _
  have HW := Lib.hid hw2
  clear hw2
  obtain ⟨K, hK⟩ : ∃ K, kv x = K := ⟨_, rfl⟩
  rw [hK]
  have HKD := Lib.hid hK
  clear hK
  refine (callsIn_wide (n := 9)).1 ?_
  refine callsIn_of_wp_marks Tryz.func24 rfl trivial ?_ rfl
  simp only [Tryz.ntmps24, List.size_toArray, List.length_cons, List.length_nil, Nat.reduceAdd, Nat.reduceSub, Array.replicate_succ, Array.replicate_zero, List.push_toArray, List.append_toArray, List.nil_append, List.cons_append]
  gi_wp2_with fail
  refine wpIn_wide.2 (wp_scope_straight ((wpIn_wide (n := 9)).1 ?_))
  gi_wp2_with fail
  apply wpIn_label
  gi_wp2_with fail
  refine ⟨trivial, ?_⟩
  rw [← HW.out]
  refine (callsIn_wide.2 (svers_any w2)).mono ?_
  rintro e w1 ⟨rfl, rfl⟩
  clear HW
  gi_wp2_with fail
  refine range_stops rfl (by omega) (gf := 47) (lb := #[]) rfl trivial (enters_of Tryz.func47 (by kernel_rfl) rfl)
    (fun j : Nat => #[.int .i64 ((j : Int) + 1)]) (fun _ => rfl)
    (fun j x' V => x' = j ∧ (∀ i : Nat, i < j → (i : Int) + 1 ≠ x) ∧ Below w2.heap.size w2 V)
    (fun j V => (∀ i : Nat, i < j → (i : Int) + 1 ≠ x) ∧ Below w2.heap.size w2 V)
    (fun cd V => cd = .exit 0 ∧ ∃ j : Nat, j < 2 ∧ (j : Int) + 1 = x ∧ Boxed V (w.heap.size + 1 + 1) 66 (.int .i64 ((j : Int) + 1)) ∧ Off (fun q => q = w.heap.size + 1 + 1) w2 V) (fun _ _ => True) 2
    (fun j x' V l o o' h hl ho hc' => ⟨h.1, h.2.1, h.2.2.trans (below_put V o' hl)⟩)
    (fun j V l o o' h hl ho hc' => ⟨h.1, h.2.trans (below_put V o' hl)⟩)
    (fun cd V l o o' h hl ho hc' => by
      obtain ⟨h1, j, h2, h3, h4, h5⟩ := h
      exact ⟨h1, j, h2, h3, (World.putObj_heap_other (by omega)).trans h4, off_below h5 (below_put V o' hl)⟩)
    (fun _ _ _ _ _ => trivial) (fun _ _ _ _ _ _ _ => trivial)
    (fun o => ⟨fun i hi => by omega, ((Below.refl w2.heap.size w2).alloc (Nat.le_refl _) _).alloc (by simp) _⟩) ?a1 ?assign ?body ?iter ?done ?stop
  case assign =>
    intro l x' V K' hK'
    gi_wp2
    exact hK'
  case body =>
    rintro l j x' V hl ⟨rfl, hn, hbV⟩ hj
    have dX : V.cell? ⟨w.heap.size, 0, none⟩ = some (.int .i64 x) := (hbV.cell (p := ⟨w.heap.size, 0, none⟩) (by show w.heap.size < _; omega)).trans bX.cell
    have bFV : Boxed V (w.heap.size + 1 + 1) 66 (.int .i64 0) := (hbV.block _ (by omega)).trans bF
    have e0 := bFV.cell
    have e1 := bFV.frozen
    by_cases h : (x' : Int) + 1 = x
    · have hfin := Lib.hid (show _ ∧ _ ∧ _ from ⟨((KeepsOthers.setCell V ⟨w.heap.size + 1 + 1, 0, none⟩ (.int .i64 ((x' : Int) + 1))).from w2.heap.size : KeepsFrom w2.heap.size V _), bFV.set (.int .i64 ((x' : Int) + 1)), (off_below (Off.refl (fun q => q = w.heap.size + 1 + 1) w2) hbV).setCell (p := ⟨w.heap.size + 1 + 1, 0, none⟩) rfl (.int .i64 ((x' : Int) + 1))⟩)
      have HH := Lib.hid h
      have h2 : ((x' : Int) + 1 == x) = true := by simpa using h
      clear hn hbV bFV h
      gi_wp2
      exact ⟨hfin.out.1, rfl, x', hj, HH.out, hfin.out.2⟩
    · have hfin := Lib.hid (show _ ∧ _ ∧ _ from ⟨(⟨Nat.le_refl _, fun _ _ _ ho _ => ho⟩ : KeepsFrom w2.heap.size V V), (fun i hi => by
          rcases Nat.lt_or_ge i x' with h1 | h1
          · exact hn i h1
          · obtain rfl : i = x' := by omega
            exact h : ∀ i : Nat, i < x' + 1 → (i : Int) + 1 ≠ x), hbV⟩)
      have h2 : ((x' : Int) + 1 == x) = false := by simpa using h
      clear hn hbV bFV h
      gi_wp2
      exact ⟨hfin.out.1, hfin.out.2, trivial⟩
  case iter =>
    intro Bk X l V hBk hBlt hX hl hD hB hY
    exact svers_in 8 (by omega) 7 l (fun j V => ((∀ i : Nat, i < j → (i : Int) + 1 ≠ x) ∧ Below w2.heap.size w2 V) ∧ Bk V) X
      (fun j W h hj => (hY j j W ⟨rfl, h.1⟩ h.2 hj).mono (fun e W2 h => h.elim (fun h => .inl ⟨h.1, h.2.1⟩) (fun h => .inr ⟨h.1, h.2.1⟩)))
      V ⟨hD, hB⟩
  case done =>
    rintro D V hD ⟨hn, hbV⟩ hK
    have h0 : K = 0 := by
      have h1 := hn 0 (by omega); have h2 := hn 1 (by omega)
      rw [← HKD.out]; unfold kv; rw [if_neg (by omega)]
    have bFV : Boxed V (w.heap.size + 1 + 1) 66 (.int .i64 0) := (hbV.block _ (by omega)).trans bF
    have bRV : Boxed V (w.heap.size + 1) 66 (.int .i64 0) := (hbV.block _ (by omega)).trans bR
    have e0 := bFV.cell
    have e1 := bRV.cell
    have e2 := bRV.frozen
    have HB := Lib.hid (hb2.trans (hbV.mono hb2.size))
    subst h0
    clear hn hbV
    gi_wp2_with fail
    obtain ⟨V5, hV5⟩ : ∃ V5, V.setCell ⟨w.heap.size + 1, 0, none⟩ (.int .i64 0) = V5 := ⟨_, rfl⟩
    have hK5 : V5.heap[D]? = some (.deferred (some [])) := by rw [← hV5]; exact (KeepsOthers.setCell V ⟨w.heap.size + 1, 0, none⟩ (.int .i64 0)).same D _ hK rfl
    have q5 : Boxed V5 (w.heap.size + 1) 66 (.int .i64 0) := by rw [← hV5]; exact bRV.set _
    have HB5 : Below w.heap.size w V5 := by rw [← hV5]; exact HB.out.setCell (by simp) _
    have q6 : Boxed (V5.putObj D (.deferred none)) (w.heap.size + 1) 66 (.int .i64 0) := (World.putObj_heap_other (by omega)).trans q5
    have y0 := q6.cell
    rw [hV5]
    simp only [Exit.noGoto]
    refine ⟨by simp, .inl ⟨_, _, rfl, run_takeDeferred hK5, ?_⟩⟩
    refine ⟨.agg #[.int .i64 0], ?_, rfl, HB5.trans (below_put _ _ (by omega))⟩
    simp [results, Tryz.f24, go_sem, y0]
  case stop =>
    rintro D cd V hD ⟨rfl, j, hj, hx, bV, hO⟩ hK
    have h0 : K = (j : Int) + 1 := by rw [← HKD.out, ← hx]; unfold kv; rw [if_pos (by omega)]
    have bRV : Boxed V (w.heap.size + 1) 66 (.int .i64 0) := (hO.block _ (by omega) (by omega)).trans bR
    have e0 := bV.cell
    have e1 := bRV.cell
    have e2 := bRV.frozen
    have HB := Lib.hid (hb2.trans (hO.below (B := w.heap.size) (fun k hk => by omega) hb2.size))
    subst h0
    clear hx bV hO
    gi_wp2_with fail
    obtain ⟨V5, hV5⟩ : ∃ V5, V.setCell ⟨w.heap.size + 1, 0, none⟩ (.int .i64 ((j : Int) + 1)) = V5 := ⟨_, rfl⟩
    have hK5 : V5.heap[D]? = some (.deferred (some [])) := by rw [← hV5]; exact (KeepsOthers.setCell V ⟨w.heap.size + 1, 0, none⟩ (.int .i64 ((j : Int) + 1))).same D _ hK rfl
    have q5 : Boxed V5 (w.heap.size + 1) 66 (.int .i64 ((j : Int) + 1)) := by rw [← hV5]; exact bRV.set _
    have HB5 : Below w.heap.size w V5 := by rw [← hV5]; exact HB.out.setCell (by simp) _
    have q6 : Boxed (V5.putObj D (.deferred none)) (w.heap.size + 1) 66 (.int .i64 ((j : Int) + 1)) := (World.putObj_heap_other (by omega)).trans q5
    have y0 := q6.cell
    rw [hV5]
    simp only [Exit.noGoto]
    refine ⟨by simp, .inl ⟨_, _, rfl, run_takeDeferred hK5, ?_⟩⟩
    refine ⟨.agg #[.int .i64 ((j : Int) + 1)], ?_, rfl, HB5.trans (below_put _ _ (by omega))⟩
    simp [results, Tryz.f24, go_sem, y0]

/-- a schema lies there -/
def SAt (W : World) (b : Nat) (v : Int) : Prop := W.heap[b]? = some (.cells #[.int .i64 v] 69 (0, 0))
theorem SAt.below {W W' : World} {b B : Nat} {v : Int} (h : SAt W b v) (hb : Below B W W') (hB : b < B) : SAt W' b v := (hb.block b hB).trans h
theorem SAt.lt {W : World} {b : Nat} {v : Int} (h : SAt W b v) : b < W.heap.size := (Array.getElem?_eq_some_iff.1 h).1
theorem SAt.later {W W' : World} {b : Nat} {v : Int} (h : SAt W b v) (hb : Below W.heap.size W W') : SAt W' b v := h.below hb h.lt
theorem SAt.cell {W : World} {b : Nat} {v : Int} (h : SAt W b v) : W.cell? ⟨b, 0, none⟩ = some (.int .i64 v) := (show Boxed W b 69 (.int .i64 v) from h).cell
set_option maxHeartbeats 2000000 in
theorem snew_yes (v : Int) (hv : v = 1 ∨ v = 2) (w : World) : Calls Tryz.prog 6 #[.int .i64 v] w fun e w' => ∃ b, e = .returned (.tuple #[.pointer (some ⟨b, 0, none⟩), .int .i64 0]) ∧ w.heap.size ≤ b ∧ SAt w' b v ∧ Below w.heap.size w w' := by
  have hk : kv v = v := by unfold kv; rw [if_pos hv]
  have KV := vknown_any v w
  rw [hk] at KV
  have KV := Lib.hid KV
  have hv0 : (v == 0) = false := by simp; omega
  have hv1 : ¬ v = 0 := by omega
  clear hk
  go_enter Tryz.func6, Tryz.ntmps6
  go_wp2_with fail
  refine KV.out.mono ?_
  rintro e w1 ⟨rfl, hb1⟩
  have HB1 := Lib.hid hb1
  clear hb1 KV
  go_wp2
  go_ret2
  refine ⟨_, rfl, by have := HB1.out.size; omega, ?_, HB1.out.trans (((Below.refl _ w1).alloc HB1.out.size _).alloc (by have := HB1.out.size; simp; omega) _)⟩
  have := World.alloc_heap_new (w1.alloc (.cells #[.int .i64 v] 66)) (.cells #[.int .i64 v] 69)
  rwa [World.size_alloc] at this
theorem snew_no (v : Int) (hv : ¬ (v = 1 ∨ v = 2)) (w : World) : Calls Tryz.prog 6 #[.int .i64 v] w fun e w' => e = .returned (.tuple #[.pointer none, .int .i64 10]) ∧ Below w.heap.size w w' := by
  have hk : kv v = 0 := by unfold kv; rw [if_neg hv]
  have KV := vknown_any v w
  rw [hk] at KV
  have KV := Lib.hid KV
  clear hk
  go_enter Tryz.func6, Tryz.ntmps6
  go_wp2_with fail
  refine KV.out.mono ?_
  rintro e w1 ⟨rfl, hb1⟩
  have HB1 := Lib.hid (hb1.trans ((Below.refl _ w1).alloc hb1.size (.cells #[.int .i64 0] 66)))
  clear hb1 KV
  go_wp2
  go_ret2
  exact ⟨rfl, HB1.out⟩
theorem sversion_any (v : Int) (b : Nat) (w : World) (h : SAt w b v) : Calls Tryz.prog 13 #[.pointer (some ⟨b, 0, none⟩)] w fun e w' => e = .returned (.int .i64 v) ∧ w = w' := by
  have c := h.cell
  go_enter Tryz.func13, Tryz.ntmps13
  go_wp2
  go_ret
  exact ⟨rfl, rfl⟩
end Go.Proofs.YtlbfibnfmijahaaGreat
