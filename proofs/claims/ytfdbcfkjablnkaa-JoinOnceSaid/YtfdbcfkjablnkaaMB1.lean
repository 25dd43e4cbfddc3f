/-
  A part of the texts of one proof, put together: Mem, Row, Bts, Map, SloN, HdN, Given, Stops, Keep, HdP, HdI, StopA, KpC, Ld, HdC, HdMt, Q2, SloM, CrcN, CrcA, CrcW, FrC, Byte, App, ApN, Clone.
-/
import Derived.WalkKit
import Derived.Deep.Draws
import Derived.Laws.OwnMore
import Derived.Deep.AppendLies
import Derived.OpenShut
import Derived.Maps.AppendAt
import Derived.BigQuiet
import Derived.Laws.CopyOwn
import Derived.Lib.AppendZerosOnto
import Derived.ProofKit
import Derived.Maps.RangeWalk
import Derived.Sort.MapsRangeIn
import Derived.RangeFuncRecord
import Derived.Below
import Derived.RangeFuncBox
import Derived.RangeFuncNested
import Derived.RangeFuncWrites
import Derived.RangeFuncLeaves
import Derived.OwnWalkIn
import Derived.RangeFuncKeeps
import Derived.Test.YtfdbcfkjablnkaaRows
import Derived.WalkLawsBesides
import Derived.WalkMore
import Derived.Lib.Hide
import Derived.WalkSpells
import Derived.RangeFuncBound
import Derived.RangeFuncCalls
import Derived.Shelf.Abstract
import Derived.Shelf.RegionOpen
import Derived.TacticsInMore
import Derived.LoopNIn
import Derived.LoopIn
import Derived.Deep.Quiet
import Derived.Deep.QuietTactic
import Derived.Deep.LoopGhost
import Derived.Deep.WholeRow
import Derived.Deep.Upon
import Derived.Lib.AppendZeros
import Derived.Lib.SliceRun
namespace Go.Proofs.Ytfdbcfkjablnkaa
open Go.RowKit

/-- the numbers zs, of kind k, lie at the slice's address, below block B; where there are none the address is whatever it is -/
def Nums (k : IntKind) (w : World) (B : Nat) (a : Option Addr) (zs : List Int) : Prop :=
  zs ≠ [] → ∃ b off, a = some ⟨b, off, none⟩ ∧ b < B ∧ ∀ j c, zs[j]? = some c → w.cell? ⟨b, off + j, none⟩ = some (.int k c)

theorem below_drewN {B : Nat} {a w : World} (h : Below B a w) (n : Nat) : Below B a (w.drewN n) := ⟨h.os, h.tape, h.output, h.size, h.block⟩

section
variable {k : IntKind} {w w' : World} {B B' : Nat} {a : Option Addr} {zs : List Int}
theorem Nums.nil : Nums k w B a [] := fun h => absurd rfl h
theorem Nums.open (h : Nums k w B a zs) {j : Nat} {c : Int} (hj : zs[j]? = some c) : ∃ b off, a = some ⟨b, off, none⟩ ∧ b < B ∧ w.cell? ⟨b, off + j, none⟩ = some (.int k c) := by
  obtain ⟨b, off, e, hb, hc⟩ := h (by intro e; subst e; simp at hj)
  exact ⟨b, off, e, hb, hc j c hj⟩
theorem Nums.kept (h : Nums k w B a zs) (hk : ∀ p : Addr, p.block < B → w'.cell? p = w.cell? p) : Nums k w' B a zs := fun hn => by
  obtain ⟨b, off, e, hb, hc⟩ := h hn
  exact ⟨b, off, e, hb, fun j c hj => (hk ⟨b, off + j, none⟩ hb).trans (hc j c hj)⟩
theorem Nums.below (h : Nums k w B a zs) (hb : Below B w w') : Nums k w' B a zs := h.kept fun _ hp => hb.cell hp
theorem Nums.mono (h : Nums k w B a zs) (hB : B ≤ B') : Nums k w B' a zs := fun hn => by
  obtain ⟨b, off, e, hb, hc⟩ := h hn
  exact ⟨b, off, e, by omega, hc⟩
theorem Nums.take (h : Nums k w B a zs) (n : Nat) : Nums k w B a (zs.take n) := fun hn => by
  obtain ⟨b, off, e, hb, hc⟩ := h (by intro e; subst e; simp at hn)
  refine ⟨b, off, e, hb, fun j c hj => hc j c ?_⟩
  rw [List.getElem?_take] at hj
  by_cases hlt : j < n
  · simpa [hlt] using hj
  · simp [hlt] at hj
/-- 's[i:]' of a slice, as the model spells its address -/
theorem Nums.drop (h : Nums k w B a zs) {i cap : Nat} (hc : zs.length ≤ cap) : Nums k w B (if cap = i then a else a.map (·.add i)) (zs.drop i) := fun hn => by
  have hi : i < zs.length := by
    rcases Nat.lt_or_ge i zs.length with h1 | h1
    · exact h1
    · exact absurd (List.drop_eq_nil_of_le h1) hn
  obtain ⟨b, off, rfl, hb, hcell⟩ := h (by intro e; subst e; simp at hi)
  refine ⟨b, off + i, ?_, hb, fun j c hj => ?_⟩
  · rw [if_neg (by omega)]; simp [Addr.add]

  · rw [Nat.add_assoc]
    exact hcell (i + j) c (by rw [← hj, List.getElem?_drop])
theorem Nums.of_own {base e : Nat} {c : Nat} (h : w.ownsRow base e 1 (.slice a zs.length c) zs.length (zs.map (Value.int k))) : Nums k w w.heap.size a zs := fun hn => by
  have hp : 0 < zs.length := by
    rcases Nat.eq_zero_or_pos zs.length with h0 | h0
    · exact absurd (List.eq_nil_of_length_eq_zero h0) hn
    · exact h0
  obtain ⟨g, cap, hv, _, hlt⟩ := h.form hp
  have ha : a = some ⟨g, 0, none⟩ := by injection hv
  subst ha
  refine ⟨g, 0, rfl, hlt, fun j c hj => ?_⟩
  have := h.cells (g := g) rfl j (.int k c) (by rw [List.getElem?_map, hj]; rfl)
  rw [Nat.zero_add]
  by_cases h0 : j = 0
  · subst h0; simpa [Addr.add] using this
  · simpa [Addr.add, h0] using this
/-- one number at a place -/
theorem Nums.one {k : IntKind} {w : World} {B b off : Nat} {z : Int} (hb : b < B) (hc : w.cell? ⟨b, off, none⟩ = some (.int k z)) : Nums k w B (some ⟨b, off, none⟩) [z] := fun _ =>
  ⟨b, off, rfl, hb, fun j c hj => by
    cases j with
    | zero => simp at hj; subst hj; exact hc
    | succ j => simp at hj⟩
/-- a slice that has just been laid -/
theorem Nums.new (k : IntKind) (w : World) (t : TypeId) (zs : List Int) (cs : Array Value) (h : cs = (zs.map (Value.int k)).toArray) : Nums k (w.alloc (.cells cs t)) (w.heap.size + 1) (some ⟨w.heap.size, 0, none⟩) zs := fun _ => by
  refine ⟨w.heap.size, 0, rfl, by omega, fun j c hj => ?_⟩
  rw [World.cell?_alloc_at _ _ _ _ rfl, h]
  simp [hj]
end

/-- a slice of integers that came in: nil, or a row of 'cap' cells with the numbers zs, of which the first len are its elements -/
def IsRow (k : IntKind) (w : World) (a : Option Addr) (len cap : Nat) (zs : List Int) : Prop :=
  (a = none ∧ len = 0 ∧ cap = 0 ∧ zs = []) ∨
  ∃ x, a = some x ∧ len ≤ cap ∧ cap ≤ maxLen ∧ zs.length = cap ∧ (∀ i, i < zs.length → w.cell? (x.add i) = some (.int k (zs.getD i 0))) ∧ ∀ n ∈ zs, (Lit.int k n).wf = true
theorem block_of_cell {w : World} {p : Addr} {v : Value} (h : w.cell? p = some v) : p.block < w.heap.size := by
  rcases Nat.lt_or_ge p.block w.heap.size with h1 | h1
  · exact h1
  · simp [World.cell?, Array.getElem?_eq_none h1] at h
/-- .. as its elements lie -/
theorem IsRow.elems {k : IntKind} {w : World} {a : Option Addr} {len cap : Nat} {zs : List Int} (h : IsRow k w a len cap zs) :
    ∃ es : List Int, es.length = len ∧ len ≤ cap ∧ cap ≤ maxLen ∧ Nums k w w.heap.size a es ∧ ∀ n ∈ es, (Lit.int k n).wf = true := by
  rcases h with ⟨rfl, rfl, rfl, rfl⟩ | ⟨x, rfl, hl, hm, hz, hc, hw⟩
  · exact ⟨[], rfl, by omega, by omega, Nums.nil, by simp⟩
  · refine ⟨zs.take len, by rw [List.length_take]; omega, hl, hm, ?_, fun n hn => hw n (List.mem_of_mem_take hn)⟩
    refine Nums.take (fun hn => ?_) len
    have h0 : 0 < zs.length := by
      rcases Nat.eq_zero_or_pos zs.length with h | h
      · exact absurd (List.eq_nil_of_length_eq_zero h) hn
      · exact h
    obtain ⟨b, off, spot⟩ := x
    have hc0 := hc 0 h0
    have hspot : spot = none := by simpa [Addr.add] using World.cell?_spot hc0
    subst hspot
    refine ⟨b, off, rfl, by simpa [Addr.add] using block_of_cell hc0, fun j c hj => ?_⟩
    have hlt : j < zs.length := by
      rcases Nat.lt_or_ge j zs.length with h | h
      · exact h
      · rw [List.getElem?_eq_none h] at hj; simp at hj
    have hcj := hc j hlt
    rw [List.getD, hj] at hcj
    by_cases hj0 : j = 0
    · subst hj0; simpa [Addr.add] using hcj
    · simpa [Addr.add, hj0] using hcj

/-- a drawn region whose operations each yield one value in every world that is as a0 was below B: one walk of the text's order; its calls may make memory -/
theorem wp_region_below {P : Program} {id : Nat} {Q : Exit → Act → World → Prop} {a : Act} {w a0 : World} {B : Nat} {l : List Oper} (hm : P.follows .mixedOrders = true) (hB : Region.lexB .any l.toArray = true) (hC : Below B a0 w)
    (h : wpQuiet P l.toArray (fun W => Below B a0 W) (fun a' => ∀ w', Below B a0 w' → Q .normal a' w') l a) : (Code.region id l.toArray true).wp P Q a w :=
  wp_region_quiet (C := fun W => Below B a0 W) hm hB hC.drew (by simpa using h)
/-- a call in it, by a contract that says its one value -/
theorem calls_below {P : Program} {f : FuncId} {args : Array Value} {W a0 : World} {B : Nat} {v : Value} (hC : Below B a0 W) (hs : B ≤ W.heap.size)
    (h : Calls P f args W fun e w' => e = .returned v ∧ Below W.heap.size W w') : Calls P f args W fun e w' => e = .returned v ∧ Below B a0 w' :=
  h.mono fun _ _ ⟨he, hb⟩ => ⟨he, hC.trans (hb.mono hs)⟩

/-! ### numbers that a call has made, of an element type e and a kind k -/
def MadeK (e : TypeId) (k : IntKind) (w w' : World) (L : List Int) (v : Value) : Prop := w'.ownsRow w.heap.size e 1 v L.length (L.map (Value.int k)) ∧ Below w.heap.size w w'
section
variable {e : TypeId} {k : IntKind} {w w1 w2 : World} {L : List Int} {v v' : Value}
theorem MadeK.nil (e : TypeId) (k : IntKind) (h : Below w.heap.size w w1) : MadeK e k w w1 [] (.slice none 0 0) := ⟨World.ownsRow_nil _ _ _ _, h⟩
theorem MadeK.slice (h : MadeK e k w w1 L v) : ∃ A c, v = .slice A L.length c ∧ L.length ≤ c ∧ Nums k w1 w1.heap.size A L := by
  have h1 := h.1
  obtain ⟨_, h2⟩ := h1
  rcases h2 with ⟨rfl, h0⟩ | ⟨g, cap, cur, rfl, hg, hh, hn, _⟩
  · have : L = [] := List.eq_nil_of_length_eq_zero h0
    subst this
    exact ⟨none, 0, rfl, by simp, Nums.nil⟩
  · exact ⟨some ⟨g, 0, none⟩, cap, rfl, hn, Nums.of_own h.1⟩
theorem MadeK.own_ge (h : MadeK e k w w1 L v) {g : Nat} (hg : v.ownBlock = some g) : w.heap.size ≤ g ∧ ∃ cur, w1.heap[g]? = some (.cells cur e (0, 0)) := by
  have hv := h.1
  obtain ⟨_, h2⟩ := hv
  rcases h2 with ⟨rfl, h0⟩ | ⟨g', cap, cur, rfl, hg', hh, hn, _⟩
  · simp [Value.ownBlock] at hg
  · simp [Value.ownBlock] at hg; subst hg; exact ⟨hg', cur, hh⟩
theorem MadeK.app {x y : Int} {o : Obj} (h : MadeK e k w w1 L v) (hown : w2.ownsRow w.heap.size e 1 v' (L.length + 1) (L.map (Value.int k) ++ [.int k x])) (hg : (w1.alloc o).grownBy w2 v.ownBlock) (hx : x = y) : MadeK e k w w2 (L ++ [y]) v' := by
  subst hx
  exact ⟨by simpa using hown, ((h.2.alloc h.2.size o).grown hg (by have := h.2.size; simp; omega) (fun g hk => (h.own_ge hk).1))⟩
/-- another row, of another element type, has grown -/
theorem MadeK.far {e2 : TypeId} {k2 : IntKind} {L2 : List Int} {v2 : Value} {o : Obj} (h : MadeK e k w w1 L v) (h2 : MadeK e2 k2 w w1 L2 v2) (hne : e ≠ e2) (hg : (w1.alloc o).grownBy w2 v2.ownBlock) (hb : Below w.heap.size w w2) : MadeK e k w w2 L v := by
  refine ⟨(h.1.alloc o).kept hg ?_, hb⟩
  cases hv : v.ownBlock with
  | none => exact .inl rfl
  | some g =>
    right
    intro he
    obtain ⟨_, cur, hc⟩ := h.own_ge hv
    obtain ⟨_, cur2, hc2⟩ := h2.own_ge he.symm
    rw [hc] at hc2
    injection hc2 with hc2
    injection hc2 with _ ht
    exact hne ht
theorem MadeK.later (h : MadeK e k w w1 L v) (o : Obj) : MadeK e k w (w1.alloc o) L v := ⟨h.1.alloc o, h.2.alloc h.2.size o⟩
end
end Go.Proofs.Ytfdbcfkjablnkaa

namespace Go.Proofs.Ytfdbcfkjablnkaa
open Go.RowKit

/-- of the blocks that are there, those outside S are as they were -/
structure Off (S : Nat → Prop) (w w' : World) : Prop where
  os : w'.os = w.os
  tape : w'.tape = w.tape
  output : w'.output = w.output
  size : w.heap.size ≤ w'.heap.size
  block : ∀ k, k < w.heap.size → ¬ S k → w'.heap[k]? = w.heap[k]?
section
variable {S S' : Nat → Prop} {w w1 w' : World} {B : Nat}
theorem Off.refl (S : Nat → Prop) (w : World) : Off S w w := ⟨rfl, rfl, rfl, Nat.le_refl _, fun _ _ _ => rfl⟩
theorem Off.trans (h : Off S w w1) (k : Off S' w1 w') (hS : ∀ j, j < w.heap.size → S' j → S j) : Off S w w' :=
  ⟨k.os.trans h.os, k.tape.trans h.tape, k.output.trans h.output, Nat.le_trans h.size k.size, fun i hi hn => (k.block i (Nat.lt_of_lt_of_le hi h.size) (fun hs => hn (hS i hi hs))).trans (h.block i hi hn)⟩
theorem Off.mono (h : Off S w w') (hS : ∀ j, j < w.heap.size → S j → S' j) : Off S' w w' := ⟨h.os, h.tape, h.output, h.size, fun k hk hn => h.block k hk fun hs => hn (hS k hk hs)⟩
theorem Off.of_below (h : Below w.heap.size w w') : Off S w w' := ⟨h.os, h.tape, h.output, h.size, fun k hk _ => h.block k hk⟩
theorem Off.below (h : Off S w w') (hS : ∀ k, S k → B ≤ k) (hB : B ≤ w.heap.size) : Below B w w' := ⟨h.os, h.tape, h.output, h.size, fun k hk => h.block k (by omega) (fun hs => by have := hS k hs; omega)⟩
theorem Off.cell (h : Off S w w') {p : Addr} {v : Value} (hv : w.cell? p = some v) (hn : ¬ S p.block) : w'.cell? p = some v :=
  (World.cell?_of_block (h.block p.block (World.block_lt_of_cell? w p hv) hn)).trans hv
theorem Off.setCell (h : Off S w w') {p : Addr} (hp : S p.block) (u : Value) : Off S w (w'.setCell p u) :=
  ⟨h.os, h.tape, h.output, by simpa [World.setCell] using h.size, fun k hk hn => (Below.heap_setCell _ _ _ _ (fun e => hn (by subst e; exact hp))).trans (h.block k hk hn)⟩
theorem Off.setRow (h : Off S w w') {g : Nat} (hp : S g) (cs : Array Value) : Off S w (w'.setRow g cs) :=
  ⟨h.os, h.tape, h.output, by simpa [World.setRow] using h.size, fun k hk hn => (setRow_other _ _ _ _ (fun e => hn (by subst e; exact hp))).trans (h.block k hk hn)⟩
end

/-- the block of a slice's address -/
def blockOf (A : Option Addr) (g : Nat) : Prop := ∃ o s, A = some ⟨g, o, s⟩

theorem Nums.off {S : Nat → Prop} {k : IntKind} {w w' : World} {B : Nat} {A : Option Addr} {zs : List Int} (h : Nums k w B A zs) (hf : Off S w w') (hn : zs ≠ [] → ∀ g, blockOf A g → ¬ S g) : Nums k w' B A zs := fun h0 => by
  obtain ⟨b, off, e, hb, hc⟩ := h h0
  exact ⟨b, off, e, hb, fun j c hj => hf.cell (hc j c hj) (hn h0 b ⟨_, _, e⟩)⟩

/-- a row that the call made, known whole: nil, or cap cells of type T, the numbers cur -/
def KRow (T : TypeId) (k : IntKind) (w : World) (A : Option Addr) (cap : Nat) (cur : List Int) : Prop :=
  cur.length = cap ∧ ((A = none ∧ cap = 0) ∨ ∃ g, A = some ⟨g, 0, none⟩ ∧ cap ≤ maxLen ∧ w.heap[g]? = some (.cells (cur.map (Value.int k)).toArray T (0, 0)))
section
variable {T : TypeId} {k : IntKind} {w w' : World} {A : Option Addr} {cap : Nat} {cur : List Int}
theorem KRow.nil (T : TypeId) (k : IntKind) (w : World) : KRow T k w none 0 [] := ⟨rfl, .inl ⟨rfl, rfl⟩⟩
theorem KRow.lt (h : KRow T k w A cap cur) {g : Nat} (hg : blockOf A g) : g < w.heap.size := by
  obtain ⟨o, s, rfl⟩ := hg
  rcases h.2 with ⟨h0, _⟩ | ⟨g', e, _, hh⟩
  · simp at h0
  · injection e with e; injection e with e1; subst e1
    exact (Array.getElem?_eq_some_iff.1 hh).1
theorem KRow.off {S : Nat → Prop} (h : KRow T k w A cap cur) (hf : Off S w w') (hn : ∀ g, blockOf A g → ¬ S g) : KRow T k w' A cap cur := by
  refine ⟨h.1, ?_⟩
  rcases h.2 with h0 | ⟨g, rfl, hm, hh⟩
  · exact .inl h0
  · exact .inr ⟨g, rfl, hm, by rw [hf.block g (Array.getElem?_eq_some_iff.1 hh).1 (hn g ⟨_, _, rfl⟩)]; exact hh⟩
theorem KRow.cells (h : KRow T k w A cap cur) {g o : Nat} (hA : A = some ⟨g, o, none⟩) : o = 0 ∧ w.heap[g]? = some (.cells (cur.map (Value.int k)).toArray T (0, 0)) := by
  rcases h.2 with ⟨h0, _⟩ | ⟨g', e, _, hh⟩
  · rw [hA] at h0; simp at h0
  · rw [hA] at e; injection e with e; injection e with e1 e2; subst e1; exact ⟨e2, hh⟩
theorem KRow.cell (h : KRow T k w A cap cur) {g o : Nat} (hA : A = some ⟨g, o, none⟩) {j : Nat} {c : Int} (hj : cur[j]? = some c) : w.cell? ⟨g, j, none⟩ = some (.int k c) := by
  obtain ⟨_, hh⟩ := h.cells hA
  simp [World.cell?, hh, hj]
theorem KRow.nums (h : KRow T k w A cap cur) (n : Nat) : Nums k w w.heap.size A (cur.take n) := by
  refine Nums.take (fun hn => ?_) n
  rcases h.2 with ⟨_, h1⟩ | ⟨g, rfl, _, hh⟩
  · exact absurd (List.eq_nil_of_length_eq_zero (h.1.trans h1)) hn
  · exact ⟨g, 0, rfl, (Array.getElem?_eq_some_iff.1 hh).1, fun j c hj => by rw [Nat.zero_add]; exact h.cell rfl hj⟩
theorem zeroCells_int (k : IntKind) (n : Nat) : Builtin.zeroCells #[.int k 0] n = ((List.replicate n (0 : Int)).map (Value.int k)).toArray := by
  apply Array.ext
  · simp [Builtin.zeroCells]
  · intro i h1 h2
    simp [Builtin.zeroCells, Nat.mod_one]
end
theorem setCell_at {w : World} {b j : Nat} {cs : Array Value} {t : TypeId} {u : Value} (h : w.heap[b]? = some (.cells cs t (0, 0))) : (w.setCell ⟨b, j, none⟩ u).heap[b]? = some (.cells (cs.setIfInBounds j u) t (0, 0)) := by
  have hlt := (Array.getElem?_eq_some_iff.1 h).1
  have hv := (Array.getElem?_eq_some_iff.1 h).2
  simp [World.setCell, Array.getElem?_modify, h]
end Go.Proofs.Ytfdbcfkjablnkaa

namespace Go.Proofs.Ytfdbcfkjablnkaa
open Go.RowKit

/-- bytes -/
def Bytes (zs : List Int) : Prop := ∀ z ∈ zs, 0 ≤ z ∧ z < 256
theorem Bytes.take {zs : List Int} (h : Bytes zs) (n : Nat) : Bytes (zs.take n) := fun z hz => h z (List.mem_of_mem_take hz)
theorem Bytes.drop {zs : List Int} (h : Bytes zs) (n : Nat) : Bytes (zs.drop n) := fun z hz => h z (List.mem_of_mem_drop hz)
theorem Bytes.append {x y : List Int} (hx : Bytes x) (hy : Bytes y) : Bytes (x ++ y) := fun z hz => by
  rcases List.mem_append.1 hz with h | h
  · exact hx z h
  · exact hy z h
theorem Bytes.lt {zs : List Int} (h : Bytes zs) : ∀ z ∈ zs, z < 256 := fun z hz => (h z hz).2
theorem bytes_of {es : List Int} (h : ∀ n ∈ es, (Lit.int .u8 n).wf = true) : Bytes es := fun z hz => by
  have := bounds_u8 (h z hz)
  omega
theorem ret_int {k : IntKind} {a b : Int} (h : a = b) : Ending.returned (.int k a) = .returned (.int k b) := by rw [h]
end Go.Proofs.Ytfdbcfkjablnkaa

namespace Go.Proofs.Ytfdbcfkjablnkaa
open Go.RowKit Go.MapKept Go.Maps
open Go.ChangeMaps (setBlock)

/-- an element of such a map: its place, and where its bytes lie -/
structure Pl where
  i : Nat
  a : Option Addr
  cp : Nat
  zs : List Int
def Pl.val (p : Pl) : Value := .slice p.a p.zs.length p.cp
def Pl.kv (p : Pl) : Value × Value := (.int .i64 (p.i : Int), p.val)
def kvOf (e : MapEntry) : Value × Value := (e.key, e.val)
/-- the element at a place -/
def Pl.at (E : List Pl) (i : Nat) : Option Pl := E.find? fun p => p.i == i
/-- places that are ints, no two alike -/
def Pl.Keys (E : List Pl) : Prop := (E.map Pl.i).Nodup ∧ ∀ p ∈ E, p.i ≤ 9223372036854775807
theorem Pl.at_mem {E : List Pl} {i : Nat} {p : Pl} (h : Pl.at E i = some p) : p ∈ E ∧ p.i = i := ⟨List.mem_of_find?_eq_some h, by simpa using List.find?_some h⟩
theorem Pl.at_none {E : List Pl} {i : Nat} : Pl.at E i = none ↔ ∀ p ∈ E, p.i ≠ i := by simp [Pl.at, List.find?_eq_none]
theorem Pl.at_of : ∀ {E : List Pl} {p : Pl}, (E.map Pl.i).Nodup → p ∈ E → Pl.at E p.i = some p
  | q :: r, p, hn, hp => by
    rw [List.map_cons, List.nodup_cons] at hn
    unfold Pl.at
    by_cases h : q.i = p.i
    · rw [List.find?_cons_of_pos (by simpa using h)]
      rcases List.mem_cons.1 hp with rfl | hr
      · rfl
      · exact absurd (List.mem_map.2 ⟨p, hr, h.symm⟩) hn.1
    · rw [List.find?_cons_of_neg (by simpa using h)]
      rcases List.mem_cons.1 hp with rfl | hr
      · exact absurd rfl h
      · exact Pl.at_of hn.2 hr

structure Ents (A : Array MapEntry) (clock : Nat) (E : List Pl) : Prop where
  st : Stamped A clock
  kv : A.toList.map kvOf = E.map Pl.kv
  keys : Pl.Keys E
/-- block m is such a map -/
def MapAt (w : World) (m : Nat) (E : List Pl) : Prop := ∃ A clock, w.heap[m]? = some (.map A clock) ∧ Ents A clock E
section
variable {P : Program} {w w' : World} {m : Nat} {E : List Pl} {t k e : TypeId}
theorem MapAt.lt (h : MapAt w m E) : m < w.heap.size := by
  obtain ⟨A, clock, hb, _⟩ := h
  exact (Array.getElem?_eq_some_iff.1 hb).1
theorem MapAt.same (h : MapAt w m E) (hb : w'.heap[m]? = w.heap[m]?) : MapAt w' m E := by
  obtain ⟨A, clock, h1, h2⟩ := h
  exact ⟨A, clock, hb.trans h1, h2⟩
theorem MapAt.below (h : MapAt w m E) (hb : Below w.heap.size w w') : MapAt w' m E := h.same (hb.block m h.lt)
theorem MapAt.off {S : Nat → Prop} (h : MapAt w m E) (hf : Off S w w') (hn : ¬ S m) : MapAt w' m E := h.same (hf.block m h.lt hn)
theorem MapAt.keys (h : MapAt w m E) : Pl.Keys E := by
  obtain ⟨A, clock, _, h2⟩ := h
  exact h2.keys
theorem MapAt.not_cells (h : MapAt w m E) (cs : Array Value) (t : TypeId) (x : Nat × Nat) : w.heap[m]? ≠ some (.cells cs t x) := by
  obtain ⟨A, clock, hb, _⟩ := h
  rw [hb]
  intro h; injection h with h; cases h
theorem MapAt.new (w : World) : MapAt (w.alloc (.map #[] 0)) w.heap.size [] := ⟨#[], 0, World.alloc_heap_new _ _, ⟨stamped_empty 0, rfl, by simp [Pl.Keys]⟩⟩
theorem Ents.len {A : Array MapEntry} {clock : Nat} (h : Ents A clock E) : A.size = E.length := by
  have := congrArg List.length h.kv
  simpa using this
/-- an entry's place in the list -/
theorem Ents.get {A : Array MapEntry} {clock : Nat} (h : Ents A clock E) {x : MapEntry} (hx : x ∈ A.toList) : ∃ p ∈ E, x.key = .int .i64 (p.i : Int) ∧ x.val = p.val := by
  have : kvOf x ∈ E.map Pl.kv := by rw [← h.kv]; exact List.mem_map.2 ⟨x, hx, rfl⟩
  obtain ⟨p, hp, e1⟩ := List.mem_map.1 this
  simp only [Pl.kv, kvOf, Prod.mk.injEq] at e1
  exact ⟨p, hp, e1.1.symm, e1.2.symm⟩
theorem Ents.put {A : Array MapEntry} {clock : Nat} (h : Ents A clock E) {p : Pl} (hp : p ∈ E) : ∃ x ∈ A.toList, x.key = .int .i64 (p.i : Int) ∧ x.val = p.val := by
  have : p.kv ∈ A.toList.map kvOf := by rw [h.kv]; exact List.mem_map.2 ⟨p, hp, rfl⟩
  obtain ⟨x, hx, e1⟩ := List.mem_map.1 this
  simp only [Pl.kv, kvOf, Prod.mk.injEq] at e1
  exact ⟨x, hx, e1.1, e1.2⟩
theorem wf_nat {i : Nat} (h : i ≤ 9223372036854775807) : (Lit.int .i64 (i : Int)).wf = true := WalkArith.wf_i64 (by omega)

theorem key_nat (hk : P.underlying k = some (.int .i64)) {i : Nat} (h : i ≤ 9223372036854775807) : keyOf P k (.int .i64 (i : Int)) = some (.int .i64 (i : Int)) := keyOf_int_mk hk (wf_nat h)
theorem Ents.keyed {A : Array MapEntry} {clock : Nat} (h : Ents A clock E) (hk : P.underlying k = some (.int .i64)) : ∀ x ∈ A.toList, ∃ l, keyOf P k x.key = some l := fun x hx => by
  obtain ⟨p, hp, e1, _⟩ := h.get hx
  rw [e1]
  exact ⟨_, key_nat hk (h.keys.2 p hp)⟩

theorem MapAt.run_len (h : MapAt w m E) (ht : P.underlying t = some (.map k e)) (ty : TypeId) : (Builtin.len_ #[t] ty #[.map (some m)]).run P w = .ok (.int .i64 (E.length : Int)) w := by
  obtain ⟨A, clock, hb, h2⟩ := h
  rw [← h2.len]
  simp [Builtin.len_, run_underlying ht, MapKept.run_getObj_map hb, goInt, Result.andThen]
theorem MapAt.run_look (h : MapAt w m E) (c : Bool) (ht : P.underlying t = some (.map k e)) (hk : P.underlying k = some (.int .i64)) {z : Value} (hz : (zeroValue e).run P w = .ok z w) {i : Nat} (hi : i ≤ 9223372036854775807) :
    (Instr.lookup t (.map (some m)) (.int .i64 (i : Int)) c).run P w = .ok (match Pl.at E i with | some p => if c then .tuple #[p.val, .bool true] else p.val | none => if c then .tuple #[z, .bool false] else z) w := by
  obtain ⟨A, clock, hb, h2⟩ := h
  have K : Keyed P k := int_keyed hk
  have hkey := key_nat hk hi
  rcases K.find w hkey A.toList (h2.keyed hk) with ⟨h1, h3⟩ | ⟨j, e0, h1, h3, h4⟩
  · have : Pl.at E i = none := Pl.at_none.2 fun p hp e1 => by
      obtain ⟨x, hx, e2, _⟩ := h2.put hp
      rw [e1] at e2
      exact h3 x hx e2
    rw [this]
    simp [Instr.lookup, run_underlying ht, MapKept.run_getObj_map hb, K.check w _ hkey, h1, hz, Result.andThen]
  · obtain ⟨p, hp, e1, e2⟩ := h2.get (List.mem_of_getElem? h3)
    rw [h4] at e1
    injection e1 with _ e1
    have e3 : p.i = i := by omega
    subst e3
    rw [Pl.at_of h2.keys.1 hp]
    simp [Instr.lookup, run_underlying ht, MapKept.run_getObj_map hb, K.check w _ hkey, h1, e2, Result.andThen]
theorem MapAt.run_upd (h : MapAt w m E) (ht : P.underlying t = some (.map k e)) (hk : P.underlying k = some (.int .i64)) (p : Pl) (hi : p.i ≤ 9223372036854775807) (hn : Pl.at E p.i = none) :
    ∃ w', (Instr.mapUpdate t (.map (some m)) (.int .i64 (p.i : Int)) p.val).run P w = .ok () w' ∧ MapAt w' m (E ++ [p]) ∧ Off (fun q => q = m) w w' ∧ w'.heap.size = w.heap.size := by
  obtain ⟨A, clock, hb, h2⟩ := h
  have K : Keyed P k := int_keyed hk
  have hkey := key_nat hk hi
  have hne : ∀ x ∈ A.toList, x.key ≠ .int .i64 (p.i : Int) := fun x hx e1 => by
    obtain ⟨q, hq, e2, _⟩ := h2.get hx
    rw [e1] at e2
    injection e2 with _ e2
    exact Pl.at_none.1 hn q hq (by omega)
  rcases K.find w hkey A.toList (h2.keyed hk) with ⟨h1, h3⟩ | ⟨j, e0, h1, h3, h4⟩
  · refine ⟨setBlock w m (.map (A.push ⟨.int .i64 (p.i : Int), p.val, clock⟩) (clock + 1)), ?_, ⟨_, _, ChangeMaps.heap_setBlock_same hb _, stamped_push h2.st hne, ?_, ?_, ?_⟩, ⟨rfl, rfl, rfl, by simp [setBlock], fun q _ hq => ChangeMaps.heap_setBlock_other hb _ hq⟩, by simp [setBlock]⟩
    · simp [Instr.mapUpdate, run_underlying ht, MapKept.run_getObj_map hb, K.check w false hkey, h1, MapKept.run_setObj_map _ hb, Result.andThen, setBlock]
    · rw [Array.toList_push, List.map_append, h2.kv, List.map_append]
      rfl
    · rw [List.map_append, List.nodup_append]
      exact ⟨h2.keys.1, by simp, fun a ha b hb => by
        simp only [List.map_cons, List.map_nil, List.mem_singleton] at hb
        subst hb
        obtain ⟨q, hq, rfl⟩ := List.mem_map.1 ha
        exact Pl.at_none.1 hn q hq⟩
    · intro q hq
      rcases List.mem_append.1 hq with hq | hq
      · exact h2.keys.2 q hq
      · obtain rfl := List.mem_singleton.1 hq
        exact hi
  · exact absurd h4 (hne e0 (List.mem_of_getElem? h3))
end

/-- a range over block m under way, its iterator in block r: D has come, in that order -/
def RangeAt (w : World) (m r : Nat) (E D : List Pl) : Prop :=
  ∃ A clock since seen c0 R, w.heap[m]? = some (.map A clock) ∧ Ents A clock E ∧ w.heap[r]? = some (.mapIter (some m) since seen c0) ∧ (∀ x ∈ A.toList, x.born < since) ∧ since ≤ c0 ∧ since ≤ clock ∧ (leftOf A seen).toList.map kvOf = R.map Pl.kv ∧ (D ++ R).Perm E
section
variable {P : Program} {w w' : World} {m r : Nat} {E D : List Pl} {t k e : TypeId}
theorem RangeAt.map (h : RangeAt w m r E D) : MapAt w m E := by
  obtain ⟨A, clock, since, seen, c0, R, hb, h2, _⟩ := h
  exact ⟨A, clock, hb, h2⟩
theorem RangeAt.lt (h : RangeAt w m r E D) : r < w.heap.size := by
  obtain ⟨A, clock, since, seen, c0, R, hb, h2, hr, _⟩ := h
  exact (Array.getElem?_eq_some_iff.1 hr).1
theorem RangeAt.same (h : RangeAt w m r E D) (hm : w'.heap[m]? = w.heap[m]?) (hr : w'.heap[r]? = w.heap[r]?) : RangeAt w' m r E D := by
  obtain ⟨A, clock, since, seen, c0, R, hb, h2, hr', rest⟩ := h
  exact ⟨A, clock, since, seen, c0, R, hm.trans hb, h2, hr.trans hr', rest⟩
theorem RangeAt.off {S : Nat → Prop} (h : RangeAt w m r E D) (hf : Off S w w') (h1 : ¬ S m) (h2 : ¬ S r) : RangeAt w' m r E D := h.same (hf.block m h.map.lt h1) (hf.block r h.lt h2)
theorem RangeAt.below (h : RangeAt w m r E D) (hb : Below w.heap.size w w') : RangeAt w' m r E D := h.same (hb.block m h.map.lt) (hb.block r h.lt)
theorem RangeAt.left (h : RangeAt w m r E D) : w.rangeLeft m r = E.length - D.length := by
  obtain ⟨A, clock, since, seen, c0, R, hb, h2, hr, _, _, _, hR, hp⟩ := h
  have e1 := congrArg List.length hR
  have e2 := hp.length_eq
  simp at e1 e2
  simp only [World.rangeLeft, hb, hr]
  omega
theorem RangeAt.sub (h : RangeAt w m r E D) : ∃ R, (D ++ R).Perm E := by
  obtain ⟨A, clock, since, seen, c0, R, hb, h2, hr, _, _, _, hR, hp⟩ := h
  exact ⟨R, hp⟩
theorem Pl.Keys.perm {E E' : List Pl} (h : Pl.Keys E) (hp : E'.Perm E) : Pl.Keys E' := ⟨((hp.map Pl.i).nodup_iff).2 h.1, fun p hp' => h.2 p (hp.mem_iff.1 hp')⟩
theorem RangeAt.keys (h : RangeAt w m r E D) : Pl.Keys D ∧ ∀ p ∈ D, p ∈ E := by
  obtain ⟨R, hp⟩ := h.sub
  have hk := h.map.keys.perm hp
  exact ⟨⟨by have := hk.1; rw [List.map_append, List.nodup_append] at this; exact this.1, fun p hp => hk.2 p (List.mem_append_left _ hp)⟩, fun p h1 => hp.mem_iff.1 (List.mem_append_left _ h1)⟩
theorem MapAt.range (h : MapAt w m E) (ht : P.underlying t = some (.map k e)) :
    ∃ w', (Instr.range t (.map (some m))).run P w = .ok (.pointer (some ⟨w.heap.size, 0, none⟩)) w' ∧ RangeAt w' m w.heap.size E [] ∧ Below w.heap.size w w' ∧ w'.heap.size = w.heap.size + 1 := by
  have hlt := h.lt
  obtain ⟨A, clock, hb, h2⟩ := h
  refine ⟨_, run_range_map w t k e m A clock ht hb, ⟨A, clock, clock, #[], clock, E, ?_, h2, World.alloc_heap_new _ _, h2.st.1, Nat.le_refl _, Nat.le_refl _, ?_, ?_⟩, (Below.refl _ w).alloc (Nat.le_refl _) _, by simp⟩
  · exact (Below.heap_alloc _ _ _ hlt).trans hb
  · rw [← h2.kv]
    congr 1
    simp [leftOf]
  · exact List.Perm.refl _
theorem RangeAt.next (h : RangeAt w m r E D) (ty : TypeId) :
    (D.Perm E ∧ (Instr.next (.pointer (some ⟨r, 0, none⟩)) false ty).run P w = .ok (.tuple #[.bool false]) w) ∨
    ∃ p w', p ∈ E ∧ (Instr.next (.pointer (some ⟨r, 0, none⟩)) false ty).run P w = .ok (.tuple #[.bool true, .int .i64 (p.i : Int), p.val]) w' ∧ RangeAt w' m r E (D ++ [p]) ∧ Off (fun q => q = r) w w' ∧ w'.heap.size = w.heap.size ∧
      (Instr.entry (.pointer (some ⟨r, 0, none⟩))).run P w' = .ok (.tuple #[.int .i64 (p.i : Int), p.val]) w' := by
  obtain ⟨A, clock, since, seen, c0, R, hb, h2, hr, hold, hsc, hsk, hR, hp⟩ := h
  rcases run_next_at (P := P) w ty r m since c0 seen A clock hr hb hold hsc with ⟨h0, hrun⟩ | ⟨e, he, w1, hal, hrun⟩
  · refine .inl ⟨?_, hrun⟩
    have : R = [] := by
      have e1 := congrArg List.length hR
      simp at e1
      exact List.eq_nil_of_length_eq_zero (by omega)
    rw [this, List.append_nil] at hp
    exact hp
  · obtain ⟨hem, hes⟩ := mem_left he
    have hr1 : w1.heap[r]? = some (.mapIter (some m) since seen c0) := by rcases hal with rfl | rfl <;> exact hr
    have hb1 : w1.heap[m]? = some (.map A clock) := by rcases hal with rfl | rfl <;> exact hb
    have hne : m ≠ r := fun e1 => by rw [e1, hr1] at hb1; injection hb1 with e2; cases e2
    obtain ⟨j, hj⟩ := List.getElem?_of_mem he
    have hRj : (R.map Pl.kv)[j]? = some (kvOf e) := by rw [← hR, List.getElem?_map, hj]; rfl
    rw [List.getElem?_map] at hRj
    obtain ⟨p, hpj, hpk⟩ := Option.map_eq_some_iff.1 hRj
    simp only [Pl.kv, kvOf, Prod.mk.injEq] at hpk
    have hsize : (setBlock w1 r (.mapIter (some m) since (seen.push e.born) clock)).heap.size = w.heap.size := by rcases hal with rfl | rfl <;> simp [setBlock] <;> rfl
    have hb2 : (setBlock w1 r (.mapIter (some m) since (seen.push e.born) clock)).heap[m]? = some (.map A clock) := by
      simp only [setBlock]
      rw [Array.getElem?_setIfInBounds, if_neg (Ne.symm hne)]
      exact hb1
    have hr2 : (setBlock w1 r (.mapIter (some m) since (seen.push e.born) clock)).heap[r]? = some (.mapIter (some m) since (seen.push e.born) clock) := by
      simp only [setBlock]
      rw [Array.getElem?_setIfInBounds, if_pos rfl, if_pos (Array.getElem?_eq_some_iff.1 hr1).1]
    have hmem : p ∈ E := hp.mem_iff.1 (List.mem_append_right _ (List.mem_of_getElem? hpj))
    refine .inr ⟨p, _, hmem, by rw [hpk.1, hpk.2]; exact hrun, ⟨A, clock, since, seen.push e.born, clock, R.eraseIdx j, hb2, h2, hr2, hold, hsk, hsk, ?_, ?_⟩, ?_, hsize, ?_⟩
    · have e1 : (leftOf A (seen.push e.born)).toList = (leftOf A seen).toList.eraseIdx j := by
        rw [← ChangeMaps.filter_eq_eraseIdx (fun x : MapEntry => x.born == e.born) _ j e hj (by simp) ?_]
        · unfold leftOf
          rw [Array.toList_filter, Array.toList_filter, List.filter_filter]
          refine List.filter_congr fun x _ => ?_
          rw [contains_push]
          cases seen.contains x.born <;> cases x.born == e.born <;> rfl
        · have hn : ((leftOf A seen).toList.map (·.born)).Nodup := by
            unfold leftOf
            rw [Array.toList_filter]
            exact (List.filter_sublist.map _).nodup h2.st.2.1
          refine (List.pairwise_map.1 hn).imp fun {x y} hxy hh => ?_
          simp only [beq_iff_eq] at hh
          exact hxy (hh.1.trans hh.2.symm)
      rw [e1, ChangeMaps.map_eraseIdx, hR, ChangeMaps.map_eraseIdx]
    · refine List.Perm.trans ?_ hp
      rw [List.append_assoc]
      refine List.Perm.append_left D ?_
      have hlt : j < R.length := (List.getElem?_eq_some_iff.1 hpj).1
      have hg : R[j] = p := (List.getElem?_eq_some_iff.1 hpj).2
      have h3 : R = R.take j ++ p :: R.drop (j + 1) := by rw [← hg, List.getElem_cons_drop, List.take_append_drop]
      rw [List.eraseIdx_eq_take_drop_succ]
      refine (List.perm_middle.symm : (p :: (R.take j ++ R.drop (j + 1))).Perm _).trans ?_
      rw [← h3]
    · refine ⟨?_, ?_, ?_, by rw [hsize]; exact Nat.le_refl _, fun q _ hq => ?_⟩
      · rcases hal with rfl | rfl <;> rfl
      · rcases hal with rfl | rfl <;> rfl
      · rcases hal with rfl | rfl <;> rfl
      · simp only [setBlock]
        rw [Array.getElem?_setIfInBounds, if_neg (Ne.symm hq)]
        rcases hal with rfl | rfl <;> rfl
    · rw [hpk.1, hpk.2]
      exact run_entry_at _ r m since seen A clock e hr2 hb2 hem h2.st.2.1
end

/-! ### at the operation -/
section
variable {P : Program} {w : World} {ops : Array Oper} {rest : List Oper} {o : Oper} {a : Act} {Q : Exit → Act → World → Prop} {m r : Nat} {E D : List Pl}
/-- 'range m' -/
theorem wpList_range_map (hg : o.guard = none) (x : Operand) (t : TypeId) (hop : o.op = Op.range t x) (k e : TypeId) (ht : P.underlying t = some (.map k e)) (hm : a.eval x = .map (some m)) (h : MapAt w m E)
    (hK : ∀ w', RangeAt w' m w.heap.size E [] → Below w.heap.size w w' → w'.heap.size = w.heap.size + 1 → wpList P ops Q rest (a.put o.dst (.pointer (some ⟨w.heap.size, 0, none⟩))) w') : wpList P ops Q (o :: rest) a w := by
  refine wpList_plain hg fun K' hK' => ?_
  obtain ⟨w', hrun, r1, r2, r3⟩ := h.range ht
  unfold Oper.wp
  simp [execOp, hop, hm, hrun, Result.andThen]
  exact hK' _ _ (hK w' r1 r2 r3)
/-- its step -/
theorem wpList_next_map (hg : o.guard = none) (it : Operand) (hop : o.op = Op.next it false) (hit : a.eval it = .pointer (some ⟨r, 0, none⟩)) (h : RangeAt w m r E D)
    (hDone : D.Perm E → wpList P ops Q rest (a.put o.dst (.tuple #[.bool false])) w)
    (hMore : ∀ (p : Pl) (w' : World), p ∈ E → RangeAt w' m r E (D ++ [p]) → Off (fun q => q = r) w w' → w'.heap.size = w.heap.size → (Instr.entry (.pointer (some ⟨r, 0, none⟩))).run P w' = .ok (.tuple #[.int .i64 (p.i : Int), .slice p.a p.zs.length p.cp]) w' →
      wpList P ops Q rest (a.put o.dst (.tuple #[.bool true, .int .i64 (p.i : Int), .slice p.a p.zs.length p.cp])) w') : wpList P ops Q (o :: rest) a w := by
  refine wpList_plain hg fun K' hK' => ?_
  unfold Oper.wp
  rcases h.next (P := P) o.type with ⟨h0, hrun⟩ | ⟨p, w', hp, hrun, h1, h2, h3, h4⟩
  · simp [execOp, hop, hit, hrun, Result.andThen]
    exact hK' _ _ (hDone h0)
  · simp [execOp, hop, hit, hrun, Result.andThen]
    exact hK' _ _ (hMore p w' hp h1 h2 h3 h4)
end
end Go.Proofs.Ytfdbcfkjablnkaa

namespace Go.Proofs.Ytfdbcfkjablnkaa

theorem nodup_few : ∀ (n : Nat) (l : List Nat), l.Nodup → (∀ x ∈ l, x < n) → l.length ≤ n
  | 0, l, _, h => by
    cases l with
    | nil => simp
    | cons x r => have := h x (by simp); omega
  | n + 1, l, hn, h => by
    have h1 := nodup_few n (l.erase n) (hn.erase n) fun x hx => by
      have h2 := (List.Nodup.mem_erase_iff hn).1 hx
      have := h x h2.2
      have := h2.1
      omega
    by_cases hm : n ∈ l
    · rw [List.length_erase_of_mem hm] at h1
      omega
    · rw [List.erase_of_not_mem hm] at h1
      omega
theorem nodup_all {n : Nat} {l : List Nat} (hn : l.Nodup) (h : ∀ x ∈ l, x < n) (hl : l.length = n) {i : Nat} (hi : i < n) : i ∈ l := by
  by_cases hm : i ∈ l
  · exact hm
  · have := nodup_few n (i :: l) (List.nodup_cons.2 ⟨hm, hn⟩) fun x hx => by
      rcases List.mem_cons.1 hx with rfl | hx
      · exact hi
      · exact h x hx
    rw [List.length_cons] at this
    omega

namespace Sl
/-- places, each with its bytes -/
abbrev Ct := List (Nat × List Int)
def has (C : Ct) (i : Nat) : Bool := C.any fun p => p.1 == i
def at' (C : Ct) (i : Nat) : List Int := ((C.find? fun p => p.1 == i).map (·.2)).getD []
def tot (C : Ct) : Nat := (C.map (·.2.length)).sum
/-- the bytes of the first n places -/
def cat (C : Ct) (n : Nat) : List Int := (List.range n).flatMap (at' C)
/-- of the first n places those that are empty -/
def mis (C : Ct) (n : Nat) : List Nat := (List.range n).filter fun i => !has C i
def Keys (C : Ct) : Prop := (C.map Prod.fst).Nodup
section
variable {C C' : Ct} {i n : Nat}
theorem has_iff : has C i = true ↔ i ∈ C.map Prod.fst := by
  simp [has]
theorem has_mem {x : List Int} (h : (i, x) ∈ C) : has C i = true := has_iff.2 (List.mem_map.2 ⟨_, h, rfl⟩)
theorem has_perm (hp : C.Perm C') (i : Nat) : has C i = has C' i := by
  have h : has C i = true ↔ has C' i = true := by rw [has_iff, has_iff]; exact (hp.map _).mem_iff
  cases h1 : has C i <;> cases h2 : has C' i <;> simp_all
theorem at_mem : ∀ {C : Ct} {i : Nat} {x : List Int}, Keys C → (i, x) ∈ C → at' C i = x
  | q :: r, i, x, hn, hp => by
    unfold Keys at hn
    rw [List.map_cons, List.nodup_cons] at hn
    unfold at'
    by_cases h : q.1 = i
    · rw [List.find?_cons_of_pos (by simpa using h)]
      rcases List.mem_cons.1 hp with rfl | hr
      · rfl
      · exact absurd (List.mem_map.2 ⟨_, hr, h.symm⟩) hn.1
    · rw [List.find?_cons_of_neg (by simpa using h)]
      rcases List.mem_cons.1 hp with rfl | hr
      · exact absurd rfl h
      · exact at_mem hn.2 hr
theorem at_none (h : has C i = false) : at' C i = [] := by
  have : C.find? (fun p => p.1 == i) = none := by
    rw [List.find?_eq_none]
    intro p hp h1
    have : has C i = true := List.any_eq_true.2 ⟨p, hp, h1⟩
    rw [h] at this; cases this
  simp [at', this]
theorem has_get (h : has C i = true) : ∃ x, (i, x) ∈ C := by
  obtain ⟨p, hp, e⟩ := List.mem_map.1 (has_iff.1 h)
  exact ⟨p.2, by rw [← e]; exact hp⟩
theorem at_perm (hp : C.Perm C') (hk : Keys C) (i : Nat) : at' C i = at' C' i := by
  have hk' : Keys C' := ((hp.map Prod.fst).nodup_iff).1 hk
  cases h : has C i with
  | false => rw [at_none h, at_none (by rw [← has_perm hp]; exact h)]
  | true =>
    obtain ⟨x, hx⟩ := has_get h
    rw [at_mem hk hx, at_mem hk' (hp.mem_iff.1 hx)]
theorem tot_perm (hp : C.Perm C') : tot C = tot C' := (hp.map _).sum_nat
theorem cat_perm (hp : C.Perm C') (hk : Keys C) (n : Nat) : cat C n = cat C' n := by
  unfold cat
  congr 1
  funext i
  exact at_perm hp hk i
theorem mis_perm (hp : C.Perm C') (n : Nat) : mis C n = mis C' n := by
  unfold mis
  congr 1
  funext i
  rw [has_perm hp]
theorem cat_succ (C : Ct) (n : Nat) : cat C (n + 1) = cat C n ++ at' C n := by
  unfold cat
  rw [List.range_succ, List.flatMap_append]
  simp
theorem mis_succ (C : Ct) (n : Nat) : mis C (n + 1) = mis C n ++ if has C n then [] else [n] := by
  unfold mis
  rw [List.range_succ, List.filter_append]
  cases h : has C n <;> simp [h]
theorem mis_at {C : Ct} {k : Nat} (h : has C k = false) : ∀ n : Nat, k < n → (mis C n)[(mis C k).length]? = some k
  | 0, hk => by omega
  | n + 1, hk => by
    rw [mis_succ]
    by_cases hkn : k = n
    · subst hkn
      simp [h]
    · have ih := mis_at h n (by omega)
      rw [List.getElem?_append_left (List.getElem?_eq_some_iff.1 ih).1]
      exact ih
theorem mis_stay {C : Ct} {k : Nat} (h : has C k = true) : mis C (k + 1) = mis C k := by simp [mis_succ, h]
theorem mis_step {C : Ct} {k : Nat} (h : has C k = false) : mis C (k + 1) = mis C k ++ [k] := by simp [mis_succ, h]
theorem mis_few (C : Ct) (n : Nat) : (mis C n).length ≤ n := by
  unfold mis
  have := List.length_filter_le (fun i => !has C i) (List.range n)
  rwa [List.length_range] at this
theorem tot_push (C : Ct) (p : Nat × List Int) : tot (C ++ [p]) = tot C + p.2.length := by simp [tot]
theorem at_len (C : Ct) (i : Nat) : (at' C i).length ≤ tot C := by
  cases h : has C i with
  | false => rw [at_none h]; simp
  | true =>
    unfold at'
    cases hf : C.find? (fun p => p.1 == i) with
    | none => simp
    | some p =>
      have hm := List.mem_of_find?_eq_some hf
      show p.2.length ≤ _
      unfold tot
      clear hf h
      induction C with
      | nil => cases hm
      | cons q r ih =>
        rw [List.map_cons, List.sum_cons]
        rcases List.mem_cons.1 hm with rfl | hm
        · omega
        · have := ih hm
          omega
theorem cat_len (C : Ct) : ∀ n : Nat, (cat C n).length ≤ n * tot C
  | 0 => by simp [cat]
  | n + 1 => by
    rw [cat_succ, List.length_append, Nat.add_mul]
    have := cat_len C n
    have := at_len C n
    omega
end
end Sl
end Go.Proofs.Ytfdbcfkjablnkaa

namespace Go.Proofs.Ytfdbcfkjablnkaa
open Go.RowKit

/-- a head, as a value -/
def hdV (v k s i c : Int) : Value := .agg #[.int .i64 v, .int .i64 k, .int .u32 s, .int .i64 i, .int .i64 c]
/-- what is wrong with a head -/
def chk (v k i c : Int) : Int := if v < 1 ∨ 2 < v then 10 else if k < 1 ∨ 5 < k then 9 else if c < 1 ∨ 255 < c ∨ i < 0 ∨ c ≤ i then 3 else 0
theorem chk_zero {v k i c : Int} (h : chk v k i c = 0) : (v = 1 ∨ v = 2) ∧ 1 ≤ k ∧ k ≤ 5 ∧ 1 ≤ c ∧ c ≤ 255 ∧ 0 ≤ i ∧ i < c := by
  unfold chk at h
  split at h
  · omega
  · split at h
    · omega
    · split at h <;> omega
theorem chk_cases (v k i c : Int) : (chk v k i c = 10 ∧ (v < 1 ∨ 2 < v)) ∨ (chk v k i c = 9 ∧ 1 ≤ v ∧ v ≤ 2 ∧ (k < 1 ∨ 5 < k)) ∨ (chk v k i c = 3 ∧ 1 ≤ v ∧ v ≤ 2 ∧ 1 ≤ k ∧ k ≤ 5 ∧ (c < 1 ∨ 255 < c)) ∨
    (chk v k i c = 3 ∧ 1 ≤ v ∧ v ≤ 2 ∧ 1 ≤ k ∧ k ≤ 5 ∧ 1 ≤ c ∧ c ≤ 255 ∧ (i < 0 ∨ c ≤ i)) ∨ (chk v k i c = 0 ∧ 1 ≤ v ∧ v ≤ 2 ∧ 1 ≤ k ∧ k ≤ 5 ∧ 1 ≤ c ∧ c ≤ 255 ∧ 0 ≤ i ∧ i < c) := by
  unfold chk
  split
  · omega
  · split
    · omega
    · split <;> omega
/-- the cells of a head that has been boxed, in a later world -/
theorem hd_cells {w w1 : World} {v k s i c : Int} {t : TypeId} (hb : Below (w.alloc (.cells #[.int .i64 v, .int .i64 k, .int .u32 s, .int .i64 i, .int .i64 c] t)).heap.size (w.alloc (.cells #[.int .i64 v, .int .i64 k, .int .u32 s, .int .i64 i, .int .i64 c] t)) w1) :
    w1.cell? ⟨w.heap.size, 0, none⟩ = some (.int .i64 v) ∧ w1.cell? ⟨w.heap.size, 1, none⟩ = some (.int .i64 k) ∧ w1.cell? ⟨w.heap.size, 2, none⟩ = some (.int .u32 s) ∧ w1.cell? ⟨w.heap.size, 3, none⟩ = some (.int .i64 i) ∧ w1.cell? ⟨w.heap.size, 4, none⟩ = some (.int .i64 c) := by
  have h : w1.heap[w.heap.size]? = some (.cells #[.int .i64 v, .int .i64 k, .int .u32 s, .int .i64 i, .int .i64 c] t (0, 0)) := (hb.block _ (by simp)).trans (World.alloc_heap_new _ _)
  simp [World.cell?, h]
theorem hd_block {W : World} {b : Nat} {v k s i c : Int} {t : TypeId} (h : W.heap[b]? = some (.cells #[.int .i64 v, .int .i64 k, .int .u32 s, .int .i64 i, .int .i64 c] t (0, 0))) :
    W.cell? ⟨b, 0, none⟩ = some (.int .i64 v) ∧ W.cell? ⟨b, 1, none⟩ = some (.int .i64 k) ∧ W.cell? ⟨b, 2, none⟩ = some (.int .u32 s) ∧ W.cell? ⟨b, 3, none⟩ = some (.int .i64 i) ∧ W.cell? ⟨b, 4, none⟩ = some (.int .i64 c) := by
  simp [World.cell?, h]
end Go.Proofs.Ytfdbcfkjablnkaa

namespace Go.Proofs.Ytfdbcfkjablnkaa
open Go.RowKit

/-- whatever is no cells, lies from B on and is not l lies as it lay -/
structure KeepsBut (B l : Nat) (W W' : World) : Prop where
  size : W.heap.size ≤ W'.heap.size
  same : ∀ (k : Nat) (o : Obj), k ≠ l → B ≤ k → W.heap[k]? = some o → o.isCells = false → W'.heap[k]? = some o

section
variable {F : Fence} {n : Nat} {P : Program} {g : Operand} {ps : Array Tmp} {assign body : Code} {Q : Exit → Act → World → Prop} {a : Act} {w : World}
theorem range_given {α : Type} (hro : F.round = none) (h1 : 1 ≤ n) {gf : Nat} {lb : Array Value} (hg : a.eval g = .func (.func gf) #[] lb) (hFg : F.fn gf) (eg : ∀ args w, (callFunc gf args).run P w = .ok (.enter gf args) w)
    (enc : α → Array Value) (hps : ∀ x, (enc x).size = ps.size) (Rd : Nat → α → World → Prop) (Dn : Nat → World → Prop) (Kp : World → World → Prop) (N : Nat)
    (hRp : ∀ j x W l o o', Rd j x W → w.heap.size ≤ l → W.heap[l]? = some o → o.isCells = false → Rd j x (W.putObj l o'))
    (hDp : ∀ j W l o o', Dn j W → w.heap.size ≤ l → W.heap[l]? = some o → o.isCells = false → Dn j (W.putObj l o'))
    (hKt : ∀ A B C, Kp A B → Kp B C → Kp A C)
    (hKp : ∀ W l o o', w.heap.size ≤ l → W.heap[l]? = some o → o.isCells = false → Kp W (W.putObj l o'))
    (hD0 : ∀ o, Dn 0 ((w.alloc (.deferred (some []))).alloc o)) (a₁ : α → Act)
    (hassign : ∀ (l : Nat) (x : α) (W : World) (K : Act → World → Prop), K (a₁ x) W → assign.wpIn (F.inRound l) (n - 1 - 1) P (Exit.then K (fun _ _ _ => False)) { tmps := (ps.zip (enc x)).foldl (fun t (p, v) => t.setIfInBounds p v) a.tmps, defers := [] } W)
    (hbody : ∀ (l j : Nat) (x : α) (W : World), w.heap.size ≤ l → Rd j x W → j < N → body.wpIn (F.inRound l) (n - 1 - 1) P (fun e _ W' => e = .normal ∧ KeepsFrom w.heap.size W W' ∧ Dn (j + 1) W' ∧ Kp W W') (a₁ x) W)
    (hiter : ∀ (Bk : World → Prop) (l : Nat) (W : World), (∀ A B, Bk A → A.heap.size ≤ B.heap.size → (∀ k, w.heap.size ≤ k → k < w.heap.size + 2 → B.heap[k]? = A.heap[k]?) → Bk B) → (∀ A, Bk A → w.heap.size + 2 ≤ A.heap.size) → l < w.heap.size + 2 → Dn 0 W → Bk W →
      (∀ j x W1, Rd j x W1 → Bk W1 → j < N → YieldAt F (n - 1 - 1) P l (enc x) W1 fun e W2 => e = .returned (.bool true) ∧ Dn (j + 1) W2 ∧ Bk W2 ∧ Kp W1 W2 ∧ KeepsBut w.heap.size l W1 W2) →
      CallsIn F (n - 1) P gf (#[.func (.yield l) #[] #[]] ++ lb) W fun e W' => (∃ v, e = .returned v) ∧ Dn N W' ∧ Bk W')
    (hdone : ∀ (D : Nat) (W : World), w.heap.size ≤ D → Dn N W → W.heap[D]? = some (.deferred (some [])) → Q .normal { a with defers := { target := .collected D, args := #[] } :: a.defers } W) :
    (Code.rangeFunc g ps assign body).wpIn F n P Q a w := by
  apply wpIn_rangeFunc
  intro fn hfn
  rw [hro]
  have hent := run_enterLoop_outer (P := P) (w := w) fn a.tmps ps assign body
  obtain ⟨lp, hlp⟩ : ∃ lp : LoopState → Option Code → Loop, lp = fun st pe => { state := st, pending := pe, fn := fn, tmps := a.tmps, params := ps, assign := assign, body := body, defers := w.heap.size } := ⟨_, rfl⟩
  have hlp0 : ({ state := .ready, pending := none, fn, tmps := a.tmps, params := ps, assign, body, defers := w.heap.size } : Loop) = lp .ready none := by rw [hlp]
  rw [hlp0] at hent
  have hD0' := hD0 (.loop (lp .ready none))
  have hl0 : ((w.alloc (.deferred (some []))).alloc (.loop (lp .ready none))).heap[w.heap.size + 1]? = some (.loop (lp .ready none)) := by
    have h := World.alloc_heap_new (w.alloc (.deferred (some []))) (.loop (lp .ready none))
    rwa [World.size_alloc] at h
  have hd0 : ((w.alloc (.deferred (some []))).alloc (.loop (lp .ready none))).heap[w.heap.size]? = some (.deferred (some [])) := (Below.heap_alloc _ _ _ (by simp)).trans (World.alloc_heap_new w _)
  generalize (w.alloc (.deferred (some []))).alloc (.loop (lp .ready none)) = W0 at *
  refine ⟨_, _, _, { target := .fn (.func gf) lb, args := #[.func (.yield (w.heap.size + 1)) #[] #[]] }, W0, gf, #[.func (.yield (w.heap.size + 1)) #[] #[]] ++ lb, W0, hent, ?_, ?_, ?_, fun _ => h1, ?_⟩
  · simp only [resolve, hg]
    simp [go_sem]
  · intro f' hf'
    simp [Target.leads] at hf'
    subst hf'
    exact hFg
  · simp [invoke, go_sem, eg]
  let Bk : World → Prop := fun W => W.heap[w.heap.size + 1]? = some (.loop (lp .ready none)) ∧ W.heap[w.heap.size]? = some (.deferred (some []))
  have hBlt : ∀ A, Bk A → w.heap.size + 2 ≤ A.heap.size := fun A h => (Array.getElem?_eq_some_iff.1 h.1).1
  refine (hiter Bk (w.heap.size + 1) W0 (fun A B hA _ hAB => ⟨(hAB _ (by omega) (by omega)).trans hA.1, (hAB _ (by omega) (by omega)).trans hA.2⟩) hBlt (by omega) hD0' ⟨hl0, hd0⟩ ?_).mono ?_
  · rintro j x W1 hR hB hj
    have hsz := hBlt W1 hB
    have hy := run_yield (P := P) (args := enc x) hB.1 (by rw [hlp]; exact hps x)
    have hbeg := run_beginRound (P := P) hB.1 (by rw [hlp])
    rw [hlp] at hy hbeg
    refine ⟨fn, _, assign, body, hy, roundIn_of_wpIn hfn (hassign _ x W1 _ ⟨_, hbeg, ?_⟩)⟩
    refine wpIn_mono (hbody _ j x _ (by omega) (hRp j x W1 _ _ _ hR (by omega) hB.1 rfl) hj) ?_
    rintro e a3 W3 ⟨rfl, hk, hDn, hKp3⟩
    have b1 : (W1.putObj (w.heap.size + 1) (.loop { lp .ready none with state := .busy })).heap[w.heap.size + 1]? = some (.loop { lp .ready none with state := .busy }) := World.putObj_heap_same (by omega)
    have b2 : (W1.putObj (w.heap.size + 1) (.loop { lp .ready none with state := .busy })).heap[w.heap.size]? = some (.deferred (some [])) := (World.putObj_heap_other (by omega)).trans hB.2
    have hK1 := hKp W1 (w.heap.size + 1) _ (.loop { lp .ready none with state := .busy }) (by omega) hB.1 rfl
    rw [hlp] at b1 b2 hK1
    have c1 := hk.same _ _ (by omega) b1 rfl
    have c2 := hk.same _ _ (Nat.le_refl _) b2 rfl
    have hend := run_endRound (P := P) none c1
    refine ⟨_, _, hend, rfl, hDp _ _ _ _ _ hDn (by omega) c1 rfl, ?_, hKt _ _ _ hK1 (hKt _ _ _ hKp3 (hKp W3 _ _ _ (by omega) c1 rfl)), ?_, ?_⟩
    · refine ⟨?_, (World.putObj_heap_other (by omega)).trans c2⟩
      rw [hlp]
      exact World.putObj_heap_same (Array.getElem?_eq_some_iff.1 c1).1
    · have h1 := hk.size
      simp only [World.putObj, Array.size_setIfInBounds] at h1 ⊢
      exact h1
    · intro k o hkl hk2 ho hc
      exact (World.putObj_heap_other (by omega)).trans (hk.same k o hk2 ((World.putObj_heap_other (by omega)).trans ho) hc)
  · rintro e W2 ⟨⟨v, rfl⟩, hDN, hB⟩
    have hend := run_endLoop (P := P) hB.1 (by rw [hlp]; simp)
    rw [hlp] at hend
    exact ⟨none, _, hend, hdone _ _ (Nat.le_refl _) (hDp _ _ _ _ _ hDN (by omega) hB.1 rfl) ((World.putObj_heap_other (by omega)).trans hB.2)⟩
end

theorem yield_any {m : Nat} (m' : Nat) {P : Program} {l : Nat} {args : Array Value} {W : World} {R : Ending → World → Prop} (h : YieldAt Fence.wide m P l args W R) : YieldAt Fence.wide m' P l args W R := by
  obtain ⟨fn, tmps, assign, body, hy, hR⟩ := h
  exact ⟨fn, tmps, assign, body, hy, hR.1, fun c cs _ => hR.2 c cs (fun d hd => by cases hd)⟩
end Go.Proofs.Ytfdbcfkjablnkaa

namespace Go.Proofs.Ytfdbcfkjablnkaa
open Go.RowKit

/-- what a round's body leaves: it goes on (D), or it leaves by a code (X) -/
def stopPost (B : Nat) (Kp : World → World → Prop) (D : World → Prop) (X : Code → World → Prop) (W : World) : Exit → Act → World → Prop
  | .normal, _, W' => KeepsFrom B W W' ∧ D W' ∧ Kp W W'
  | .ret, _, W' => KeepsFrom B W W' ∧ X .ret W'
  | .exit id, _, W' => KeepsFrom B W W' ∧ X (.exit id) W'
  | _, _, _ => False
/-- what a yield answers, as the iterator sees it -/
def YPost (B l : Nat) (Kp : World → World → Prop) (D X : World → Prop) (W1 : World) (e : Ending) (W2 : World) : Prop :=
  (e = .returned (.bool true) ∧ D W2 ∧ Kp W1 W2 ∧ KeepsBut B l W1 W2) ∨ (e = .returned (.bool false) ∧ X W2 ∧ KeepsBut B l W1 W2)

section
variable {F : Fence} {n : Nat} {P : Program} {g : Operand} {ps : Array Tmp} {assign body : Code} {Q : Exit → Act → World → Prop} {a : Act} {w : World}
/-- .. where what is kept stands while a loop's own record turns (maps may lie above the loop's start) -/
theorem range_stopsL {α : Type} (hro : F.round = none) (h1 : 1 ≤ n) {gf : Nat} {lb : Array Value} (hg : a.eval g = .func (.func gf) #[] lb) (hFg : F.fn gf) (eg : ∀ args w, (callFunc gf args).run P w = .ok (.enter gf args) w)
    (enc : α → Array Value) (hps : ∀ x, (enc x).size = ps.size) (Rd : Nat → α → World → Prop) (Dn : Nat → World → Prop) (Sx : Code → World → Prop) (Kp : World → World → Prop) (N : Nat)
    (hRp : ∀ j x W l (o : Loop) o', Rd j x W → w.heap.size ≤ l → W.heap[l]? = some (.loop o) → Rd j x (W.putObj l o'))
    (hDp : ∀ j W l (o : Loop) o', Dn j W → w.heap.size ≤ l → W.heap[l]? = some (.loop o) → Dn j (W.putObj l o'))
    (hSp : ∀ c W l o o', Sx c W → w.heap.size ≤ l → W.heap[l]? = some o → o.isCells = false → Sx c (W.putObj l o'))
    (hKt : ∀ A B C, Kp A B → Kp B C → Kp A C)
    (hKp : ∀ W l o o', w.heap.size ≤ l → W.heap[l]? = some o → o.isCells = false → Kp W (W.putObj l o'))
    (hD0 : ∀ o, Dn 0 ((w.alloc (.deferred (some []))).alloc o)) (a₁ : α → Act)
    (hassign : ∀ (l : Nat) (x : α) (W : World) (K : Act → World → Prop), K (a₁ x) W → assign.wpIn (F.inRound l) (n - 1 - 1) P (Exit.then K (fun _ _ _ => False)) { tmps := (ps.zip (enc x)).foldl (fun t (p, v) => t.setIfInBounds p v) a.tmps, defers := [] } W)
    (hbody : ∀ (l j : Nat) (x : α) (W : World), w.heap.size ≤ l → Rd j x W → j < N → body.wpIn (F.inRound l) (n - 1 - 1) P (stopPost w.heap.size Kp (Dn (j + 1)) Sx W) (a₁ x) W)
    (hiter : ∀ (Bk : World → Prop) (X : World → Prop) (l : Nat) (W : World), (∀ A B, Bk A → A.heap.size ≤ B.heap.size → (∀ k, w.heap.size ≤ k → k < w.heap.size + 2 → B.heap[k]? = A.heap[k]?) → Bk B) → (∀ A, Bk A → w.heap.size + 2 ≤ A.heap.size) →
      (∀ A l' o o', X A → w.heap.size + 2 ≤ l' → A.heap[l']? = some o → o.isCells = false → X (A.putObj l' o')) → l < w.heap.size + 2 → Dn 0 W → Bk W →
      (∀ j x W1, Rd j x W1 → Bk W1 → j < N → YieldAt F (n - 1 - 1) P l (enc x) W1 (YPost w.heap.size l Kp (fun W2 => Dn (j + 1) W2 ∧ Bk W2) X W1)) →
      CallsIn F (n - 1) P gf (#[.func (.yield l) #[] #[]] ++ lb) W fun e W' => (∃ v, e = .returned v) ∧ ((Dn N W' ∧ Bk W') ∨ X W'))
    (hdone : ∀ (D : Nat) (W : World), w.heap.size ≤ D → Dn N W → W.heap[D]? = some (.deferred (some [])) → Q .normal { a with defers := { target := .collected D, args := #[] } :: a.defers } W)
    (hstop : ∀ (D : Nat) (c : Code) (W : World), w.heap.size ≤ D → Sx c W → W.heap[D]? = some (.deferred (some [])) → c.wpIn F n P Q { a with defers := { target := .collected D, args := #[] } :: a.defers } W) :
    (Code.rangeFunc g ps assign body).wpIn F n P Q a w := by
  apply wpIn_rangeFunc
  intro fn hfn
  rw [hro]
  have hent := run_enterLoop_outer (P := P) (w := w) fn a.tmps ps assign body
  obtain ⟨lp, hlp⟩ : ∃ lp : LoopState → Option Code → Loop, lp = fun st pe => { state := st, pending := pe, fn := fn, tmps := a.tmps, params := ps, assign := assign, body := body, defers := w.heap.size } := ⟨_, rfl⟩
  have hlp0 : ({ state := .ready, pending := none, fn, tmps := a.tmps, params := ps, assign, body, defers := w.heap.size } : Loop) = lp .ready none := by rw [hlp]
  rw [hlp0] at hent
  have hD0' := hD0 (.loop (lp .ready none))
  have hl0 : ((w.alloc (.deferred (some []))).alloc (.loop (lp .ready none))).heap[w.heap.size + 1]? = some (.loop (lp .ready none)) := by
    have h := World.alloc_heap_new (w.alloc (.deferred (some []))) (.loop (lp .ready none))
    rwa [World.size_alloc] at h
  have hd0 : ((w.alloc (.deferred (some []))).alloc (.loop (lp .ready none))).heap[w.heap.size]? = some (.deferred (some [])) := (Below.heap_alloc _ _ _ (by simp)).trans (World.alloc_heap_new w _)
  generalize (w.alloc (.deferred (some []))).alloc (.loop (lp .ready none)) = W0 at *
  refine ⟨_, _, _, { target := .fn (.func gf) lb, args := #[.func (.yield (w.heap.size + 1)) #[] #[]] }, W0, gf, #[.func (.yield (w.heap.size + 1)) #[] #[]] ++ lb, W0, hent, ?_, ?_, ?_, fun _ => h1, ?_⟩
  · simp only [resolve, hg]
    simp [go_sem]
  · intro f' hf'
    simp [Target.leads] at hf'
    subst hf'
    exact hFg
  · simp [invoke, go_sem, eg]
  let Bk : World → Prop := fun W => W.heap[w.heap.size + 1]? = some (.loop (lp .ready none)) ∧ W.heap[w.heap.size]? = some (.deferred (some []))
  let X : World → Prop := fun W => ∃ c, Sx c W ∧ W.heap[w.heap.size + 1]? = some (.loop (lp .done (some c))) ∧ W.heap[w.heap.size]? = some (.deferred (some []))
  have hBlt : ∀ A, Bk A → w.heap.size + 2 ≤ A.heap.size := fun A h => (Array.getElem?_eq_some_iff.1 h.1).1
  refine (hiter Bk X (w.heap.size + 1) W0 (fun A B hA _ hAB => ⟨(hAB _ (by omega) (by omega)).trans hA.1, (hAB _ (by omega) (by omega)).trans hA.2⟩) hBlt
    (fun A l' o o' hA hl' ho hc => by
      obtain ⟨c, h1, h2, h3⟩ := hA
      exact ⟨c, hSp c A l' o o' h1 (by omega) ho hc, (World.putObj_heap_other (by omega)).trans h2, (World.putObj_heap_other (by omega)).trans h3⟩) (by omega) hD0' ⟨hl0, hd0⟩ ?_).mono ?_
  · rintro j x W1 hR hB hj
    have hsz := hBlt W1 hB
    have hy := run_yield (P := P) (args := enc x) hB.1 (by rw [hlp]; exact hps x)
    have hbeg := run_beginRound (P := P) hB.1 (by rw [hlp])
    rw [hlp] at hy hbeg
    refine ⟨fn, _, assign, body, hy, roundIn_of_wpIn hfn (hassign _ x W1 _ ⟨_, hbeg, ?_⟩)⟩
    refine wpIn_mono (hbody _ j x _ (by omega) (hRp j x W1 _ _ _ hR (by omega) hB.1) hj) ?_
    have b1 : (W1.putObj (w.heap.size + 1) (.loop { lp .ready none with state := .busy })).heap[w.heap.size + 1]? = some (.loop { lp .ready none with state := .busy }) := World.putObj_heap_same (by omega)
    have b2 : (W1.putObj (w.heap.size + 1) (.loop { lp .ready none with state := .busy })).heap[w.heap.size]? = some (.deferred (some [])) := (World.putObj_heap_other (by omega)).trans hB.2
    have hK1 := hKp W1 (w.heap.size + 1) _ (.loop { lp .ready none with state := .busy }) (by omega) hB.1 rfl
    rw [hlp] at b1 b2 hK1
    have fin : ∀ (jump : Option Code) (W3 : World), KeepsFrom w.heap.size (W1.putObj (w.heap.size + 1) (.loop { lp .ready none with state := .busy })) W3 →
        (Instr.endRound (w.heap.size + 1) jump).run P W3 = .ok (.bool jump.isNone) (W3.putObj (w.heap.size + 1) (.loop (lp (if jump.isNone then .ready else .done) jump))) ∧
        W3.heap[w.heap.size + 1]? = some (.loop { lp .ready none with state := .busy }) ∧
        (W3.putObj (w.heap.size + 1) (.loop (lp (if jump.isNone then .ready else .done) jump))).heap[w.heap.size + 1]? = some (.loop (lp (if jump.isNone then .ready else .done) jump)) ∧
        (W3.putObj (w.heap.size + 1) (.loop (lp (if jump.isNone then .ready else .done) jump))).heap[w.heap.size]? = some (.deferred (some [])) ∧
        KeepsBut w.heap.size (w.heap.size + 1) W1 (W3.putObj (w.heap.size + 1) (.loop (lp (if jump.isNone then .ready else .done) jump))) := fun jump W3 hk => by
      rw [hlp] at hk ⊢
      have c1 := hk.same _ _ (by omega) b1 rfl
      have c2 := hk.same _ _ (Nat.le_refl _) b2 rfl
      have hend := run_endRound (P := P) jump c1
      refine ⟨hend, c1, World.putObj_heap_same (Array.getElem?_eq_some_iff.1 c1).1, (World.putObj_heap_other (by omega)).trans c2, ?_, ?_⟩
      · have h1 := hk.size
        simp only [World.putObj, Array.size_setIfInBounds] at h1 ⊢
        exact h1
      · intro k o hkl hk2 ho hc
        exact (World.putObj_heap_other (by omega)).trans (hk.same k o hk2 ((World.putObj_heap_other (by omega)).trans ho) hc)
    rintro e a3 W3 hp
    rw [hlp] at fin
    cases e with
    | normal =>
      obtain ⟨hk, hDn, hKp3⟩ := hp
      obtain ⟨hend, c1, d1, d2, hkb⟩ := fin none W3 hk
      exact ⟨_, _, hend, .inl ⟨rfl, ⟨hDp _ _ _ _ _ hDn (by omega) c1, by rw [hlp]; exact d1, d2⟩, hKt _ _ _ hK1 (hKt _ _ _ hKp3 (hKp W3 _ _ _ (by omega) c1 rfl)), hkb⟩⟩
    | ret =>
      obtain ⟨hk, hx⟩ := hp
      obtain ⟨hend, c1, d1, d2, hkb⟩ := fin (some .ret) W3 hk
      exact ⟨_, _, hend, .inr ⟨rfl, ⟨.ret, hSp _ _ _ _ _ hx (by omega) c1 rfl, by rw [hlp]; exact d1, d2⟩, hkb⟩⟩
    | exit id =>
      obtain ⟨hk, hx⟩ := hp
      obtain ⟨hend, c1, d1, d2, hkb⟩ := fin (some (.exit id)) W3 hk
      exact ⟨_, _, hend, .inr ⟨rfl, ⟨.exit id, hSp _ _ _ _ _ hx (by omega) c1 rfl, by rw [hlp]; exact d1, d2⟩, hkb⟩⟩
    | goto t => exact hp.elim
    | panic ch => exact hp.elim
    | outgrown => exact hp.elim
  · rintro e W2 ⟨⟨v, rfl⟩, ⟨hDN, hB⟩ | ⟨c, hc, hl, hd⟩⟩
    · have hend := run_endLoop (P := P) hB.1 (by rw [hlp]; simp)
      rw [hlp] at hend
      exact ⟨none, _, hend, hdone _ _ (Nat.le_refl _) (hDp _ _ _ _ _ hDN (by omega) hB.1) ((World.putObj_heap_other (by omega)).trans hB.2)⟩
    · have hend := run_endLoop (P := P) hl (by rw [hlp]; simp)
      rw [hlp] at hend
      exact ⟨some c, _, hend, hstop _ c _ (Nat.le_refl _) (hSp _ _ _ _ _ hc (by omega) hl rfl) ((World.putObj_heap_other (by omega)).trans hd)⟩
theorem range_stops {α : Type} (hro : F.round = none) (h1 : 1 ≤ n) {gf : Nat} {lb : Array Value} (hg : a.eval g = .func (.func gf) #[] lb) (hFg : F.fn gf) (eg : ∀ args w, (callFunc gf args).run P w = .ok (.enter gf args) w)
    (enc : α → Array Value) (hps : ∀ x, (enc x).size = ps.size) (Rd : Nat → α → World → Prop) (Dn : Nat → World → Prop) (Sx : Code → World → Prop) (Kp : World → World → Prop) (N : Nat)
    (hRp : ∀ j x W l o o', Rd j x W → w.heap.size ≤ l → W.heap[l]? = some o → o.isCells = false → Rd j x (W.putObj l o'))
    (hDp : ∀ j W l o o', Dn j W → w.heap.size ≤ l → W.heap[l]? = some o → o.isCells = false → Dn j (W.putObj l o'))
    (hSp : ∀ c W l o o', Sx c W → w.heap.size ≤ l → W.heap[l]? = some o → o.isCells = false → Sx c (W.putObj l o'))
    (hKt : ∀ A B C, Kp A B → Kp B C → Kp A C)
    (hKp : ∀ W l o o', w.heap.size ≤ l → W.heap[l]? = some o → o.isCells = false → Kp W (W.putObj l o'))
    (hD0 : ∀ o, Dn 0 ((w.alloc (.deferred (some []))).alloc o)) (a₁ : α → Act)
    (hassign : ∀ (l : Nat) (x : α) (W : World) (K : Act → World → Prop), K (a₁ x) W → assign.wpIn (F.inRound l) (n - 1 - 1) P (Exit.then K (fun _ _ _ => False)) { tmps := (ps.zip (enc x)).foldl (fun t (p, v) => t.setIfInBounds p v) a.tmps, defers := [] } W)
    (hbody : ∀ (l j : Nat) (x : α) (W : World), w.heap.size ≤ l → Rd j x W → j < N → body.wpIn (F.inRound l) (n - 1 - 1) P (stopPost w.heap.size Kp (Dn (j + 1)) Sx W) (a₁ x) W)
    (hiter : ∀ (Bk : World → Prop) (X : World → Prop) (l : Nat) (W : World), (∀ A B, Bk A → A.heap.size ≤ B.heap.size → (∀ k, w.heap.size ≤ k → k < w.heap.size + 2 → B.heap[k]? = A.heap[k]?) → Bk B) → (∀ A, Bk A → w.heap.size + 2 ≤ A.heap.size) →
      (∀ A l' o o', X A → w.heap.size + 2 ≤ l' → A.heap[l']? = some o → o.isCells = false → X (A.putObj l' o')) → l < w.heap.size + 2 → Dn 0 W → Bk W →
      (∀ j x W1, Rd j x W1 → Bk W1 → j < N → YieldAt F (n - 1 - 1) P l (enc x) W1 (YPost w.heap.size l Kp (fun W2 => Dn (j + 1) W2 ∧ Bk W2) X W1)) →
      CallsIn F (n - 1) P gf (#[.func (.yield l) #[] #[]] ++ lb) W fun e W' => (∃ v, e = .returned v) ∧ ((Dn N W' ∧ Bk W') ∨ X W'))
    (hdone : ∀ (D : Nat) (W : World), w.heap.size ≤ D → Dn N W → W.heap[D]? = some (.deferred (some [])) → Q .normal { a with defers := { target := .collected D, args := #[] } :: a.defers } W)
    (hstop : ∀ (D : Nat) (c : Code) (W : World), w.heap.size ≤ D → Sx c W → W.heap[D]? = some (.deferred (some [])) → c.wpIn F n P Q { a with defers := { target := .collected D, args := #[] } :: a.defers } W) :
    (Code.rangeFunc g ps assign body).wpIn F n P Q a w :=
  range_stopsL hro h1 hg hFg eg enc hps Rd Dn Sx Kp N (fun j x W l _ o' h hl ho => hRp j x W l _ o' h hl ho rfl) (fun j W l _ o' h hl ho => hDp j W l _ o' h hl ho rfl) hSp hKt hKp hD0 a₁ hassign hbody hiter hdone hstop
end
end Go.Proofs.Ytfdbcfkjablnkaa

namespace Go.Proofs.Ytfdbcfkjablnkaa
open Go.RowKit

/-- the blocks of S are as they were -/
def KeepS (S : Nat → Prop) (W W' : World) : Prop := W.heap.size ≤ W'.heap.size ∧ ∀ k, S k → W'.heap[k]? = W.heap[k]?
section
variable {S S' : Nat → Prop} {A B C : World}
theorem KeepS.refl (S : Nat → Prop) (W : World) : KeepS S W W := ⟨Nat.le_refl _, fun _ _ => rfl⟩
theorem KeepS.trans (h : KeepS S A B) (k : KeepS S B C) : KeepS S A C := ⟨Nat.le_trans h.1 k.1, fun i h1 => (k.2 i h1).trans (h.2 i h1)⟩
theorem KeepS.of_below {n : Nat} (h : Below n A B) (hS : ∀ k, S k → k < n) : KeepS S A B := ⟨h.size, fun k h1 => h.block k (hS k h1)⟩
theorem KeepS.cell (h : KeepS S A B) {p : Addr} (h1 : S p.block) : B.cell? p = A.cell? p := World.cell?_of_block (h.2 p.block h1)
theorem KeepS.less (h : KeepS S A B) (hS : ∀ k, S' k → S k) : KeepS S' A B := ⟨h.1, fun k hk => h.2 k (hS k hk)⟩
theorem KeepS.set (h : KeepS S A B) {b : Nat} (hb : ¬ S b) (v : Value) : KeepS S A (B.setCell ⟨b, 0, none⟩ v) :=
  ⟨by simpa [World.setCell] using h.1, fun k hk => (Below.heap_setCell B ⟨b, 0, none⟩ v k (fun e => by subst e; exact hb hk)).trans (h.2 k hk)⟩
theorem KeepS.grown {row : Option Nat} (h : KeepS S A B) (hg : B.grownBy C row) (hS : ∀ k, S k → k < B.heap.size) (hr : ∀ k, row = some k → ¬ S k) : KeepS S A C :=
  ⟨Nat.le_trans h.1 hg.size, fun k hk => (hg.block k (hS k hk) (fun e => hr k e.symm hk)).trans (h.2 k hk)⟩
theorem keepS_t (h : KeepS S A B) (k : KeepS S B C) : KeepS S A C := h.trans k
theorem keepS_b {w : World} (hh : ∀ k, S k → k < w.heap.size) (W : World) (l : Nat) (o o' : Obj) (hl : w.heap.size ≤ l) (_ho : W.heap[l]? = some o) (_h1 : o.isCells = false) (_h2 : o.isWalk = false) : KeepS S W (W.putObj l o') := by
  refine ⟨by simp [World.putObj], fun k hk => ?_⟩
  have := hh k hk
  simp only [World.putObj]
  rw [Array.getElem?_setIfInBounds]
  rw [if_neg (by omega)]
end

/-- the numbers zs lie at a, in a block of S -/
def NumsS (k : IntKind) (w : World) (S : Nat → Prop) (a : Option Addr) (zs : List Int) : Prop :=
  zs ≠ [] → ∃ b off, a = some ⟨b, off, none⟩ ∧ S b ∧ ∀ j c, zs[j]? = some c → w.cell? ⟨b, off + j, none⟩ = some (.int k c)
section
variable {k : IntKind} {S S' : Nat → Prop} {w w' : World} {B : Nat} {a : Option Addr} {zs : List Int}
theorem NumsS.nil : NumsS k w S a [] := fun h => absurd rfl h
theorem NumsS.keeps (h : NumsS k w S a zs) (hk : KeepS S w w') : NumsS k w' S a zs := fun hn => by
  obtain ⟨b, off, e, h1, hc⟩ := h hn
  exact ⟨b, off, e, h1, fun j c hj => (hk.cell (p := ⟨b, off + j, none⟩) h1).trans (hc j c hj)⟩
theorem NumsS.nums (h : NumsS k w S a zs) (hS : ∀ k, S k → k < B) : Nums k w B a zs := fun hn => by
  obtain ⟨b, off, e, h1, hc⟩ := h hn
  exact ⟨b, off, e, hS b h1, hc⟩
theorem NumsS.more (h : NumsS k w S a zs) (hS : ∀ k, S k → S' k) : NumsS k w S' a zs := fun hn => by
  obtain ⟨b, off, e, h1, hc⟩ := h hn
  exact ⟨b, off, e, hS b h1, hc⟩
theorem Nums.numsS (h : Nums k w B a zs) (hS : ∀ k, k < B → S k) : NumsS k w S a zs := fun hn => by
  obtain ⟨b, off, e, h1, hc⟩ := h hn
  exact ⟨b, off, e, hS b h1, hc⟩
theorem NumsS.take (h : NumsS k w S a zs) (n : Nat) : NumsS k w S a (zs.take n) := fun hn => by
  obtain ⟨b, off, e, h1, hc⟩ := h (by intro e; subst e; simp at hn)
  refine ⟨b, off, e, h1, fun j c hj => hc j c ?_⟩
  rw [List.getElem?_take] at hj
  by_cases hlt : j < n
  · simpa [hlt] using hj
  · simp [hlt] at hj
/-- cut ahead twice: the address as the walk spells it -/
theorem NumsS.drop2 {a' : Option Addr} (h : NumsS k w S a zs) {i j : Nat} (ha : i + j < zs.length → ∀ b o, a = some ⟨b, o, none⟩ → a' = some ⟨b, o + i + j, none⟩) : NumsS k w S a' (zs.drop (i + j)) := fun hn => by
  have hi' : i + j < zs.length := by
    rcases Nat.lt_or_ge (i + j) zs.length with h1 | h1
    · exact h1
    · exact absurd (List.drop_eq_nil_of_le h1) hn
  obtain ⟨b, off, rfl, hb, hcell⟩ := h (by intro e; subst e; simp at hi')
  refine ⟨b, off + i + j, ha hi' b off rfl, hb, fun q c hj => ?_⟩
  rw [Nat.add_assoc, Nat.add_assoc, ← Nat.add_assoc i j q]
  exact hcell (i + j + q) c (by rw [← hj, List.getElem?_drop])
end
theorem MadeK.numsS {e : TypeId} {k : IntKind} {w w1 : World} {L : List Int} {A : Option Addr} {n c : Nat} (h : MadeK e k w w1 L (.slice A n c)) (hn : L.length = n) : NumsS k w1 (fun b => w.heap.size ≤ b ∧ b < w1.heap.size) A L := fun h0 => by
  subst hn
  obtain ⟨b, off, rfl, hb, hc⟩ := Nums.of_own h.1 h0
  exact ⟨b, off, rfl, ⟨(h.own_ge (g := b) rfl).1, hb⟩, hc⟩
end Go.Proofs.Ytfdbcfkjablnkaa

namespace Go.Proofs.Ytfdbcfkjablnkaa
open Go.RowKit Go.Shelf
set_option maxRecDepth 100000
attribute [local go_sem] Oper.semAt_some

/-- the cells of the four parts -/
def ptC (v k i c m : Int) : Array Value := #[.int .i64 v, .int .i64 1, .int .i64 2, .int .i64 10, .int .i64 k, .int .i64 1, .int .i64 5, .int .i64 9, .int .i64 c, .int .i64 1, .int .i64 255, .int .i64 3, .int .i64 i, .int .i64 0, .int .i64 m, .int .i64 3]

theorem hparts_any (v k s i c : Int) (w : World) :
    Calls Try.prog 60 #[hdV v k s i c] w fun e w' => ∃ g, e = .returned (.func (.func 67) #[] #[.pointer (some ⟨g, 0, none⟩)]) ∧ w.heap.size ≤ g ∧ w'.heap[g]? = some (.cells (ptC v k i c (wrap64 (c - 1))) 118 (0, 0)) ∧ Below w.heap.size w w' := by
  unfold hdV
  go_enter Try.func60, Try.ntmps60
  go_wp2
  go_ret
  exact ⟨_, rfl, Nat.le_succ _, by rw [show w.heap.size + 1 = (w.alloc (.cells #[.int .i64 v, .int .i64 k, .int .u32 s, .int .i64 i, .int .i64 c] 32)).heap.size by simp]; exact World.alloc_heap_new _ _, ((Below.refl _ w).alloc (Nat.le_refl _) _).alloc (by simp) _⟩

end Go.Proofs.Ytfdbcfkjablnkaa

namespace Go.Proofs.Ytfdbcfkjablnkaa
open Go.RowKit Go.Shelf
set_option maxRecDepth 100000
attribute [local go_sem] Oper.semAt_some

/-- the j-th part -/
def ptCs (v k i c m : Int) : Nat → Array Value
  | 0 => #[.int .i64 v, .int .i64 1, .int .i64 2, .int .i64 10]
  | 1 => #[.int .i64 k, .int .i64 1, .int .i64 5, .int .i64 9]
  | 2 => #[.int .i64 c, .int .i64 1, .int .i64 255, .int .i64 3]
  | _ => #[.int .i64 i, .int .i64 0, .int .i64 m, .int .i64 3]
def ptV (v k i c m : Int) (j : Nat) : Value := .agg (ptCs v k i c m j)

theorem idx_part (v k i c m : Int) (W : World) :
    (Instr.index 118 (.agg (ptC v k i c m)) (.int .i64 0)).run Try.prog W = .ok (.agg (ptCs v k i c m 0)) W ∧ (Instr.index 118 (.agg (ptC v k i c m)) (.int .i64 1)).run Try.prog W = .ok (.agg (ptCs v k i c m 1)) W ∧
    (Instr.index 118 (.agg (ptC v k i c m)) (.int .i64 2)).run Try.prog W = .ok (.agg (ptCs v k i c m 2)) W ∧ (Instr.index 118 (.agg (ptC v k i c m)) (.int .i64 3)).run Try.prog W = .ok (.agg (ptCs v k i c m 3)) W := by
  refine ⟨?_, ?_, ?_, ?_⟩ <;> simp [Instr.index, run_underlying Try.underlying118, asIntOf, part, go_sem, Try.sizeOf111, ptC, ptCs]

set_option maxHeartbeats 2000000 in
theorem hparts_in (n : Nat) (hn : 1 ≤ n) (m' l g : Nat) (v k i c m : Int) (J : Nat → World → Prop) (Jx : World → Prop) (hJ : ∀ j A cs t, J j A → J j (A.alloc (.cells cs t)))
    (hY : ∀ j W, J j W → j < 4 → YieldAt Fence.wide m' Try.prog l #[ptV v k i c m j] W fun e W' => (e = .returned (.bool true) ∧ J (j + 1) W') ∨ (e = .returned (.bool false) ∧ Jx W'))
    (W : World) (hg : W.heap[g]? = some (.cells (ptC v k i c m) 118 (0, 0))) (h0 : J 0 W) :
    CallsIn Fence.wide n Try.prog 67 #[.func (.yield l) #[] #[], .pointer (some ⟨g, 0, none⟩)] W fun e W' => (∃ v, e = .returned v) ∧ (J 4 W' ∨ Jx W') := by
  have hc : ∀ j x, (ptC v k i c m)[j]? = some x → W.cell? ⟨g, j, none⟩ = some x := fun j x hx => by simp [World.cell?, hg, hx]
  unfold ptC at hc
  have c0 := hc 0 _ rfl; have c1 := hc 1 _ rfl; have c2 := hc 2 _ rfl; have c3 := hc 3 _ rfl
  have c4 := hc 4 _ rfl; have c5 := hc 5 _ rfl; have c6 := hc 6 _ rfl; have c7 := hc 7 _ rfl
  have c8 := hc 8 _ rfl; have c9 := hc 9 _ rfl; have c10 := hc 10 _ rfl; have c11 := hc 11 _ rfl
  have c12 := hc 12 _ rfl; have c13 := hc 13 _ rfl; have c14 := hc 14 _ rfl; have c15 := hc 15 _ rfl
  clear hc hg
  refine callsIn_of_wp Try.func67 rfl trivial ?_ rfl
  simp only [Try.ntmps67, List.size_toArray, List.length_cons, List.length_nil, Nat.reduceAdd, Nat.reduceSub, Array.replicate_succ, Array.replicate_zero, List.push_toArray, List.append_toArray, List.nil_append, List.cons_append]
  gi_wp2
  clear c0 c1 c2 c3 c4 c5 c6 c7 c8 c9 c10 c11 c12 c13 c14 c15
  gi_loopw [6] (fun x wr => ∃ j : Nat, j ≤ 4 ∧ x = .int .i64 (j : Int) ∧ J j wr) (fun x _ => 4 - (intOf x).toNat)
  case atStart => exact ⟨0, by omega, rfl, h0⟩
  case round =>
    obtain ⟨j, hj, rfl, hJj⟩ := hrel
    by_cases h4 : j = 4
    · subst h4
      gi_wp2
      go_end0
      exact ⟨⟨_, rfl⟩, .inl hJj⟩
    · have HYa := Lib.hid (fun cs t => hY j _ (hJ j _ cs t hJj) (by omega))
      clear hJj
      obtain rfl | rfl | rfl | rfl : j = 0 ∨ j = 1 ∨ j = 2 ∨ j = 3 := by omega
      · have HY0 := HYa.out (ptCs v k i c m 0) 111
        have hix := fun W => (idx_part v k i c m W).1
        simp only [ptC, ptCs] at hix
        clear HYa
        simp only [ptV, ptCs] at HY0
        obtain ⟨fn, tmps, assign, body, hy, hR⟩ := yield_any (n - 1) HY0
        have HR := Lib.hid hR
        clear hR HY0
        gi_wp2_with fail
        refine HR.out.mono ?_
        rintro e W3 (⟨rfl, hJ3⟩ | ⟨rfl, hJx3⟩)
        · gi_wp2
          go_roundw
          case rel => exact ⟨1, by omega, by go_num, hJ3⟩
          case measure => simp [intOf]
        · gi_wp2
          refine bodyPost_ret (results_none rfl _ _ _) rfl ?_
          exact ⟨⟨_, rfl⟩, .inr hJx3⟩
      · have HY0 := HYa.out (ptCs v k i c m 1) 111
        have hix := fun W => (idx_part v k i c m W).2.1
        simp only [ptC, ptCs] at hix
        clear HYa
        simp only [ptV, ptCs] at HY0
        obtain ⟨fn, tmps, assign, body, hy, hR⟩ := yield_any (n - 1) HY0
        have HR := Lib.hid hR
        clear hR HY0
        gi_wp2_with fail
        refine HR.out.mono ?_
        rintro e W3 (⟨rfl, hJ3⟩ | ⟨rfl, hJx3⟩)
        · gi_wp2
          go_roundw
          case rel => exact ⟨2, by omega, by go_num, hJ3⟩
          case measure => simp [intOf]
        · gi_wp2
          refine bodyPost_ret (results_none rfl _ _ _) rfl ?_
          exact ⟨⟨_, rfl⟩, .inr hJx3⟩
      · have HY0 := HYa.out (ptCs v k i c m 2) 111
        have hix := fun W => (idx_part v k i c m W).2.2.1
        simp only [ptC, ptCs] at hix
        clear HYa
        simp only [ptV, ptCs] at HY0
        obtain ⟨fn, tmps, assign, body, hy, hR⟩ := yield_any (n - 1) HY0
        have HR := Lib.hid hR
        clear hR HY0
        gi_wp2_with fail
        refine HR.out.mono ?_
        rintro e W3 (⟨rfl, hJ3⟩ | ⟨rfl, hJx3⟩)
        · gi_wp2
          go_roundw
          case rel => exact ⟨3, by omega, by go_num, hJ3⟩
          case measure => simp [intOf]
        · gi_wp2
          refine bodyPost_ret (results_none rfl _ _ _) rfl ?_
          exact ⟨⟨_, rfl⟩, .inr hJx3⟩
      · have HY0 := HYa.out (ptCs v k i c m 3) 111
        have hix := fun W => (idx_part v k i c m W).2.2.2
        simp only [ptC, ptCs] at hix
        clear HYa
        simp only [ptV, ptCs] at HY0
        obtain ⟨fn, tmps, assign, body, hy, hR⟩ := yield_any (n - 1) HY0
        have HR := Lib.hid hR
        clear hR HY0
        gi_wp2_with fail
        refine HR.out.mono ?_
        rintro e W3 (⟨rfl, hJ3⟩ | ⟨rfl, hJx3⟩)
        · gi_wp2
          go_roundw
          case rel => exact ⟨4, by omega, by go_num, hJ3⟩
          case measure => simp [intOf]
        · gi_wp2
          refine bodyPost_ret (results_none rfl _ _ _) rfl ?_
          exact ⟨⟨_, rfl⟩, .inr hJx3⟩
end Go.Proofs.Ytfdbcfkjablnkaa

namespace Go.Proofs.Ytfdbcfkjablnkaa
open Go.RowKit

section
variable {F : Fence} {n : Nat} {P : Program} {g : Operand} {ps : Array Tmp} {assign body : Code} {Q : Exit → Act → World → Prop} {a : Act} {w : World}
theorem range_stopa {α : Type} (hro : F.round = none) (h1 : 1 ≤ n) {gf : Nat} {lb : Array Value} (hg : a.eval g = .func (.func gf) #[] lb) (hFg : F.fn gf) (eg : ∀ args w, (callFunc gf args).run P w = .ok (.enter gf args) w)
    (enc : α → Array Value) (hps : ∀ x, (enc x).size = ps.size) (Rd : Nat → α → World → Prop) (Ra : Nat → α → Act → World → Prop) (Dn : Nat → World → Prop) (Sx : Code → World → Prop) (Kp : World → World → Prop) (N : Nat)
    (hRp : ∀ j x b W l o o', Ra j x b W → w.heap.size ≤ l → W.heap[l]? = some o → o.isCells = false → Ra j x b (W.putObj l o'))
    (hDp : ∀ j W l o o', Dn j W → w.heap.size ≤ l → W.heap[l]? = some o → o.isCells = false → Dn j (W.putObj l o'))
    (hSp : ∀ c W l o o', Sx c W → w.heap.size ≤ l → W.heap[l]? = some o → o.isCells = false → Sx c (W.putObj l o'))
    (hKt : ∀ A B C, Kp A B → Kp B C → Kp A C)
    (hKp : ∀ W l o o', w.heap.size ≤ l → W.heap[l]? = some o → o.isCells = false → Kp W (W.putObj l o'))
    (hD0 : ∀ o, Dn 0 ((w.alloc (.deferred (some []))).alloc o))
    (hassign : ∀ (l j : Nat) (x : α) (W : World) (K : Act → World → Prop), Rd j x W → j < N → (∀ b W', Ra j x b W' → KeepsFrom w.heap.size W W' → Kp W W' → K b W') →
      assign.wpIn (F.inRound l) (n - 1 - 1) P (Exit.then K (fun _ _ _ => False)) { tmps := (ps.zip (enc x)).foldl (fun t (p, v) => t.setIfInBounds p v) a.tmps, defers := [] } W)
    (hbody : ∀ (l j : Nat) (x : α) (b : Act) (W : World), w.heap.size ≤ l → Ra j x b W → j < N → body.wpIn (F.inRound l) (n - 1 - 1) P (stopPost w.heap.size Kp (Dn (j + 1)) Sx W) b W)
    (hiter : ∀ (Bk : World → Prop) (X : World → Prop) (l : Nat) (W : World), (∀ A B, Bk A → A.heap.size ≤ B.heap.size → (∀ k, w.heap.size ≤ k → k < w.heap.size + 2 → B.heap[k]? = A.heap[k]?) → Bk B) → (∀ A, Bk A → w.heap.size + 2 ≤ A.heap.size) →
      (∀ A l' o o', X A → w.heap.size + 2 ≤ l' → A.heap[l']? = some o → o.isCells = false → X (A.putObj l' o')) → l < w.heap.size + 2 → Dn 0 W → Bk W →
      (∀ j x W1, Rd j x W1 → Bk W1 → j < N → YieldAt F (n - 1 - 1) P l (enc x) W1 (YPost w.heap.size l Kp (fun W2 => Dn (j + 1) W2 ∧ Bk W2) X W1)) →
      CallsIn F (n - 1) P gf (#[.func (.yield l) #[] #[]] ++ lb) W fun e W' => (∃ v, e = .returned v) ∧ ((Dn N W' ∧ Bk W') ∨ X W'))
    (hdone : ∀ (D : Nat) (W : World), w.heap.size ≤ D → Dn N W → W.heap[D]? = some (.deferred (some [])) → Q .normal { a with defers := { target := .collected D, args := #[] } :: a.defers } W)
    (hstop : ∀ (D : Nat) (c : Code) (W : World), w.heap.size ≤ D → Sx c W → W.heap[D]? = some (.deferred (some [])) → c.wpIn F n P Q { a with defers := { target := .collected D, args := #[] } :: a.defers } W) :
    (Code.rangeFunc g ps assign body).wpIn F n P Q a w := by
  apply wpIn_rangeFunc
  intro fn hfn
  rw [hro]
  have hent := run_enterLoop_outer (P := P) (w := w) fn a.tmps ps assign body
  obtain ⟨lp, hlp⟩ : ∃ lp : LoopState → Option Code → Loop, lp = fun st pe => { state := st, pending := pe, fn := fn, tmps := a.tmps, params := ps, assign := assign, body := body, defers := w.heap.size } := ⟨_, rfl⟩
  have hlp0 : ({ state := .ready, pending := none, fn, tmps := a.tmps, params := ps, assign, body, defers := w.heap.size } : Loop) = lp .ready none := by rw [hlp]
  rw [hlp0] at hent
  have hD0' := hD0 (.loop (lp .ready none))
  have hl0 : ((w.alloc (.deferred (some []))).alloc (.loop (lp .ready none))).heap[w.heap.size + 1]? = some (.loop (lp .ready none)) := by
    have h := World.alloc_heap_new (w.alloc (.deferred (some []))) (.loop (lp .ready none))
    rwa [World.size_alloc] at h
  have hd0 : ((w.alloc (.deferred (some []))).alloc (.loop (lp .ready none))).heap[w.heap.size]? = some (.deferred (some [])) := (Below.heap_alloc _ _ _ (by simp)).trans (World.alloc_heap_new w _)
  generalize (w.alloc (.deferred (some []))).alloc (.loop (lp .ready none)) = W0 at *
  refine ⟨_, _, _, { target := .fn (.func gf) lb, args := #[.func (.yield (w.heap.size + 1)) #[] #[]] }, W0, gf, #[.func (.yield (w.heap.size + 1)) #[] #[]] ++ lb, W0, hent, ?_, ?_, ?_, fun _ => h1, ?_⟩
  · simp only [resolve, hg]
    simp [go_sem]
  · intro f' hf'
    simp [Target.leads] at hf'
    subst hf'
    exact hFg
  · simp [invoke, go_sem, eg]
  let Bk : World → Prop := fun W => W.heap[w.heap.size + 1]? = some (.loop (lp .ready none)) ∧ W.heap[w.heap.size]? = some (.deferred (some []))
  let X : World → Prop := fun W => ∃ c, Sx c W ∧ W.heap[w.heap.size + 1]? = some (.loop (lp .done (some c))) ∧ W.heap[w.heap.size]? = some (.deferred (some []))
  have hBlt : ∀ A, Bk A → w.heap.size + 2 ≤ A.heap.size := fun A h => (Array.getElem?_eq_some_iff.1 h.1).1
  refine (hiter Bk X (w.heap.size + 1) W0 (fun A B hA _ hAB => ⟨(hAB _ (by omega) (by omega)).trans hA.1, (hAB _ (by omega) (by omega)).trans hA.2⟩) hBlt
    (fun A l' o o' hA hl' ho hc => by
      obtain ⟨c, h1, h2, h3⟩ := hA
      exact ⟨c, hSp c A l' o o' h1 (by omega) ho hc, (World.putObj_heap_other (by omega)).trans h2, (World.putObj_heap_other (by omega)).trans h3⟩) (by omega) hD0' ⟨hl0, hd0⟩ ?_).mono ?_
  · rintro j x W1 hR hB hj
    have hsz := hBlt W1 hB
    have hy := run_yield (P := P) (args := enc x) hB.1 (by rw [hlp]; exact hps x)
    rw [hlp] at hy
    refine ⟨fn, _, assign, body, hy, roundIn_of_wpIn hfn (hassign _ j x W1 _ hR hj (fun b2 W2 hR2 hkf hKp2 => ?_))⟩
    have hB2 : Bk W2 := ⟨hkf.same _ _ (by omega) hB.1 rfl, hkf.same _ _ (Nat.le_refl _) hB.2 rfl⟩
    have hsz2 := hBlt W2 hB2
    have hbeg := run_beginRound (P := P) hB2.1 (by rw [hlp])
    rw [hlp] at hbeg
    refine ⟨_, hbeg, ?_⟩
    refine wpIn_mono (hbody _ j x b2 _ (by omega) (hRp j x b2 W2 _ _ _ hR2 (by omega) hB2.1 rfl) hj) ?_
    have b1 : (W2.putObj (w.heap.size + 1) (.loop { lp .ready none with state := .busy })).heap[w.heap.size + 1]? = some (.loop { lp .ready none with state := .busy }) := World.putObj_heap_same (by omega)
    have b2 : (W2.putObj (w.heap.size + 1) (.loop { lp .ready none with state := .busy })).heap[w.heap.size]? = some (.deferred (some [])) := (World.putObj_heap_other (by omega)).trans hB2.2
    have hK1 := hKp W2 (w.heap.size + 1) _ (.loop { lp .ready none with state := .busy }) (by omega) hB2.1 rfl
    rw [hlp] at b1 b2 hK1
    have fin : ∀ (jump : Option Code) (W3 : World), KeepsFrom w.heap.size (W2.putObj (w.heap.size + 1) (.loop { lp .ready none with state := .busy })) W3 →
        (Instr.endRound (w.heap.size + 1) jump).run P W3 = .ok (.bool jump.isNone) (W3.putObj (w.heap.size + 1) (.loop (lp (if jump.isNone then .ready else .done) jump))) ∧
        W3.heap[w.heap.size + 1]? = some (.loop { lp .ready none with state := .busy }) ∧
        (W3.putObj (w.heap.size + 1) (.loop (lp (if jump.isNone then .ready else .done) jump))).heap[w.heap.size + 1]? = some (.loop (lp (if jump.isNone then .ready else .done) jump)) ∧
        (W3.putObj (w.heap.size + 1) (.loop (lp (if jump.isNone then .ready else .done) jump))).heap[w.heap.size]? = some (.deferred (some [])) ∧
        KeepsBut w.heap.size (w.heap.size + 1) W1 (W3.putObj (w.heap.size + 1) (.loop (lp (if jump.isNone then .ready else .done) jump))) := fun jump W3 hk => by
      rw [hlp] at hk ⊢
      have c1 := hk.same _ _ (by omega) b1 rfl
      have c2 := hk.same _ _ (Nat.le_refl _) b2 rfl
      have hend := run_endRound (P := P) jump c1
      refine ⟨hend, c1, World.putObj_heap_same (Array.getElem?_eq_some_iff.1 c1).1, (World.putObj_heap_other (by omega)).trans c2, ?_, ?_⟩
      · have h1 := hk.size
        have h2 := hkf.size
        simp only [World.putObj, Array.size_setIfInBounds] at h1 ⊢
        omega
      · intro k o hkl hk2 ho hc
        exact (World.putObj_heap_other (by omega)).trans (hk.same k o hk2 ((World.putObj_heap_other (by omega)).trans (hkf.same k o hk2 ho hc)) hc)
    rintro e a3 W3 hp
    rw [hlp] at fin
    cases e with
    | normal =>
      obtain ⟨hk, hDn, hKp3⟩ := hp
      obtain ⟨hend, c1, d1, d2, hkb⟩ := fin none W3 hk
      exact ⟨_, _, hend, .inl ⟨rfl, ⟨hDp _ _ _ _ _ hDn (by omega) c1 rfl, by rw [hlp]; exact d1, d2⟩, hKt _ _ _ hKp2 (hKt _ _ _ hK1 (hKt _ _ _ hKp3 (hKp W3 _ _ _ (by omega) c1 rfl))), hkb⟩⟩
    | ret =>
      obtain ⟨hk, hx⟩ := hp
      obtain ⟨hend, c1, d1, d2, hkb⟩ := fin (some .ret) W3 hk
      exact ⟨_, _, hend, .inr ⟨rfl, ⟨.ret, hSp _ _ _ _ _ hx (by omega) c1 rfl, by rw [hlp]; exact d1, d2⟩, hkb⟩⟩
    | exit id =>
      obtain ⟨hk, hx⟩ := hp
      obtain ⟨hend, c1, d1, d2, hkb⟩ := fin (some (.exit id)) W3 hk
      exact ⟨_, _, hend, .inr ⟨rfl, ⟨.exit id, hSp _ _ _ _ _ hx (by omega) c1 rfl, by rw [hlp]; exact d1, d2⟩, hkb⟩⟩
    | goto t => exact hp.elim
    | panic ch => exact hp.elim
    | outgrown => exact hp.elim
  · rintro e W2 ⟨⟨v, rfl⟩, ⟨hDN, hB⟩ | ⟨c, hc, hl, hd⟩⟩
    · have hend := run_endLoop (P := P) hB.1 (by rw [hlp]; simp)
      rw [hlp] at hend
      exact ⟨none, _, hend, hdone _ _ (Nat.le_refl _) (hDp _ _ _ _ _ hDN (by omega) hB.1 rfl) ((World.putObj_heap_other (by omega)).trans hB.2)⟩
    · have hend := run_endLoop (P := P) hl (by rw [hlp]; simp)
      rw [hlp] at hend
      exact ⟨some c, _, hend, hstop _ c _ (Nat.le_refl _) (hSp _ _ _ _ _ hc (by omega) hl rfl) ((World.putObj_heap_other (by omega)).trans hd)⟩
end
end Go.Proofs.Ytfdbcfkjablnkaa

namespace Go.Proofs.Ytfdbcfkjablnkaa
open Go.RowKit

/-- whatever is cells, but block b, is as it was -/
structure KpC (b : Nat) (W W' : World) : Prop where
  size : W.heap.size ≤ W'.heap.size
  same : ∀ (k : Nat) (o : Obj), k ≠ b → W.heap[k]? = some o → o.isCells = true → W'.heap[k]? = some o
theorem KpC.trans {b : Nat} {A B C : World} (h : KpC b A B) (k : KpC b B C) : KpC b A C := ⟨Nat.le_trans h.size k.size, fun i o hi ho hc => k.same i o hi (h.same i o hi ho hc) hc⟩
theorem KpC.putObj {b l : Nat} {W : World} {o o' : Obj} (ho : W.heap[l]? = some o) (hc : o.isCells = false) : KpC b W (W.putObj l o') := by
  refine ⟨by simp [World.putObj], fun k p hk hp hpc => (World.putObj_heap_other (fun e => ?_)).trans hp⟩
  subst e
  rw [hp] at ho
  injection ho with ho
  subst ho
  rw [hpc] at hc; cases hc
theorem KpC.of_below {b : Nat} {W W' : World} (h : Below W.heap.size W W') : KpC b W W' := ⟨h.size, fun k _ _ ho _ => (h.block k (Array.getElem?_eq_some_iff.1 ho).1).trans ho⟩
theorem KpC.set {b : Nat} {W W' : World} (h : KpC b W W') (v : Value) : KpC b W (W'.setCell ⟨b, 0, none⟩ v) :=
  ⟨by simpa [World.setCell] using h.size, fun k _ hk ho hc => (Below.heap_setCell W' ⟨b, 0, none⟩ v k (fun e => hk (by simpa using e))).trans (h.same k _ hk ho hc)⟩

theorem below_put {B l : Nat} (W : World) (o' : Obj) (h : B ≤ l) : Below B W (W.putObj l o') := ⟨rfl, rfl, rfl, by simp [World.putObj], fun k hk => World.putObj_heap_other (by omega)⟩
end Go.Proofs.Ytfdbcfkjablnkaa

namespace Go.Proofs.Ytfdbcfkjablnkaa
open Go.RowKit

theorem cells_of_cell {W : World} {p : Addr} {v : Value} (h : W.cell? p = some v) : ∃ o : Obj, W.heap[p.block]? = some o ∧ o.isCells = true := by
  unfold World.cell? at h
  cases ho : W.heap[p.block]? with
  | none => simp [ho] at h
  | some o => exact ⟨o, rfl, by cases o <;> simp_all [Obj.isCells]⟩
theorem Nums.putObj {k : IntKind} {V : World} {B l : Nat} {a : Option Addr} {zs : List Int} {o : Obj} (h : Nums k V B a zs) (ho : V.heap[l]? = some o) (hc : o.isCells = false) (o' : Obj) : Nums k (V.putObj l o') B a zs := fun hn => by
  obtain ⟨b, off, e, hb, hcl⟩ := h hn
  refine ⟨b, off, e, hb, fun j c hj => ?_⟩
  have h1 := hcl j c hj
  obtain ⟨o2, h2, h3⟩ := cells_of_cell h1
  refine (World.cell?_of_block (World.putObj_heap_other (fun e => ?_))).trans h1
  simp only at h2 e
  subst e
  rw [ho] at h2
  injection h2 with h2
  subst h2
  rw [hc] at h3; cases h3
theorem off_below {S : Nat → Prop} {w V V' : World} (h : Off S w V) (hb : Below w.heap.size V V') : Off S w V' :=
  ⟨hb.os.trans h.os, hb.tape.trans h.tape, hb.output.trans h.output, Nat.le_trans h.size hb.size, fun k hk hn => (hb.block k hk).trans (h.block k hk hn)⟩
/-- behind j rounds of the law's loop: the box b holds j, all else is as it was -/
def Ld (w : World) (b : Nat) (t : TypeId) (j : Nat) (V : World) : Prop := Boxed V b t (.int .i64 ((j : Nat) : Int)) ∧ Off (fun k => k = b) w V
theorem Ld.below {w V V' : World} {b : Nat} {t : TypeId} {j : Nat} (h : Ld w b t j V) (hb : b < w.heap.size) (hB : Below w.heap.size V V') : Ld w b t j V' :=
  ⟨(hB.block b hb).trans h.1, off_below h.2 hB⟩
theorem Ld.next {w V V1 : World} {b : Nat} {t : TypeId} {j : Nat} (h : Ld w b t j V) (hb : b < w.heap.size) (h1 : Below w.heap.size V V1) : Ld w b t (j + 1) (V1.setCell ⟨b, 0, none⟩ (.int .i64 ((j : Int) + 1))) :=
  ⟨by have := Boxed.set (.int .i64 ((j : Int) + 1)) ((h1.block b hb).trans h.1 : Boxed V1 b t _); rw [Int.natCast_succ]; exact this, (off_below h.2 h1).setCell (p := ⟨b, 0, none⟩) rfl _⟩
theorem Ld.keepS {S : Nat → Prop} {V : World} {b : Nat} (hb : ¬ S b) (v : Value) : KeepS S V (V.setCell ⟨b, 0, none⟩ v) := (KeepS.refl S V).set hb v
end Go.Proofs.Ytfdbcfkjablnkaa

namespace Go.Proofs.Ytfdbcfkjablnkaa
open Go.RowKit Go.Shelf
set_option maxRecDepth 100000
attribute [local go_sem] Oper.semAt_some

/-- the parts ahead of the j-th are as they may be -/
def okTo (v k i c : Int) (j : Nat) : Prop := (0 < j → 1 ≤ v ∧ v ≤ 2) ∧ (1 < j → 1 ≤ k ∧ k ≤ 5) ∧ (2 < j → 1 ≤ c ∧ c ≤ 255) ∧ (3 < j → 0 ≤ i ∧ i < c)

theorem part_at {v k i c : Int} {j : Nat} (hj : j < 4) (h : okTo v k i c j) : ∃ x le mo wr : Int, ptCs v k i c (wrap64 (c - 1)) j = #[.int .i64 x, .int .i64 le, .int .i64 mo, .int .i64 wr] ∧
    (le ≤ x → x ≤ mo → okTo v k i c (j + 1)) ∧ (x < le ∨ mo < x → chk v k i c = wr) := by
  obtain ⟨h0, h1, h2, h3⟩ := h
  obtain rfl | rfl | rfl | rfl : j = 0 ∨ j = 1 ∨ j = 2 ∨ j = 3 := by omega
  · exact ⟨_, _, _, _, rfl, fun a b => ⟨fun _ => ⟨a, b⟩, by omega, by omega, by omega⟩, fun h => by unfold chk; rw [if_pos h]⟩
  · have := h0 (by omega)
    exact ⟨_, _, _, _, rfl, fun a b => ⟨fun _ => h0 (by omega), fun _ => ⟨a, b⟩, by omega, by omega⟩, fun h => by unfold chk; rw [if_neg (by omega), if_pos h]⟩
  · have := h0 (by omega)
    have := h1 (by omega)
    exact ⟨_, _, _, _, rfl, fun a b => ⟨fun _ => h0 (by omega), fun _ => h1 (by omega), fun _ => ⟨a, b⟩, by omega⟩, fun h => by unfold chk; rw [if_neg (by omega), if_neg (by omega), if_pos (by omega)]⟩
  · have := h0 (by omega)
    have := h1 (by omega)
    have := h2 (by omega)
    have hw : wrap64 (c - 1) = c - 1 := by unfold wrap64; omega
    rw [hw]
    exact ⟨_, _, _, _, rfl, fun a b => ⟨fun _ => h0 (by omega), fun _ => h1 (by omega), fun _ => h2 (by omega), fun _ => ⟨a, by omega⟩⟩, fun h => by unfold chk; rw [if_neg (by omega), if_neg (by omega), if_pos (by omega)]⟩

set_option maxHeartbeats 4000000 in
theorem check_any (v k s i c : Int) (w : World) :
    Calls Try.prog 47 #[hdV v k s i c] w fun e w' => e = .returned (.int .i64 (chk v k i c)) ∧ Below w.heap.size w w' := by
  obtain ⟨w0, hw0⟩ : ∃ w0, (w.alloc (.cells #[.int .i64 v, .int .i64 k, .int .u32 s, .int .i64 i, .int .i64 c] 32)).alloc (.cells #[.int .i64 0] 27) = w0 := ⟨_, rfl⟩
  have hs0 : w0.heap.size = w.heap.size + 2 := by rw [← hw0]; simp
  have hb0 : Below w.heap.size w w0 := by rw [← hw0]; exact ((Below.refl _ w).alloc (Nat.le_refl _) _).alloc (by simp) _
  have bF0 : Boxed w0 (w.heap.size + 1) 27 (.int .i64 0) := by
    rw [← hw0]
    have := Boxed.new (w.alloc (.cells #[.int .i64 v, .int .i64 k, .int .u32 s, .int .i64 i, .int .i64 c] 32)) 27 (.int .i64 0)
    rwa [World.size_alloc] at this
  have HP := Lib.hid (hparts_any v k s i c)
  have HW := Lib.hid hw0
  clear hw0
  unfold hdV at HP ⊢
  refine (callsIn_wide (n := 9)).1 ?_
  refine callsIn_of_wp_marks Try.func47 rfl trivial ?_ rfl
  simp only [Try.ntmps47, List.size_toArray, List.length_cons, List.length_nil, Nat.reduceAdd, Nat.reduceSub, Array.replicate_succ, Array.replicate_zero, List.push_toArray, List.append_toArray, List.nil_append, List.cons_append]
  gi_wp2_with fail
  refine wpIn_wide.2 (wp_scope_straight ((wpIn_wide (n := 9)).1 ?_))
  gi_wp2_with fail
  apply wpIn_label
  gi_wp2_with fail
  refine ⟨trivial, ?_⟩
  rw [HW.out]
  refine (callsIn_wide.2 (HP.out w0)).mono ?_
  rintro e w1 ⟨g, rfl, hg0, hg, hb1⟩
  clear HP
  have hs1 := hb1.size
  have hgl : g < w1.heap.size := (Array.getElem?_eq_some_iff.1 hg).1
  have bF1 : Boxed w1 (w.heap.size + 1) 27 (.int .i64 0) := (hb1.block _ (by omega)).trans bF0
  have hb01 := hb0.trans (hb1.mono (by omega))
  clear HW bF0
  have hF : w.heap.size + 1 < w1.heap.size := by omega
  gi_wp2_with fail
  refine range_stopa rfl (by omega) (gf := 67) (lb := #[.pointer (some ⟨g, 0, none⟩)]) rfl trivial (enters_of Try.func67 (by kernel_rfl) rfl)
    (fun x : Nat => #[ptV v k i c (wrap64 (c - 1)) x]) (fun _ => rfl)
    (fun j x V => x = j ∧ okTo v k i c j ∧ Below w1.heap.size w1 V)
    (fun j x b V => x = j ∧ okTo v k i c j ∧ Below w1.heap.size w1 V ∧ ∃ q, b = { tmps := #[.agg #[.int .i64 v, .int .i64 k, .int .u32 s, .int .i64 i, .int .i64 c], .pointer (some ⟨w.heap.size, 0, none⟩), .int .i64 0, .pointer (some ⟨w.heap.size + 1, 0, none⟩), .pointer (some ⟨q, 0, none⟩),
        .agg #[.int .i64 v, .int .i64 k, .int .u32 s, .int .i64 i, .int .i64 c], .func (.func 67) #[] #[.pointer (some ⟨g, 0, none⟩)], ptV v k i c (wrap64 (c - 1)) x, undef, undef, undef, undef, undef, undef, undef, undef, undef, undef, undef, undef, undef, undef], defers := [] } ∧
      w1.heap.size ≤ q ∧ V.heap[q]? = some (.cells (ptCs v k i c (wrap64 (c - 1)) j) 111 (0, 0)))
    (fun j V => okTo v k i c j ∧ Below w1.heap.size w1 V)
    (fun cd V => cd = .exit 0 ∧ Boxed V (w.heap.size + 1) 27 (.int .i64 (chk v k i c)) ∧ Off (fun q => q = w.heap.size + 1) w1 V) (fun _ _ => True) 4
    (fun j x b V l o o' h hl ho hc' => ⟨h.1, h.2.1, h.2.2.1.trans ⟨rfl, rfl, rfl, by simp [World.putObj], fun k hk => World.putObj_heap_other (by omega)⟩, by
      obtain ⟨q, h1, h2, h3⟩ := h.2.2.2
      exact ⟨q, h1, h2, (World.putObj_heap_other (fun e => by subst e; rw [h3] at ho; injection ho with ho; subst ho; cases hc')).trans h3⟩⟩)
    (fun j V l o o' h hl _ _ => ⟨h.1, h.2.trans ⟨rfl, rfl, rfl, by simp [World.putObj], fun k hk => World.putObj_heap_other (by omega)⟩⟩)
    (fun cd V l o o' h hl _ _ => ⟨h.1, (World.putObj_heap_other (by omega)).trans h.2.1, off_below h.2.2 (below_put V o' hl)⟩)
    (fun _ _ _ _ _ => trivial) (fun _ _ _ _ _ _ _ => trivial)
    (fun o => ⟨⟨by omega, by omega, by omega, by omega⟩, ((Below.refl w1.heap.size w1).alloc (Nat.le_refl _) _).alloc (by simp) _⟩) ?assign ?body ?iter ?done ?stop
  case assign =>
    rintro l j x V K ⟨rfl, hok, hbV⟩ hj hK
    obtain ⟨y, le, mo, wr, hcs, _⟩ := part_at hj hok
    have hK' := Lib.hid (hK { tmps := #[.agg #[.int .i64 v, .int .i64 k, .int .u32 s, .int .i64 i, .int .i64 c], .pointer (some ⟨w.heap.size, 0, none⟩), .int .i64 0, .pointer (some ⟨w.heap.size + 1, 0, none⟩), .pointer (some ⟨V.heap.size, 0, none⟩),
        .agg #[.int .i64 v, .int .i64 k, .int .u32 s, .int .i64 i, .int .i64 c], .func (.func 67) #[] #[.pointer (some ⟨g, 0, none⟩)], ptV v k i c (wrap64 (c - 1)) x, undef, undef, undef, undef, undef, undef, undef, undef, undef, undef, undef, undef, undef, undef], defers := [] }
      (V.alloc (.cells (ptCs v k i c (wrap64 (c - 1)) x) 111)) ⟨rfl, hok, hbV.alloc hbV.size _, V.heap.size, rfl, hbV.size, World.alloc_heap_new _ _⟩ ⟨by simp, fun q o _ ho _ => (Below.heap_alloc _ _ _ (Array.getElem?_eq_some_iff.1 ho).1).trans ho⟩ trivial)
    clear hK
    unfold ptV at hK' ⊢
    rw [hcs] at hK' ⊢
    gi_wp2
    exact hK'.out
  case body =>
    rintro l j x b V hl ⟨rfl, hok, hbV, q, rfl, hq, hcell⟩ hj
    obtain ⟨y, le, mo, wr, hcs, hin, hout⟩ := part_at hj hok
    rw [hcs] at hcell
    have d0 : V.cell? ⟨q, 0, none⟩ = some (.int .i64 y) := by simp [World.cell?, hcell]
    have d1 : V.cell? ⟨q, 1, none⟩ = some (.int .i64 le) := by simp [World.cell?, hcell]
    have d2 : V.cell? ⟨q, 2, none⟩ = some (.int .i64 mo) := by simp [World.cell?, hcell]
    have d3 : V.cell? ⟨q, 3, none⟩ = some (.int .i64 wr) := by simp [World.cell?, hcell]
    have bFV : Boxed V (w.heap.size + 1) 27 (.int .i64 0) := (hbV.block _ hF).trans bF1
    have e0 := bFV.cell
    have e1 := bFV.frozen
    have hgo := Lib.hid (fun h1 h2 => (⟨⟨Nat.le_refl _, fun _ _ _ ho _ => ho⟩, ⟨hin h1 h2, hbV⟩, trivial⟩ : KeepsFrom w1.heap.size V V ∧ (okTo v k i c (x + 1) ∧ Below w1.heap.size w1 V) ∧ True))
    have hst := Lib.hid (fun h => (⟨(KeepsOthers.setCell _ _ _).from _, by rw [hout h]; exact bFV.set _, (off_below (Off.refl (fun q => q = w.heap.size + 1) w1) hbV).setCell (p := ⟨w.heap.size + 1, 0, none⟩) rfl _⟩ :
      KeepsFrom w1.heap.size V (V.setCell ⟨w.heap.size + 1, 0, none⟩ (.int .i64 wr)) ∧ Boxed (V.setCell ⟨w.heap.size + 1, 0, none⟩ (.int .i64 wr)) (w.heap.size + 1) 27 (.int .i64 (chk v k i c)) ∧ Off (fun q => q = w.heap.size + 1) w1 (V.setCell ⟨w.heap.size + 1, 0, none⟩ (.int .i64 wr))))
    clear hok hbV hcell hin hout hcs bFV
    by_cases h1 : y < le
    · gi_wp2
      exact ⟨(hst.out (.inl h1)).1, rfl, (hst.out (.inl h1)).2⟩
    · by_cases h2 : mo < y
      · gi_wp2
        exact ⟨(hst.out (.inr h2)).1, rfl, (hst.out (.inr h2)).2⟩
      · gi_wp2
        exact hgo.out (by omega) (by omega)
  case iter =>
    intro Bk X l V hBk hBlt hX hl hD hB hY
    exact hparts_in 8 (by omega) 7 l g v k i c (wrap64 (c - 1)) (fun j V => (okTo v k i c j ∧ Below w1.heap.size w1 V) ∧ Bk V) X
      (fun j A cs t h => ⟨⟨h.1.1, h.1.2.alloc h.1.2.size _⟩, hBk A _ h.2 (by simp) (fun q h1 h2 => by have := hBlt A h.2; exact Below.heap_alloc _ _ _ (by omega))⟩)
      (fun j W h hj => (hY j j W ⟨rfl, h.1⟩ h.2 hj).mono (fun e W2 h => h.elim (fun h => .inl ⟨h.1, h.2.1⟩) (fun h => .inr ⟨h.1, h.2.1⟩)))
      V ((hD.2.block g hgl).trans hg) ⟨hD, hB⟩
  case done =>
    rintro D V hD ⟨hok, hbV⟩ hK
    have hz : chk v k i c = 0 := by
      have h0 := hok.1 (by omega); have h1 := hok.2.1 (by omega); have h2 := hok.2.2.1 (by omega); have h3 := hok.2.2.2 (by omega)
      unfold chk; rw [if_neg (by omega), if_neg (by omega), if_neg (by omega)]
    have bFV : Boxed V (w.heap.size + 1) 27 (.int .i64 0) := (hbV.block _ hF).trans bF1
    have e0 := bFV.cell
    have HB := Lib.hid (hb01.trans (hbV.mono hb01.size))
    gi_wp2
    simp only [Exit.noGoto]
    refine ⟨by simp, .inl ⟨_, _, rfl, run_takeDeferred hK, ?_⟩⟩
    rw [hz]
    refine ⟨.int .i64 0, ?_, rfl, HB.out.trans (below_put _ _ (by omega))⟩
    simp [results, Try.f47, go_sem]
  case stop =>
    rintro D cd V hD ⟨rfl, bF, hO⟩ hK
    have e0 := bF.cell
    have HB := Lib.hid (hb01.trans (hO.below (B := w.heap.size) (fun k hk => by omega) hb01.size))
    gi_wp2
    simp only [Exit.noGoto]
    refine ⟨by simp, .inl ⟨_, _, rfl, run_takeDeferred hK, ?_⟩⟩
    refine ⟨.int .i64 (chk v k i c), ?_, rfl, HB.out.trans (below_put _ _ (by omega))⟩
    simp [results, Try.f47, go_sem]
end Go.Proofs.Ytfdbcfkjablnkaa

namespace Go.Proofs.Ytfdbcfkjablnkaa
open Go.RowKit
set_option maxRecDepth 100000

theorem ret_boolM {a b : Bool} (h : a = b) : Ending.returned (.bool a) = Ending.returned (.bool b) := by rw [h]
/-- whether two heads are alike but for the index -/
def mateZ (v k s c v' k' s' c' : Int) : Bool := decide (v = v' ∧ k = k' ∧ s = s' ∧ c = c')
theorem mates_any (v k s i c v' k' s' i' c' : Int) (w : World) :
    Calls Try.prog 61 #[hdV v k s i c, hdV v' k' s' i' c'] w fun e w' => e = .returned (.bool (mateZ v k s c v' k' s' c')) ∧ Below w.heap.size w w' := by
  unfold hdV
  go_enter Try.func61, Try.ntmps61
  go_wp2
  all_goals
    go_ret
    exact ⟨ret_boolM (by simp [mateZ, *]), ((Below.refl _ w).alloc (Nat.le_refl _) _).alloc (by simp) _⟩
end Go.Proofs.Ytfdbcfkjablnkaa

namespace Go.Proofs.Ytfdbcfkjablnkaa
section
variable {P : Program} {ops : Array Oper} {md : Region.Mode}

/-- 0: it looks at no memory and enters no function; 2: a store; 1: all others -/
def pureOp (o : Oper) : Bool :=
  match o.op with
  | .move _ | .assign _ | .binOp _ _ _ _ _ | .unOp _ _ _ | .convert _ _ _ | .slice _ _ _ _ _ | .fieldAddr _ _ _ | .indexAddr _ _ _ | .extract _ _ | .pick _ _ _ => true
  | .call c =>
    match c.callee with
    | .builtin .len | .builtin .cap | .builtin .min | .builtin .max => true
    | _ => false
  | _ => false
def kindOf (o : Oper) : Nat :=
  if pureOp o then 0 else match o.op with
    | .store _ _ _ => 2
    | _ => 1
theorem run_value (s : Sem Value) (w w' : World) (f : FuncId) (args : Array Value) : (do pure (Next.value (← s)) : Sem Next).run P w ≠ .ok (.enter f args) w' := by
  intro h
  rw [Sem.run_bind] at h
  cases hs : s.run P w with
  | ok x w1 => rw [hs] at h; simp [Result.andThen] at h
  | halt x w1 => rw [hs] at h; simp [Result.andThen] at h
theorem andThen_value (r : Result Value) (w' : World) (f : FuncId) (args : Array Value) : (r.andThen fun a w' => Result.ok (Next.value a) w') ≠ .ok (.enter f args) w' := by
  intro h
  cases r <;> simp [Result.andThen] at h
theorem pure_no_enter {o : Oper} (ho : pureOp o = true) (ρ : Operand → Value) (w w' : World) (f : FuncId) (args : Array Value) : (execOp ρ o).run P w ≠ .ok (.enter f args) w' := by
  unfold pureOp at ho
  unfold execOp
  cases hop : o.op <;> simp only [hop] at ho ⊢ <;> try contradiction
  all_goals first
    | exact run_value _ _ _ _ _
    | (intro h; simp at h; done)
    | skip
  case pick c x y =>
    intro h
    rw [Sem.run_bind] at h
    cases hs : (asBool (ρ c)).run P w with
    | ok x w1 => rw [hs] at h; simp [Result.andThen] at h
    | halt x w1 => rw [hs] at h; simp [Result.andThen] at h
  case call c =>
    obtain ⟨callee, cargs, cts⟩ := c
    cases callee with
    | builtin b =>
      cases b <;> simp at ho <;>
      · intro h
        simp [resolve, invoke, builtin] at h
        exact andThen_value _ _ _ _ h
    | _ => simp at ho

def stepUpon (C' : World → Prop) (v : Value) : Result Next → Prop
  | .ok (.value u) w' => u = v ∧ C' w'
  | .ok .skip w' => v = undef ∧ C' w'
  | _ => False
def StepsIn (P : Program) (ops : Array Oper) (C C' : World → Prop) (o : Oper) (v : Value) (a : Act) : Prop :=
  (Region.wanted o (yielded ops a.tmps) = true ∧ ∀ w, C w → stepUpon C' v ((execOp a.eval o).run P w)) ∨ (Region.wanted o (yielded ops a.tmps) = false ∧ v = undef ∧ C' = C)
/-- what an operation does to the class of worlds, and its value -/
def OpR (P : Program) (ops : Array Oper) (C C' : World → Prop) (o : Oper) (v : Value) (a : Act) : Prop :=
  (kindOf o = 0 ∧ C' = C ∧ YieldsIn P ops (fun _ => True) o v a) ∨ (kindOf o = 1 ∧ C' = C ∧ YieldsIn P ops C o v a) ∨ (kindOf o = 2 ∧ StepsIn P ops C C' o v a)
theorem kind_pure {o : Oper} (h : kindOf o = 0) : pureOp o = true := by
  unfold kindOf at h
  split at h
  · assumption
  · split at h <;> simp at h
theorem yields_pure {o : Oper} {v : Value} {a : Act} (hk : kindOf o = 0) (h : YieldsIn P ops (fun _ => True) o v a) (C : World → Prop) : YieldsIn P ops C o v a := by
  rcases h with ⟨hw, h⟩ | h
  · refine .inl ⟨hw, fun w _ => ?_⟩
    have h1 := h w trivial
    have h2 := pure_no_enter (P := P) (kind_pure hk) a.eval w
    unfold Oper.quietAt at h1 ⊢
    generalize (execOp a.eval o).run P w = r at h1 h2
    cases r with
    | ok n w' =>
      cases n with
      | enter f args => exact absurd rfl (h2 w' f args)
      | _ => exact h1
    | halt x w' => exact h1
  · exact .inr h
theorem OpR.of_same {C C' : World → Prop} {o : Oper} {v : Value} {a a' : Act} (h : OpR P ops C C' o v a) (he : execOp a'.eval o = execOp a.eval o) (hw : Region.wanted o (yielded ops a'.tmps) = Region.wanted o (yielded ops a.tmps)) : OpR P ops C C' o v a' := by
  rcases h with ⟨hk, hc, h⟩ | ⟨hk, hc, h⟩ | ⟨hk, h⟩
  · exact .inl ⟨hk, hc, h.of_same he hw⟩
  · exact .inr (.inl ⟨hk, hc, h.of_same he hw⟩)
  · refine .inr (.inr ⟨hk, ?_⟩)
    unfold StepsIn at *
    rw [he, hw]
    exact h
theorem OpR.wpOp {C C' : World → Prop} {i : Nat} {o : Oper} {v : Value} {a : Act} {K : Act → World → Prop} {Q' : Exit → Act → World → Prop} {w : World} (hi : ops[i]? = some o) (h : OpR P ops C C' o v a) (hC : C w) (hK : ∀ w', C' w' → K (a.put o.dst v) w') : wpOp P ops Q' i K a w := by
  have quiet : ∀ {D : World → Prop}, D w → (∀ w', D w' → K (a.put o.dst v) w') → YieldsIn P ops D o v a → Go.wpOp P ops Q' i K a w := fun {D} hD hK hy => by
    unfold Go.wpOp
    simp only [hi]
    rcases hy with ⟨hw, hv⟩ | ⟨hw, rfl⟩
    · simp only [hw, if_true]
      exact .inl (Oper.wp_of_quiet (C := D) (K := fun a' => a' = a.put o.dst v) hD (fun a' w' hw' e => by subst e; exact hK w' hw') ⟨v, hv, rfl⟩)
    · simp only [hw, Bool.false_eq_true, if_false]
      exact hK w hD
  rcases h with ⟨hk, rfl, h⟩ | ⟨hk, rfl, h⟩ | ⟨hk, h⟩
  · exact quiet hC hK (yields_pure hk h _)
  · exact quiet hC hK h
  · unfold Go.wpOp
    simp only [hi]
    rcases h with ⟨hw, hv⟩ | ⟨hw, rfl, rfl⟩
    · simp only [hw, if_true]
      left
      have h1 := hv w hC
      unfold Oper.wp
      generalize (execOp a.eval o).run P w = r at h1
      cases r with
      | ok n w' =>
        cases n <;> simp only [stepUpon] at h1 <;> simp only [Oper.upon]
        case value u => rw [h1.1]; exact hK w' h1.2
        case skip => rw [← h1.1]; exact hK w' h1.2
      | halt x w' => simp only [stepUpon] at h1
    · simp only [hw, Bool.false_eq_true, if_false]
      exact hK w hC

/-- whatever order is picked from here on -/
def wpAny2 (P : Program) (md : Region.Mode) (ops : Array Oper) (Q : (World → Prop) → Act → Prop) : Nat → Array Bool → (World → Prop) → Act → Prop
  | 0, listed, C, a => Region.ready md ops listed = [] ∧ Q C a
  | fuel + 1, listed, C, a =>
    (Region.ready md ops listed = [] → Q C a) ∧
    ∀ i ∈ Region.ready md ops listed, ∀ o, ops[i]? = some o → ∃ v C', OpR P ops C C' o v a ∧ wpAny2 P md ops Q fuel (listed.setIfInBounds i true) C' (a.put o.dst v)
theorem wpAny_of_2 {Q : (World → Prop) → Act → Prop} {Q' : Exit → Act → World → Prop} (hQ : ∀ (C : World → Prop) a w, C w → Q C a → Q' .normal a w) : ∀ (fuel : Nat) (listed : Array Bool) (C : World → Prop) (a : Act) (w : World), C w →
    wpAny2 P md ops Q fuel listed C a → wpAny P md ops Q' fuel listed a w
  | 0, _, _, _, _, hw, h => ⟨h.1, hQ _ _ _ hw h.2⟩
  | fuel + 1, _, _, _, _, hw, h => ⟨fun h0 => hQ _ _ _ hw (h.1 h0), fun i hi => by
      obtain ⟨_, o, ho, _⟩ := mem_ready.1 hi
      obtain ⟨v, C', hr, hn⟩ := h.2 i hi o ho
      exact hr.wpOp ho hw fun w' hw' => wpAny_of_2 hQ fuel _ C' _ w' hw' hn⟩

/-- nothing that may come up beside it stands in its way -/
def free2 (md : Region.Mode) (ops : Array Oper) (listed : Array Bool) (k : Nat) : Bool :=
  match ops[k]? with
  | none => false
  | some ok => (List.range ops.size).all fun j => j == k || listed.getD j true ||
    (match ops[j]? with
     | some oj => oj.after.any (fun e => Region.binds md e && e.on == k) || (ok.apart ops oj && (kindOf ok == 0 || (kindOf ok == 1 && kindOf oj != 2)))
     | none => true)
def Free (md : Region.Mode) (ops : Array Oper) (listed : Array Bool) (i : Nat) (oi : Oper) : Prop :=
  ∀ j oj, ops[j]? = some oj → j ≠ i → listed.getD j true = false → (∀ e ∈ oj.after, Region.binds md e = true → e.on ≠ i) → oi.apart ops oj = true ∧ (kindOf oi = 0 ∨ (kindOf oi = 1 ∧ kindOf oj ≠ 2))
theorem free2_spec {i : Nat} {oi : Oper} {listed : Array Bool} (hi : ops[i]? = some oi) (h : free2 md ops listed i = true) : Free md ops listed i oi := by
  intro j oj hj hne hun hno
  simp only [free2, hi, List.all_eq_true, List.mem_range] at h
  have h1 := h j (Array.getElem?_eq_some_iff.1 hj).1
  simp only [hj, Bool.or_eq_true, beq_iff_eq, hne, false_or, hun, Bool.false_eq_true, Bool.and_eq_true, bne_iff_ne, ne_eq] at h1
  rcases h1 with h1 | h1
  · obtain ⟨e, he, hb⟩ := Array.any_eq_true'.1 h1
    simp only [Bool.and_eq_true, beq_iff_eq] at hb
    exact absurd hb.2 (hno e he hb.1)
  · exact h1
/-- an operation that may come up now may be taken first -/
theorem wpAny2_first {Q : (World → Prop) → Act → Prop} {i : Nat} {oi : Oper} {v : Value} (hi : ops[i]? = some oi) (hsel : ∀ (j : Nat) (o : Oper) cs b, ops[j]? = some o → o.op ≠ .select cs b) :
    ∀ (fuel : Nat) (listed : Array Bool) (C C1 : World → Prop) (a : Act), Free md ops listed i oi → i ∈ Region.ready md ops listed → OpR P ops C C1 oi v a →
      wpAny2 P md ops Q fuel (listed.setIfInBounds i true) C1 (a.put oi.dst v) → wpAny2 P md ops Q (fuel + 1) listed C a := by
  intro fuel
  induction fuel with
  | zero =>
    intro listed C C1 a _ hr hy H
    refine ⟨fun h => (by rw [h] at hr; cases hr), fun j hj o ho => ?_⟩
    by_cases hji : j = i
    · subst hji
      have : o = oi := Option.some.inj (ho.symm.trans hi)
      subst this
      exact ⟨v, C1, hy, H⟩
    · have := ready_mono hj hji
      rw [H.1] at this
      cases this
  | succ fuel ih =>
    intro listed C C1 a hfree hr hy H
    refine ⟨fun h => (by rw [h] at hr; cases hr), fun j hj oj hoj => ?_⟩
    by_cases hji : j = i
    · subst hji
      have : oj = oi := Option.some.inj (hoj.symm.trans hi)
      subst this
      exact ⟨v, C1, hy, H⟩
    · obtain ⟨hjun, oj', hoj', hall⟩ := mem_ready.1 hj
      have : oj' = oj := Option.some.inj (hoj'.symm.trans hoj)
      subst this
      have hnot : ∀ e ∈ oj'.after, Region.binds md e = true → e.on ≠ i := fun e he hb heq => by
        have h1 := hall e he hb
        have h0 := (mem_ready.1 hr).1
        rw [heq] at h1
        rcases Nat.lt_or_ge i listed.size with h' | h'
        · simp [h'] at h0 h1; rw [h0] at h1; cases h1
        · simp [Array.getElem?_eq_none h'] at h1
      obtain ⟨hap, hkind⟩ := hfree j oj' hoj hji hjun hnot
      obtain ⟨p1, p2, p3⟩ := Oper.apart_spec hap
      have hC1 : C1 = C := by
        rcases hy with ⟨_, h, _⟩ | ⟨_, h, _⟩ | ⟨hk2, _⟩
        · exact h
        · exact h
        · rcases hkind with h | ⟨h, _⟩ <;> rw [h] at hk2 <;> simp at hk2
      subst hC1
      obtain ⟨u, C2, hR, hn⟩ := H.2 j (ready_mono hj hji) oj' hoj
      have hsi : ∀ cs b, oi.op ≠ .select cs b := fun cs b => hsel i oi cs b hi
      have hsj : ∀ cs b, oj'.op ≠ .select cs b := fun cs b => hsel j oj' cs b hoj
      have hRa : OpR P ops C1 C2 oj' u a := hR.of_same (execOp_put oj' hsj a oi.dst v p1).symm (wanted_put oj' a oi.dst v p1).symm
      have hyu : OpR P ops C2 C2 oi v (a.put oj'.dst u) := by
        have h0 := hy.of_same (a' := a.put oj'.dst u) (execOp_put oi hsi a oj'.dst u p3) (wanted_put oi a oj'.dst u p3)
        rcases h0 with ⟨hk, _, h⟩ | ⟨hk, _, h⟩ | ⟨hk, _⟩
        · exact .inl ⟨hk, rfl, h⟩
        · have hC2 : C2 = C1 := by
            rcases hkind with h' | ⟨_, h'⟩
            · rw [hk] at h'; simp at h'
            · rcases hR with ⟨_, h2, _⟩ | ⟨_, h2, _⟩ | ⟨h2, _⟩
              · exact h2
              · exact h2
              · exact absurd h2 h'
          subst hC2
          exact .inr (.inl ⟨hk, rfl, h⟩)
        · rcases hkind with h' | ⟨h', _⟩ <;> rw [hk] at h' <;> simp at h'
      refine ⟨u, C2, hRa, ih (listed.setIfInBounds j true) C2 C2 _ ?_ (ready_mono hr (Ne.symm hji)) hyu ?_⟩
      · intro k ok hk hki hun hno
        refine hfree k ok hk hki ?_ hno
        by_cases hjk : j = k
        · subst hjk; exact hjun
        · rw [getD_set_ne true hjk] at hun; exact hun
      · rw [Array.setIfInBounds_comm _ _ hji]
        rw [Act.put_comm a v u p2] at hn
        exact hn

def lexFrom2 (md : Region.Mode) (ops : Array Oper) : Nat → Nat → Array Bool → Bool
  | 0, _, listed => (Region.ready md ops listed).isEmpty
  | fuel + 1, k, listed => (Region.ready md ops listed).contains k && free2 md ops listed k && lexFrom2 md ops fuel (k + 1) (listed.setIfInBounds k true)
def lexB2 (md : Region.Mode) (ops : Array Oper) : Bool := Region.noSelect ops && lexFrom2 md ops ops.size 0 (Array.replicate ops.size false)
/-- the walk in the text's order -/
def wpQ2 (P : Program) (ops : Array Oper) (Q : (World → Prop) → Act → Prop) : List Oper → (World → Prop) → Act → Prop
  | [], C, a => Q C a
  | o :: rest, C, a => ∃ v C', OpR P ops C C' o v a ∧ wpQ2 P ops Q rest C' (a.put o.dst v)
theorem wpAny2_lex {Q : (World → Prop) → Act → Prop} (hs : Region.noSelect ops = true) : ∀ (l : List Oper) (k : Nat) (listed : Array Bool) (C : World → Prop) (a : Act), (∀ j, l[j]? = ops[k + j]?) →
    lexFrom2 md ops l.length k listed = true → wpQ2 P ops Q l C a → wpAny2 P md ops Q l.length listed C a
  | [], _, _, _, _, _, hB, h => ⟨by simpa [lexFrom2] using hB, h⟩
  | o :: l, k, listed, C, a, hl, hB, h => by
    have h0 : ops[k]? = some o := by simpa using (hl 0).symm
    simp only [List.length_cons, lexFrom2, Bool.and_eq_true] at hB
    obtain ⟨⟨hr, hf⟩, hB'⟩ := hB
    obtain ⟨v, C', hR, hn⟩ := h
    exact wpAny2_first h0 (Region.noSelect_spec hs) l.length listed C C' a (free2_spec h0 hf) (by simpa using hr) hR
      (wpAny2_lex hs l (k + 1) _ C' _ (fun j => by have := hl (j + 1); simpa [Nat.add_assoc, Nat.add_comm 1 j] using this) hB' hn)
/-- ONE WALK IN THE TEXT's ORDER SERVES EVERY ORDER -/
theorem wp_region_lex2 {id : Nat} {Q : Exit → Act → World → Prop} {a : Act} {w : World} {l : List Oper} {C : World → Prop} (hm : P.follows .mixedOrders = true) (hB : lexB2 .any l.toArray = true) (hC : C w.drew)
    (h : wpQ2 P l.toArray (fun C a' => ∀ w', C w' → Q .normal a' w') l C a) : (Code.region id l.toArray true).wp P Q a w := by
  simp only [lexB2, Bool.and_eq_true] at hB
  refine wp_region_any hm (wpAny_of_2 (Q := fun C a' => ∀ w', C w' → Q .normal a' w') (fun C a w' hw' h => h w' hw') _ _ C _ _ hC ?_)
  have := wpAny2_lex (md := .any) hB.1 l 0 (Array.replicate l.toArray.size false) C a (by simp) (by simpa using hB.2) h
  simpa using this
/-! one operation of the walk -/
theorem wpQ2_quiet {Q : (World → Prop) → Act → Prop} {o : Oper} {rest : List Oper} {C D : World → Prop} {a : Act} (hk : (kindOf o = 0 ∧ D = fun _ => True) ∨ (kindOf o = 1 ∧ D = C)) (h : wpQuiet P ops D (fun a' => wpQ2 P ops Q rest C a') [o] a) : wpQ2 P ops Q (o :: rest) C a := by
  have key : ∃ v, YieldsIn P ops D o v a ∧ wpQ2 P ops Q rest C (a.put o.dst v) := by
    unfold wpQuiet at h
    by_cases hw : Region.wanted o (yielded ops a.tmps) = true
    · simp only [hw, if_true] at h
      obtain ⟨v, h1, h2⟩ := h
      exact ⟨v, .inl ⟨hw, h1⟩, h2⟩
    · simp only [hw] at h
      exact ⟨undef, .inr ⟨by simpa using hw, rfl⟩, h⟩
  obtain ⟨v, hy, hn⟩ := key
  rcases hk with ⟨hk, rfl⟩ | ⟨hk, rfl⟩
  · exact ⟨v, C, .inl ⟨hk, rfl, hy⟩, hn⟩
  · exact ⟨v, D, .inr (.inl ⟨hk, rfl, hy⟩), hn⟩
theorem wpQ2_pure {Q : (World → Prop) → Act → Prop} {o : Oper} {rest : List Oper} {C : World → Prop} {a : Act} (hk : kindOf o = 0) (h : wpQuiet P ops (fun _ => True) (fun a' => wpQ2 P ops Q rest C a') [o] a) : wpQ2 P ops Q (o :: rest) C a := wpQ2_quiet (.inl ⟨hk, rfl⟩) h
theorem wpQ2_look {Q : (World → Prop) → Act → Prop} {o : Oper} {rest : List Oper} {C : World → Prop} {a : Act} (hk : kindOf o = 1) (h : wpQuiet P ops C (fun a' => wpQ2 P ops Q rest C a') [o] a) : wpQ2 P ops Q (o :: rest) C a := wpQ2_quiet (.inr ⟨hk, rfl⟩) h
/-- a store of one cell -/
theorem wpQ2_store {Q : (World → Prop) → Act → Prop} {o : Oper} {rest : List Oper} {C : World → Prop} {a : Act} (C' : World → Prop) {t : TypeId} {x y : Operand} (ho : o.op = .store t x y) (hd : o.dst = none) (hg : o.guard = none) (ad : Addr) (v : Value) (hx : a.eval x = .pointer (some ad)) (hy : a.eval y = v)
    (hrun : ∀ w, C w → ∃ w', (Instr.storeAt t (.pointer (some ad)) v).run P w = .ok () w' ∧ C' w') (h : wpQ2 P ops Q rest C' a) : wpQ2 P ops Q (o :: rest) C a := by
  refine ⟨undef, C', .inr (.inr ⟨?_, .inl ⟨by simp [Region.wanted, hg], fun w hw => ?_⟩⟩), ?_⟩
  · simp [kindOf, pureOp, ho]
  · obtain ⟨w', hr, hc⟩ := hrun w hw
    unfold execOp
    simp only [ho, hx, hy]
    rw [Sem.run_bind, hr]
    exact ⟨rfl, hc⟩
  · rw [hd]; exact h
end
end Go.Proofs.Ytfdbcfkjablnkaa

namespace Go.Proofs.Ytfdbcfkjablnkaa
open Go.RowKit
set_option maxRecDepth 100000

def Pl.ct (p : Pl) : Nat × List Int := (p.i, p.zs)
/-- an element's bytes lie in a row that has nothing else in it -/
structure PayAt (w : World) (p : Pl) : Prop where
  room : p.zs.length ≤ p.cp
  ne : p.zs ≠ []
  byte : Bytes p.zs
  row : ∃ g cs, p.a = some ⟨g, 0, none⟩ ∧ w.heap[g]? = some (.cells cs 5 (0, 0)) ∧ ∀ (j : Nat) (c : Int), p.zs[j]? = some c → cs[j]? = some (.int .u8 c)
section
variable {w w' : World} {p : Pl}
theorem PayAt.nums (h : PayAt w p) : Nums .u8 w w.heap.size p.a p.zs := fun _ => by
  obtain ⟨g, cs, e, hg, hc⟩ := h.row
  exact ⟨g, 0, e, (Array.getElem?_eq_some_iff.1 hg).1, fun j c hj => by rw [Nat.zero_add, cell_of_row w g j cs _ _ hg]; exact hc j c hj⟩
theorem PayAt.off {S : Nat → Prop} (h : PayAt w p) (hf : Off S w w') (hS : ∀ g cs, w.heap[g]? = some (.cells cs 5 (0, 0)) → ¬ S g) : PayAt w' p := by
  obtain ⟨g, cs, e, hg, hc⟩ := h.row
  exact ⟨h.room, h.ne, h.byte, g, cs, e, (hf.block g (Array.getElem?_eq_some_iff.1 hg).1 (hS g cs hg)).trans hg, hc⟩
theorem PayAt.below (h : PayAt w p) (hb : Below w.heap.size w w') : PayAt w' p := h.off (Off.of_below (S := fun _ => False) hb) fun _ _ _ h => h
end

/-- block b is a slot, its map in block m -/
structure SlotAt (w : World) (b m : Nat) (v k s c : Int) (E : List Pl) : Prop where
  row : w.heap[b]? = some (.cells #[.int .i64 v, .int .i64 k, .int .u32 s, .int .i64 0, .int .i64 c, .map (some m)] 98 (0, 0))
  map : MapAt w m E
  pays : ∀ p ∈ E, PayAt w p
  few : ∀ p ∈ E, (p.i : Int) < c
  good : chk v k 0 c = 0
  most : Sl.tot (E.map Pl.ct) ≤ 192
  word : 0 ≤ s ∧ s ≤ 4294967295
section
variable {w w' : World} {b m : Nat} {v k s c : Int} {E : List Pl}
theorem SlotAt.size (h : SlotAt w b m v k s c E) : b < w.heap.size := (Array.getElem?_eq_some_iff.1 h.row).1
theorem SlotAt.off {S : Nat → Prop} (h : SlotAt w b m v k s c E) (hf : Off S w w') (h1 : ¬ S b) (h2 : ¬ S m) (hS : ∀ g cs, w.heap[g]? = some (.cells cs 5 (0, 0)) → ¬ S g) : SlotAt w' b m v k s c E :=
  ⟨(hf.block b h.size h1).trans h.row, h.map.off hf h2, fun p hp => (h.pays p hp).off hf hS, h.few, h.good, h.most, h.word⟩
theorem SlotAt.below (h : SlotAt w b m v k s c E) (hb : Below w.heap.size w w') : SlotAt w' b m v k s c E := h.off (Off.of_below (S := fun _ => False) hb) (fun h => h) (fun h => h) fun _ _ _ h => h
theorem SlotAt.cells (h : SlotAt w b m v k s c E) : w.cell? ⟨b, 0, none⟩ = some (.int .i64 v) ∧ w.cell? ⟨b, 1, none⟩ = some (.int .i64 k) ∧ w.cell? ⟨b, 2, none⟩ = some (.int .u32 s) ∧ w.cell? ⟨b, 3, none⟩ = some (.int .i64 0) ∧ w.cell? ⟨b, 4, none⟩ = some (.int .i64 c) ∧ w.cell? ⟨b, 5, none⟩ = some (.map (some m)) := by
  have := h.row
  refine ⟨?_, ?_, ?_, ?_, ?_, ?_⟩ <;> simp [World.cell?, this]
theorem SlotAt.keys (h : SlotAt w b m v k s c E) : Sl.Keys (E.map Pl.ct) := by
  have := h.map.keys.1
  unfold Sl.Keys
  rw [List.map_map]
  exact this
theorem SlotAt.count (h : SlotAt w b m v k s c E) : ∃ n : Nat, c = (n : Int) ∧ 1 ≤ n ∧ n ≤ 255 ∧ E.length ≤ n ∧ ∀ p ∈ E, p.i < n := by
  obtain ⟨_, _, _, c1, c2, _⟩ := chk_zero h.good
  obtain ⟨n, rfl⟩ := Int.eq_ofNat_of_zero_le (a := c) (by omega)
  have hf : ∀ p ∈ E, p.i < n := fun p hp => by have := h.few p hp; omega
  refine ⟨n, rfl, by omega, by omega, ?_, hf⟩
  have := nodup_few n (E.map Pl.i) h.map.keys.1 fun x hx => by
    obtain ⟨p, hp, rfl⟩ := List.mem_map.1 hx
    exact hf p hp
  simpa using this
theorem Pl.has_ct (E : List Pl) (i : Nat) : Sl.has (E.map Pl.ct) i = (Pl.at E i).isSome := by
  cases h : Pl.at E i with
  | none =>
    have := Pl.at_none.1 h
    cases h2 : Sl.has (E.map Pl.ct) i with
    | false => rfl
    | true =>
      obtain ⟨p, hp, e⟩ := List.any_eq_true.1 h2
      obtain ⟨q, hq, rfl⟩ := List.mem_map.1 hp
      exact absurd (by simpa [Pl.ct] using e) (this q hq)
  | some p =>
    obtain ⟨hp, rfl⟩ := Pl.at_mem h
    exact Sl.has_mem (List.mem_map.2 ⟨p, hp, rfl⟩)
theorem Pl.at_ct {E : List Pl} (hk : (E.map Pl.i).Nodup) (i : Nat) : Sl.at' (E.map Pl.ct) i = ((Pl.at E i).map Pl.zs).getD [] := by
  cases h : Pl.at E i with
  | none => exact Sl.at_none (by rw [Pl.has_ct, h]; rfl)
  | some p =>
    obtain ⟨hp, rfl⟩ := Pl.at_mem h
    exact Sl.at_mem (by unfold Sl.Keys; rw [List.map_map]; exact hk) (List.mem_map.2 ⟨p, hp, rfl⟩)

theorem shave_any (h : SlotAt w b m v k s c E) : Calls Try.prog 69 #[.pointer (some ⟨b, 0, none⟩)] w fun e w' => e = .returned (.int .i64 (E.length : Int)) ∧ w' = w := by
  obtain ⟨c0, c1, c2, c3, c4, c5⟩ := h.cells
  have hlen := fun ty => h.map.run_len (P := Try.prog) (t := 96) Try.underlying96 ty
  clear h
  go_enter Try.func69, Try.ntmps69
  go_wp2
  go_ret
  exact ⟨rfl, rfl⟩
theorem shas_any (h : SlotAt w b m v k s c E) (i : Nat) (hi : i ≤ 255) : Calls Try.prog 58 #[.pointer (some ⟨b, 0, none⟩), .int .i64 (i : Int)] w fun e w' => e = .returned (.bool (Pl.at E i).isSome) ∧ w' = w := by
  obtain ⟨c0, c1, c2, c3, c4, c5⟩ := h.cells
  have hz : (zeroValue 33).run Try.prog w = .ok (.slice none 0 0) w := by kernel_rfl
  have hlook := h.map.run_look (P := Try.prog) (t := 96) true Try.underlying96 Try.underlying3 hz (i := i) (by omega)
  clear h hz
  cases hp : Pl.at E i with
  | none =>
    rw [hp] at hlook
    simp only [if_true] at hlook
    go_enter Try.func58, Try.ntmps58
    go_wp2
    go_ret
    exact ⟨rfl, rfl⟩
  | some p =>
    rw [hp] at hlook
    simp only [if_true, Pl.val] at hlook
    go_enter Try.func58, Try.ntmps58
    go_wp2
    go_ret
    exact ⟨rfl, rfl⟩
theorem squiet_of {f : FuncId} {args : Array Value} {w : World} {n : Nat} {v : Value} (h : Calls Try.prog f args (w.drewN n) fun e w' => e = .returned v ∧ w' = w.drewN n) : Calls Try.prog f args (w.drewN n) fun e w' => e = .returned v ∧ ∃ m, w' = w.drewN m :=
  h.mono fun _ _ h => ⟨h.1, n, h.2⟩
theorem sfull_any (h : SlotAt w b m v k s c E) : Calls Try.prog 66 #[.pointer (some ⟨b, 0, none⟩)] w fun e w' => e = .returned (.bool ((E.length : Int) == c)) ∧ ∃ d, w' = w.drewN d := by
  obtain ⟨c0, c1, c2, c3, c4, c5⟩ := h.cells
  have K : ∀ d, Calls Try.prog 69 #[.pointer (some ⟨b, 0, none⟩)] (w.drewN d) fun e w' => e = .returned (.int .i64 (E.length : Int)) ∧ w' = w.drewN d := fun d => shave_any (h.below (below_drewN (Below.refl _ _) d))
  clear h
  have HK := Lib.hid K
  clear K
  generalize E.length = n at *
  go_enter Try.func66, Try.ntmps66
  go_wp2
  go_quiet ((go_at_call 69; exact squiet_of (HK.out _)))
  go_wp2
  go_ret
  exact ⟨rfl, _, rfl⟩
end
/-! ### of nil -/
theorem shave_nil (w : World) : Calls Try.prog 69 #[.pointer none] w fun e w' => e = .returned (.int .i64 0) ∧ w' = w := by
  go_enter Try.func69, Try.ntmps69
  go_wp2
  go_ret
  exact ⟨rfl, rfl⟩
theorem sfull_nil (w : World) : Calls Try.prog 66 #[.pointer none] w fun e w' => e = .returned (.bool false) ∧ ∃ d, w' = w.drewN d := by
  go_enter Try.func66, Try.ntmps66
  go_wp2
  go_quiet ((fail))
  go_wp2
  go_ret
  exact ⟨rfl, _, rfl⟩
theorem ssize_nil (w : World) : Calls Try.prog 46 #[.pointer none] w fun e w' => e = .returned (.int .i64 0) ∧ w' = w := by
  go_enter Try.func46, Try.ntmps46
  go_wp2
  go_ret
  exact ⟨rfl, rfl⟩
theorem scopy_nil (w : World) : Calls Try.prog 40 #[.pointer none] w fun e w' => e = .returned (.pointer none) ∧ w' = w := by
  go_enter Try.func40, Try.ntmps40
  go_wp2
  go_ret
  exact ⟨rfl, rfl⟩
theorem sbytes_nil (w : World) : Calls Try.prog 53 #[.pointer none] w fun e w' => e = .returned (.tuple #[.slice none 0 0, .bool false]) ∧ ∃ d, w' = w.drewN d := by
  have HK := Lib.hid (sfull_nil w)
  go_enter Try.func53, Try.ntmps53
  go_wp2_with fail
  refine HK.out.mono ?_
  rintro e w1 ⟨rfl, d, rfl⟩
  go_wp2
  go_ret2
  exact ⟨rfl, _, rfl⟩
/-- a new slot -/
def SNewR (w : World) (v k s i c : Int) (e : Ending) (w' : World) : Prop :=
  (chk v k i c ≠ 0 ∧ e = .returned (.tuple #[.pointer none, .int .i64 (chk v k i c)]) ∧ Below w.heap.size w w') ∨
  (chk v k i c = 0 ∧ ∃ b m, e = .returned (.tuple #[.pointer (some ⟨b, 0, none⟩), .int .i64 0]) ∧ SlotAt w' b m v k s c [] ∧ Below w.heap.size w w' ∧ w.heap.size ≤ b ∧ w.heap.size ≤ m ∧ b ≠ m)
theorem snew_any13 (v k s i c : Int) (hs : 0 ≤ s ∧ s ≤ 4294967295) (w : World) : Calls Try.prog 33 #[hdV v k s i c] w (SNewR w v k s i c) := by
  have HC := Lib.hid (fun W => check_any v k s i c W)
  unfold hdV at *
  have hmm := @run_makeMap Try.prog
  by_cases h0 : chk v k i c = 0
  · have HG : Hid (∀ e w', (chk v k i c = 0 ∧ ∃ b m, e = .returned (.tuple #[.pointer (some ⟨b, 0, none⟩), .int .i64 0]) ∧ SlotAt w' b m v k s c [] ∧ Below w.heap.size w w' ∧ w.heap.size ≤ b ∧ w.heap.size ≤ m ∧ b ≠ m) → SNewR w v k s i c e w') := fun e w' h => .inr h
    have hgood : chk v k 0 c = 0 := by
      obtain ⟨h1, h2, h3, h4, h5, h6, h7⟩ := chk_zero h0
      unfold chk
      rw [if_neg (by omega), if_neg (by omega), if_neg (by omega)]
    have HGD := Lib.hid hgood
    have H0 := Lib.hid h0
    rw [h0] at HC HG
    generalize SNewR w v k s i c = G at *
    clear h0 hgood
    go_enter Try.func33, Try.ntmps33
    go_wp2_with fail
    refine (HC.out _).mono ?_
    rintro e w1 ⟨rfl, hb⟩
    have hh1 : w1.heap[w.heap.size]? = some (.cells #[.int .i64 v, .int .i64 k, .int .u32 s, .int .i64 i, .int .i64 c] 32 (0, 0)) := (hb.block _ (by simp)).trans (World.alloc_heap_new _ _)
    obtain ⟨d0, d1, d2, d3, d4⟩ := hd_block hh1
    have f3 : w1.frozen? ⟨w.heap.size, 3, none⟩ = false := by simp [World.frozen?, hh1]
    have hbw : Below w.heap.size w w1 := by
      have h2 := hb
      rw [World.size_alloc] at h2
      exact ((Below.refl _ w).alloc (Nat.le_refl _) _).trans (h2.mono (by omega))
    have HBW := Lib.hid hbw
    have HS := Lib.hid hb.size
    clear hb hbw hh1
    go_wp2
    refine HG.out (.returned (.tuple #[.pointer (some ⟨w1.heap.size + 1, 0, none⟩), .int .i64 0])) _ ⟨trivial, w1.heap.size + 1, w1.heap.size, rfl, ?_⟩
    have hs1 : w.heap.size + 1 ≤ w1.heap.size := by have := HS.out; rwa [World.size_alloc] at this
    have hb2 : Below w.heap.size w (w1.setCell ⟨w.heap.size, 3, none⟩ (.int .i64 0)) := HBW.out.setCell (p := ⟨w.heap.size, 3, none⟩) (Nat.le_refl _) _
    have hs2 : (w1.setCell ⟨w.heap.size, 3, none⟩ (.int .i64 0)).heap.size = w1.heap.size := by simp [World.setCell]
    generalize w1.setCell ⟨w.heap.size, 3, none⟩ (.int .i64 0) = W2 at *
    have hm := MapAt.new W2
    have hs3 : (W2.alloc (.map #[] 0)).heap.size = w1.heap.size + 1 := by rw [World.size_alloc, hs2]
    have hb3 : Below w.heap.size w (W2.alloc (.map #[] 0)) := hb2.alloc (by omega) _
    rw [hs2] at hm
    generalize W2.alloc (.map #[] 0) = W3 at *
    have hr := World.alloc_heap_new W3 (Obj.cells #[Value.int .i64 v, Value.int .i64 k, Value.int .u32 s, Value.int .i64 0, Value.int .i64 c, Value.map (some w1.heap.size)] 98)
    rw [hs3] at hr
    exact ⟨⟨hr, hm.below ((Below.refl _ W3).alloc (Nat.le_refl _) _), fun p hp => (by cases hp), fun p hp => (by cases hp), HGD.out, by simp [Sl.tot], hs⟩, hb3.alloc (by omega) _, by omega, by omega, by omega⟩
  · have HG : Hid (∀ e w', (chk v k i c ≠ 0 ∧ e = .returned (.tuple #[.pointer none, .int .i64 (chk v k i c)]) ∧ Below w.heap.size w w') → SNewR w v k s i c e w') := fun e w' h => .inl h
    generalize SNewR w v k s i c = G at *
    generalize chk v k i c = E at *
    go_enter Try.func33, Try.ntmps33
    go_wp2_with fail
    refine (HC.out _).mono ?_
    rintro e w1 ⟨rfl, hb⟩
    have hbw : Below w.heap.size w w1 := by
      have h2 := hb
      rw [World.size_alloc] at h2
      exact ((Below.refl _ w).alloc (Nat.le_refl _) _).trans (h2.mono (by omega))
    have HBW := Lib.hid hbw
    clear hb hbw
    go_wp2
    exact HG.out (.returned (.tuple #[.pointer none, .int .i64 E])) _ ⟨h0, rfl, HBW.out⟩
end Go.Proofs.Ytfdbcfkjablnkaa

namespace Go.Proofs.Ytfdbcfkjablnkaa
namespace Cr
def poly : Nat := 3988292384
def ones : Nat := 4294967295
/-- a word by one shift -/
def sh1 (n : Nat) : Nat := (n / 2) ^^^ (if n % 2 = 1 then poly else 0)
/-- .. by k shifts -/
def shn : Nat → Nat → Nat
  | 0, n => n
  | k + 1, n => shn k (sh1 n)
/-- the state behind bytes -/
def crc (s : Nat) (zs : List Int) : Nat := zs.foldl (fun s b => shn 8 (s ^^^ b.toNat)) s
/-- the sum of bytes -/
def sum (zs : List Int) : Nat := ones - crc ones zs
/-- a word's bytes, the lowest one first -/
def le4 (n : Nat) : List Int := [((n % 256 : Nat) : Int), ((n / 256 % 256 : Nat) : Int), ((n / 65536 % 256 : Nat) : Int), ((n / 16777216 % 256 : Nat) : Int)]

theorem xor_self (a : Nat) : a ^^^ a = 0 := Nat.xor_self a
theorem xor_div (a b k : Nat) : (a ^^^ b) / 2 ^ k = (a / 2 ^ k) ^^^ (b / 2 ^ k) := by
  rw [← Nat.shiftRight_eq_div_pow, ← Nat.shiftRight_eq_div_pow, ← Nat.shiftRight_eq_div_pow, Nat.shiftRight_xor_distrib]
theorem xor_mod (a b k : Nat) : (a ^^^ b) % 2 ^ k = (a % 2 ^ k) ^^^ (b % 2 ^ k) := Nat.xor_mod_two_pow
theorem xor_lt {a b : Nat} (k : Nat) (ha : a < 2 ^ k) (hb : b < 2 ^ k) : a ^^^ b < 2 ^ k := Nat.xor_lt_two_pow ha hb
theorem xor_left4 (a b c d : Nat) : (a ^^^ b) ^^^ (c ^^^ d) = (a ^^^ c) ^^^ (b ^^^ d) := by
  rw [Nat.xor_assoc, Nat.xor_assoc, ← Nat.xor_assoc b, Nat.xor_comm b, Nat.xor_assoc c]

theorem sh1_xor (a b : Nat) : sh1 (a ^^^ b) = sh1 a ^^^ sh1 b := by
  have h2 := xor_div a b 1
  have hm := xor_mod a b 1
  simp only [Nat.pow_one] at h2 hm
  unfold sh1
  rw [h2, xor_left4]
  congr 1
  rcases Nat.mod_two_eq_zero_or_one a with ha | ha <;> rcases Nat.mod_two_eq_zero_or_one b with hb | hb <;> simp [hm, ha, hb]
theorem sh1_zero : sh1 0 = 0 := by decide
theorem sh1_two (y : Nat) : sh1 (y * 2) = y := by unfold sh1; simp
theorem sh1_lt {n : Nat} (h : n < 2 ^ 32) : sh1 n < 2 ^ 32 := by
  unfold sh1
  refine xor_lt 32 (by omega) ?_
  split <;> simp [poly]
theorem sh1_pos {n : Nat} (h0 : n ≠ 0) (h : n < 2 ^ 32) : sh1 n ≠ 0 := by
  unfold sh1
  split
  · intro e
    have e2 : n / 2 = poly := by
      have h2 := congrArg (· ^^^ poly) e
      simpa [Nat.xor_assoc] using h2
    rw [poly] at e2
    omega
  · simp; omega

theorem shn_add (a b n : Nat) : shn (a + b) n = shn b (shn a n) := by
  induction a generalizing n with
  | zero => simp [shn]
  | succ a ih => rw [Nat.succ_add]; simp only [shn]; exact ih _
theorem shn_xor (k a b : Nat) : shn k (a ^^^ b) = shn k a ^^^ shn k b := by
  induction k generalizing a b with
  | zero => rfl
  | succ k ih => simp only [shn]; rw [sh1_xor, ih]
theorem shn_zero (k : Nat) : shn k 0 = 0 := by
  induction k with
  | zero => rfl
  | succ k ih => simp only [shn]; rw [sh1_zero, ih]
theorem shn_pow (k y : Nat) : shn k (y * 2 ^ k) = y := by
  induction k generalizing y with
  | zero => simp [shn]
  | succ k ih => simp only [shn]; rw [Nat.pow_succ, ← Nat.mul_assoc, sh1_two, ih]
theorem shn_lt {n : Nat} (k : Nat) (h : n < 2 ^ 32) : shn k n < 2 ^ 32 := by
  induction k generalizing n with
  | zero => exact h
  | succ k ih => exact ih (sh1_lt h)
theorem shn_pos {n : Nat} (k : Nat) (h0 : n ≠ 0) (h : n < 2 ^ 32) : shn k n ≠ 0 := by
  induction k generalizing n with
  | zero => exact h0
  | succ k ih => exact ih (sh1_pos h0 h) (sh1_lt h)
theorem add_xor (a b k : Nat) (h : a < 2 ^ k) : a ^^^ (b * 2 ^ k) = b * 2 ^ k + a := by
  apply Nat.eq_of_testBit_eq
  intro i
  rw [Nat.testBit_xor, Nat.mul_comm b, Nat.testBit_two_pow_mul, Nat.testBit_two_pow_mul_add _ h]
  by_cases hi : i < k
  · have : ¬ k ≤ i := by omega
    simp [hi, this]
  · have h1 : k ≤ i := by omega
    have h2 : a.testBit i = false := Nat.testBit_lt_two_pow (Nat.lt_of_lt_of_le h (Nat.pow_le_pow_right (by omega) h1))
    simp [hi, h1, h2]
theorem split (k n : Nat) : (n % 2 ^ k) ^^^ ((n / 2 ^ k) * 2 ^ k) = n := by
  rw [add_xor _ _ _ (Nat.mod_lt _ (Nat.two_pow_pos k))]
  exact Nat.div_add_mod' n (2 ^ k)
theorem shn_split (k n : Nat) : shn k n = shn k (n % 2 ^ k) ^^^ (n / 2 ^ k) := by
  have h := congrArg (shn k) (split k n)
  rw [shn_xor, shn_pow] at h
  exact h.symm

/-- a step by the table -/
theorem step (s : Nat) (b : Nat) (hb : b < 256) : shn 8 (s ^^^ b) = shn 8 ((s % 256) ^^^ b) ^^^ (s / 256) := by
  have h := shn_split 8 (s ^^^ b)
  rw [xor_mod, xor_div] at h
  simp only [Nat.reducePow] at h
  rw [Nat.mod_eq_of_lt hb, Nat.div_eq_of_lt hb, Nat.xor_zero] at h
  exact h
/-- four bytes at a time -/
theorem four (s a b c d : Nat) : shn 8 (shn 8 (shn 8 (shn 8 (s ^^^ a) ^^^ b) ^^^ c) ^^^ d) = shn 32 (s ^^^ (a ^^^ (b * 256) ^^^ (c * 65536) ^^^ (d * 16777216))) := by
  have hb : shn 8 b = shn 16 (b * 256) := by rw [show (16 : Nat) = 8 + 8 from rfl, shn_add, shn_pow 8 b]
  have hc : shn 8 c = shn 24 (c * 65536) := by rw [show (24 : Nat) = 16 + 8 from rfl, shn_add, shn_pow 16 c]
  have hd : shn 8 d = shn 32 (d * 16777216) := by rw [show (32 : Nat) = 24 + 8 from rfl, shn_add, shn_pow 24 d]
  rw [shn_xor 8 _ d, hd, shn_xor 8 _ c, hc, shn_xor 8 _ b, hb]
  simp only [← shn_add, shn_xor 8, Nat.reduceAdd]
  simp only [← shn_xor, Nat.xor_assoc]
theorem tables (x : Nat) : shn 32 x = shn 32 (x % 256) ^^^ shn 24 (x / 256 % 256) ^^^ shn 16 (x / 65536 % 256) ^^^ shn 8 (x / 16777216 % 256) ^^^ (x / 4294967296) := by
  have h1 := shn_split 8 x
  have h2 := shn_split 8 (x / 256)
  have h3 := shn_split 8 (x / 65536)
  have h4 := shn_split 8 (x / 16777216)
  simp only [Nat.reducePow, Nat.div_div_eq_div_mul, Nat.reduceMul] at h1 h2 h3 h4
  have e1 : shn 32 x = shn 32 (x % 256) ^^^ shn 24 (x / 256) := by
    rw [show (32 : Nat) = 8 + 24 from rfl, shn_add, h1, shn_xor, ← shn_add]
  have e2 : shn 24 (x / 256) = shn 24 (x / 256 % 256) ^^^ shn 16 (x / 65536) := by
    rw [show (24 : Nat) = 8 + 16 from rfl, shn_add, h2, shn_xor, ← shn_add]
  have e3 : shn 16 (x / 65536) = shn 16 (x / 65536 % 256) ^^^ shn 8 (x / 16777216) := by
    rw [show (16 : Nat) = 8 + 8 from rfl, shn_add, h3, shn_xor, ← shn_add]
  rw [e1, e2, e3, h4]
  simp only [Nat.xor_assoc]

theorem crc_nil (s : Nat) : crc s [] = s := rfl
theorem crc_cons (s : Nat) (b : Int) (zs : List Int) : crc s (b :: zs) = crc (shn 8 (s ^^^ b.toNat)) zs := rfl
theorem crc_append (s : Nat) (x y : List Int) : crc s (x ++ y) = crc (crc s x) y := by simp [crc]
theorem byte_xor_lt {s : Nat} {b : Nat} (hs : s < 2 ^ 32) (hb : b < 256) : s ^^^ b < 2 ^ 32 := xor_lt 32 hs (by omega)
theorem crc_lt {s : Nat} {zs : List Int} (hs : s < 2 ^ 32) (hz : ∀ z ∈ zs, z < 256) : crc s zs < 2 ^ 32 := by
  induction zs generalizing s with
  | nil => exact hs
  | cons b zs ih =>
    rw [crc_cons]
    refine ih (shn_lt 8 (byte_xor_lt hs ?_)) (fun z h => hz z (List.mem_cons_of_mem _ h))
    have := hz b (List.mem_cons_self ..)
    omega
theorem not_xor {s : Nat} (h : s < 2 ^ 32) : ones - s = s ^^^ ones := by
  have hx := congrArg BitVec.toNat (BitVec.xor_allOnes (x := BitVec.ofNat 32 s))
  rw [BitVec.toNat_xor, BitVec.toNat_not, BitVec.toNat_allOnes, BitVec.toNat_ofNat, Nat.mod_eq_of_lt h] at hx
  simp only [ones]
  rw [show (4294967295 : Nat) = 2 ^ 32 - 1 from rfl, hx]
theorem ones_lt : ones < 2 ^ 32 := by decide
theorem sum_lt (zs : List Int) : sum zs < 2 ^ 32 := by unfold sum ones; omega

/-- three lists, xored -/
def xor3 (x y z : List Int) : List Int := (x.zip (y.zip z)).map fun t => ((t.1.toNat ^^^ t.2.1.toNat ^^^ t.2.2.toNat : Nat) : Int)
theorem crc_xor3 (s1 s2 s3 : Nat) : ∀ x y z : List Int, x.length = y.length → y.length = z.length → crc (s1 ^^^ s2 ^^^ s3) (xor3 x y z) = crc s1 x ^^^ crc s2 y ^^^ crc s3 z := by
  intro x
  induction x generalizing s1 s2 s3 with
  | nil =>
    intro y z h1 h2
    obtain rfl : y = [] := List.eq_nil_of_length_eq_zero (by simpa using h1.symm)
    obtain rfl : z = [] := List.eq_nil_of_length_eq_zero (by simpa using h2.symm)
    rfl
  | cons a x ih =>
    intro y z h1 h2
    cases y with
    | nil => simp at h1
    | cons b y =>
      cases z with
      | nil => simp at h2
      | cons c z =>
        have h := ih (shn 8 (s1 ^^^ a.toNat)) (shn 8 (s2 ^^^ b.toNat)) (shn 8 (s3 ^^^ c.toNat)) y z (by simpa using h1) (by simpa using h2)
        rw [crc_cons, crc_cons, crc_cons, ← h]
        show crc _ (xor3 (a :: x) (b :: y) (c :: z)) = _
        rw [show xor3 (a :: x) (b :: y) (c :: z) = ((a.toNat ^^^ b.toNat ^^^ c.toNat : Nat) : Int) :: xor3 x y z from rfl, crc_cons, Int.toNat_natCast]
        congr 1
        rw [← shn_xor, ← shn_xor]
        congr 1
        rw [xor_left4 (s1 ^^^ s2) s3, xor_left4 s1 s2, ← xor_left4 (s1 ^^^ a.toNat)]
theorem sum_xor3 (x y z : List Int) (h1 : x.length = y.length) (h2 : y.length = z.length) (hx : ∀ v ∈ x, v < 256) (hy : ∀ v ∈ y, v < 256) (hz : ∀ v ∈ z, v < 256) (hw : ∀ v ∈ xor3 x y z, v < 256) :
    sum (xor3 x y z) = sum x ^^^ sum y ^^^ sum z := by
  unfold sum
  rw [not_xor (crc_lt ones_lt hx), not_xor (crc_lt ones_lt hy), not_xor (crc_lt ones_lt hz), not_xor (crc_lt ones_lt hw)]
  have h := crc_xor3 ones ones ones x y z h1 h2
  rw [Nat.xor_self, Nat.zero_xor] at h
  rw [h]
  generalize crc ones x = a
  generalize crc ones y = b
  generalize crc ones z = c
  rw [xor_left4 a ones b ones, Nat.xor_self, Nat.xor_zero, Nat.xor_assoc (a ^^^ b)]

/-! ### turned bits -/
theorem crc_lin (s e : Nat) (zs : List Int) : crc (s ^^^ e) zs = crc s zs ^^^ shn (8 * zs.length) e := by
  induction zs generalizing s e with
  | nil => rfl
  | cons b zs ih =>
    rw [crc_cons, crc_cons, Nat.xor_assoc, Nat.xor_comm e, ← Nat.xor_assoc, shn_xor, ih, ← shn_add]
    congr 2
    simp; omega
theorem shn_bit {b k : Nat} (h : b ≤ k) : shn k (2 ^ b) = shn (k - b) 1 := by
  have e := shn_add b (k - b) (2 ^ b)
  rw [show b + (k - b) = k by omega] at e
  have h1 := shn_pow b 1
  rw [Nat.one_mul] at h1
  rw [e, h1]
/-- a bit turned in a byte -/
theorem crc_flip (s : Nat) (zs : List Int) (j b : Nat) (c : Int) (hb : b < 8) (hj : zs[j]? = some c) :
    crc s (zs.set j ((c.toNat ^^^ 2 ^ b : Nat) : Int)) = crc s zs ^^^ shn (8 * (zs.length - j) - b) 1 := by
  induction zs generalizing s j with
  | nil => simp at hj
  | cons z zs ih =>
    cases j with
    | zero =>
      obtain rfl : z = c := by simpa using hj
      rw [List.set_cons_zero, crc_cons, crc_cons, Int.toNat_natCast, ← Nat.xor_assoc, shn_xor, crc_lin, shn_bit (show b ≤ 8 by omega), ← shn_add]
      congr 2
      simp; omega
    | succ j =>
      rw [List.set_cons_succ, crc_cons, crc_cons, ih _ j (by simpa using hj)]
      congr 2
      simp
/-- what is kept while bits are turned one by one: p is what is left of the pattern, i how many bits are gone by -/
theorem turn_even (i p : Nat) (hp : p % 2 = 0) : p * 2 ^ i = p / 2 * 2 ^ (i + 1) := by
  obtain ⟨q, rfl⟩ : ∃ q, p = 2 * q := ⟨p / 2, by omega⟩
  rw [Nat.mul_div_cancel_left _ (by omega), Nat.pow_succ, Nat.mul_comm 2 q, Nat.mul_assoc, Nat.mul_comm 2]
theorem turn_odd {M i p : Nat} (hp : p % 2 = 1) (hi : i ≤ M) : shn M (p * 2 ^ i) = shn M (p / 2 * 2 ^ (i + 1)) ^^^ shn (M - i) 1 := by
  have e : p * 2 ^ i = 2 ^ i ^^^ (p / 2 * 2 ^ (i + 1)) := by
    rw [add_xor _ _ _ (Nat.pow_lt_pow_right (by omega) (by omega)), Nat.pow_succ]
    obtain ⟨q, rfl⟩ : ∃ q, p = 2 * q + 1 := ⟨p / 2, by omega⟩
    rw [show (2 * q + 1) / 2 = q by omega, Nat.add_mul, Nat.one_mul, Nat.mul_comm 2 q, Nat.mul_assoc, Nat.mul_comm 2]
  rw [e, shn_xor, shn_bit hi, Nat.xor_comm]
theorem le4_crc (s c : Nat) (hc : c < 2 ^ 32) : crc s (le4 c) = shn 32 (s ^^^ c) := by
  simp only [le4, crc_cons, crc_nil, Int.toNat_natCast]
  rw [four]
  congr 2
  have h1 := split 8 c
  have h2 := split 8 (c / 256)
  have h3 := split 8 (c / 65536)
  simp only [Nat.reducePow] at h1 h2 h3
  have a1 := add_xor (c % 256) (c / 256 % 256) 8 (Nat.mod_lt _ (by decide))
  have a2 := add_xor (c / 256 % 256 * 256 + c % 256) (c / 65536 % 256) 16 (by simp only [Nat.reducePow]; omega)
  have a3 := add_xor (c / 65536 % 256 * 65536 + (c / 256 % 256 * 256 + c % 256)) (c / 16777216 % 256) 24 (by simp only [Nat.reducePow]; omega)
  simp only [Nat.reducePow] at a1 a2 a3
  rw [a1, a2, a3]
  omega
theorem sum_xor (zs : List Int) (hz : ∀ z ∈ zs, z < 256) : sum zs = crc ones zs ^^^ ones := not_xor (crc_lt ones_lt hz)
/-- the state behind sealed bytes is always one -/
theorem sealed (zs : List Int) (hz : ∀ z ∈ zs, z < 256) : crc ones (zs ++ le4 (sum zs)) = shn 32 ones := by
  rw [crc_append, le4_crc _ _ (sum_lt zs), sum_xor zs hz, ← Nat.xor_assoc, Nat.xor_self, Nat.zero_xor]
theorem turned {zs cur : List Int} {M t : Nat} (hz : ∀ z ∈ zs, z < 256) (ht : t ≠ 0) (ht2 : t < 2 ^ 32) (h : crc ones cur = crc ones (zs ++ le4 (sum zs)) ^^^ shn M t) (xs : List Int) (hx : ∀ z ∈ xs, z < 256) : xs ++ le4 (sum xs) ≠ cur := by
  intro e
  rw [← e, sealed xs hx, sealed zs hz] at h
  have h2 := congrArg (shn 32 ones ^^^ ·) h
  simp only [← Nat.xor_assoc, Nat.xor_self, Nat.zero_xor] at h2
  exact shn_pos M ht ht2 h2.symm
theorem le4_len (n : Nat) : (le4 n).length = 4 := rfl
theorem le4_lt (n : Nat) : ∀ z ∈ le4 n, z < 256 := by
  intro z hz
  simp only [le4, List.mem_cons, List.not_mem_nil, or_false] at hz
  omega
theorem le4_ge (n : Nat) : ∀ z ∈ le4 n, 0 ≤ z := by
  intro z hz
  simp only [le4, List.mem_cons, List.not_mem_nil, or_false] at hz
  omega
end Cr
end Go.Proofs.Ytfdbcfkjablnkaa

namespace Go.Proofs.Ytfdbcfkjablnkaa
open Go.RowKit
set_option maxRecDepth 100000

theorem u32_not (n : Nat) (h : n < 4294967296) : bits .xor .u32 4294967295 (n : Int) = ((Cr.ones - n : Nat) : Int) := by
  rw [show (4294967295 : Int) = ((4294967295 : Nat) : Int) from rfl, u32_xor_nat _ _ (by omega) h, Cr.not_xor h, Nat.xor_comm]
  rfl
theorem sh1_odd (n : Nat) (h : n < 4294967296) (ho : n % 2 = 1) : bits .xor .u32 ((n / 2 : Nat) : Int) 3988292384 = ((Cr.sh1 n : Nat) : Int) := by
  rw [show (3988292384 : Int) = ((3988292384 : Nat) : Int) from rfl, u32_xor_nat _ _ (by omega) (by omega), Cr.sh1, if_pos ho]
  rfl
theorem sh1_even (n : Nat) (ho : n % 2 = 0) : n / 2 = Cr.sh1 n := by
  rw [Cr.sh1, if_neg (by omega)]
  simp
theorem and1 (n : Nat) (h : n < 4294967296) : bits .and .u32 (n : Int) 1 = ((n % 2 : Nat) : Int) := by
  rw [show (1 : Int) = ((1 : Nat) : Int) from rfl, u32_and_nat _ _ h (by omega), Nat.and_one_is_mod]

/-- the table lies in block b, below B -/
def TabAt (w : World) (B b : Nat) : Prop := b < B ∧ ∀ k i : Nat, k < 4 → i < 256 → w.cell? ⟨b, k * 256 + i, none⟩ = some (.int .u32 ((Cr.shn (8 * (k + 1)) i : Nat) : Int))
theorem TabAt.below {w w' : World} {B b : Nat} (h : TabAt w B b) (hb : Below B w w') : TabAt w' B b := ⟨h.1, fun k i hk hi => (hb.cell (p := ⟨b, k * 256 + i, none⟩) h.1).trans (h.2 k i hk hi)⟩
theorem TabAt.mono {w : World} {B B' b : Nat} (h : TabAt w B b) (hB : B ≤ B') : TabAt w B' b := ⟨Nat.lt_of_lt_of_le h.1 hB, h.2⟩
theorem take_more {zs : List Int} {k : Nat} {z : Int} (h : zs[k]? = some z) : zs.take (k + 1) = zs.take k ++ [z] := by
  have hk : k < zs.length := by
    rcases Nat.lt_or_ge k zs.length with h1 | h1
    · exact h1
    · rw [List.getElem?_eq_none h1] at h; simp at h
  rw [List.getElem?_eq_getElem hk] at h
  injection h with h
  rw [List.take_succ_eq_append_getElem hk, h]
theorem crc_more {zs : List Int} {k : Nat} {z : Int} (s : Nat) (h : zs[k]? = some z) : Cr.crc s (zs.take (k + 1)) = Cr.shn 8 (Cr.crc s (zs.take k) ^^^ z.toNat) := by
  rw [take_more h, Cr.crc_append]
  rfl
theorem u32_xor_byte (s : Nat) (z : Int) (hs : s < 4294967296) (h0 : 0 ≤ z) (h1 : z < 256) : bits .xor .u32 (s : Int) z = ((s ^^^ z.toNat : Nat) : Int) := by
  obtain ⟨m, rfl⟩ := Int.eq_ofNat_of_zero_le h0
  rw [u32_xor_nat s m hs (by omega), Int.toNat_natCast]

end Go.Proofs.Ytfdbcfkjablnkaa

namespace Go.Proofs.Ytfdbcfkjablnkaa
open Go.RowKit
set_option maxRecDepth 100000

/-- what of the table is told: the columns below i, and of column i the rows below k -/
def TabTo (cs : Array Value) (i k : Nat) : Prop := cs.size = 1024 ∧ ∀ k' i' : Nat, k' < 4 → i' < 256 → (i' < i ∨ (i' = i ∧ k' < k)) → cs[k' * 256 + i']? = some (.int .u32 ((Cr.shn (8 * (k' + 1)) i' : Nat) : Int))
theorem TabTo.next {cs : Array Value} {i k : Nat} (h : TabTo cs i k) (hk : k < 4) (hi : i < 256) : TabTo (cs.setIfInBounds (k * 256 + i) (.int .u32 ((Cr.shn (8 * (k + 1)) i : Nat) : Int))) i (k + 1) := by
  refine ⟨by simp [h.1], fun k' i' hk' hi' hd => ?_⟩
  rw [Array.getElem?_setIfInBounds]
  by_cases he : k * 256 + i = k' * 256 + i'
  · have e1 : k = k' := by omega
    have e2 : i = i' := by omega
    subst e1 e2
    rw [if_pos rfl, if_pos (by rw [h.1]; omega)]
  · rw [if_neg he]
    exact h.2 k' i' hk' hi' (by omega)
theorem TabTo.col {cs : Array Value} {i : Nat} (h : TabTo cs i 4) : TabTo cs (i + 1) 0 := ⟨h.1, fun k' i' hk' hi' hd => h.2 k' i' hk' hi' (by omega)⟩

end Go.Proofs.Ytfdbcfkjablnkaa

namespace Go.Proofs.Ytfdbcfkjablnkaa
open Go.RowKit Go.Shelf
set_option maxRecDepth 100000
attribute [local go_sem] Oper.semAt_some

/-- a frame as a value -/
def frC (v k s i c : Int) (p : Value) : Array Value := #[.int .i64 v, .int .i64 k, .int .u32 s, .int .i64 i, .int .i64 c, p]
def frV (v k s i c : Int) (p : Value) : Value := .agg (frC v k s i c p)
/-- a codec lies there, and its table -/
def CodAt (w : World) (B b : Nat) : Prop := ∃ t, b < B ∧ w.cell? ⟨b, 0, none⟩ = some (.pointer (some ⟨t, 0, none⟩)) ∧ TabAt w B t
theorem CodAt.below {w w' : World} {B b : Nat} (h : CodAt w B b) (hb : Below B w w') : CodAt w' B b := by
  obtain ⟨t, h1, h2, h3⟩ := h
  exact ⟨t, h1, (hb.cell (p := ⟨b, 0, none⟩) h1).trans h2, h3.below hb⟩
theorem CodAt.mono {w : World} {B B' b : Nat} (h : CodAt w B b) (hB : B ≤ B') : CodAt w B' b := by
  obtain ⟨t, h1, h2, h3⟩ := h
  exact ⟨t, by omega, h2, h3.mono hB⟩

/-- what Check tells -/
def fchk (v k i c : Int) (n : Nat) : Int := if chk v k i c ≠ 0 then chk v k i c else if n = 0 then 13 else if 242 < n then 2 else 0
theorem fchk_zero {v k i c : Int} {n : Nat} (h : fchk v k i c n = 0) : chk v k i c = 0 ∧ 1 ≤ n ∧ n ≤ 242 := by
  unfold fchk at h
  by_cases h0 : chk v k i c = 0
  · rw [if_neg (by simpa using h0)] at h
    by_cases h1 : n = 0
    · rw [if_pos h1] at h; omega
    · rw [if_neg h1] at h
      by_cases h2 : 242 < n
      · rw [if_pos h2] at h; omega
      · exact ⟨h0, by omega, by omega⟩
  · rw [if_pos h0] at h; exact absurd h h0
theorem fr_cells {w w1 : World} {v k s i c : Int} {p : Value} {t : TypeId} (hb : Below (w.alloc (.cells (frC v k s i c p) t)).heap.size (w.alloc (.cells (frC v k s i c p) t)) w1) :
    w1.heap[w.heap.size]? = some (.cells (frC v k s i c p) t (0, 0)) := (hb.block _ (by simp)).trans (World.alloc_heap_new _ _)
theorem fr_block {W : World} {b : Nat} {v k s i c : Int} {p : Value} {t : TypeId} (h : W.heap[b]? = some (.cells (frC v k s i c p) t (0, 0))) :
    W.cell? ⟨b, 0, none⟩ = some (.int .i64 v) ∧ W.cell? ⟨b, 1, none⟩ = some (.int .i64 k) ∧ W.cell? ⟨b, 2, none⟩ = some (.int .u32 s) ∧ W.cell? ⟨b, 3, none⟩ = some (.int .i64 i) ∧ W.cell? ⟨b, 4, none⟩ = some (.int .i64 c) ∧ W.cell? ⟨b, 5, none⟩ = some p := by
  simp [World.cell?, h, frC]
end Go.Proofs.Ytfdbcfkjablnkaa

namespace Go.Proofs.Ytfdbcfkjablnkaa
open Go.RowKit
set_option maxRecDepth 100000
theorem byteInfo : (Try.prog.info? 5).map (fun i => (i.zero, i.size, i.bytes)) = some (some (.int .u8 0), 1, 1) := by kernel_rfl
end Go.Proofs.Ytfdbcfkjablnkaa

namespace Go.Proofs.Ytfdbcfkjablnkaa
open Go.RowKit

theorem wpList_append_any {P : Program} {w : World} {ops : Array Oper} {rest : List Oper} {o : Oper} {a : Act} {Q : Exit → Act → World → Prop} (hwt : Region.wanted o (yielded ops a.tmps) = true) (s x : Operand) (t : TypeId)
    (ho : o.op = .call { callee := .builtin .append, args := #[s, x], argTypes := #[t, t] })
    (base : Nat) (e : TypeId) (i : TypeInfo) (z : Value) (bytes : Nat) (ht : P.underlying t = some (.slice e)) (hi : P.info? e = some i) (hz : i.zero = some z) (hsize : i.size = 1) (hby : i.bytes = bytes) (hzs : z.cells.size = 1)
    (k : IntKind) (L zs : List Int) (v : Value) (hs : a.eval s = v) (hown : w.ownsRow base e 1 v L.length (L.map (Value.int k))) (A : Option Addr) (m c B : Nat) (hx : a.eval x = .slice A m c) (hm : zs.length = m) (hn : Nums k w B A zs)
    (h63 : L.length + m ≤ maxLen) (hbytes : (L.length + m) * bytes ≤ 140737488355328) (hbase : base ≤ w.heap.size)
    (h : ∀ v' w', w'.ownsRow base e 1 v' (L.length + zs.length) (L.map (Value.int k) ++ zs.map (Value.int k)) → w.grownBy w' v.ownBlock → wpList P ops Q rest (a.put o.dst v') w') : wpList P ops Q (o :: rest) a w := by
  subst hm
  simp only [wpList, hwt, if_true]
  left
  by_cases hz0 : zs = []
  · subst hz0
    have hv : ∃ b n cap, v = .slice b n cap ∧ n ≤ cap := by
      rcases hown.2 with ⟨rfl, _⟩ | ⟨g, cap, cur, rfl, _, _, hle, _⟩
      · exact ⟨_, _, _, rfl, Nat.le_refl _⟩
      · exact ⟨_, _, _, rfl, hle⟩
    obtain ⟨b, n, cap, rfl, hle⟩ := hv
    refine Lib.wp_append_run w s x t t ho _ _ hs hx _ w (run_append_nothing w t t o.type e i ht hi b n cap hle _ ?_) (h _ _ (by simpa using hown) ⟨rfl, rfl, rfl, Nat.le_refl _, fun _ _ _ => rfl⟩)
    cases A with
    | none => exact ⟨.inl ⟨e, ht⟩, fun _ => rfl, run_firstCells_none w i.size 0 0 c, run_firstCells_none w.drew i.size 0 0 c, by simp, fun _ h => by cases h⟩
    | some ad => exact Src.ofSlice w ht ad 0 c [] (by simp) (by simp) (fun _ h => by cases h)
  · obtain ⟨b1, o1, rfl, hb1, hc⟩ := hn hz0
    refine wp_append_own w s x t ho base e i z 1 bytes ht hi hz hsize hby hzs (by decide) v L.length _ hs hown ⟨b1, o1, none⟩ zs.length c (zs.map (Value.int k)) hx (by simp) (fun j u hj => ?_) (fun u hu => by obtain ⟨y, _, rfl⟩ := List.mem_map.1 hu; rfl) h63 hbytes hbase fun v' w' h1 h2 _ => h v' w' h1 h2
    rw [List.getElem?_map] at hj
    obtain ⟨y, hy, rfl⟩ := Option.map_eq_some_iff.1 hj
    rw [Addr.add_lit]
    exact hc j y hy

section
variable {e : TypeId} {k : IntKind} {w w1 w2 : World} {L zs : List Int} {v v' : Value}
theorem MadeK.more (h : MadeK e k w w1 L v) (hown : w2.ownsRow w.heap.size e 1 v' (L.length + zs.length) (L.map (Value.int k) ++ zs.map (Value.int k))) (hg : w1.grownBy w2 v.ownBlock) : MadeK e k w w2 (L ++ zs) v' :=
  ⟨by simpa using hown, h.2.grown hg (by have := h.2.size; omega) (fun g hk => (h.own_ge hk).1)⟩
/-- an empty literal -/
theorem MadeK.lit (e : TypeId) (k : IntKind) (h : Below w.heap.size w w1) : MadeK e k w (w1.alloc (.cells #[] e)) [] (.slice (some ⟨w1.heap.size, 0, none⟩) 0 0) :=
  ⟨World.ownsRow_made w1 #[] 0 h.size (Nat.zero_le _) rfl, h.alloc h.size _⟩
theorem MadeK.lit' {s : Nat} (e : TypeId) (k : IntKind) (hs : w1.heap.size = s) (h : Below w.heap.size w w1) : MadeK e k w (w1.alloc (.cells #[] e)) [] (.slice (some ⟨s, 0, none⟩) 0 0) := by
  subst hs; exact MadeK.lit e k h
/-- a store elsewhere, above -/
theorem MadeK.store {q : Addr} (h : MadeK e k w w1 L v) (hq : ∀ g, v.ownBlock = some g → g ≠ q.block) (hw : w.heap.size ≤ q.block) (u : Value) : MadeK e k w (w1.setCell q u) L v := by
  refine ⟨h.1.kept (row := some q.block) ⟨rfl, rfl, rfl, by simp [World.setCell], fun j _ hj => Below.heap_setCell _ _ _ _ (fun e => hj (by rw [e]))⟩ ?_, h.2.setCell hw u⟩
  right
  intro he
  exact hq _ he rfl
theorem MadeK.since {w0 : World} (h : MadeK e k w w1 L v) (hb : Below w0.heap.size w0 w) : MadeK e k w0 w1 L v := by
  have hs := hb.size
  refine ⟨⟨h.1.1, ?_⟩, hb.trans (h.2.mono hs)⟩
  rcases h.1.2 with h | ⟨g, cap, cur, hv, hg, rest⟩
  · exact .inl h
  · exact .inr ⟨g, cap, cur, hv, by omega, rest⟩
/-- the block of what was made -/
theorem MadeK.ge {A : Option Addr} {n c : Nat} (h : MadeK e k w w1 L (.slice A n c)) {q : Nat} (hq : blockOf A q) : w.heap.size ≤ q := by
  obtain ⟨o, s, rfl⟩ := hq
  exact (h.own_ge (g := q) rfl).1
end
end Go.Proofs.Ytfdbcfkjablnkaa

namespace Go.Proofs.Ytfdbcfkjablnkaa
open Go.RowKit

theorem run_append_any {P : Program} {w : World} (t ty : TypeId) (base : Nat) (e : TypeId) (i : TypeInfo) (z : Value) (bytes : Nat) (ht : P.underlying t = some (.slice e)) (hi : P.info? e = some i) (hz : i.zero = some z) (hsize : i.size = 1) (hby : i.bytes = bytes) (hzs : z.cells.size = 1)
    (k : IntKind) (n : Nat) (xs : List Value) (zs : List Int) (v : Value) (hown : w.ownsRow base e 1 v n xs) (A : Option Addr) (m c B : Nat) (hm : zs.length = m) (hn : Nums k w B A zs)
    (h63 : n + m ≤ maxLen) (hbytes : (n + m) * bytes ≤ 140737488355328) (hbase : base ≤ w.heap.size) :
    ∃ v' w', (Builtin.append_ #[t, t] ty #[v, .slice A m c]).run P w = .ok v' w' ∧ w'.ownsRow base e 1 v' (n + m) (xs ++ zs.map (Value.int k)) ∧ w.grownBy w' v.ownBlock := by
  subst hm
  by_cases hz0 : zs = []
  · subst hz0
    have hv : ∃ b n cap, v = .slice b n cap ∧ n ≤ cap := by
      rcases hown.2 with ⟨rfl, _⟩ | ⟨g, cap, cur, rfl, _, _, hle, _⟩
      · exact ⟨_, _, _, rfl, Nat.le_refl _⟩
      · exact ⟨_, _, _, rfl, hle⟩
    obtain ⟨b, q, cap, rfl, hle⟩ := hv
    refine ⟨_, _, run_append_nothing w t t ty e i ht hi b q cap hle _ ?_, by simpa using hown, ⟨rfl, rfl, rfl, Nat.le_refl _, fun _ _ _ => rfl⟩⟩
    cases A with
    | none => exact ⟨.inl ⟨e, ht⟩, fun _ => rfl, run_firstCells_none w i.size 0 0 c, run_firstCells_none w.drew i.size 0 0 c, by simp, fun _ h => by cases h⟩
    | some ad => exact Src.ofSlice w ht ad 0 c [] (by simp) (by simp) (fun _ h => by cases h)
  · obtain ⟨b1, o1, rfl, hb1, hc⟩ := hn hz0
    obtain ⟨v', w', h1, h2, h3, _⟩ := run_append_own (P := P) w base t ty e i z 1 bytes ht hi hz hsize hby hzs (by decide) v n xs hown ⟨b1, o1, none⟩ zs.length c (zs.map (Value.int k)) (by simp) (fun j u hj => by
      rw [List.getElem?_map] at hj
      obtain ⟨y, hy, rfl⟩ := Option.map_eq_some_iff.1 hj
      rw [Addr.add_lit]
      exact hc j y hy) (fun u hu => by obtain ⟨y, _, rfl⟩ := List.mem_map.1 hu; rfl) h63 hbytes hbase
    exact ⟨v', w', h1, h2, h3⟩

theorem wpListIn_append_any {F : Fence} {nF : Nat} {P : Program} {w : World} {ops : Array Oper} {rest : List Oper} {o : Oper} {a : Act} {Q : Exit → Act → World → Prop} (hg : o.guard = none) (s x : Operand) (t : TypeId)
    (hop : o.op = Op.call { callee := Callee.builtin Builtin.append, args := #[s, x], argTypes := #[t, t] })
    (base : Nat) (e : TypeId) (i : TypeInfo) (z : Value) (bytes : Nat) (ht : P.underlying t = some (.slice e)) (hi : P.info? e = some i) (hz : i.zero = some z) (hsize : i.size = 1) (hby : i.bytes = bytes) (hzs : z.cells.size = 1)
    (k : IntKind) (n : Nat) (xs : List Value) (zs : List Int) (v : Value) (hs : a.eval s = v) (hown : w.ownsRow base e 1 v n xs) (A : Option Addr) (m c B : Nat) (hx : a.eval x = .slice A m c) (hm : zs.length = m) (hn : Nums k w B A zs)
    (h63 : n + m ≤ maxLen) (hbytes : (n + m) * bytes ≤ 140737488355328) (hbase : base ≤ w.heap.size)
    (hK : ∀ v' w', w'.ownsRow base e 1 v' (n + m) (xs ++ zs.map (Value.int k)) → w.grownBy w' v.ownBlock → wpListIn F nF P ops Q rest (a.put o.dst v') w') :
    wpListIn F nF P ops Q (o :: rest) a w := by
  refine wpListIn_plain hg fun K hK' => ?_
  obtain ⟨v', w', hrun, r1, r2⟩ := run_append_any (P := P) (w := w) t o.type base e i z bytes ht hi hz hsize hby hzs k n xs zs v hown A m c B hm hn h63 hbytes hbase
  unfold Oper.wpIn
  refine ⟨?_, ?_⟩
  · simp [Oper.about, hop, resolve, Target.leads, Sem.run_pure]
  · rw [Oper.semAt_plain F _ _ (by rw [hop]; intro c hc'; cases hc')]
    simp [execOp, hop, resolve, invoke, builtin, hs, hx, hrun, Result.andThen]
    exact hK' _ _ (hK v' w' r1 r2)

/-- what has grown behind a new block has grown -/
theorem grown_of_alloc {W w1 : World} {o : Obj} {row : Option Nat} (h : (W.alloc o).grownBy w1 row) : W.grownBy w1 row :=
  ⟨h.os, h.tape, h.output, by have := h.size; rw [World.size_alloc] at this; omega, fun k hk hne => (h.block k (by rw [World.size_alloc]; omega) hne).trans (Below.heap_alloc W o k hk)⟩

/-- what a box that is appended to leaves -/
structure BoxApp (S : Nat → Prop) (base : Nat) (t e : TypeId) (Bo Bs : Nat) (v' u : Value) (m : Nat) (ys : List Value) (W W2 : World) : Prop where
  out : Boxed W2 Bo t v'
  src : Boxed W2 Bs t u
  row : W2.ownsRow base e 1 v' m ys
  others : KeepsOthers W W2
  below : Below base W W2
  keep : KeepS S W W2
theorem box_appended {W w1 : World} {base Bo Bs : Nat} {t e : TypeId} {v v' u : Value} {n m : Nat} {xs ys : List Value} {S : Nat → Prop} (hv : Boxed W Bo t v) (hs : Boxed W Bs t u) (hne : Bs ≠ Bo) (hte : t ≠ e) (hrow : W.ownsRow base e 1 v n xs) (hbase : base ≤ W.heap.size) (hBo : base ≤ Bo)
    (hS : ∀ k, S k → k < base ∨ k = Bs) (hown' : w1.ownsRow base e 1 v' m ys) (hg : W.grownBy w1 v.ownBlock) :
    Boxed w1 Bo t v ∧ BoxApp S base t e Bo Bs v' u m ys W (w1.setCell ⟨Bo, 0, none⟩ v') := by
  have hv1 : Boxed w1 Bo t v := hv.kept hg (hv.not_row hte hrow)
  have hs1 : Boxed w1 Bs t u := hs.kept hg (hs.not_row hte hrow)
  have hlt := hrow.lt
  have hSlt := hs.lt
  refine ⟨hv1, hv1.set v', hs1.other hne v', hown'.kept (grownBy_setCell' w1 Bo v') (.inr (hv1.not_row hte hown').symm), ?_, ?_, ?_⟩
  · refine (KeepsOthers.of_grownBy hg fun j o ej hj => ?_).trans (KeepsOthers.setCell _ _ _)
    rcases hrow.2 with ⟨rfl, _⟩ | ⟨g, cap, cur, rfl, _, hgb, _⟩
    · simp [Value.ownBlock] at ej
    · obtain rfl : g = j := by simpa [Value.ownBlock] using ej
      rw [hgb] at hj; cases hj; rfl
  · exact ((Below.refl base W).grown hg hbase (fun j ej => (hlt j ej).1)).setCell (p := ⟨Bo, 0, none⟩) hBo v'
  · refine KeepS.set (KeepS.grown (KeepS.refl S W) hg (fun k hk => ?_) (fun k hk hSk => ?_)) (fun h => ?_) v'
    · rcases hS k hk with h | h <;> omega
    · have h1 := (hlt k hk).1
      rcases hS k hSk with h | h
      · omega
      · subst h; exact hs.not_row hte hrow hk.symm
    · rcases hS Bo h with h | h <;> omega
end Go.Proofs.Ytfdbcfkjablnkaa

namespace Go.Proofs.Ytfdbcfkjablnkaa
open Go.RowKit Go.Shelf
set_option maxRecDepth 100000
attribute [local go_sem] Oper.semAt_some

/-- slices.Clone of bytes, up to the form's own reach -/
theorem clone_big (a : Option Addr) (n cap : Nat) (zs : List Int) (w : World) (hn : zs.length = n) (hl : n ≤ 140737488351232) (h1 : Nums .u8 w w.heap.size a zs) :
    Calls Try.prog 49 #[.slice a n cap] w fun e w' => ∃ v, e = .returned v ∧ MadeK 5 .u8 w w' zs v := by
  subst hn
  obtain ⟨i0, hi, hz0, hz1, hz2⟩ := info_parts byteInfo
  cases a with
  | none =>
    have : zs = [] := by
      apply Classical.byContradiction
      intro hn
      obtain ⟨b, off, e, _⟩ := h1 hn
      cases e
    subst this
    have hq := fun w => Lib.run_eql_slice_nil (P := Try.prog) w 33 5 none 0 cap 0 0 Try.underlying33
    go_enter Try.func49, Try.ntmps49
    go_wp2
    go_ret
    exact ⟨_, rfl, MadeK.nil _ _ (Below.refl _ _)⟩
  | some x =>
    have hq := fun w => Lib.run_eql_slice_nil (P := Try.prog) w 33 5 (some x) zs.length cap 0 0 Try.underlying33
    have HL := Lib.hid (MadeK.lit 5 .u8 (Below.refl w.heap.size w))
    have HN := Lib.hid (h1.below ((Below.refl w.heap.size w).alloc (Nat.le_refl _) (.cells #[] 5)))
    have HX1 : Hid (([] : List Int).length + zs.length ≤ maxLen) := by show _ ≤ _; unfold maxLen; simp only [List.length_nil]; omega
    have HX2 : Hid ((([] : List Int).length + zs.length) * 1 ≤ 140737488355328) := by show _ ≤ _; simp only [List.length_nil]; omega
    go_enter Try.func49, Try.ntmps49
    go_wp2_with (at_builtin; refine wpList_append_any rfl (.tmp 5) (.tmp 6) 33 rfl w.heap.size 5 i0 (.int .u8 0) 1 Try.underlying33 hi hz0 hz1 hz2 rfl .u8 [] zs _ rfl HL.out.1 _ _ _ _ rfl rfl HN.out HX1.out HX2.out HL.out.2.size ?_)
    intro v' w1 hown hg
    have HM := Lib.hid (HL.out.more (zs := zs) (v' := v') (by simpa using hown) hg)
    rw [List.nil_append] at HM
    go_wp2
    go_ret
    exact ⟨_, rfl, HM.out⟩
/-- slices.Clone of bytes -/
theorem clone_any (a : Option Addr) (n cap : Nat) (zs : List Int) (w : World) (hn : zs.length = n) (hl : n ≤ 1000000) (h1 : Nums .u8 w w.heap.size a zs) :
    Calls Try.prog 49 #[.slice a n cap] w fun e w' => ∃ v, e = .returned v ∧ MadeK 5 .u8 w w' zs v := clone_big a n cap zs w hn (by omega) h1
end Go.Proofs.Ytfdbcfkjablnkaa
