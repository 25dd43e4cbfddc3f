/-
  Words for memory, more: what is as it was but for some blocks (Off); a whole row of numbers that the call made (KRow). No program is imported.
-/
import Derived.Test.YtnbhiamnoapmlaaMem
import Derived.Laws.CopyOwn
import Derived.Lib.AppendZerosOnto
namespace Go.Proofs.Ytnbhiamnoapmlaa
open Go.RowKit

/-- of the blocks that are there, those outside S are as they were -/
structure Off (S : Nat → Prop) (w w' : World) : Prop where
  os : w'.os = w.os
  tape : w'.tape = w.tape
  output : w'.output = w.output
  size : w.heap.size ≤ w'.heap.size
  block : ∀ k, k < w.heap.size → ¬ S k → w'.heap[k]? = w.heap[k]?
section
variable {S S' : Nat → Prop} {w w1 w' : World} {B : Nat}
theorem Off.refl (S : Nat → Prop) (w : World) : Off S w w := ⟨rfl, rfl, rfl, Nat.le_refl _, fun _ _ _ => rfl⟩
theorem Off.trans (h : Off S w w1) (k : Off S' w1 w') (hS : ∀ j, j < w.heap.size → S' j → S j) : Off S w w' :=
  ⟨k.os.trans h.os, k.tape.trans h.tape, k.output.trans h.output, Nat.le_trans h.size k.size, fun i hi hn => (k.block i (Nat.lt_of_lt_of_le hi h.size) (fun hs => hn (hS i hi hs))).trans (h.block i hi hn)⟩
theorem Off.mono (h : Off S w w') (hS : ∀ j, j < w.heap.size → S j → S' j) : Off S' w w' := ⟨h.os, h.tape, h.output, h.size, fun k hk hn => h.block k hk fun hs => hn (hS k hk hs)⟩
theorem Off.of_below (h : Below w.heap.size w w') : Off S w w' := ⟨h.os, h.tape, h.output, h.size, fun k hk _ => h.block k hk⟩
theorem Off.below (h : Off S w w') (hS : ∀ k, S k → B ≤ k) (hB : B ≤ w.heap.size) : Below B w w' := ⟨h.os, h.tape, h.output, h.size, fun k hk => h.block k (by omega) (fun hs => by have := hS k hs; omega)⟩
theorem Off.cell (h : Off S w w') {p : Addr} {v : Value} (hv : w.cell? p = some v) (hn : ¬ S p.block) : w'.cell? p = some v :=
  (World.cell?_of_block (h.block p.block (World.block_lt_of_cell? w p hv) hn)).trans hv
theorem Off.setCell (h : Off S w w') {p : Addr} (hp : S p.block) (u : Value) : Off S w (w'.setCell p u) :=
  ⟨h.os, h.tape, h.output, by simpa [World.setCell] using h.size, fun k hk hn => (Below.heap_setCell _ _ _ _ (fun e => hn (by subst e; exact hp))).trans (h.block k hk hn)⟩
theorem Off.setRow (h : Off S w w') {g : Nat} (hp : S g) (cs : Array Value) : Off S w (w'.setRow g cs) :=
  ⟨h.os, h.tape, h.output, by simpa [World.setRow] using h.size, fun k hk hn => (setRow_other _ _ _ _ (fun e => hn (by subst e; exact hp))).trans (h.block k hk hn)⟩
end

/-- the block of a slice's address -/
def blockOf (A : Option Addr) (g : Nat) : Prop := ∃ o s, A = some ⟨g, o, s⟩

theorem Nums.off {S : Nat → Prop} {k : IntKind} {w w' : World} {B : Nat} {A : Option Addr} {zs : List Int} (h : Nums k w B A zs) (hf : Off S w w') (hn : zs ≠ [] → ∀ g, blockOf A g → ¬ S g) : Nums k w' B A zs := fun h0 => by
  obtain ⟨b, off, e, hb, hc⟩ := h h0
  exact ⟨b, off, e, hb, fun j c hj => hf.cell (hc j c hj) (hn h0 b ⟨_, _, e⟩)⟩

/-- a row that the call made, known whole: nil, or cap cells of type T, the numbers cur -/
def KRow (T : TypeId) (k : IntKind) (w : World) (A : Option Addr) (cap : Nat) (cur : List Int) : Prop :=
  cur.length = cap ∧ ((A = none ∧ cap = 0) ∨ ∃ g, A = some ⟨g, 0, none⟩ ∧ cap ≤ maxLen ∧ w.heap[g]? = some (.cells (cur.map (Value.int k)).toArray T (0, 0)))
section
variable {T : TypeId} {k : IntKind} {w w' : World} {A : Option Addr} {cap : Nat} {cur : List Int}
theorem KRow.nil (T : TypeId) (k : IntKind) (w : World) : KRow T k w none 0 [] := ⟨rfl, .inl ⟨rfl, rfl⟩⟩
theorem KRow.lt (h : KRow T k w A cap cur) {g : Nat} (hg : blockOf A g) : g < w.heap.size := by
  obtain ⟨o, s, rfl⟩ := hg
  rcases h.2 with ⟨h0, _⟩ | ⟨g', e, _, hh⟩
  · simp at h0
  · injection e with e; injection e with e1; subst e1
    exact (Array.getElem?_eq_some_iff.1 hh).1
theorem KRow.off {S : Nat → Prop} (h : KRow T k w A cap cur) (hf : Off S w w') (hn : ∀ g, blockOf A g → ¬ S g) : KRow T k w' A cap cur := by
  refine ⟨h.1, ?_⟩
  rcases h.2 with h0 | ⟨g, rfl, hm, hh⟩
  · exact .inl h0
  · exact .inr ⟨g, rfl, hm, by rw [hf.block g (Array.getElem?_eq_some_iff.1 hh).1 (hn g ⟨_, _, rfl⟩)]; exact hh⟩
theorem KRow.cells (h : KRow T k w A cap cur) {g o : Nat} (hA : A = some ⟨g, o, none⟩) : o = 0 ∧ w.heap[g]? = some (.cells (cur.map (Value.int k)).toArray T (0, 0)) := by
  rcases h.2 with ⟨h0, _⟩ | ⟨g', e, _, hh⟩
  · rw [hA] at h0; simp at h0
  · rw [hA] at e; injection e with e; injection e with e1 e2; subst e1; exact ⟨e2, hh⟩
theorem KRow.cell (h : KRow T k w A cap cur) {g o : Nat} (hA : A = some ⟨g, o, none⟩) {j : Nat} {c : Int} (hj : cur[j]? = some c) : w.cell? ⟨g, j, none⟩ = some (.int k c) := by
  obtain ⟨_, hh⟩ := h.cells hA
  simp [World.cell?, hh, hj]
theorem KRow.nums (h : KRow T k w A cap cur) (n : Nat) : Nums k w w.heap.size A (cur.take n) := by
  refine Nums.take (fun hn => ?_) n
  rcases h.2 with ⟨_, h1⟩ | ⟨g, rfl, _, hh⟩
  · exact absurd (List.eq_nil_of_length_eq_zero (h.1.trans h1)) hn
  · exact ⟨g, 0, rfl, (Array.getElem?_eq_some_iff.1 hh).1, fun j c hj => by rw [Nat.zero_add]; exact h.cell rfl hj⟩
theorem zeroCells_int (k : IntKind) (n : Nat) : Builtin.zeroCells #[.int k 0] n = ((List.replicate n (0 : Int)).map (Value.int k)).toArray := by
  apply Array.ext
  · simp [Builtin.zeroCells]
  · intro i h1 h2
    simp [Builtin.zeroCells, Nat.mod_one]
end
theorem setCell_at {w : World} {b j : Nat} {cs : Array Value} {t : TypeId} {u : Value} (h : w.heap[b]? = some (.cells cs t (0, 0))) : (w.setCell ⟨b, j, none⟩ u).heap[b]? = some (.cells (cs.setIfInBounds j u) t (0, 0)) := by
  have hlt := (Array.getElem?_eq_some_iff.1 h).1
  have hv := (Array.getElem?_eq_some_iff.1 h).2
  simp [World.setCell, Array.getElem?_modify, h]
end Go.Proofs.Ytnbhiamnoapmlaa
