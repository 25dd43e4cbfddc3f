/-
  Words for memory: blocks of a set S that are as they were; numbers that lie in a block of S. No program is imported.
-/
import Derived.Test.YtnbhiamnoapmlaaRow
import Derived.RangeFuncKeeps
namespace Go.Proofs.Ytnbhiamnoapmlaa
open Go.RowKit

/-- the blocks of S are as they were -/
def KeepS (S : Nat → Prop) (W W' : World) : Prop := W.heap.size ≤ W'.heap.size ∧ ∀ k, S k → W'.heap[k]? = W.heap[k]?
section
variable {S S' : Nat → Prop} {A B C : World}
theorem KeepS.refl (S : Nat → Prop) (W : World) : KeepS S W W := ⟨Nat.le_refl _, fun _ _ => rfl⟩
theorem KeepS.trans (h : KeepS S A B) (k : KeepS S B C) : KeepS S A C := ⟨Nat.le_trans h.1 k.1, fun i h1 => (k.2 i h1).trans (h.2 i h1)⟩
theorem KeepS.of_below {n : Nat} (h : Below n A B) (hS : ∀ k, S k → k < n) : KeepS S A B := ⟨h.size, fun k h1 => h.block k (hS k h1)⟩
theorem KeepS.cell (h : KeepS S A B) {p : Addr} (h1 : S p.block) : B.cell? p = A.cell? p := World.cell?_of_block (h.2 p.block h1)
theorem KeepS.less (h : KeepS S A B) (hS : ∀ k, S' k → S k) : KeepS S' A B := ⟨h.1, fun k hk => h.2 k (hS k hk)⟩
theorem KeepS.set (h : KeepS S A B) {b : Nat} (hb : ¬ S b) (v : Value) : KeepS S A (B.setCell ⟨b, 0, none⟩ v) :=
  ⟨by simpa [World.setCell] using h.1, fun k hk => (Below.heap_setCell B ⟨b, 0, none⟩ v k (fun e => by subst e; exact hb hk)).trans (h.2 k hk)⟩
theorem KeepS.grown {row : Option Nat} (h : KeepS S A B) (hg : B.grownBy C row) (hS : ∀ k, S k → k < B.heap.size) (hr : ∀ k, row = some k → ¬ S k) : KeepS S A C :=
  ⟨Nat.le_trans h.1 hg.size, fun k hk => (hg.block k (hS k hk) (fun e => hr k e.symm hk)).trans (h.2 k hk)⟩
theorem keepS_t (h : KeepS S A B) (k : KeepS S B C) : KeepS S A C := h.trans k
theorem keepS_b {w : World} (hh : ∀ k, S k → k < w.heap.size) (W : World) (l : Nat) (o o' : Obj) (hl : w.heap.size ≤ l) (_ho : W.heap[l]? = some o) (_h1 : o.isCells = false) (_h2 : o.isWalk = false) : KeepS S W (W.putObj l o') := by
  refine ⟨by simp [World.putObj], fun k hk => ?_⟩
  have := hh k hk
  simp only [World.putObj]
  rw [Array.getElem?_setIfInBounds]
  rw [if_neg (by omega)]
end

/-- the numbers zs lie at a, in a block of S -/
def NumsS (k : IntKind) (w : World) (S : Nat → Prop) (a : Option Addr) (zs : List Int) : Prop :=
  zs ≠ [] → ∃ b off, a = some ⟨b, off, none⟩ ∧ S b ∧ ∀ j c, zs[j]? = some c → w.cell? ⟨b, off + j, none⟩ = some (.int k c)
section
variable {k : IntKind} {S S' : Nat → Prop} {w w' : World} {B : Nat} {a : Option Addr} {zs : List Int}
theorem NumsS.nil : NumsS k w S a [] := fun h => absurd rfl h
theorem NumsS.keeps (h : NumsS k w S a zs) (hk : KeepS S w w') : NumsS k w' S a zs := fun hn => by
  obtain ⟨b, off, e, h1, hc⟩ := h hn
  exact ⟨b, off, e, h1, fun j c hj => (hk.cell (p := ⟨b, off + j, none⟩) h1).trans (hc j c hj)⟩
theorem NumsS.nums (h : NumsS k w S a zs) (hS : ∀ k, S k → k < B) : Nums k w B a zs := fun hn => by
  obtain ⟨b, off, e, h1, hc⟩ := h hn
  exact ⟨b, off, e, hS b h1, hc⟩
theorem NumsS.more (h : NumsS k w S a zs) (hS : ∀ k, S k → S' k) : NumsS k w S' a zs := fun hn => by
  obtain ⟨b, off, e, h1, hc⟩ := h hn
  exact ⟨b, off, e, hS b h1, hc⟩
theorem Nums.numsS (h : Nums k w B a zs) (hS : ∀ k, k < B → S k) : NumsS k w S a zs := fun hn => by
  obtain ⟨b, off, e, h1, hc⟩ := h hn
  exact ⟨b, off, e, hS b h1, hc⟩
theorem NumsS.take (h : NumsS k w S a zs) (n : Nat) : NumsS k w S a (zs.take n) := fun hn => by
  obtain ⟨b, off, e, h1, hc⟩ := h (by intro e; subst e; simp at hn)
  refine ⟨b, off, e, h1, fun j c hj => hc j c ?_⟩
  rw [List.getElem?_take] at hj
  by_cases hlt : j < n
  · simpa [hlt] using hj
  · simp [hlt] at hj
/-- cut ahead twice: the address as the walk spells it -/
theorem NumsS.drop2 {a' : Option Addr} (h : NumsS k w S a zs) {i j : Nat} (ha : i + j < zs.length → ∀ b o, a = some ⟨b, o, none⟩ → a' = some ⟨b, o + i + j, none⟩) : NumsS k w S a' (zs.drop (i + j)) := fun hn => by
  have hi' : i + j < zs.length := by
    rcases Nat.lt_or_ge (i + j) zs.length with h1 | h1
    · exact h1
    · exact absurd (List.drop_eq_nil_of_le h1) hn
  obtain ⟨b, off, rfl, hb, hcell⟩ := h (by intro e; subst e; simp at hi')
  refine ⟨b, off + i + j, ha hi' b off rfl, hb, fun q c hj => ?_⟩
  rw [Nat.add_assoc, Nat.add_assoc, ← Nat.add_assoc i j q]
  exact hcell (i + j + q) c (by rw [← hj, List.getElem?_drop])
end
theorem MadeK.numsS {e : TypeId} {k : IntKind} {w w1 : World} {L : List Int} {A : Option Addr} {n c : Nat} (h : MadeK e k w w1 L (.slice A n c)) (hn : L.length = n) : NumsS k w1 (fun b => w.heap.size ≤ b ∧ b < w1.heap.size) A L := fun h0 => by
  subst hn
  obtain ⟨b, off, rfl, hb, hc⟩ := Nums.of_own h.1 h0
  exact ⟨b, off, rfl, ⟨(h.own_ge (g := b) rfl).1, hb⟩, hc⟩
end Go.Proofs.Ytnbhiamnoapmlaa
