/-
  Words for memory: the numbers of a slice that lie at a place. No program is imported.
-/
import Derived.WalkKit
import Derived.Deep.Draws
import Derived.Laws.OwnMore
import Derived.Deep.AppendLies
import Derived.OpenShut
import Derived.Maps.AppendAt
import Derived.BigQuiet
namespace Go.Proofs.Ytnbhiamnoapmlaa
open Go.RowKit

/-- the numbers zs, of kind k, lie at the slice's address, below block B; where there are none the address is whatever it is -/
def Nums (k : IntKind) (w : World) (B : Nat) (a : Option Addr) (zs : List Int) : Prop :=
  zs ≠ [] → ∃ b off, a = some ⟨b, off, none⟩ ∧ b < B ∧ ∀ j c, zs[j]? = some c → w.cell? ⟨b, off + j, none⟩ = some (.int k c)

theorem below_drewN {B : Nat} {a w : World} (h : Below B a w) (n : Nat) : Below B a (w.drewN n) := ⟨h.os, h.tape, h.output, h.size, h.block⟩

section
variable {k : IntKind} {w w' : World} {B B' : Nat} {a : Option Addr} {zs : List Int}
theorem Nums.nil : Nums k w B a [] := fun h => absurd rfl h
theorem Nums.open (h : Nums k w B a zs) {j : Nat} {c : Int} (hj : zs[j]? = some c) : ∃ b off, a = some ⟨b, off, none⟩ ∧ b < B ∧ w.cell? ⟨b, off + j, none⟩ = some (.int k c) := by
  obtain ⟨b, off, e, hb, hc⟩ := h (by intro e; subst e; simp at hj)
  exact ⟨b, off, e, hb, hc j c hj⟩
theorem Nums.kept (h : Nums k w B a zs) (hk : ∀ p : Addr, p.block < B → w'.cell? p = w.cell? p) : Nums k w' B a zs := fun hn => by
  obtain ⟨b, off, e, hb, hc⟩ := h hn
  exact ⟨b, off, e, hb, fun j c hj => (hk ⟨b, off + j, none⟩ hb).trans (hc j c hj)⟩
theorem Nums.below (h : Nums k w B a zs) (hb : Below B w w') : Nums k w' B a zs := h.kept fun _ hp => hb.cell hp
theorem Nums.mono (h : Nums k w B a zs) (hB : B ≤ B') : Nums k w B' a zs := fun hn => by
  obtain ⟨b, off, e, hb, hc⟩ := h hn
  exact ⟨b, off, e, by omega, hc⟩
theorem Nums.take (h : Nums k w B a zs) (n : Nat) : Nums k w B a (zs.take n) := fun hn => by
  obtain ⟨b, off, e, hb, hc⟩ := h (by intro e; subst e; simp at hn)
  refine ⟨b, off, e, hb, fun j c hj => hc j c ?_⟩
  rw [List.getElem?_take] at hj
  by_cases hlt : j < n
  · simpa [hlt] using hj
  · simp [hlt] at hj
/-- 's[i:]' of a slice, as the model spells its address -/
theorem Nums.drop (h : Nums k w B a zs) {i cap : Nat} (hc : zs.length ≤ cap) : Nums k w B (if cap = i then a else a.map (·.add i)) (zs.drop i) := fun hn => by
  have hi : i < zs.length := by
    rcases Nat.lt_or_ge i zs.length with h1 | h1
    · exact h1
    · exact absurd (List.drop_eq_nil_of_le h1) hn
  obtain ⟨b, off, rfl, hb, hcell⟩ := h (by intro e; subst e; simp at hi)
  refine ⟨b, off + i, ?_, hb, fun j c hj => ?_⟩
  · rw [if_neg (by omega)]; simp [Addr.add]

  · rw [Nat.add_assoc]
    exact hcell (i + j) c (by rw [← hj, List.getElem?_drop])
theorem Nums.of_own {base e : Nat} {c : Nat} (h : w.ownsRow base e 1 (.slice a zs.length c) zs.length (zs.map (Value.int k))) : Nums k w w.heap.size a zs := fun hn => by
  have hp : 0 < zs.length := by
    rcases Nat.eq_zero_or_pos zs.length with h0 | h0
    · exact absurd (List.eq_nil_of_length_eq_zero h0) hn
    · exact h0
  obtain ⟨g, cap, hv, _, hlt⟩ := h.form hp
  have ha : a = some ⟨g, 0, none⟩ := by injection hv
  subst ha
  refine ⟨g, 0, rfl, hlt, fun j c hj => ?_⟩
  have := h.cells (g := g) rfl j (.int k c) (by rw [List.getElem?_map, hj]; rfl)
  rw [Nat.zero_add]
  by_cases h0 : j = 0
  · subst h0; simpa [Addr.add] using this
  · simpa [Addr.add, h0] using this
/-- one number at a place -/
theorem Nums.one {k : IntKind} {w : World} {B b off : Nat} {z : Int} (hb : b < B) (hc : w.cell? ⟨b, off, none⟩ = some (.int k z)) : Nums k w B (some ⟨b, off, none⟩) [z] := fun _ =>
  ⟨b, off, rfl, hb, fun j c hj => by
    cases j with
    | zero => simp at hj; subst hj; exact hc
    | succ j => simp at hj⟩
/-- a slice that has just been laid -/
theorem Nums.new (k : IntKind) (w : World) (t : TypeId) (zs : List Int) (cs : Array Value) (h : cs = (zs.map (Value.int k)).toArray) : Nums k (w.alloc (.cells cs t)) (w.heap.size + 1) (some ⟨w.heap.size, 0, none⟩) zs := fun _ => by
  refine ⟨w.heap.size, 0, rfl, by omega, fun j c hj => ?_⟩
  rw [World.cell?_alloc_at _ _ _ _ rfl, h]
  simp [hj]
end

/-- a slice of integers that came in: nil, or a row of 'cap' cells with the numbers zs, of which the first len are its elements -/
def IsRow (k : IntKind) (w : World) (a : Option Addr) (len cap : Nat) (zs : List Int) : Prop :=
  (a = none ∧ len = 0 ∧ cap = 0 ∧ zs = []) ∨
  ∃ x, a = some x ∧ len ≤ cap ∧ cap ≤ maxLen ∧ zs.length = cap ∧ (∀ i, i < zs.length → w.cell? (x.add i) = some (.int k (zs.getD i 0))) ∧ ∀ n ∈ zs, (Lit.int k n).wf = true
theorem block_of_cell {w : World} {p : Addr} {v : Value} (h : w.cell? p = some v) : p.block < w.heap.size := by
  rcases Nat.lt_or_ge p.block w.heap.size with h1 | h1
  · exact h1
  · simp [World.cell?, Array.getElem?_eq_none h1] at h
/-- .. as its elements lie -/
theorem IsRow.elems {k : IntKind} {w : World} {a : Option Addr} {len cap : Nat} {zs : List Int} (h : IsRow k w a len cap zs) :
    ∃ es : List Int, es.length = len ∧ len ≤ cap ∧ cap ≤ maxLen ∧ Nums k w w.heap.size a es ∧ ∀ n ∈ es, (Lit.int k n).wf = true := by
  rcases h with ⟨rfl, rfl, rfl, rfl⟩ | ⟨x, rfl, hl, hm, hz, hc, hw⟩
  · exact ⟨[], rfl, by omega, by omega, Nums.nil, by simp⟩
  · refine ⟨zs.take len, by rw [List.length_take]; omega, hl, hm, ?_, fun n hn => hw n (List.mem_of_mem_take hn)⟩
    refine Nums.take (fun hn => ?_) len
    have h0 : 0 < zs.length := by
      rcases Nat.eq_zero_or_pos zs.length with h | h
      · exact absurd (List.eq_nil_of_length_eq_zero h) hn
      · exact h
    obtain ⟨b, off, spot⟩ := x
    have hc0 := hc 0 h0
    have hspot : spot = none := by simpa [Addr.add] using World.cell?_spot hc0
    subst hspot
    refine ⟨b, off, rfl, by simpa [Addr.add] using block_of_cell hc0, fun j c hj => ?_⟩
    have hlt : j < zs.length := by
      rcases Nat.lt_or_ge j zs.length with h | h
      · exact h
      · rw [List.getElem?_eq_none h] at hj; simp at hj
    have hcj := hc j hlt
    rw [List.getD, hj] at hcj
    by_cases hj0 : j = 0
    · subst hj0; simpa [Addr.add] using hcj
    · simpa [Addr.add, hj0] using hcj

/-- a drawn region whose operations each yield one value in every world that is as a0 was below B: one walk of the text's order; its calls may make memory -/
theorem wp_region_below {P : Program} {id : Nat} {Q : Exit → Act → World → Prop} {a : Act} {w a0 : World} {B : Nat} {l : List Oper} (hm : P.follows .mixedOrders = true) (hB : Region.lexB .any l.toArray = true) (hC : Below B a0 w)
    (h : wpQuiet P l.toArray (fun W => Below B a0 W) (fun a' => ∀ w', Below B a0 w' → Q .normal a' w') l a) : (Code.region id l.toArray true).wp P Q a w :=
  wp_region_quiet (C := fun W => Below B a0 W) hm hB hC.drew (by simpa using h)
/-- a call in it, by a contract that says its one value -/
theorem calls_below {P : Program} {f : FuncId} {args : Array Value} {W a0 : World} {B : Nat} {v : Value} (hC : Below B a0 W) (hs : B ≤ W.heap.size)
    (h : Calls P f args W fun e w' => e = .returned v ∧ Below W.heap.size W w') : Calls P f args W fun e w' => e = .returned v ∧ Below B a0 w' :=
  h.mono fun _ _ ⟨he, hb⟩ => ⟨he, hC.trans (hb.mono hs)⟩

/-! ### numbers that a call has made, of an element type e and a kind k -/
def MadeK (e : TypeId) (k : IntKind) (w w' : World) (L : List Int) (v : Value) : Prop := w'.ownsRow w.heap.size e 1 v L.length (L.map (Value.int k)) ∧ Below w.heap.size w w'
section
variable {e : TypeId} {k : IntKind} {w w1 w2 : World} {L : List Int} {v v' : Value}
theorem MadeK.nil (e : TypeId) (k : IntKind) (h : Below w.heap.size w w1) : MadeK e k w w1 [] (.slice none 0 0) := ⟨World.ownsRow_nil _ _ _ _, h⟩
theorem MadeK.slice (h : MadeK e k w w1 L v) : ∃ A c, v = .slice A L.length c ∧ L.length ≤ c ∧ Nums k w1 w1.heap.size A L := by
  have h1 := h.1
  obtain ⟨_, h2⟩ := h1
  rcases h2 with ⟨rfl, h0⟩ | ⟨g, cap, cur, rfl, hg, hh, hn, _⟩
  · have : L = [] := List.eq_nil_of_length_eq_zero h0
    subst this
    exact ⟨none, 0, rfl, by simp, Nums.nil⟩
  · exact ⟨some ⟨g, 0, none⟩, cap, rfl, hn, Nums.of_own h.1⟩
theorem MadeK.own_ge (h : MadeK e k w w1 L v) {g : Nat} (hg : v.ownBlock = some g) : w.heap.size ≤ g ∧ ∃ cur, w1.heap[g]? = some (.cells cur e (0, 0)) := by
  have hv := h.1
  obtain ⟨_, h2⟩ := hv
  rcases h2 with ⟨rfl, h0⟩ | ⟨g', cap, cur, rfl, hg', hh, hn, _⟩
  · simp [Value.ownBlock] at hg
  · simp [Value.ownBlock] at hg; subst hg; exact ⟨hg', cur, hh⟩
theorem MadeK.app {x y : Int} {o : Obj} (h : MadeK e k w w1 L v) (hown : w2.ownsRow w.heap.size e 1 v' (L.length + 1) (L.map (Value.int k) ++ [.int k x])) (hg : (w1.alloc o).grownBy w2 v.ownBlock) (hx : x = y) : MadeK e k w w2 (L ++ [y]) v' := by
  subst hx
  exact ⟨by simpa using hown, ((h.2.alloc h.2.size o).grown hg (by have := h.2.size; simp; omega) (fun g hk => (h.own_ge hk).1))⟩
/-- another row, of another element type, has grown -/
theorem MadeK.far {e2 : TypeId} {k2 : IntKind} {L2 : List Int} {v2 : Value} {o : Obj} (h : MadeK e k w w1 L v) (h2 : MadeK e2 k2 w w1 L2 v2) (hne : e ≠ e2) (hg : (w1.alloc o).grownBy w2 v2.ownBlock) (hb : Below w.heap.size w w2) : MadeK e k w w2 L v := by
  refine ⟨(h.1.alloc o).kept hg ?_, hb⟩
  cases hv : v.ownBlock with
  | none => exact .inl rfl
  | some g =>
    right
    intro he
    obtain ⟨_, cur, hc⟩ := h.own_ge hv
    obtain ⟨_, cur2, hc2⟩ := h2.own_ge he.symm
    rw [hc] at hc2
    injection hc2 with hc2
    injection hc2 with _ ht
    exact hne ht
theorem MadeK.later (h : MadeK e k w w1 L v) (o : Obj) : MadeK e k w (w1.alloc o) L v := ⟨h.1.alloc o, h.2.alloc h.2.size o⟩
end
end Go.Proofs.Ytnbhiamnoapmlaa
