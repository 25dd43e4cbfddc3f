/-
  A boxed list to which a loop's body appends one value, inside a fence; a list whose elements lie in blocks that stay as they are. No program is imported.
-/
import Derived.Test.YtemafhaeppifoaaLists
import Derived.Test.YtemafhaeppifoaaApN
import Derived.Test.YtemafhaeppifoaaLd
import Derived.Maps.AppendAt
namespace Go.Proofs.Ytemafhaeppifoaa
open Go.RowKit

theorem wpListIn_append_vals {F : Fence} {nF : Nat} {P : Program} {w : World} {ops : Array Oper} {rest : List Oper} {o : Oper} {a : Act} {Q : Exit → Act → World → Prop} (hg : o.guard = none) (s x : Operand) (t : TypeId)
    (hop : o.op = Op.call { callee := Callee.builtin Builtin.append, args := #[s, x], argTypes := #[t, t] })
    (base : Nat) (e : TypeId) (i : TypeInfo) (z : Value) (bytes : Nat) (ht : P.underlying t = some (.slice e)) (hi : P.info? e = some i) (hz : i.zero = some z) (hsize : i.size = 1) (hby : i.bytes = bytes) (hzs : z.cells.size = 1)
    (n : Nat) (xs news : List Value) (v : Value) (hs : a.eval s = v) (hown : w.ownsRow base e 1 v n xs) (ad : Addr) (m c : Nat) (hx : a.eval x = .slice (some ad) m c) (hm : news.length = m) (hnews : ∀ j u, news[j]? = some u → w.cell? (ad.add j) = some u) (hone : ∀ u ∈ news, u.oneCell' = true)
    (h63 : n + m ≤ maxLen) (hbytes : (n + m) * bytes ≤ 140737488355328) (hbase : base ≤ w.heap.size)
    (hK : ∀ v' w', w'.ownsRow base e 1 v' (n + m) (xs ++ news) → w.grownBy w' v.ownBlock → wpListIn F nF P ops Q rest (a.put o.dst v') w') :
    wpListIn F nF P ops Q (o :: rest) a w := by
  refine wpListIn_plain hg fun K hK' => ?_
  obtain ⟨v', w', hrun, r1, r2, _⟩ := run_append_own (P := P) (w := w) base t o.type e i z 1 bytes ht hi hz hsize hby hzs (by decide) v n xs hown ad m c news (by omega) hnews hone h63 hbytes hbase
  unfold Oper.wpIn
  refine ⟨?_, ?_⟩
  · simp [Oper.about, hop, resolve, Target.leads, Sem.run_pure]
  · rw [Oper.semAt_plain F _ _ (by rw [hop]; intro c hc'; cases hc')]
    simp [execOp, hop, resolve, invoke, builtin, hs, hx, hrun, Result.andThen]
    exact hK' _ _ (hK v' w' r1 r2)

/-- what a box of a list that is appended to leaves; base: where the list's own blocks begin, above the box -/
structure ListApp (base Bo : Nat) (t e : TypeId) (v' : Value) (m : Nat) (ys : List Value) (W W2 : World) : Prop where
  out : Boxed W2 Bo t v'
  row : W2.ownsRow base e 1 v' m ys
  others : KeepsOthers W W2
  off : ∀ w : World, w.heap.size = base → Off (fun k => k = Bo) w W → Off (fun k => k = Bo) w W2
  keep : ∀ S : Nat → Prop, ¬ S Bo → (∀ k, S k → k < base) → KeepS S W W2
theorem list_appended {W w1 : World} {base Bo : Nat} {t e : TypeId} {v v' : Value} {n m : Nat} {xs ys : List Value} (hv : Boxed W Bo t v) (hrow : W.ownsRow base e 1 v n xs) (hBo : Bo < base) (hbase : base ≤ W.heap.size)
    (hown' : w1.ownsRow base e 1 v' m ys) (hg : W.grownBy w1 v.ownBlock) :
    Boxed w1 Bo t v ∧ ListApp base Bo t e v' m ys W (w1.setCell ⟨Bo, 0, none⟩ v') := by
  have hlt := hrow.lt
  have hne : some Bo ≠ v.ownBlock := fun e2 => by have := (hlt Bo e2.symm).1; omega
  have hne' : v'.ownBlock = none ∨ v'.ownBlock ≠ some Bo := by
    right; intro e2; have := (hown'.lt Bo e2).1; omega
  have hv1 : Boxed w1 Bo t v := hv.kept hg hne
  have hblk : ∀ k, k < base → k ≠ Bo → (w1.setCell ⟨Bo, 0, none⟩ v').heap[k]? = W.heap[k]? := fun k hk hkn => by
    refine (Below.heap_setCell w1 ⟨Bo, 0, none⟩ v' k hkn).trans (hg.block k (by omega) fun e2 => ?_)
    have := (hlt k e2.symm).1; omega
  have hsz : W.heap.size ≤ (w1.setCell ⟨Bo, 0, none⟩ v').heap.size := by simpa [World.setCell] using hg.size
  refine ⟨hv1, hv1.set v', hown'.kept (grownBy_setCell' w1 Bo v') hne', ?_, ?_, ?_⟩
  · refine (KeepsOthers.of_grownBy hg fun j o ej hj => ?_).trans (KeepsOthers.setCell _ _ _)
    rcases hrow.2 with ⟨rfl, _⟩ | ⟨g, cap, cur, rfl, _, hgb, _⟩
    · simp [Value.ownBlock] at ej
    · obtain rfl : g = j := by simpa [Value.ownBlock] using ej
      rw [hgb] at hj; cases hj; rfl
  · exact fun w hw h => ⟨hg.os.trans h.os, hg.tape.trans h.tape, hg.output.trans h.output, Nat.le_trans h.size hsz, fun k hk hn => (hblk k (by omega) hn).trans (h.block k hk hn)⟩
  · exact fun S hS hSb => ⟨hsz, fun k hk => hblk k (hSb k hk) (fun e2 => hS (by rw [← e2]; exact hk))⟩

/-- the list v, of the lists O, whose numbers lay in blocks of S in w -/
structure LsS (tl : TypeId) (k : IntKind) (base : Nat) (w : World) (S : Nat → Prop) (W : World) (v : Value) (xs : List Value) (O : List (List Int)) : Prop where
  out : W.ownsRow base tl 1 v O.length xs
  els : ∀ (i : Nat) (b : List Int), O[i]? = some b → ∃ (A : Option Addr) (c : Nat), xs[i]? = some (.slice A b.length c) ∧ b.length ≤ c ∧ NumsS k w S A b
section
variable {tl : TypeId} {k : IntKind} {base : Nat} {w W W' : World} {S : Nat → Prop} {v v' : Value} {xs : List Value} {O : List (List Int)}
theorem LsS.start (tl : TypeId) (k : IntKind) (base : Nat) (w : World) (S : Nat → Prop) (W : World) : LsS tl k base w S W (.slice none 0 0) [] [] := ⟨World.ownsRow_nil _ _ _ _, fun i b h => by simp at h⟩
theorem LsS.more {b : List Int} {A : Option Addr} {c : Nat} (h : LsS tl k base w S W v xs O) (hown : W'.ownsRow base tl 1 v' (O.length + 1) (xs ++ [.slice A b.length c])) (hc : b.length ≤ c) (hn : NumsS k w S A b) : LsS tl k base w S W' v' (xs ++ [.slice A b.length c]) (O ++ [b]) := by
  have hxl : xs.length = O.length := by have := h.out.1; omega
  refine ⟨by simpa using hown, fun i b2 hb => ?_⟩
  rcases Nat.lt_or_ge i O.length with hi | hi
  · rw [List.getElem?_append_left hi] at hb
    obtain ⟨A2, c2, hx, r⟩ := h.els i b2 hb
    exact ⟨A2, c2, by rw [List.getElem?_append_left (by omega)]; exact hx, r⟩
  · rw [List.getElem?_append_right hi] at hb
    have hi0 : i - O.length = 0 := by
      rcases Nat.eq_zero_or_pos (i - O.length) with h0 | h0
      · exact h0
      · rw [List.getElem?_eq_none (by simp only [List.length_singleton]; omega)] at hb; simp at hb
    rw [hi0] at hb
    simp only [List.getElem?_cons_zero, Option.some.injEq] at hb
    subst hb
    exact ⟨A, c, by rw [List.getElem?_append_right (by omega), show i - xs.length = 0 by omega]; rfl, hc, hn⟩
theorem LsS.kept (h : LsS tl k base w S W v xs O) (hown : W'.ownsRow base tl 1 v O.length xs) : LsS tl k base w S W' v xs O := ⟨hown, h.els⟩
theorem ListAt.putObj {k : IntKind} {V : World} {B l : Nat} {A : Option Addr} {bl : List (List Int)} {o : Obj} (h : ListAt k V B A bl) (ho : V.heap[l]? = some o) (hc : o.isCells = false) (o' : Obj) : ListAt k (V.putObj l o') B A bl := fun i b hi => by
  obtain ⟨g, Ai, ci, e, hg, hcl, hl, hn⟩ := h i b hi
  refine ⟨g, Ai, ci, e, hg, ?_, hl, hn.putObj ho hc o'⟩
  obtain ⟨o2, h2, h3⟩ := cells_of_cell hcl
  refine (World.cell?_of_block (World.putObj_heap_other (fun e2 => ?_))).trans hcl
  simp only at h2 e2
  subst e2
  rw [ho] at h2
  injection h2 with h2
  subst h2
  rw [hc] at h3; cases h3
/-- .. as it lies, in a world in which the blocks of S are as they were -/
theorem LsS.lies (h : LsS tl k base w S W v xs O) (hK : KeepS S w W) (hS : ∀ k, S k → k < w.heap.size) : ∃ A c, v = .slice A O.length c ∧ O.length ≤ c ∧ ListAt k W W.heap.size A O := by
  rcases h.out.2 with ⟨rfl, h0⟩ | ⟨g, cap, cur, rfl, hbg, hh, hle, _⟩
  · rw [List.eq_nil_of_length_eq_zero h0]
    exact ⟨none, 0, rfl, Nat.le_refl _, fun i b hi => by simp at hi⟩
  · refine ⟨_, cap, rfl, hle, fun i b hi => ?_⟩
    obtain ⟨A, c, hx, hc, hn⟩ := h.els i b hi
    have h1 := h.out.cells (g := g) rfl i _ hx
    rw [Addr.add_lit, Nat.zero_add] at h1
    exact ⟨g, A, c, rfl, (Array.getElem?_eq_some_iff.1 hh).1, h1, hc, (hn.keeps hK).nums (fun k hk => by have := hS k hk; have := hK.1; omega)⟩
end
end Go.Proofs.Ytemafhaeppifoaa
