/-
  append of numbers that lie anywhere onto a row that the call made, inside a fence; a slice in a box that is appended to. No program is imported.
-/
import Derived.Test.YtnbhiamnoapmlaaApp
import Derived.Test.YtnbhiamnoapmlaaKeep
import Derived.OwnWalkIn
import Derived.RangeFuncBox
import Derived.RangeFuncWrites
import Derived.RangeFuncNested
namespace Go.Proofs.Ytnbhiamnoapmlaa
open Go.RowKit

theorem run_append_any {P : Program} {w : World} (t ty : TypeId) (base : Nat) (e : TypeId) (i : TypeInfo) (z : Value) (bytes : Nat) (ht : P.underlying t = some (.slice e)) (hi : P.info? e = some i) (hz : i.zero = some z) (hsize : i.size = 1) (hby : i.bytes = bytes) (hzs : z.cells.size = 1)
    (k : IntKind) (n : Nat) (xs : List Value) (zs : List Int) (v : Value) (hown : w.ownsRow base e 1 v n xs) (A : Option Addr) (m c B : Nat) (hm : zs.length = m) (hn : Nums k w B A zs)
    (h63 : n + m ≤ maxLen) (hbytes : (n + m) * bytes ≤ 140737488355328) (hbase : base ≤ w.heap.size) :
    ∃ v' w', (Builtin.append_ #[t, t] ty #[v, .slice A m c]).run P w = .ok v' w' ∧ w'.ownsRow base e 1 v' (n + m) (xs ++ zs.map (Value.int k)) ∧ w.grownBy w' v.ownBlock := by
  subst hm
  by_cases hz0 : zs = []
  · subst hz0
    have hv : ∃ b n cap, v = .slice b n cap ∧ n ≤ cap := by
      rcases hown.2 with ⟨rfl, _⟩ | ⟨g, cap, cur, rfl, _, _, hle, _⟩
      · exact ⟨_, _, _, rfl, Nat.le_refl _⟩
      · exact ⟨_, _, _, rfl, hle⟩
    obtain ⟨b, q, cap, rfl, hle⟩ := hv
    refine ⟨_, _, run_append_nothing w t t ty e i ht hi b q cap hle _ ?_, by simpa using hown, ⟨rfl, rfl, rfl, Nat.le_refl _, fun _ _ _ => rfl⟩⟩
    cases A with
    | none => exact ⟨.inl ⟨e, ht⟩, fun _ => rfl, run_firstCells_none w i.size 0 0 c, run_firstCells_none w.drew i.size 0 0 c, by simp, fun _ h => by cases h⟩
    | some ad => exact Src.ofSlice w ht ad 0 c [] (by simp) (by simp) (fun _ h => by cases h)
  · obtain ⟨b1, o1, rfl, hb1, hc⟩ := hn hz0
    obtain ⟨v', w', h1, h2, h3, _⟩ := run_append_own (P := P) w base t ty e i z 1 bytes ht hi hz hsize hby hzs (by decide) v n xs hown ⟨b1, o1, none⟩ zs.length c (zs.map (Value.int k)) (by simp) (fun j u hj => by
      rw [List.getElem?_map] at hj
      obtain ⟨y, hy, rfl⟩ := Option.map_eq_some_iff.1 hj
      rw [Addr.add_lit]
      exact hc j y hy) (fun u hu => by obtain ⟨y, _, rfl⟩ := List.mem_map.1 hu; rfl) h63 hbytes hbase
    exact ⟨v', w', h1, h2, h3⟩

theorem wpListIn_append_any {F : Fence} {nF : Nat} {P : Program} {w : World} {ops : Array Oper} {rest : List Oper} {o : Oper} {a : Act} {Q : Exit → Act → World → Prop} (hg : o.guard = none) (s x : Operand) (t : TypeId)
    (hop : o.op = Op.call { callee := Callee.builtin Builtin.append, args := #[s, x], argTypes := #[t, t] })
    (base : Nat) (e : TypeId) (i : TypeInfo) (z : Value) (bytes : Nat) (ht : P.underlying t = some (.slice e)) (hi : P.info? e = some i) (hz : i.zero = some z) (hsize : i.size = 1) (hby : i.bytes = bytes) (hzs : z.cells.size = 1)
    (k : IntKind) (n : Nat) (xs : List Value) (zs : List Int) (v : Value) (hs : a.eval s = v) (hown : w.ownsRow base e 1 v n xs) (A : Option Addr) (m c B : Nat) (hx : a.eval x = .slice A m c) (hm : zs.length = m) (hn : Nums k w B A zs)
    (h63 : n + m ≤ maxLen) (hbytes : (n + m) * bytes ≤ 140737488355328) (hbase : base ≤ w.heap.size)
    (hK : ∀ v' w', w'.ownsRow base e 1 v' (n + m) (xs ++ zs.map (Value.int k)) → w.grownBy w' v.ownBlock → wpListIn F nF P ops Q rest (a.put o.dst v') w') :
    wpListIn F nF P ops Q (o :: rest) a w := by
  refine wpListIn_plain hg fun K hK' => ?_
  obtain ⟨v', w', hrun, r1, r2⟩ := run_append_any (P := P) (w := w) t o.type base e i z bytes ht hi hz hsize hby hzs k n xs zs v hown A m c B hm hn h63 hbytes hbase
  unfold Oper.wpIn
  refine ⟨?_, ?_⟩
  · simp [Oper.about, hop, resolve, Target.leads, Sem.run_pure]
  · rw [Oper.semAt_plain F _ _ (by rw [hop]; intro c hc'; cases hc')]
    simp [execOp, hop, resolve, invoke, builtin, hs, hx, hrun, Result.andThen]
    exact hK' _ _ (hK v' w' r1 r2)

/-- what has grown behind a new block has grown -/
theorem grown_of_alloc {W w1 : World} {o : Obj} {row : Option Nat} (h : (W.alloc o).grownBy w1 row) : W.grownBy w1 row :=
  ⟨h.os, h.tape, h.output, by have := h.size; rw [World.size_alloc] at this; omega, fun k hk hne => (h.block k (by rw [World.size_alloc]; omega) hne).trans (Below.heap_alloc W o k hk)⟩

/-- what a box that is appended to leaves -/
structure BoxApp (S : Nat → Prop) (base : Nat) (t e : TypeId) (Bo Bs : Nat) (v' u : Value) (m : Nat) (ys : List Value) (W W2 : World) : Prop where
  out : Boxed W2 Bo t v'
  src : Boxed W2 Bs t u
  row : W2.ownsRow base e 1 v' m ys
  others : KeepsOthers W W2
  below : Below base W W2
  keep : KeepS S W W2
theorem box_appended {W w1 : World} {base Bo Bs : Nat} {t e : TypeId} {v v' u : Value} {n m : Nat} {xs ys : List Value} {S : Nat → Prop} (hv : Boxed W Bo t v) (hs : Boxed W Bs t u) (hne : Bs ≠ Bo) (hte : t ≠ e) (hrow : W.ownsRow base e 1 v n xs) (hbase : base ≤ W.heap.size) (hBo : base ≤ Bo)
    (hS : ∀ k, S k → k < base ∨ k = Bs) (hown' : w1.ownsRow base e 1 v' m ys) (hg : W.grownBy w1 v.ownBlock) :
    Boxed w1 Bo t v ∧ BoxApp S base t e Bo Bs v' u m ys W (w1.setCell ⟨Bo, 0, none⟩ v') := by
  have hv1 : Boxed w1 Bo t v := hv.kept hg (hv.not_row hte hrow)
  have hs1 : Boxed w1 Bs t u := hs.kept hg (hs.not_row hte hrow)
  have hlt := hrow.lt
  have hSlt := hs.lt
  refine ⟨hv1, hv1.set v', hs1.other hne v', hown'.kept (grownBy_setCell' w1 Bo v') (.inr (hv1.not_row hte hown').symm), ?_, ?_, ?_⟩
  · refine (KeepsOthers.of_grownBy hg fun j o ej hj => ?_).trans (KeepsOthers.setCell _ _ _)
    rcases hrow.2 with ⟨rfl, _⟩ | ⟨g, cap, cur, rfl, _, hgb, _⟩
    · simp [Value.ownBlock] at ej
    · obtain rfl : g = j := by simpa [Value.ownBlock] using ej
      rw [hgb] at hj; cases hj; rfl
  · exact ((Below.refl base W).grown hg hbase (fun j ej => (hlt j ej).1)).setCell (p := ⟨Bo, 0, none⟩) hBo v'
  · refine KeepS.set (KeepS.grown (KeepS.refl S W) hg (fun k hk => ?_) (fun k hk hSk => ?_)) (fun h => ?_) v'
    · rcases hS k hk with h | h <;> omega
    · have h1 := (hlt k hk).1
      rcases hS k hSk with h | h
      · omega
      · subst h; exact hs.not_row hte hrow hk.symm
    · rcases hS Bo h with h | h <;> omega
end Go.Proofs.Ytnbhiamnoapmlaa
