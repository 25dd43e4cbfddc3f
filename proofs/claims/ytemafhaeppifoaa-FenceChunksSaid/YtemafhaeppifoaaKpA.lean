/-
  Words for memory: a box of a row that grows, and a box that counts, beside one another; whatever else is cells is as it was. No program is imported.
-/
import Derived.Test.YtemafhaeppifoaaApN
import Derived.Test.YtemafhaeppifoaaLd
import Derived.Maps.AppendAt
namespace Go.Proofs.Ytemafhaeppifoaa
open Go.RowKit

theorem run_append_any_at {P : Program} {w : World} (t ty : TypeId) (base : Nat) (e : TypeId) (i : TypeInfo) (z : Value) (bytes : Nat) (ht : P.underlying t = some (.slice e)) (hi : P.info? e = some i) (hz : i.zero = some z) (hsize : i.size = 1) (hby : i.bytes = bytes) (hzs : z.cells.size = 1)
    (k : IntKind) (n : Nat) (xs : List Value) (zs : List Int) (v : Value) (hown : w.ownsRow base e 1 v n xs) (A : Option Addr) (m c B : Nat) (hm : zs.length = m) (hn : Nums k w B A zs)
    (h63 : n + m ≤ maxLen) (hbytes : (n + m) * bytes ≤ 140737488355328) (hbase : base ≤ w.heap.size) :
    ∃ v' w', (Builtin.append_ #[t, t] ty #[v, .slice A m c]).run P w = .ok v' w' ∧ w'.ownsRow base e 1 v' (n + m) (xs ++ zs.map (Value.int k)) ∧ w.grownBy w' v.ownBlock ∧ (v'.ownBlock = v.ownBlock ∨ v'.ownBlock = some w.heap.size) := by
  subst hm
  by_cases hz0 : zs = []
  · subst hz0
    have hv : ∃ b n cap, v = .slice b n cap ∧ n ≤ cap := by
      rcases hown.2 with ⟨rfl, _⟩ | ⟨g, cap, cur, rfl, _, _, hle, _⟩
      · exact ⟨_, _, _, rfl, Nat.le_refl _⟩
      · exact ⟨_, _, _, rfl, hle⟩
    obtain ⟨b, q, cap, rfl, hle⟩ := hv
    refine ⟨_, _, run_append_nothing w t t ty e i ht hi b q cap hle _ ?_, by simpa using hown, ⟨rfl, rfl, rfl, Nat.le_refl _, fun _ _ _ => rfl⟩, .inl rfl⟩
    cases A with
    | none => exact ⟨.inl ⟨e, ht⟩, fun _ => rfl, run_firstCells_none w i.size 0 0 c, run_firstCells_none w.drew i.size 0 0 c, by simp, fun _ h => by cases h⟩
    | some ad => exact Src.ofSlice w ht ad 0 c [] (by simp) (by simp) (fun _ h => by cases h)
  · obtain ⟨b1, o1, rfl, hb1, hc⟩ := hn hz0
    obtain ⟨v', w', h1, h2, h3, _, h5⟩ := run_append_own_at (P := P) (w := w) base t ty e i z 1 bytes ht hi hz hsize hby hzs (by decide) v n xs hown ⟨b1, o1, none⟩ zs.length c (zs.map (Value.int k)) (by simp) (fun j u hj => by
      rw [List.getElem?_map] at hj
      obtain ⟨y, hy, rfl⟩ := Option.map_eq_some_iff.1 hj
      rw [Addr.add_lit]
      exact hc j y hy) (fun u hu => by obtain ⟨y, _, rfl⟩ := List.mem_map.1 hu; rfl) h63 hbytes hbase
    exact ⟨v', w', h1, h2, h3, h5⟩

theorem wpListIn_append_any_at {F : Fence} {nF : Nat} {P : Program} {w : World} {ops : Array Oper} {rest : List Oper} {o : Oper} {a : Act} {Q : Exit → Act → World → Prop} (hg : o.guard = none) (s x : Operand) (t : TypeId)
    (hop : o.op = Op.call { callee := Callee.builtin Builtin.append, args := #[s, x], argTypes := #[t, t] })
    (base : Nat) (e : TypeId) (i : TypeInfo) (z : Value) (bytes : Nat) (ht : P.underlying t = some (.slice e)) (hi : P.info? e = some i) (hz : i.zero = some z) (hsize : i.size = 1) (hby : i.bytes = bytes) (hzs : z.cells.size = 1)
    (k : IntKind) (n : Nat) (xs : List Value) (zs : List Int) (v : Value) (hs : a.eval s = v) (hown : w.ownsRow base e 1 v n xs) (A : Option Addr) (m c B : Nat) (hx : a.eval x = .slice A m c) (hm : zs.length = m) (hn : Nums k w B A zs)
    (h63 : n + m ≤ maxLen) (hbytes : (n + m) * bytes ≤ 140737488355328) (hbase : base ≤ w.heap.size)
    (hK : ∀ v' w', w'.ownsRow base e 1 v' (n + m) (xs ++ zs.map (Value.int k)) → w.grownBy w' v.ownBlock → (v'.ownBlock = v.ownBlock ∨ v'.ownBlock = some w.heap.size) → wpListIn F nF P ops Q rest (a.put o.dst v') w') :
    wpListIn F nF P ops Q (o :: rest) a w := by
  refine wpListIn_plain hg fun K hK' => ?_
  obtain ⟨v', w', hrun, r1, r2, r3⟩ := run_append_any_at (P := P) (w := w) t o.type base e i z bytes ht hi hz hsize hby hzs k n xs zs v hown A m c B hm hn h63 hbytes hbase
  unfold Oper.wpIn
  refine ⟨?_, ?_⟩
  · simp [Oper.about, hop, resolve, Target.leads, Sem.run_pure]
  · rw [Oper.semAt_plain F _ _ (by rw [hop]; intro c hc'; cases hc')]
    simp [execOp, hop, resolve, invoke, builtin, hs, hx, hrun, Result.andThen]
    exact hK' _ _ (hK v' w' r1 r2 r3)

/-- the block of the row that the box holds -/
def ownA (b : Nat) (W : World) : Option Nat := (W.cell? ⟨b, 0, none⟩).bind Value.ownBlock
/-- whatever is cells, but the two boxes and the one's row, is as it was -/
structure KpA (bI bA : Nat) (W W' : World) : Prop where
  size : W.heap.size ≤ W'.heap.size
  same : ∀ (k : Nat) (o : Obj), k ≠ bI → k ≠ bA → ownA bA W ≠ some k → W.heap[k]? = some o → o.isCells = true → W'.heap[k]? = some o
  own : ownA bA W' = ownA bA W ∨ ∃ g, ownA bA W' = some g ∧ W.heap.size ≤ g
section
variable {bI bA : Nat} {A B C : World}
theorem KpA.refl (bI bA : Nat) (A : World) : KpA bI bA A A := ⟨Nat.le_refl _, fun _ _ _ _ _ h _ => h, .inl rfl⟩
theorem KpA.trans (h : KpA bI bA A B) (k : KpA bI bA B C) : KpA bI bA A C := by
  refine ⟨Nat.le_trans h.size k.size, fun i o hi ha hown ho hc => ?_, ?_⟩
  · refine k.same i o hi ha (fun e => ?_) (h.same i o hi ha hown ho hc) hc
    rcases h.own with h1 | ⟨g, h1, h2⟩
    · rw [h1] at e; exact hown e
    · rw [h1] at e; injection e with e
      have := (Array.getElem?_eq_some_iff.1 ho).1
      omega
  · rcases k.own with h1 | ⟨g, h1, h2⟩
    · rcases h.own with h3 | ⟨g, h3, h4⟩
      · exact .inl (h1.trans h3)
      · exact .inr ⟨g, h1.trans h3, h4⟩
    · exact .inr ⟨g, h1, Nat.le_trans h.size h2⟩
theorem KpA.putObj {l : Nat} {W : World} {o o' : Obj} (hbl : bA < l) (ho : W.heap[l]? = some o) (hc : o.isCells = false) : KpA bI bA W (W.putObj l o') := by
  refine ⟨by simp [World.putObj], fun k p _ _ _ hp hpc => (World.putObj_heap_other (fun e => ?_)).trans hp, .inl ?_⟩
  · subst e
    rw [hp] at ho
    injection ho with ho
    subst ho
    rw [hpc] at hc; cases hc
  · unfold ownA
    rw [World.cell?_of_block (World.putObj_heap_other (by simp only; omega))]
theorem KpA.of_below {b : Nat} (h : Below b A B) (hs : A.heap.size ≤ b) (hb : bA < A.heap.size) : KpA bI bA A B := ⟨h.size, fun k _ _ _ _ ho _ => (h.block k (by have := (Array.getElem?_eq_some_iff.1 ho).1; omega)).trans ho, .inl (by unfold ownA; rw [h.cell (p := ⟨bA, 0, none⟩) (by simp only; omega)])⟩
end

/-- the boxes behind j rounds: the count, and the row, whose numbers are zs -/
structure TwoB (w : World) (bI bA : Nat) (tI tA e : TypeId) (k : IntKind) (j : Nat) (zs : List Int) (V : World) : Prop where
  cnt : Boxed V bI tI (.int .i64 ((j : Nat) : Int))
  row : ∃ v, Boxed V bA tA v ∧ V.ownsRow w.heap.size e 1 v zs.length (zs.map (Value.int k)) ∧ (j = 0 → v = .slice none 0 0)
  off : Off (fun q => q = bI ∨ q = bA) w V
section
variable {w V V1 V2 : World} {bI bA : Nat} {tI tA e : TypeId} {k : IntKind} {j : Nat} {zs : List Int}
theorem TwoB.putObj {l : Nat} {o o' : Obj} (h : TwoB w bI bA tI tA e k j zs V) (hI : bI < w.heap.size) (hA : bA < w.heap.size) (hl : w.heap.size ≤ l) (ho : V.heap[l]? = some o) (hc : o.isCells = false) : TwoB w bI bA tI tA e k j zs (V.putObj l o') := by
  obtain ⟨v, h1, h2, h3⟩ := h.row
  exact ⟨(World.putObj_heap_other (by omega)).trans h.cnt, ⟨v, (World.putObj_heap_other (by omega)).trans h1, ownsRow_putObj h2 _ ho hc, h3⟩, off_below h.off (below_put V o' hl)⟩
theorem TwoB.start (h : TwoB w bI bA tI tA e k 0 [] V) (hI : bI < w.heap.size) (hA : bA < w.heap.size) (hb : Below w.heap.size V V1) : TwoB w bI bA tI tA e k 0 [] V1 := by
  obtain ⟨v, h1, h2, h3⟩ := h.row
  refine ⟨(hb.block bI hI).trans h.cnt, ⟨v, (hb.block bA hA).trans h1, ?_, h3⟩, off_below h.off hb⟩
  rw [h3 rfl]
  exact World.ownsRow_nil _ _ _ _
theorem TwoB.own0 (h : TwoB w bI bA tI tA e k 0 zs V) : ownA bA V = none := by
  obtain ⟨v, h1, _, h3⟩ := h.row
  unfold ownA
  rw [h1.cell, h3 rfl]; rfl
/-- a round: the row grows, the count goes up -/
theorem TwoB.next {v v' : Value} {ys : List Int} {m : Nat} (h : TwoB w bI bA tI tA e k j zs V) (hv : Boxed V bA tA v) (hrow : V.ownsRow w.heap.size e 1 v zs.length (zs.map (Value.int k))) (hne : bI ≠ bA) (hI : bI < w.heap.size) (hA : bA < w.heap.size)
    (h1 : Below V.heap.size V V1) (hm : (zs ++ ys).length = m) (hown' : V2.ownsRow w.heap.size e 1 v' m (zs.map (Value.int k) ++ ys.map (Value.int k))) (hg : V1.grownBy V2 v.ownBlock) (hat : v'.ownBlock = v.ownBlock ∨ v'.ownBlock = some V1.heap.size) :
    Boxed V2 bA tA v ∧ Boxed V2 bI tI (.int .i64 (j : Int)) ∧ Boxed (V2.setCell ⟨bA, 0, none⟩ v') bI tI (.int .i64 (j : Int)) ∧
    TwoB w bI bA tI tA e k (j + 1) (zs ++ ys) ((V2.setCell ⟨bA, 0, none⟩ v').setCell ⟨bI, 0, none⟩ (.int .i64 ((j : Int) + 1))) ∧
    KeepsFrom w.heap.size V ((V2.setCell ⟨bA, 0, none⟩ v').setCell ⟨bI, 0, none⟩ (.int .i64 ((j : Int) + 1))) ∧ KpA bI bA V ((V2.setCell ⟨bA, 0, none⟩ v').setCell ⟨bI, 0, none⟩ (.int .i64 ((j : Int) + 1))) := by
  have hsV := h.off.size
  have hs1 := h1.size
  have hs2 := hg.size
  have hlt := hrow.lt
  have hlt' := hown'.lt
  have hnr : ∀ b, b < w.heap.size → some b ≠ v.ownBlock := fun b hb e2 => by have := (hlt b e2.symm).1; omega
  have hA2 : Boxed V2 bA tA v := (hg.block bA (by omega) (hnr bA hA)).trans ((h1.block bA (by omega)).trans hv)
  have hI2 : Boxed V2 bI tI (.int .i64 (j : Int)) := (hg.block bI (by omega) (hnr bI hI)).trans ((h1.block bI (by omega)).trans h.cnt)
  have hI3 : Boxed (V2.setCell ⟨bA, 0, none⟩ v') bI tI (.int .i64 (j : Int)) := hI2.other hne v'
  have hA3 : Boxed (V2.setCell ⟨bA, 0, none⟩ v') bA tA v' := hA2.set v'
  have hnr' : ∀ b, b < w.heap.size → v'.ownBlock = none ∨ v'.ownBlock ≠ some b := fun b hb => .inr fun e2 => by have := (hlt' b e2).1; omega
  have hr3 := hown'.kept (grownBy_setCell' V2 bA v') (hnr' bA hA)
  have hr4 := hr3.kept (grownBy_setCell' _ bI (.int .i64 ((j : Int) + 1))) (hnr' bI hI)
  have hblk : ∀ q, q < V.heap.size → q ≠ bI → q ≠ bA → some q ≠ v.ownBlock → ((V2.setCell ⟨bA, 0, none⟩ v').setCell ⟨bI, 0, none⟩ (.int .i64 ((j : Int) + 1))).heap[q]? = V.heap[q]? := fun q hq h3 h4 h5 =>
    (Below.heap_setCell _ ⟨bI, 0, none⟩ _ q h3).trans ((Below.heap_setCell _ ⟨bA, 0, none⟩ _ q h4).trans ((hg.block q (by omega) h5).trans (h1.block q hq)))
  have hsz : V.heap.size ≤ ((V2.setCell ⟨bA, 0, none⟩ v').setCell ⟨bI, 0, none⟩ (.int .i64 ((j : Int) + 1))).heap.size := by simp only [World.setCell, Array.size_modify]; omega
  have hAf : Boxed ((V2.setCell ⟨bA, 0, none⟩ v').setCell ⟨bI, 0, none⟩ (.int .i64 ((j : Int) + 1))) bA tA v' := hA3.other (Ne.symm hne) _
  have hcellV : ∀ q o, v.ownBlock = some q → V.heap[q]? = some o → o.isCells = true := fun q o ej hj => by
    rcases hrow.2 with ⟨rfl, _⟩ | ⟨g, cap, cur, rfl, _, hgb, _⟩
    · simp [Value.ownBlock] at ej
    · obtain rfl : g = q := by simpa [Value.ownBlock] using ej
      rw [hgb] at hj; cases hj; rfl
  refine ⟨hA2, hI2, hI3, ⟨?_, ⟨v', hAf, ?_, fun h0 => by omega⟩, ?_⟩, ?_, ?_⟩
  · rw [Int.natCast_succ]; exact hI3.set _
  · rw [hm, List.map_append]; exact hr4
  · refine ⟨hg.os.trans (h1.os.trans h.off.os), hg.tape.trans (h1.tape.trans h.off.tape), hg.output.trans (h1.output.trans h.off.output), Nat.le_trans hsV hsz, fun q hq hn => ?_⟩
    exact (hblk q (by omega) (fun e2 => hn (.inl e2)) (fun e2 => hn (.inr e2)) (hnr q hq)).trans (h.off.block q hq hn)
  · refine ⟨hsz, fun q o hq ho hc => ?_⟩
    have hql := (Array.getElem?_eq_some_iff.1 ho).1
    refine (hblk q hql (by omega) (by omega) (fun e2 => ?_)).trans ho
    have := hcellV q o e2.symm ho
    rw [hc] at this; cases this
  · have hoV : ownA bA V = v.ownBlock := by unfold ownA; rw [hv.cell]; rfl
    have hoF : ownA bA ((V2.setCell ⟨bA, 0, none⟩ v').setCell ⟨bI, 0, none⟩ (.int .i64 ((j : Int) + 1))) = v'.ownBlock := by unfold ownA; rw [hAf.cell]; rfl
    refine ⟨hsz, fun q o h3 h4 h5 ho hc => ?_, ?_⟩
    · have hql := (Array.getElem?_eq_some_iff.1 ho).1
      exact (hblk q hql h3 h4 (fun e2 => h5 (by rw [hoV, e2]))).trans ho
    · rw [hoF, hoV]
      rcases hat with h6 | h6
      · exact .inl h6
      · exact .inr ⟨_, h6, hs1⟩
end
end Go.Proofs.Ytemafhaeppifoaa
