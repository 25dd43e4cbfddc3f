/-
  Loads and stores whose run is told by an equation; a part of a row stored whole. No program is imported.
-/
import Derived.Test.YtnbhiamnoapmlaaQ2
import Derived.Deep.WholeRow
import Derived.Deep.MidRow
import Derived.Laws.CopyRow
namespace Go.Proofs.Ytnbhiamnoapmlaa
open Go.RowKit
section
variable {P : Program} {ops : Array Oper} {rest : List Oper} {op : Oper} {a : Act} {w w' : World} {Q : Exit → Act → World → Prop}
theorem wpList_load_run (hgd : op.guard = none) (ty : TypeId) (x : Operand) (ho : op.op = .load ty x) (ad : Option Addr) (hx : a.eval x = .pointer ad) (v : Value) (hr : (Instr.loadAt ty (.pointer ad)).run P w = .ok v w)
    (h : wpList P ops Q rest (a.put op.dst v) w) : wpList P ops Q (op :: rest) a w :=
  wpList_plain hgd fun _ hK => by
    unfold Oper.wp execOp
    simp only [ho, hx, Sem.run_bind, hr, Result.andThen_ok]
    exact hK _ _ h
/-- .. a guarded load -/
theorem wpList_load_rung (hwt : Region.wanted op (yielded ops a.tmps) = true) (ty : TypeId) (x : Operand) (ho : op.op = .load ty x) (ad : Option Addr) (hx : a.eval x = .pointer ad) (v : Value) (hr : (Instr.loadAt ty (.pointer ad)).run P w = .ok v w)
    (h : wpList P ops Q rest (a.put op.dst v) w) : wpList P ops Q (op :: rest) a w := by
  simp only [wpList, hwt, if_true]
  left
  unfold Oper.wp execOp
  simp only [ho, hx, Sem.run_bind, hr, Result.andThen_ok]
  exact h
theorem wpList_build_run (hgd : op.guard = none) (ty : TypeId) (parts : Array (Nat × Operand)) (ho : op.op = .build ty parts) (ps : List (Nat × Value)) (hp : (parts.toList.map fun p => (p.1, a.eval p.2)) = ps) (v : Value) (hr : (Instr.build ty ps.toArray).run P w = .ok v w)
    (h : wpList P ops Q rest (a.put op.dst v) w) : wpList P ops Q (op :: rest) a w :=
  wpList_plain hgd fun _ hK => by
    have hp2 : (parts.map fun p => (p.1, a.eval p.2)) = ps.toArray := by
      rw [← hp, ← Array.toList_map]
    unfold Oper.wp execOp
    simp only [ho, hp2, Sem.run_bind, hr, Result.andThen_ok]
    exact hK _ _ h
theorem wpList_store_run (hgd : op.guard = none) (ty : TypeId) (x y : Operand) (ho : op.op = .store ty x y) (ad : Option Addr) (hx : a.eval x = .pointer ad) (v : Value) (hy : a.eval y = v) (hr : (Instr.storeAt ty (.pointer ad) v).run P w = .ok () w')
    (h : wpList P ops Q rest (a.put op.dst undef) w') : wpList P ops Q (op :: rest) a w :=
  wpList_plain hgd fun _ hK => by
    unfold Oper.wp execOp
    simp only [ho, hx, hy, Sem.run_bind, hr, Result.andThen_ok]
    exact hK _ _ h
end
theorem fold_set (off : Nat) : ∀ (l : List Value) (i : Nat) (z : List Value), off + i + l.length ≤ z.length → (l.zipIdx i).foldl (fun (cs : Array Value) x => cs.setIfInBounds (off + x.2) x.1) z.toArray = (z.take (off + i) ++ l ++ z.drop (off + i + l.length)).toArray
  | [], i, z, _ => by simp
  | v :: r, i, z, h => by
    rw [List.length_cons] at h
    rw [List.zipIdx_cons, List.foldl_cons]
    have h1 : z.toArray.setIfInBounds (off + i) v = (z.set (off + i) v).toArray := by simp
    rw [h1, fold_set off r (i + 1) (z.set (off + i) v) (by rw [List.length_set]; omega), show off + (i + 1) = off + i + 1 by omega, list_seg_step z (off + i) v r (by omega)]
    rfl
/-- what 'fill' puts at one place -/
theorem fill_part (z cs : Array Value) (off : Nat) (h : off + cs.size ≤ z.size) : cs.zipIdx.foldl (fun (a : Array Value) x => a.setIfInBounds (off + x.2) x.1) z = (z.toList.take off ++ cs.toList ++ z.toList.drop (off + cs.size)).toArray := by
  have h1 := fold_set off cs.toList 0 z.toList (by rw [Nat.add_zero, Array.length_toList, Array.length_toList]; exact h)
  rw [Nat.add_zero, Array.toArray_toList, Array.length_toList] at h1
  rw [← h1, ← Array.foldl_toList, Array.toList_zipIdx]
theorem fill_cons {place : Nat → Option (Nat × Nat)} {cells out : Array Value} {i : Nat} {v : Value} {rest : List (Nat × Value)} {off size : Nat} (h : place i = some (off, size)) (hs : v.cells.size = size) (hf : off + v.cells.size ≤ cells.size)
    (ho : (cells.toList.take off ++ v.cells.toList ++ cells.toList.drop (off + v.cells.size)).toArray = out) : Instr.fill place cells ((i, v) :: rest) = Instr.fill place out rest := by
  rw [Instr.fill, h]
  have e1 : (decide (v.cells.size ≠ size)) = false := by simpa using hs
  have e2 : (decide (off + v.cells.size > cells.size)) = false := by simp; omega
  simp only [e1, e2, Bool.or_self, Bool.false_eq_true, if_false]
  rw [← ho, ← fill_part cells v.cells off hf]
/-- cells stored into a row from place o on -/
theorem run_store_part {P : Program} (W : World) (b o : Nat) (ty t : TypeId) (cur cs : Array Value) (h : W.heap[b]? = some (.cells cur t (0, 0))) (hfit : o + cs.size ≤ cur.size) (hi : (P.info? ty).map (·.size) = some cs.size) (h1 : cs.all (·.oneCell') = true) :
    (Instr.storeAt ty (.pointer (some ⟨b, o, none⟩)) (.agg cs)).run P W = .ok () (W.setRow b (cur.toList.take o ++ cs.toList ++ cur.toList.drop (o + cs.size)).toArray) := by
  have hst := run_storeCells_at (P := P) b o t cs.toList 0 cur W h (by rw [Array.length_toList]; omega) (fun v hv => (Array.all_eq_true_iff_forall_mem.1 h1) v (by simpa using hv))
  rw [Nat.add_zero, Array.length_toList] at hst
  cases hq : P.info? ty with
  | none => simp [hq] at hi
  | some i =>
    have hs : cs.size = i.size := by simp [hq] at hi; omega
    simp only [Instr.storeAt, Instr.sureAddr, Sem.run_bind, Sem.run_pure, Result.andThen_ok]
    simp [storeVar, sizeOf, typeInfo, hq, Value.cells, hs] at hst ⊢
    exact hst
end Go.Proofs.Ytnbhiamnoapmlaa
