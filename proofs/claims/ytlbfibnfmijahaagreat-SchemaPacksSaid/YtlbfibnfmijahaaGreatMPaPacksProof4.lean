/-
  A part of the texts of one proof, put together: MsgF, Q3, Q11, Q8, Q15, Q21, MsgK, Q20, Q22, MsgJ, MsgW, MsgV, MsgO, MsgX, MsgU, MsgNw, Q17, MsgL0, BdyE.
-/
import Derived.Deep.Slices
import Derived.ChangeMaps5
import Derived.OpenShut
import Derived.ChangeSame
import Derived.OrdersIn
import Derived.TacticsIn
import Derived.RangeFuncCalls
import Derived.Deep.WholeRow
import Derived.Deep.MidRow
import Derived.Laws.CopyRow
import Derived.OwnWalkIn
import Derived.BigQuiet
import Derived.Test.YtlbfibnfmijahaaGreatMPaPacksProof3
namespace Go.Proofs.YtlbfibnfmijahaaGreat
open Go.RowKit Go.ChangeShapes Go.WideShapes Go.Deep Go.ChangeMaps
set_option maxRecDepth 100000

section
variable {H : Type} {enc : TypeId × Value → H} {w : World}
theorem row_of {T E : TypeId} {k : IntKind} {fuel : Nat} {v : Value} {x : DataW H × List MemPlace} (ht : Tryz.prog.underlying T = some (.slice E)) (he : Tryz.prog.underlying E = some (.int k)) (hc : Tryz.prog.cellsOf E = 1)
    (h : DataW.trod enc Tryz.prog w 0 (fun _ => true) true fuel T [v] = some x) : ∃ a n c es, v = .slice a n c ∧ es.length = n ∧ n ≤ c ∧ Nums k w w.heap.size a es ∧ ∀ z ∈ es, (Lit.int k z).wf = true := by
  rcases open_ints ht he hc h with ⟨hcs, _⟩ | ⟨a, l, c, zs, hcs, _, hl, hm, hz, _, hcell, hwz⟩
  · injection hcs with hcs
    exact ⟨none, 0, 0, [], hcs, rfl, Nat.le_refl _, Nums.nil, fun z hz => by cases hz⟩
  · injection hcs with hcs
    obtain ⟨es, h1, h2, h3, h4, h5⟩ := IsRow.elems (k := k) (w := w) (a := some a) (len := l) (cap := c) (zs := zs) (.inr ⟨_, rfl, hl, hm, by simpa using hz, hcell, hwz⟩)
    exact ⟨some a, l, c, es, hcs, h1, h2, h4, h5⟩
theorem fl2_nums {w : World} {b : Nat} : ∀ (l : List (Int × Int)) (o : Nat), (∀ (j : Nat) q, l[j]? = some q → w.cell? ⟨b, o + j * 2, none⟩ = some (.int .i64 q.1) ∧ w.cell? ⟨b, o + j * 2 + 1, none⟩ = some (.int .i64 q.2)) →
    ∀ (j : Nat) z, (fl2 l)[j]? = some z → w.cell? ⟨b, o + j, none⟩ = some (.int .i64 z)
  | [], _, _, _, _, h => by simp [fl2] at h
  | q :: r, o, hq, 0, z, h => by
    simp only [fl2, List.getElem?_cons_zero, Option.some.injEq] at h
    have := (hq 0 q rfl).1
    rw [h] at this
    simpa using this
  | q :: r, o, hq, 1, z, h => by
    simp only [fl2, List.getElem?_cons_succ, List.getElem?_cons_zero, Option.some.injEq] at h
    have := (hq 0 q rfl).2
    rw [h] at this
    simpa using this
  | q :: r, o, hq, j + 2, z, h => by
    simp only [fl2, List.getElem?_cons_succ] at h
    have := fl2_nums r (o + 2) (fun j q hj => by
      have := hq (j + 1) q (by simpa using hj)
      rw [show o + 2 + j * 2 = o + (j + 1) * 2 by omega]
      exact this) j z h
    rw [show o + (j + 2) = o + 2 + j by omega]
    exact this
theorem pts_of {fuel : Nat} {v : Value} {x : DataW H × List MemPlace} (h : DataW.trod enc Tryz.prog w 0 (fun _ => true) true fuel 23 [v] = some x) :
    ∃ a c, ∃ l : List (Int × Int), v = .slice a l.length c ∧ l.length ≤ c ∧ Nums .i64 w w.heap.size a (fl2 l) := by
  rcases open_slice Tryz.underlying23 h with ⟨hcs, _⟩ | ⟨a, len, cap, m, n, D, Pl, hcs, _, hl, _, hmm, _, hx⟩
  · injection hcs with hcs
    exact ⟨none, 0, [], hcs, Nat.le_refl _, Nums.nil⟩
  · injection hcs with hcs
    have hmc : m = cap := by simpa using hmm
    have h2 : Tryz.prog.cellsOf 76 = 2 := by kernel_rfl
    have k0 : Tryz.prog.cellsOf 3 = 1 := by kernel_rfl
    have key : ∀ i, ∃ q : Int × Int, i < len → w.cell? (a.add (i * 2)) = some (.int .i64 q.1) ∧ w.cell? ((a.add (i * 2)).add 1) = some (.int .i64 q.2) := by
      intro i
      by_cases hil : i < len
      · obtain ⟨cs', hc', ht'⟩ := hx i (by omega)
        rw [h2] at hc'
        obtain ⟨_, hlen, hcell⟩ := World.cells?_some hc'
        obtain ⟨xs, n', _, _, _, hxl, hf⟩ := DataW.trod_struct Tryz.underlying76 ht'
        match cs', hlen with
        | [v0, v1], _ =>
          have hy : ∀ i, i < 2 → ∃ y, xs[i]? = some y := fun i hi => ⟨_, List.getElem?_eq_getElem (by rw [hxl]; exact hi)⟩
          obtain ⟨y0, e0⟩ := hy 0 (by decide)
          obtain ⟨y1, e1⟩ := hy 1 (by decide)
          have f0 : DataW.trod enc Tryz.prog w 0 (fun _ => true) true n' 3 (([v0, v1].drop 0).take (Tryz.prog.cellsOf 3)) = some y0 := (hf 0 _ rfl).trans e0
          rw [k0] at f0
          have f1 : DataW.trod enc Tryz.prog w 0 (fun _ => true) true n' 3 (([v0, v1].drop 1).take (Tryz.prog.cellsOf 3)) = some y1 := (hf 1 _ rfl).trans e1
          rw [k0] at f1
          obtain ⟨z0, g0, _⟩ := DataW.trod_int Tryz.underlying3 f0
          obtain ⟨z1, g1, _⟩ := DataW.trod_int Tryz.underlying3 f1
          injection g0 with g0
          injection g1 with g1
          subst g0 g1
          have c0 := hcell 0 (by decide)
          have c1 := hcell 1 (by decide)
          have hadd : ∀ a : Addr, a.add 0 = a := fun a => by unfold Addr.add; rw [if_pos rfl]
          rw [hadd] at c0
          exact ⟨(z0, z1), fun _ => ⟨c0, c1⟩⟩
      · exact ⟨(0, 0), fun h => absurd h hil⟩
    obtain ⟨g, hg⟩ := Classical.axiomOfChoice key
    refine ⟨some a, cap, (List.range len).map g, by simpa using hcs, by simpa using hl, fun hn => ?_⟩
    have hpos : 0 < len := by
      rcases Nat.eq_zero_or_pos len with h | h
      · subst h; simp [fl2] at hn
      · exact h
    have hz := (hg 0 hpos).1
    have hadd : ∀ a : Addr, a.add 0 = a := fun a => by unfold Addr.add; rw [if_pos rfl]
    rw [Nat.zero_mul, hadd] at hz
    obtain ⟨b, o, sp⟩ := a
    have hsp : sp = none := World.cell?_spot hz
    subst hsp
    have hb := block_of_cell hz
    refine ⟨b, o, rfl, hb, fun j c hj => fl2_nums _ o (fun j q hq => ?_) j c hj⟩
    rw [List.getElem?_map] at hq
    obtain ⟨i, hi, rfl⟩ := Option.map_eq_some_iff.1 hq
    have hil : j < len := by
      rcases Nat.lt_or_ge j len with h | h
      · exact h
      · rw [List.getElem?_eq_none (by simpa using h)] at hi; simp at hi
    rw [List.getElem?_range hil] at hi
    injection hi with hi
    subst hi
    have := hg j hil
    rw [Addr.add_lit, Addr.add_lit] at this
    exact this
/-- a message's cells -/
theorem msg_of {fuel : Nat} {cs : List Value} {x : DataW H × List MemPlace} (h : DataW.trod enc Tryz.prog w 0 (fun _ => true) true fuel 26 cs = some x) :
    ∃ (M : Mg) (P C : Value), cs = (mC M P C).toList ∧ MAt w w.heap.size M P C := by
  obtain ⟨xs, n, _, _, hlen, hxl, hf⟩ := DataW.trod_struct Tryz.underlying26 h
  have h11 : Tryz.prog.cellsOf 26 = 11 := by kernel_rfl
  have k0 : Tryz.prog.cellsOf 3 = 1 := by kernel_rfl
  have k1 : Tryz.prog.cellsOf 22 = 6 := by kernel_rfl
  have k2 : Tryz.prog.cellsOf 23 = 1 := by kernel_rfl
  have k3 : Tryz.prog.cellsOf 24 = 1 := by kernel_rfl
  have k4 : Tryz.prog.cellsOf 9 = 1 := by kernel_rfl
  rw [h11] at hlen
  match cs, hlen with
  | [c0, c1, c2, c3, c4, c5, c6, c7, c8, c9, c10], _ =>
    have hx : ∀ i, i < 6 → ∃ y, xs[i]? = some y := fun i hi => ⟨_, List.getElem?_eq_getElem (by rw [hxl]; exact hi)⟩
    obtain ⟨y0, e0⟩ := hx 0 (by decide)
    obtain ⟨y1, e1⟩ := hx 1 (by decide)
    obtain ⟨y2, e2⟩ := hx 2 (by decide)
    obtain ⟨y3, e3⟩ := hx 3 (by decide)
    obtain ⟨y4, e4⟩ := hx 4 (by decide)
    obtain ⟨y5, e5⟩ := hx 5 (by decide)
    have f0 : DataW.trod enc Tryz.prog w 0 (fun _ => true) true n 3 (([c0, c1, c2, c3, c4, c5, c6, c7, c8, c9, c10].drop 0).take (Tryz.prog.cellsOf 3)) = some y0 := (hf 0 _ rfl).trans e0
    rw [k0] at f0
    have f1 : DataW.trod enc Tryz.prog w 0 (fun _ => true) true n 22 (([c0, c1, c2, c3, c4, c5, c6, c7, c8, c9, c10].drop 1).take (Tryz.prog.cellsOf 22)) = some y1 := (hf 1 _ rfl).trans e1
    rw [k1] at f1
    have f2 : DataW.trod enc Tryz.prog w 0 (fun _ => true) true n 23 (([c0, c1, c2, c3, c4, c5, c6, c7, c8, c9, c10].drop 7).take (Tryz.prog.cellsOf 23)) = some y2 := (hf 2 _ rfl).trans e2
    rw [k2] at f2
    have f3 : DataW.trod enc Tryz.prog w 0 (fun _ => true) true n 24 (([c0, c1, c2, c3, c4, c5, c6, c7, c8, c9, c10].drop 8).take (Tryz.prog.cellsOf 24)) = some y3 := (hf 3 _ rfl).trans e3
    rw [k3] at f3
    have f4 : DataW.trod enc Tryz.prog w 0 (fun _ => true) true n 9 (([c0, c1, c2, c3, c4, c5, c6, c7, c8, c9, c10].drop 9).take (Tryz.prog.cellsOf 9)) = some y4 := (hf 4 _ rfl).trans e4
    rw [k4] at f4
    have f5 : DataW.trod enc Tryz.prog w 0 (fun _ => true) true n 9 (([c0, c1, c2, c3, c4, c5, c6, c7, c8, c9, c10].drop 10).take (Tryz.prog.cellsOf 9)) = some y5 := (hf 5 _ rfl).trans e5
    rw [k4] at f5
    obtain ⟨k, g0, _, _⟩ := DataW.trod_int Tryz.underlying3 f0
    obtain ⟨zs, m, _, _, hzl, hzx, hz⟩ := DataW.trod_array Tryz.underlying22 f1
    rw [k0] at hz
    have num : ∀ i, i < 6 → ∃ z, ((((([c0, c1, c2, c3, c4, c5, c6, c7, c8, c9, c10].drop 1).take 6)).drop (i * 1)).take 1) = [Value.int .i64 z] := fun i hi => by
      have h := hz i hi
      rw [List.getElem?_eq_getElem (by rw [hzx]; exact hi)] at h
      obtain ⟨z, g, _⟩ := DataW.trod_int Tryz.underlying3 h
      exact ⟨z, g⟩
    obtain ⟨z0, q0⟩ := num 0 (by decide)
    obtain ⟨z1, q1⟩ := num 1 (by decide)
    obtain ⟨z2, q2⟩ := num 2 (by decide)
    obtain ⟨z3, q3⟩ := num 3 (by decide)
    obtain ⟨z4, q4⟩ := num 4 (by decide)
    obtain ⟨z5, q5⟩ := num 5 (by decide)
    simp only [List.drop_zero, List.drop_succ_cons, List.take_succ_cons, List.take_zero, List.cons.injEq, and_true, Nat.mul_one] at g0 q0 q1 q2 q3 q4 q5 f2 f3 f4 f5
    subst g0 q0 q1 q2 q3 q4 q5
    obtain ⟨a, c, l, rfl, hl, hn⟩ := pts_of f2
    obtain ⟨a', n', c', es, rfl, r1, r2, r3, _⟩ := row_of Tryz.underlying24 Tryz.underlying3 (by kernel_rfl) f3
    obtain ⟨tx, s4, _, _⟩ := DataW.trod_string Tryz.underlying9 f4
    obtain ⟨tg, s5, _, _⟩ := DataW.trod_string Tryz.underlying9 f5
    injection s4 with s4
    injection s5 with s5
    subst s4 s5 r1
    exact ⟨⟨k, z0, z1, z2, z3, z4, z5, l, es, tx, tg⟩, .slice a l.length c, .slice a' es.length c', rfl, ⟨⟨a, c, rfl, hl, hn⟩, ⟨a', c', rfl, r2, r3⟩⟩⟩
theorem open_msg {r : Reach} {b0 : Nat} {x : Value} {d : DataW H} {p : List MemPlace} (hv : Value.okWide Tryz.prog w r b0 26 x) (h : DataW.Trod enc Tryz.prog w 0 (fun _ => true) true 26 x d p) :
    ∃ (M : Mg) (P C : Value), x = mV M P C ∧ MAt w w.heap.size M P C := by
  obtain ⟨⟨cs⟩, rfl, hsz⟩ := okWide_struct Tryz.underlying26 hv
  obtain ⟨fuel, hf⟩ := h
  obtain ⟨M, P, C, e, h1⟩ := msg_of hf
  simp only [Value.cells] at e
  refine ⟨M, P, C, ?_, h1⟩
  rw [e]
  rfl
end
end Go.Proofs.YtlbfibnfmijahaaGreat

namespace Go.Proofs.YtlbfibnfmijahaaGreat
section
variable {P : Program} {ops : Array Oper} {md : Region.Mode}

/-- 0: it looks at no memory and enters no function; 1: a load; 2: a store; 3: all others -/
def kind3 (o : Oper) : Nat :=
  if pureOp o then 0 else match o.op with
    | .load _ _ => 1
    | .store _ _ _ => 2
    | _ => 3
theorem kind3_pure {o : Oper} (h : kind3 o = 0) : kindOf o = 0 := by
  unfold kind3 at h
  unfold kindOf
  split at h
  · rename_i hp; rw [if_pos hp]
  · split at h <;> simp at h
theorem kind3_load {o : Oper} (h : kind3 o = 1) : ∃ t x, o.op = .load t x := by
  unfold kind3 at h
  split at h
  · simp at h
  · split at h
    · exact ⟨_, _, by assumption⟩
    · simp at h
    · simp at h
theorem load_no_enter {o : Oper} {t : TypeId} {x : Operand} (ho : o.op = .load t x) (ρ : Operand → Value) (w w' : World) (f : FuncId) (args : Array Value) : (execOp ρ o).run P w ≠ .ok (.enter f args) w' := by
  unfold execOp
  simp only [ho]
  exact run_value _ _ _ _ _
theorem yields_load {o : Oper} {v : Value} {a : Act} {C D : World → Prop} (hk : kind3 o = 1) (h : YieldsIn P ops C o v a) (hD : ∀ w, D w → C w) : YieldsIn P ops D o v a := by
  obtain ⟨t, x, ho⟩ := kind3_load hk
  rcases h with ⟨hw, h⟩ | h
  · refine .inl ⟨hw, fun w hwD => ?_⟩
    have h1 := h w (hD w hwD)
    have h2 := load_no_enter (P := P) ho a.eval w
    unfold Oper.quietAt at h1 ⊢
    generalize (execOp a.eval o).run P w = r at h1 h2
    cases r with
    | ok n w' =>
      cases n with
      | enter f args => exact absurd rfl (h2 w' f args)
      | _ => exact h1
    | halt x w' => exact h1
  · exact .inr h

def famUpon (P : Program) (V : Value → Prop) (C' : Value → World → Prop) : Result Next → Prop
  | .ok (.value u) w' => V u ∧ C' u w'
  | .ok (.enter f args) w' => Calls P f args w' fun e w'' => ∃ v, e = .returned v ∧ V v ∧ C' v w''
  | _ => False
/-- one operation, in a class of worlds -/
def Step3 (P : Program) (ops : Array Oper) (o : Oper) (a : Act) (C : World → Prop) (K : (World → Prop) → Act → Prop) : Prop :=
  (kind3 o = 0 ∧ ∃ v, YieldsIn P ops (fun _ => True) o v a ∧ K C (a.put o.dst v)) ∨
  (kind3 o = 1 ∧ ∃ v, YieldsIn P ops C o v a ∧ K C (a.put o.dst v)) ∨
  (kind3 o = 2 ∧ ∃ v C', StepsIn P ops C C' o v a ∧ K C' (a.put o.dst v)) ∨
  (kind3 o = 3 ∧ ((Region.wanted o (yielded ops a.tmps) = false ∧ K C (a.put o.dst undef)) ∨ (Region.wanted o (yielded ops a.tmps) = true ∧ ∃ (V : Value → Prop) (C' : Value → World → Prop), (∀ v w, C' v w → C w) ∧ (∀ w, C w → famUpon P V C' ((execOp a.eval o).run P w)) ∧ ∀ v, V v → K (C' v) (a.put o.dst v))))

theorem Step3.wpOp {C : World → Prop} {i : Nat} {o : Oper} {a : Act} {K : (World → Prop) → Act → Prop} {K' : Act → World → Prop} {Q' : Exit → Act → World → Prop} {w : World} (hi : ops[i]? = some o) (h : Step3 P ops o a C K) (hC : C w) (hK : ∀ (C' : World → Prop) a' w', C' w' → K C' a' → K' a' w') : wpOp P ops Q' i K' a w := by
  rcases h with ⟨hk, v, hy, hn⟩ | ⟨hk, v, hy, hn⟩ | ⟨hk, v, C', hy, hn⟩ | ⟨hk, h⟩
  · exact OpR.wpOp (C := C) (C' := C) hi (.inl ⟨kind3_pure hk, rfl, hy⟩) hC fun w' hw' => hK C _ w' hw' hn
  · have hk1 : kindOf o = 1 := by
      obtain ⟨t, x, ho⟩ := kind3_load hk
      simp [kindOf, pureOp, ho]
    exact OpR.wpOp (C := C) (C' := C) hi (.inr (.inl ⟨hk1, rfl, hy⟩)) hC fun w' hw' => hK C _ w' hw' hn
  · have hk2 : kindOf o = 2 := by
      unfold kind3 at hk
      unfold kindOf
      split at hk
      · simp at hk
      · rename_i hp
        rw [if_neg hp]
        split at hk
        · simp at hk
        · rename_i heq; simp [heq]
        · simp at hk
    exact OpR.wpOp (C := C) (C' := C') hi (.inr (.inr ⟨hk2, hy⟩)) hC fun w' hw' => hK C' _ w' hw' hn
  · unfold Go.wpOp
    simp only [hi]
    rcases h with ⟨hw, hn⟩ | ⟨hw, V, C', _, hv, hn⟩
    · simp only [hw, Bool.false_eq_true, if_false]
      exact hK C _ w hC hn
    · simp only [hw, if_true]
      left
      have h1 := hv w hC
      unfold Oper.wp
      generalize (execOp a.eval o).run P w = r at h1
      cases r with
      | ok n w' =>
        cases n <;> simp only [famUpon] at h1 <;> simp only [Oper.upon]
        case value u => exact hK (C' u) _ w' h1.2 (hn u h1.1)
        case enter f args =>
          refine h1.mono fun e w'' ⟨v, he, hV, hc⟩ => ?_
          subst he
          exact hK (C' v) _ w'' hc (hn v hV)
      | halt x w' => simp only [famUpon] at h1
/-- what waits for k, through others too -/
def blocked (md : Region.Mode) (ops : Array Oper) (k : Nat) : Array Bool :=
  (List.range ops.size).foldl (fun u j => u.push (j == k || (match ops[j]? with | some oj => oj.after.any (fun e => Region.binds md e && u.getD e.on false) | none => false))) #[]
structure Free3 (md : Region.Mode) (ops : Array Oper) (listed : Array Bool) (i : Nat) (oi : Oper) (U : Array Bool) : Prop where
  size : U.size = ops.size
  own : U.getD i false = true
  wait : ∀ j oj, ops[j]? = some oj → U.getD j false = true → j ≠ i → ∃ e ∈ oj.after, Region.binds md e = true ∧ U.getD e.on false = true
  un : ∀ j, U.getD j false = true → listed.getD j false = false
  free : ∀ j oj, ops[j]? = some oj → U.getD j false = false → listed.getD j true = false → oi.apart ops oj = true ∧ (kind3 oi = 0 ∨ (kind3 oi = 1 ∧ kind3 oj ≠ 2))
theorem Free3.ready {i j : Nat} {oi oj : Oper} {listed U : Array Bool} (h : Free3 md ops listed i oi U) (hj : ops[j]? = some oj) (hji : j ≠ i) (hall : ∀ e ∈ oj.after, Region.binds md e = true → listed.getD e.on false = true) : U.getD j false = false := by
  cases hu : U.getD j false with
  | false => rfl
  | true =>
    obtain ⟨e, he, hb, hue⟩ := h.wait j oj hj hu hji
    have h1 := hall e he hb
    rw [h.un e.on hue] at h1
    cases h1
theorem Free3.set {i j : Nat} {oi : Oper} {listed U : Array Bool} (h : Free3 md ops listed i oi U) (hu : U.getD j false = false) : Free3 md ops (listed.setIfInBounds j true) i oi U := by
  refine ⟨h.size, h.own, h.wait, fun k hk => ?_, fun k ok hk hku hun => h.free k ok hk hku ?_⟩
  · have hne : j ≠ k := fun e => by subst e; rw [hu] at hk; cases hk
    rw [getD_set_ne false hne]; exact h.un k hk
  · by_cases hjk : j = k
    · subst hjk
      rcases Nat.lt_or_ge j listed.size with h' | h'
      · simp [h'] at hun
      · simp [Array.getElem?_eq_none (show (listed.setIfInBounds j true).size ≤ j by simpa using h')] at hun
    · rw [getD_set_ne true hjk] at hun; exact hun
/-- an operation apart: its step is the same whether another's value is in its slot or not -/
theorem Step3.put {oi oj : Oper} {v : Value} {a : Act} {C : World → Prop} {K1 K2 : (World → Prop) → Act → Prop} (hap : oi.apart ops oj = true) (hsj : ∀ cs b, oj.op ≠ .select cs b)
    (hK : ∀ (C' : World → Prop) u, (C' = C ∨ (kind3 oj = 3 ∧ ∀ w, C' w → C w) ∨ kind3 oj = 2) → K1 C' ((a.put oi.dst v).put oj.dst u) → K2 C' (a.put oj.dst u)) (h : Step3 P ops oj (a.put oi.dst v) C K1) : Step3 P ops oj a C K2 := by
  obtain ⟨p1, p2, p3⟩ := Oper.apart_spec hap
  have he := execOp_put oj hsj a oi.dst v p1
  have hw := wanted_put oj a oi.dst v p1
  rcases h with ⟨hk, u, hy, hn⟩ | ⟨hk, u, hy, hn⟩ | ⟨hk, u, C', hy, hn⟩ | ⟨hk, h⟩
  · exact .inl ⟨hk, u, hy.of_same he.symm hw.symm, hK C u (.inl rfl) hn⟩
  · exact .inr (.inl ⟨hk, u, hy.of_same he.symm hw.symm, hK C u (.inl rfl) hn⟩)
  · refine .inr (.inr (.inl ⟨hk, u, C', ?_, hK C' u (.inr (.inr hk)) hn⟩))
    unfold StepsIn at hy ⊢
    rwa [he, hw] at hy
  · refine .inr (.inr (.inr ⟨hk, ?_⟩))
    rcases h with ⟨hwf, hn⟩ | ⟨hwt, V, C', hsub, hv, hn⟩
    · exact .inl ⟨by rw [← hw]; exact hwf, hK C undef (.inl rfl) hn⟩
    · exact .inr ⟨by rw [← hw]; exact hwt, V, C', hsub, by rwa [he] at hv, fun u hu => hK (C' u) u (.inr (.inl ⟨hk, hsub u⟩)) (hn u hu)⟩
theorem Step3.mono {o : Oper} {a : Act} {C : World → Prop} {K K' : (World → Prop) → Act → Prop} (h : Step3 P ops o a C K) (hK : ∀ C a, K C a → K' C a) : Step3 P ops o a C K' := by
  rcases h with ⟨hk, v, hy, hn⟩ | ⟨hk, v, hy, hn⟩ | ⟨hk, v, C', hy, hn⟩ | ⟨hk, h⟩
  · exact .inl ⟨hk, v, hy, hK _ _ hn⟩
  · exact .inr (.inl ⟨hk, v, hy, hK _ _ hn⟩)
  · exact .inr (.inr (.inl ⟨hk, v, C', hy, hK _ _ hn⟩))
  · refine .inr (.inr (.inr ⟨hk, ?_⟩))
    rcases h with ⟨hw, hn⟩ | ⟨hw, V, C', hs, hv, hn⟩
    · exact .inl ⟨hw, hK _ _ hn⟩
    · exact .inr ⟨hw, V, C', hs, hv, fun v hV => hK _ _ (hn v hV)⟩
/-! one operation of the walk -/
theorem yields_of_quiet {o : Oper} {C : World → Prop} {a : Act} {K : Act → Prop} (h : wpQuiet P ops C K [o] a) : ∃ v, YieldsIn P ops C o v a ∧ K (a.put o.dst v) := by
  unfold wpQuiet at h
  by_cases hw : Region.wanted o (yielded ops a.tmps) = true
  · simp only [hw, if_true] at h
    obtain ⟨v, h1, h2⟩ := h
    exact ⟨v, .inl ⟨hw, h1⟩, h2⟩
  · simp only [hw] at h
    exact ⟨undef, .inr ⟨by simpa using hw, rfl⟩, h⟩
/-! the same, the region's operations as a list: so each operation comes written out -/
section
variable {l : List Oper} {Q : (World → Prop) → Act → Prop} {o : Oper} {k : Nat} {r : List Nat} {C : World → Prop} {a : Act}
theorem at_list (ho : l[k]? = some o) : l.toArray[k]? = some o := by simpa using ho
end
end
end Go.Proofs.YtlbfibnfmijahaaGreat

namespace Go.Proofs.YtlbfibnfmijahaaGreat
section
variable {P : Program} {ops : Array Oper} {md : Region.Mode} {I : World → Prop}

/-- one operation, in a class of worlds -/
def Step4 (P : Program) (ops : Array Oper) (I : World → Prop) (o : Oper) (a : Act) (C : World → Prop) (K : (World → Prop) → Act → Prop) : Prop :=
  (kind3 o = 0 ∧ ∃ v, YieldsIn P ops (fun _ => True) o v a ∧ K C (a.put o.dst v)) ∨
  (kind3 o = 1 ∧ ∃ v, YieldsIn P ops I o v a ∧ K C (a.put o.dst v)) ∨
  (kind3 o = 2 ∧ ∃ v C', (∀ w, C' w → I w) ∧ StepsIn P ops C C' o v a ∧ K C' (a.put o.dst v)) ∨
  (kind3 o = 3 ∧ ((Region.wanted o (yielded ops a.tmps) = false ∧ K C (a.put o.dst undef)) ∨ (Region.wanted o (yielded ops a.tmps) = true ∧ ∃ (V : Value → Prop) (C' : Value → World → Prop), (∀ v w, C' v w → I w) ∧ (∀ w, C w → famUpon P V C' ((execOp a.eval o).run P w)) ∧ ∀ v, V v → K (C' v) (a.put o.dst v))))

theorem Step4.wpOp {C : World → Prop} {i : Nat} {o : Oper} {a : Act} {K : (World → Prop) → Act → Prop} {K' : Act → World → Prop} {Q' : Exit → Act → World → Prop} {w : World} (hi : ops[i]? = some o) (h : Step4 P ops I o a C K) (hC : C w) (hCI : ∀ w, C w → I w) (hK : ∀ (C' : World → Prop) a' w', C' w' → (∀ w, C' w → I w) → K C' a' → K' a' w') : wpOp P ops Q' i K' a w := by
  rcases h with ⟨hk, v, hy, hn⟩ | ⟨hk, v, hy, hn⟩ | ⟨hk, v, C', hI, hy, hn⟩ | ⟨hk, h⟩
  · exact OpR.wpOp (C := C) (C' := C) hi (.inl ⟨kind3_pure hk, rfl, hy⟩) hC fun w' hw' => hK C _ w' hw' hCI hn
  · have hk1 : kindOf o = 1 := by
      obtain ⟨t, x, ho⟩ := kind3_load hk
      simp [kindOf, pureOp, ho]
    exact OpR.wpOp (C := C) (C' := C) hi (.inr (.inl ⟨hk1, rfl, yields_load hk hy hCI⟩)) hC fun w' hw' => hK C _ w' hw' hCI hn
  · have hk2 : kindOf o = 2 := by
      unfold kind3 at hk
      unfold kindOf
      split at hk
      · simp at hk
      · rename_i hp
        rw [if_neg hp]
        split at hk
        · simp at hk
        · rename_i heq; simp [heq]
        · simp at hk
    exact OpR.wpOp (C := C) (C' := C') hi (.inr (.inr ⟨hk2, hy⟩)) hC fun w' hw' => hK C' _ w' hw' hI hn
  · unfold Go.wpOp
    simp only [hi]
    rcases h with ⟨hw, hn⟩ | ⟨hw, V, C', hI, hv, hn⟩
    · simp only [hw, Bool.false_eq_true, if_false]
      exact hK C _ w hC hCI hn
    · simp only [hw, if_true]
      left
      have h1 := hv w hC
      unfold Oper.wp
      generalize (execOp a.eval o).run P w = r at h1
      cases r with
      | ok n w' =>
        cases n <;> simp only [famUpon] at h1 <;> simp only [Oper.upon]
        case value u => exact hK (C' u) _ w' h1.2 (hI u) (hn u h1.1)
        case enter f args =>
          refine h1.mono fun e w'' ⟨v, he, hV, hc⟩ => ?_
          subst he
          exact hK (C' v) _ w'' hc (hI v) (hn v hV)
      | halt x w' => simp only [famUpon] at h1
/-- an operation apart: its step is the same whether another's value is in its slot or not -/
theorem Step4.put {oi oj : Oper} {v : Value} {a : Act} {C : World → Prop} {K1 K2 : (World → Prop) → Act → Prop} (hap : oi.apart ops oj = true) (hsj : ∀ cs b, oj.op ≠ .select cs b)
    (hK : ∀ (C' : World → Prop) u, K1 C' ((a.put oi.dst v).put oj.dst u) → K2 C' (a.put oj.dst u)) (h : Step4 P ops I oj (a.put oi.dst v) C K1) : Step4 P ops I oj a C K2 := by
  obtain ⟨p1, p2, p3⟩ := Oper.apart_spec hap
  have he := execOp_put oj hsj a oi.dst v p1
  have hw := wanted_put oj a oi.dst v p1
  rcases h with ⟨hk, u, hy, hn⟩ | ⟨hk, u, hy, hn⟩ | ⟨hk, u, C', hI, hy, hn⟩ | ⟨hk, h⟩
  · exact .inl ⟨hk, u, hy.of_same he.symm hw.symm, hK C u hn⟩
  · exact .inr (.inl ⟨hk, u, hy.of_same he.symm hw.symm, hK C u hn⟩)
  · refine .inr (.inr (.inl ⟨hk, u, C', hI, ?_, hK C' u hn⟩))
    unfold StepsIn at hy ⊢
    rwa [he, hw] at hy
  · refine .inr (.inr (.inr ⟨hk, ?_⟩))
    rcases h with ⟨hwf, hn⟩ | ⟨hwt, V, C', hsub, hv, hn⟩
    · exact .inl ⟨by rw [← hw]; exact hwf, hK C undef hn⟩
    · exact .inr ⟨by rw [← hw]; exact hwt, V, C', hsub, by rwa [he] at hv, fun u hu => hK (C' u) u (hn u hu)⟩
/-! as XQ3's, but a load is free of stores too: they stay in I -/
def free4 (md : Region.Mode) (ops : Array Oper) (listed : Array Bool) (k : Nat) : Bool :=
  let U := blocked md ops k
  U.getD k false && U.size == ops.size &&
  match ops[k]? with
  | none => false
  | some ok => (List.range ops.size).all fun j =>
    match ops[j]? with
    | some oj =>
      if U.getD j false then !listed.getD j false && (j == k || oj.after.any (fun e => Region.binds md e && U.getD e.on false))
      else listed.getD j true || (ok.apart ops oj && (kind3 ok == 0 || kind3 ok == 1))
    | none => true
structure Free4 (md : Region.Mode) (ops : Array Oper) (listed : Array Bool) (i : Nat) (oi : Oper) (U : Array Bool) : Prop where
  size : U.size = ops.size
  own : U.getD i false = true
  wait : ∀ j oj, ops[j]? = some oj → U.getD j false = true → j ≠ i → ∃ e ∈ oj.after, Region.binds md e = true ∧ U.getD e.on false = true
  un : ∀ j, U.getD j false = true → listed.getD j false = false
  free : ∀ j oj, ops[j]? = some oj → U.getD j false = false → listed.getD j true = false → oi.apart ops oj = true ∧ (kind3 oi = 0 ∨ kind3 oi = 1)
theorem free4_spec {i : Nat} {oi : Oper} {listed : Array Bool} (hi : ops[i]? = some oi) (h : free4 md ops listed i = true) : Free4 md ops listed i oi (blocked md ops i) := by
  simp only [free4, hi, List.all_eq_true, List.mem_range, Bool.and_eq_true, beq_iff_eq] at h
  obtain ⟨⟨hown, hsz⟩, h⟩ := h
  have at_ : ∀ j oj, ops[j]? = some oj → (if (blocked md ops i).getD j false = true then (!listed.getD j false && (j == i || oj.after.any (fun e => Region.binds md e && (blocked md ops i).getD e.on false))) = true
      else (listed.getD j true || (oi.apart ops oj && (kind3 oi == 0 || kind3 oi == 1))) = true) := fun j oj hj => by
    have h1 := h j (Array.getElem?_eq_some_iff.1 hj).1
    simp only [hj] at h1
    split at h1 <;> rename_i hu
    · rw [if_pos hu]; exact h1
    · rw [if_neg hu]; exact h1
  refine ⟨hsz, hown, fun j oj hj hu hne => ?_, fun j hu => ?_, fun j oj hj hu hun => ?_⟩
  · have h1 := at_ j oj hj
    rw [if_pos hu] at h1
    simp only [Bool.and_eq_true, Bool.or_eq_true, beq_iff_eq, hne, false_or] at h1
    obtain ⟨e, he, hb⟩ := Array.any_eq_true'.1 h1.2
    simp only [Bool.and_eq_true] at hb
    exact ⟨e, he, hb.1, hb.2⟩
  · have hlt : j < ops.size := by
      rw [← hsz]
      rcases Nat.lt_or_ge j (blocked md ops i).size with h' | h'
      · exact h'
      · simp [Array.getElem?_eq_none h'] at hu
    have h1 := at_ j _ (Array.getElem?_eq_getElem hlt)
    rw [if_pos hu] at h1
    simp only [Bool.and_eq_true, Bool.not_eq_true'] at h1
    exact h1.1
  · have h1 := at_ j oj hj
    rw [if_neg (by rw [hu]; exact Bool.false_ne_true)] at h1
    simp only [hun, Bool.or_eq_true, Bool.false_eq_true, false_or, Bool.and_eq_true, beq_iff_eq] at h1
    exact h1
theorem Free4.ready {i j : Nat} {oi oj : Oper} {listed U : Array Bool} (h : Free4 md ops listed i oi U) (hj : ops[j]? = some oj) (hji : j ≠ i) (hall : ∀ e ∈ oj.after, Region.binds md e = true → listed.getD e.on false = true) : U.getD j false = false := by
  cases hu : U.getD j false with
  | false => rfl
  | true =>
    obtain ⟨e, he, hb, hue⟩ := h.wait j oj hj hu hji
    have h1 := hall e he hb
    rw [h.un e.on hue] at h1
    cases h1
theorem Free4.set {i j : Nat} {oi : Oper} {listed U : Array Bool} (h : Free4 md ops listed i oi U) (hu : U.getD j false = false) : Free4 md ops (listed.setIfInBounds j true) i oi U := by
  refine ⟨h.size, h.own, h.wait, fun k hk => ?_, fun k ok hk hku hun => h.free k ok hk hku ?_⟩
  · have hne : j ≠ k := fun e => by subst e; rw [hu] at hk; cases hk
    rw [getD_set_ne false hne]; exact h.un k hk
  · by_cases hjk : j = k
    · subst hjk
      rcases Nat.lt_or_ge j listed.size with h' | h'
      · simp [h'] at hun
      · simp [Array.getElem?_eq_none (show (listed.setIfInBounds j true).size ≤ j by simpa using h')] at hun
    · rw [getD_set_ne true hjk] at hun; exact hun
/-- the walk in that order -/
def wpO4 (P : Program) (ops : Array Oper) (I : World → Prop) (Q : (World → Prop) → Act → Prop) : List Nat → (World → Prop) → Act → Prop
  | [], C, a => Q C a
  | k :: r, C, a => ∃ o, ops[k]? = some o ∧ Step4 P ops I o a C (wpO4 P ops I Q r)
theorem Step4.mono {o : Oper} {a : Act} {C : World → Prop} {K K' : (World → Prop) → Act → Prop} (h : Step4 P ops I o a C K) (hK : ∀ C a, K C a → K' C a) : Step4 P ops I o a C K' := by
  rcases h with ⟨hk, v, hy, hn⟩ | ⟨hk, v, hy, hn⟩ | ⟨hk, v, C', hI, hy, hn⟩ | ⟨hk, h⟩
  · exact .inl ⟨hk, v, hy, hK _ _ hn⟩
  · exact .inr (.inl ⟨hk, v, hy, hK _ _ hn⟩)
  · exact .inr (.inr (.inl ⟨hk, v, C', hI, hy, hK _ _ hn⟩))
  · refine .inr (.inr (.inr ⟨hk, ?_⟩))
    rcases h with ⟨hw, hn⟩ | ⟨hw, V, C', hs, hv, hn⟩
    · exact .inl ⟨hw, hK _ _ hn⟩
    · exact .inr ⟨hw, V, C', hs, hv, fun v hV => hK _ _ (hn v hV)⟩
end
/-! one operation of the walk -/
section
variable {P : Program} {I : World → Prop} {l : List Oper} {Q : (World → Prop) → Act → Prop} {o : Oper} {k : Nat} {r : List Nat} {C : World → Prop} {a : Act}
theorem wpO4_pure (ho : l[k]? = some o) (hk : kind3 o = 0) (h : wpQuiet P l.toArray (fun _ => True) (fun a' => wpO4 P l.toArray I Q r C a') [o] a) : wpO4 P l.toArray I Q (k :: r) C a :=
  ⟨o, at_list ho, .inl ⟨hk, yields_of_quiet h⟩⟩
theorem wpO4_load {t : TypeId} {x : Operand} {ad : Addr} (v : Value) (ho : l[k]? = some o) (hop : o.op = .load t x) (hw : Region.wanted o (yielded l.toArray a.tmps) = true) (hx : a.eval x = .pointer (some ad))
    (hrun : ∀ w, I w → (Instr.loadAt t (.pointer (some ad))).run P w = .ok v w) (h : wpO4 P l.toArray I Q r C (a.put o.dst v)) : wpO4 P l.toArray I Q (k :: r) C a := by
  refine ⟨o, at_list ho, .inr (.inl ⟨by simp [kind3, pureOp, hop], v, .inl ⟨hw, fun w hC => ?_⟩, h⟩)⟩
  unfold Oper.quietAt execOp
  simp only [hop, hx]
  rw [Sem.run_bind, hrun w hC]
  exact ⟨rfl, rfl⟩
theorem wpO4_call (V : Value → Prop) (C' : Value → World → Prop) {f : FuncId} {args : Array Value} (ho : l[k]? = some o) (hk : kind3 o = 3) (hw : Region.wanted o (yielded l.toArray a.tmps) = true) (hsub : ∀ v w, C' v w → I w)
    (hrun : ∀ w, (execOp a.eval o).run P w = .ok (.enter f args) w) (hc : ∀ w, C w → Calls P f args w fun e w'' => ∃ v, e = .returned v ∧ V v ∧ C' v w'') (h : ∀ v, V v → wpO4 P l.toArray I Q r (C' v) (a.put o.dst v)) : wpO4 P l.toArray I Q (k :: r) C a :=
  ⟨o, at_list ho, .inr (.inr (.inr ⟨hk, .inr ⟨hw, V, C', hsub, fun w hC => by rw [hrun w]; exact hc w hC, h⟩⟩))⟩
end
end Go.Proofs.YtlbfibnfmijahaaGreat

namespace Go.Proofs.YtlbfibnfmijahaaGreat
open Go.RowKit
section
variable {P : Program} {ops : Array Oper} {Q : Exit → Act → World → Prop} {md : Region.Mode}
/-- Orders.lean's, with no way out by what an operation asks for -/
def wpOpS (P : Program) (ops : Array Oper) (Q : Exit → Act → World → Prop) (i : Nat) (K : Act → World → Prop) (a : Act) (w : World) : Prop :=
  match ops[i]? with
  | none => K a w
  | some o => if Region.wanted o (yielded ops a.tmps) then o.wp P a w K Q else K (a.put o.dst undef) w
def wpAnyS (P : Program) (md : Region.Mode) (ops : Array Oper) (Q : Exit → Act → World → Prop) : Nat → Array Bool → Act → World → Prop
  | 0, listed, a, w => Region.ready md ops listed = [] ∧ Q .normal a w
  | fuel + 1, listed, a, w =>
    (Region.ready md ops listed = [] → Q .normal a w) ∧
    ∀ i ∈ Region.ready md ops listed, wpOpS P ops Q i (wpAnyS P md ops Q fuel (listed.setIfInBounds i true)) a w
theorem oper_in {lr n : Nat} {o : Oper} {a : Act} {w : World} {K K' : Act → World → Prop} (hd : ∀ c, o.op ≠ .defer c) (hK : ∀ a w, K a w → K' a w) (h : o.wp P a w K Q) : o.wpIn (Fence.wide.inRound lr) n P a w K' Q := by
  refine ⟨fun _ _ => trivial, ?_⟩
  rw [Fence.inRound_round, Oper.semAt_some lr a.eval o hd]
  unfold Oper.wp at h
  generalize (execOp a.eval o).run P w = r at h
  cases r with
  | ok x w' =>
    cases x <;> simp only [Oper.upon, Oper.uponIn] at h ⊢
    case value v => exact hK _ _ h
    case skip => exact hK _ _ h
    case defer d => exact hK _ _ h
    case enter f args =>
      refine ⟨fun hh => by simp [Fence.wide] at hh, CallsIn.inRound lr (callsIn_wide.2 h |>.mono fun e w'' he => ?_)⟩
      cases e <;> first | exact hK _ _ he | exact he
    case row row args => exact ⟨fun hh => by simp [Fence.wide] at hh, fun c cs _ => let ⟨v, w3, r, s⟩ := h c cs; ⟨v, w3, hK _ _ r, stepsIn_wide.2 s⟩⟩
  | halt x w' => cases x <;> simp only [Oper.upon, Oper.uponIn] at h ⊢ <;> exact h
theorem wpAnyIn_of_S {lr n : Nat} (hd : ∀ (j : Nat) o, ops[j]? = some o → ∀ c, o.op ≠ .defer c) : ∀ (fuel : Nat) (listed : Array Bool) (a : Act) (w : World), wpAnyS P md ops Q fuel listed a w → wpAnyIn (Fence.wide.inRound lr) n P md ops Q fuel listed a w
  | 0, _, _, _, h => h
  | fuel + 1, listed, a, w, h => by
    refine ⟨h.1, fun i hi => ?_⟩
    have h1 := h.2 i hi
    unfold wpOpS at h1
    unfold wpOpIn
    cases ho : ops[i]? with
    | none => rw [ho] at h1; exact wpAnyIn_of_S hd fuel _ _ _ h1
    | some o =>
      rw [ho] at h1
      simp only at h1 ⊢
      split
      · rename_i hw
        rw [if_pos hw] at h1
        exact oper_in (hd i o ho) (fun a w hk => wpAnyIn_of_S hd fuel _ a w hk) h1
      · rename_i hw
        rw [if_neg hw] at h1
        exact ⟨fun _ _ => trivial, wpAnyIn_of_S hd fuel _ _ _ h1⟩
end
section
variable {P : Program} {l : List Oper} {vs : List Value} {fs : List Tmp} {FS : Tmp → Value → World → Prop} {I : World → Prop} {a0 : Act}
end
/-- where the post lets nothing out there is no way out -/
theorem wpAnyS_of {P : Program} {md : Region.Mode} {ops : Array Oper} {Q : Exit → Act → World → Prop} (hno : ¬ LetsOut Q) : ∀ (fuel : Nat) (listed : Array Bool) (a : Act) (w : World), wpAny P md ops Q fuel listed a w → wpAnyS P md ops Q fuel listed a w
  | 0, _, _, _, h => h
  | fuel + 1, listed, a, w, h => by
    refine ⟨h.1, fun i hi => ?_⟩
    have h1 := h.2 i hi
    unfold Go.wpOp at h1
    unfold wpOpS
    cases ho : ops[i]? with
    | none => rw [ho] at h1; exact wpAnyS_of hno fuel _ _ _ h1
    | some o =>
      rw [ho] at h1
      simp only at h1 ⊢
      split
      · rename_i hw
        rw [if_pos hw] at h1
        rcases h1 with h1 | ⟨_, h1⟩
        · exact Oper.wp_mono (fun a w hk => wpAnyS_of hno fuel _ a w hk) h1
        · exact absurd h1 hno
      · rename_i hw
        rw [if_neg hw] at h1
        exact wpAnyS_of hno fuel _ _ _ h1
end Go.Proofs.YtlbfibnfmijahaaGreat

namespace Go.Proofs.YtlbfibnfmijahaaGreat
open Go.RowKit
section
variable {P : Program} {ops : Array Oper} {Q : Exit → Act → World → Prop} {md : Region.Mode}
end
section
variable {P : Program} {l : List Oper} {vs : List Value} {fs : List Tmp} {FS : Tmp → Value → World → Prop} {I : World → Prop} {a0 : Act}
end
end Go.Proofs.YtlbfibnfmijahaaGreat

namespace Go.Proofs.YtlbfibnfmijahaaGreat
section
variable {P : Program} {ops : Array Oper} {md : Region.Mode} {I : World → Prop}

/-- one operation, in a class of worlds -/
def Step7 (b : Bool) (P : Program) (ops : Array Oper) (I : World → Prop) (o : Oper) (a : Act) (C : World → Prop) (K : (World → Prop) → Act → Prop) : Prop :=
  ((b = false ∧ kind3 o = 0) ∧ ∃ v, YieldsIn P ops (fun _ => True) o v a ∧ K C (a.put o.dst v)) ∨
  ((b = false ∧ kind3 o = 1) ∧ ∃ v, YieldsIn P ops I o v a ∧ K C (a.put o.dst v)) ∨
  (kind3 o = 2 ∧ ∃ v C', (∀ w, C' w → I w) ∧ StepsIn P ops C C' o v a ∧ K C' (a.put o.dst v)) ∨
  ((b = true ∨ kind3 o = 3) ∧ ((Region.wanted o (yielded ops a.tmps) = false ∧ K C (a.put o.dst undef)) ∨ (Region.wanted o (yielded ops a.tmps) = true ∧ ∃ (V : Value → Prop) (C' : Value → World → Prop), (∀ v w, C' v w → I w) ∧ (∀ w, C w → famUpon P V C' ((execOp a.eval o).run P w)) ∧ ∀ v, V v → K (C' v) (a.put o.dst v))))

def wpAny7 (P : Program) (md : Region.Mode) (ops : Array Oper) (I : World → Prop) (Q : (World → Prop) → Act → Prop) : Nat → Array Bool → (World → Prop) → Act → Prop
  | 0, listed, C, a => Region.ready md ops listed = [] ∧ Q C a
  | fuel + 1, listed, C, a =>
    (Region.ready md ops listed = [] → Q C a) ∧
    ∀ i ∈ Region.ready md ops listed, ∀ o, ops[i]? = some o → ∃ b, Step7 b P ops I o a C (wpAny7 P md ops I Q fuel (listed.setIfInBounds i true))
theorem Step7.wpOp {b : Bool} {C : World → Prop} {i : Nat} {o : Oper} {a : Act} {K : (World → Prop) → Act → Prop} {K' : Act → World → Prop} {Q' : Exit → Act → World → Prop} {w : World} (hi : ops[i]? = some o) (h : Step7 b P ops I o a C K) (hC : C w) (hCI : ∀ w, C w → I w) (hK : ∀ (C' : World → Prop) a' w', C' w' → (∀ w, C' w → I w) → K C' a' → K' a' w') : wpOp P ops Q' i K' a w := by
  rcases h with ⟨hk, v, hy, hn⟩ | ⟨hk, v, hy, hn⟩ | ⟨hk, v, C', hI, hy, hn⟩ | ⟨hk, h⟩
  · exact OpR.wpOp (C := C) (C' := C) hi (.inl ⟨kind3_pure hk.2, rfl, hy⟩) hC fun w' hw' => hK C _ w' hw' hCI hn
  · have hk1 : kindOf o = 1 := by
      obtain ⟨t, x, ho⟩ := kind3_load hk.2
      simp [kindOf, pureOp, ho]
    exact OpR.wpOp (C := C) (C' := C) hi (.inr (.inl ⟨hk1, rfl, yields_load hk.2 hy hCI⟩)) hC fun w' hw' => hK C _ w' hw' hCI hn
  · have hk2 : kindOf o = 2 := by
      unfold kind3 at hk
      unfold kindOf
      split at hk
      · simp at hk
      · rename_i hp
        rw [if_neg hp]
        split at hk
        · simp at hk
        · rename_i heq; simp [heq]
        · simp at hk
    exact OpR.wpOp (C := C) (C' := C') hi (.inr (.inr ⟨hk2, hy⟩)) hC fun w' hw' => hK C' _ w' hw' hI hn
  · unfold Go.wpOp
    simp only [hi]
    rcases h with ⟨hw, hn⟩ | ⟨hw, V, C', hI, hv, hn⟩
    · simp only [hw, Bool.false_eq_true, if_false]
      exact hK C _ w hC hCI hn
    · simp only [hw, if_true]
      left
      have h1 := hv w hC
      unfold Oper.wp
      generalize (execOp a.eval o).run P w = r at h1
      cases r with
      | ok n w' =>
        cases n <;> simp only [famUpon] at h1 <;> simp only [Oper.upon]
        case value u => exact hK (C' u) _ w' h1.2 (hI u) (hn u h1.1)
        case enter f args =>
          refine h1.mono fun e w'' ⟨v, he, hV, hc⟩ => ?_
          subst he
          exact hK (C' v) _ w'' hc (hI v) (hn v hV)
      | halt x w' => simp only [famUpon] at h1
theorem wpAny_of_7 {Q : (World → Prop) → Act → Prop} {Q' : Exit → Act → World → Prop} (hQ : ∀ (C : World → Prop) a w, C w → Q C a → Q' .normal a w) : ∀ (fuel : Nat) (listed : Array Bool) (C : World → Prop) (a : Act) (w : World), C w → (∀ w, C w → I w) →
    wpAny7 P md ops I Q fuel listed C a → wpAny P md ops Q' fuel listed a w
  | 0, _, _, _, _, hw, _, h => ⟨h.1, hQ _ _ _ hw h.2⟩
  | fuel + 1, _, _, _, _, hw, hI, h => ⟨fun h0 => hQ _ _ _ hw (h.1 h0), fun i hi => by
      obtain ⟨_, o, ho, _⟩ := mem_ready.1 hi
      obtain ⟨_, h2⟩ := h.2 i hi o ho
      exact h2.wpOp ho hw hI fun C' a' w' hw' hI' hn => wpAny_of_7 hQ fuel _ C' a' w' hw' hI' hn⟩
/-- an operation apart: its step is the same whether another's value is in its slot or not -/
theorem Step7.put {b : Bool} {oi oj : Oper} {v : Value} {a : Act} {C : World → Prop} {K1 K2 : (World → Prop) → Act → Prop} (hap : oi.apart ops oj = true) (hsj : ∀ cs b, oj.op ≠ .select cs b)
    (hK : ∀ (C' : World → Prop) u, K1 C' ((a.put oi.dst v).put oj.dst u) → K2 C' (a.put oj.dst u)) (h : Step7 b P ops I oj (a.put oi.dst v) C K1) : Step7 b P ops I oj a C K2 := by
  obtain ⟨p1, p2, p3⟩ := Oper.apart_spec hap
  have he := execOp_put oj hsj a oi.dst v p1
  have hw := wanted_put oj a oi.dst v p1
  rcases h with ⟨hk, u, hy, hn⟩ | ⟨hk, u, hy, hn⟩ | ⟨hk, u, C', hI, hy, hn⟩ | ⟨hk, h⟩
  · exact .inl ⟨hk, u, hy.of_same he.symm hw.symm, hK C u hn⟩
  · exact .inr (.inl ⟨hk, u, hy.of_same he.symm hw.symm, hK C u hn⟩)
  · refine .inr (.inr (.inl ⟨hk, u, C', hI, ?_, hK C' u hn⟩))
    unfold StepsIn at hy ⊢
    rwa [he, hw] at hy
  · refine .inr (.inr (.inr ⟨hk, ?_⟩))
    rcases h with ⟨hwf, hn⟩ | ⟨hwt, V, C', hsub, hv, hn⟩
    · exact .inl ⟨by rw [← hw]; exact hwf, hK C undef hn⟩
    · exact .inr ⟨by rw [← hw]; exact hwt, V, C', hsub, by rwa [he] at hv, fun u hu => hK (C' u) u (hn u hu)⟩
/-! as XQ3's, but a load is free of stores too: they stay in I -/
def free7 (md : Region.Mode) (ops : Array Oper) (listed : Array Bool) (k : Nat) (b : Bool) : Bool :=
  let U := blocked md ops k
  U.getD k false && U.size == ops.size &&
  match ops[k]? with
  | none => false
  | some ok => (List.range ops.size).all fun j =>
    match ops[j]? with
    | some oj =>
      if U.getD j false then !listed.getD j false && (j == k || oj.after.any (fun e => Region.binds md e && U.getD e.on false))
      else listed.getD j true || (!b && ok.apart ops oj && (kind3 ok == 0 || kind3 ok == 1))
    | none => true
structure Free7 (b : Bool) (md : Region.Mode) (ops : Array Oper) (listed : Array Bool) (i : Nat) (oi : Oper) (U : Array Bool) : Prop where
  size : U.size = ops.size
  own : U.getD i false = true
  wait : ∀ j oj, ops[j]? = some oj → U.getD j false = true → j ≠ i → ∃ e ∈ oj.after, Region.binds md e = true ∧ U.getD e.on false = true
  un : ∀ j, U.getD j false = true → listed.getD j false = false
  free : ∀ j oj, ops[j]? = some oj → U.getD j false = false → listed.getD j true = false → b = false ∧ oi.apart ops oj = true ∧ (kind3 oi = 0 ∨ kind3 oi = 1)
theorem free7_spec {b : Bool} {i : Nat} {oi : Oper} {listed : Array Bool} (hi : ops[i]? = some oi) (h : free7 md ops listed i b = true) : Free7 b md ops listed i oi (blocked md ops i) := by
  simp only [free7, hi, List.all_eq_true, List.mem_range, Bool.and_eq_true, beq_iff_eq] at h
  obtain ⟨⟨hown, hsz⟩, h⟩ := h
  have at_ : ∀ j oj, ops[j]? = some oj → (if (blocked md ops i).getD j false = true then (!listed.getD j false && (j == i || oj.after.any (fun e => Region.binds md e && (blocked md ops i).getD e.on false))) = true
      else (listed.getD j true || (!b && oi.apart ops oj && (kind3 oi == 0 || kind3 oi == 1))) = true) := fun j oj hj => by
    have h1 := h j (Array.getElem?_eq_some_iff.1 hj).1
    simp only [hj] at h1
    split at h1 <;> rename_i hu
    · rw [if_pos hu]; exact h1
    · rw [if_neg hu]; exact h1
  refine ⟨hsz, hown, fun j oj hj hu hne => ?_, fun j hu => ?_, fun j oj hj hu hun => ?_⟩
  · have h1 := at_ j oj hj
    rw [if_pos hu] at h1
    simp only [Bool.and_eq_true, Bool.or_eq_true, beq_iff_eq, hne, false_or] at h1
    obtain ⟨e, he, hb⟩ := Array.any_eq_true'.1 h1.2
    simp only [Bool.and_eq_true] at hb
    exact ⟨e, he, hb.1, hb.2⟩
  · have hlt : j < ops.size := by
      rw [← hsz]
      rcases Nat.lt_or_ge j (blocked md ops i).size with h' | h'
      · exact h'
      · simp [Array.getElem?_eq_none h'] at hu
    have h1 := at_ j _ (Array.getElem?_eq_getElem hlt)
    rw [if_pos hu] at h1
    simp only [Bool.and_eq_true, Bool.not_eq_true'] at h1
    exact h1.1
  · have h1 := at_ j oj hj
    rw [if_neg (by rw [hu]; exact Bool.false_ne_true)] at h1
    simp only [hun, Bool.or_eq_true, Bool.false_eq_true, false_or, Bool.and_eq_true, beq_iff_eq, Bool.not_eq_true'] at h1
    exact ⟨h1.1.1, h1.1.2, h1.2⟩
theorem Free7.ready {b : Bool} {i j : Nat} {oi oj : Oper} {listed U : Array Bool} (h : Free7 b md ops listed i oi U) (hj : ops[j]? = some oj) (hji : j ≠ i) (hall : ∀ e ∈ oj.after, Region.binds md e = true → listed.getD e.on false = true) : U.getD j false = false := by
  cases hu : U.getD j false with
  | false => rfl
  | true =>
    obtain ⟨e, he, hb, hue⟩ := h.wait j oj hj hu hji
    have h1 := hall e he hb
    rw [h.un e.on hue] at h1
    cases h1
theorem Free7.set {b : Bool} {i j : Nat} {oi : Oper} {listed U : Array Bool} (h : Free7 b md ops listed i oi U) (hu : U.getD j false = false) : Free7 b md ops (listed.setIfInBounds j true) i oi U := by
  refine ⟨h.size, h.own, h.wait, fun k hk => ?_, fun k ok hk hku hun => h.free k ok hk hku ?_⟩
  · have hne : j ≠ k := fun e => by subst e; rw [hu] at hk; cases hk
    rw [getD_set_ne false hne]; exact h.un k hk
  · by_cases hjk : j = k
    · subst hjk
      rcases Nat.lt_or_ge j listed.size with h' | h'
      · simp [h'] at hun
      · simp [Array.getElem?_eq_none (show (listed.setIfInBounds j true).size ≤ j by simpa using h')] at hun
    · rw [getD_set_ne true hjk] at hun; exact hun
/-- may the operations be walked in this order? -/
def orderB7 (md : Region.Mode) (ops : Array Oper) : List (Nat × Bool) → Array Bool → Bool
  | [], listed => (Region.ready md ops listed).isEmpty
  | k :: r, listed => (Region.ready md ops listed).contains k.1 && free7 md ops listed k.1 k.2 && orderB7 md ops r (listed.setIfInBounds k.1 true)
def order7 (md : Region.Mode) (ops : Array Oper) (ks : List (Nat × Bool)) : Bool := Region.noSelect ops && ks.length == ops.size && orderB7 md ops ks (Array.replicate ops.size false)
theorem wpAny7_first {b : Bool} {Q : (World → Prop) → Act → Prop} {i : Nat} {oi : Oper} (hi : ops[i]? = some oi) (hsel : ∀ (j : Nat) (o : Oper) cs b, ops[j]? = some o → o.op ≠ .select cs b) :
    ∀ (fuel : Nat) (listed : Array Bool) (C : World → Prop) (a : Act) (U : Array Bool), Free7 b md ops listed i oi U → i ∈ Region.ready md ops listed →
      Step7 b P ops I oi a C (wpAny7 P md ops I Q fuel (listed.setIfInBounds i true)) → wpAny7 P md ops I Q (fuel + 1) listed C a := by
  intro fuel
  induction fuel with
  | zero =>
    intro listed C a U hfree hr H
    refine ⟨fun h => (by rw [h] at hr; cases hr), fun j hj o ho => ?_⟩
    by_cases hji : j = i
    · subst hji
      have : o = oi := Option.some.inj (ho.symm.trans hi)
      subst this
      exact ⟨b, H⟩
    · exfalso
      have hmono := ready_mono hj hji
      obtain ⟨hjun, oj', hoj', hall⟩ := mem_ready.1 hj
      have hju := hfree.ready hoj' hji hall
      obtain ⟨hbf, _, hkind⟩ := hfree.free j oj' hoj' hju hjun
      have nil : ∀ {C' : World → Prop} {a' : Act}, wpAny7 P md ops I Q 0 (listed.setIfInBounds i true) C' a' → False := fun h => by
        rw [h.1] at hmono; cases hmono
      rcases H with ⟨_, _, _, hn⟩ | ⟨_, _, _, hn⟩ | ⟨hk, _⟩ | ⟨hk, _⟩
      · exact nil hn
      · exact nil hn
      · rcases hkind with h | h <;> rw [hk] at h <;> simp at h
      · rcases hk with hk | hk
        · rw [hbf] at hk; cases hk
        · rcases hkind with h | h <;> rw [hk] at h <;> simp at h
  | succ fuel ih =>
    intro listed C a U hfree hr H
    refine ⟨fun h => (by rw [h] at hr; cases hr), fun j hj oj hoj => ?_⟩
    by_cases hji : j = i
    · subst hji
      have : oj = oi := Option.some.inj (hoj.symm.trans hi)
      subst this
      exact ⟨b, H⟩
    · obtain ⟨hjun, oj', hoj', hall⟩ := mem_ready.1 hj
      have : oj' = oj := Option.some.inj (hoj'.symm.trans hoj)
      subst this
      have hju := hfree.ready hoj' hji hall
      obtain ⟨hbf, hap, hkind⟩ := hfree.free j oj' hoj hju hjun
      obtain ⟨p1, p2, p3⟩ := Oper.apart_spec hap
      have hsi : ∀ cs b, oi.op ≠ .select cs b := fun cs b => hsel i oi cs b hi
      have hsj : ∀ cs b, oj'.op ≠ .select cs b := fun cs b => hsel j oj' cs b hoj
      have hfree' := hfree.set hju
      have hr' := ready_mono hr (Ne.symm hji)
      have next : ∀ v, (kind3 oi = 0 ∧ YieldsIn P ops (fun _ => True) oi v a ∨ kind3 oi = 1 ∧ YieldsIn P ops I oi v a) → wpAny7 P md ops I Q (fuel + 1) (listed.setIfInBounds i true) C (a.put oi.dst v) → ∃ b', Step7 b' P ops I oj' a C (wpAny7 P md ops I Q (fuel + 1) (listed.setIfInBounds j true)) := by
        intro v hy hn
        obtain ⟨b', hst⟩ := hn.2 j (ready_mono hj hji) oj' hoj
        refine ⟨b', Step7.put (v := v) hap hsj (fun C' u h3 => ih _ C' _ U hfree' hr' ?_) hst⟩
        have h4 : wpAny7 P md ops I Q fuel ((listed.setIfInBounds j true).setIfInBounds i true) C' ((a.put oj'.dst u).put oi.dst v) := by
          rw [Array.setIfInBounds_comm _ _ hji]
          rw [Act.put_comm a v u p2] at h3
          exact h3
        have hs1 := execOp_put oi hsi a oj'.dst u p3
        have hs2 := wanted_put oi a oj'.dst u p3
        rcases hy with ⟨hk, hy⟩ | ⟨hk, hy⟩
        · exact .inl ⟨⟨hbf, hk⟩, v, hy.of_same hs1 hs2, h4⟩
        · exact .inr (.inl ⟨⟨hbf, hk⟩, v, hy.of_same hs1 hs2, h4⟩)
      rcases H with ⟨hk, v, hy, hn⟩ | ⟨hk, v, hy, hn⟩ | ⟨hk, _⟩ | ⟨hk, _⟩
      · exact next v (.inl ⟨hk.2, hy⟩) hn
      · exact next v (.inr ⟨hk.2, hy⟩) hn
      · rcases hkind with h | h <;> rw [hk] at h <;> simp at h
      · rcases hk with hk | hk
        · rw [hbf] at hk; cases hk
        · rcases hkind with h | h <;> rw [hk] at h <;> simp at h

/-- the walk in that order -/
def wpO7 (P : Program) (ops : Array Oper) (I : World → Prop) (Q : (World → Prop) → Act → Prop) : List (Nat × Bool) → (World → Prop) → Act → Prop
  | [], C, a => Q C a
  | k :: r, C, a => ∃ o, ops[k.1]? = some o ∧ Step7 k.2 P ops I o a C (wpO7 P ops I Q r)
theorem Step7.mono {b : Bool} {o : Oper} {a : Act} {C : World → Prop} {K K' : (World → Prop) → Act → Prop} (h : Step7 b P ops I o a C K) (hK : ∀ C a, K C a → K' C a) : Step7 b P ops I o a C K' := by
  rcases h with ⟨hk, v, hy, hn⟩ | ⟨hk, v, hy, hn⟩ | ⟨hk, v, C', hI, hy, hn⟩ | ⟨hk, h⟩
  · exact .inl ⟨hk, v, hy, hK _ _ hn⟩
  · exact .inr (.inl ⟨hk, v, hy, hK _ _ hn⟩)
  · exact .inr (.inr (.inl ⟨hk, v, C', hI, hy, hK _ _ hn⟩))
  · refine .inr (.inr (.inr ⟨hk, ?_⟩))
    rcases h with ⟨hw, hn⟩ | ⟨hw, V, C', hs, hv, hn⟩
    · exact .inl ⟨hw, hK _ _ hn⟩
    · exact .inr ⟨hw, V, C', hs, hv, fun v hV => hK _ _ (hn v hV)⟩
theorem wpAny7_order {Q : (World → Prop) → Act → Prop} (hs : Region.noSelect ops = true) : ∀ (ks : List (Nat × Bool)) (listed : Array Bool) (C : World → Prop) (a : Act),
    orderB7 md ops ks listed = true → wpO7 P ops I Q ks C a → wpAny7 P md ops I Q ks.length listed C a
  | [], _, _, _, hB, h => ⟨by simpa [orderB7] using hB, h⟩
  | k :: r, listed, C, a, hB, h => by
    obtain ⟨o, ho, h⟩ := h
    simp only [orderB7, Bool.and_eq_true] at hB
    obtain ⟨⟨hr, hf⟩, hB'⟩ := hB
    exact wpAny7_first ho (Region.noSelect_spec hs) r.length listed C a _ (free7_spec ho hf) (by simpa using hr) (h.mono fun C' a' hn => wpAny7_order hs r _ C' a' hB' hn)
theorem wpIn_region_order7 {lr n : Nat} {id : Nat} {Q : Exit → Act → World → Prop} {a : Act} {w : World} {l : List Oper} (ks : List (Nat × Bool)) (I : World → Prop) {C : World → Prop} (hm : P.follows .mixedOrders = true) (hno : ¬ LetsOut Q) (hdf : (l.all fun o => match o.op with | .defer _ => false | _ => true) = true) (hB : order7 .any l.toArray ks = true) (hC : C w.drew) (hI : ∀ w, C w → I w)
    (h : wpO7 P l.toArray I (fun C a' => ∀ w', C w' → Q .normal a' w') ks C a) : (Code.region id l.toArray true).wpIn (Fence.wide.inRound lr) n P Q a w := by
  simp only [order7, Bool.and_eq_true, beq_iff_eq] at hB
  refine wpIn_region_any hm (wpAnyIn_of_S (fun j o ho c hc => ?_) _ _ _ _ (wpAnyS_of hno _ _ _ _ (wpAny_of_7 (I := I) (Q := fun C a' => ∀ w', C w' → Q .normal a' w') (fun C a w' hw' h => h w' hw') _ _ C _ _ hC hI ?_)))
  · have hmem : o ∈ l := List.mem_of_getElem? (by simpa using ho)
    rw [List.all_eq_true] at hdf
    have := hdf o hmem
    rw [hc] at this
    cases this
  · have := wpAny7_order (md := .any) hB.1.1 ks (Array.replicate l.toArray.size false) C a hB.2 h
    rwa [hB.1.2] at this
end
/-! one operation of the walk -/
section
variable {P : Program} {I : World → Prop} {l : List Oper} {Q : (World → Prop) → Act → Prop} {o : Oper} {k : Nat} {r : List (Nat × Bool)} {C : World → Prop} {a : Act}
theorem wpO7_pure (ho : l[k]? = some o) (hk : kind3 o = 0) (h : wpQuiet P l.toArray (fun _ => True) (fun a' => wpO7 P l.toArray I Q r C a') [o] a) : wpO7 P l.toArray I Q ((k, false) :: r) C a :=
  ⟨o, at_list ho, .inl ⟨⟨rfl, hk⟩, yields_of_quiet h⟩⟩
theorem wpO7_load {t : TypeId} {x : Operand} {ad : Addr} (v : Value) (ho : l[k]? = some o) (hop : o.op = .load t x) (hw : Region.wanted o (yielded l.toArray a.tmps) = true) (hx : a.eval x = .pointer (some ad))
    (hrun : ∀ w, I w → (Instr.loadAt t (.pointer (some ad))).run P w = .ok v w) (h : wpO7 P l.toArray I Q r C (a.put o.dst v)) : wpO7 P l.toArray I Q ((k, false) :: r) C a := by
  refine ⟨o, at_list ho, .inr (.inl ⟨⟨rfl, by simp [kind3, pureOp, hop]⟩, v, .inl ⟨hw, fun w hC => ?_⟩, h⟩)⟩
  unfold Oper.quietAt execOp
  simp only [hop, hx]
  rw [Sem.run_bind, hrun w hC]
  exact ⟨rfl, rfl⟩
theorem wpO7_call (V : Value → Prop) (C' : Value → World → Prop) {f : FuncId} {args : Array Value} (ho : l[k]? = some o) (hk : kind3 o = 3) (hw : Region.wanted o (yielded l.toArray a.tmps) = true) (hsub : ∀ v w, C' v w → I w)
    (hrun : ∀ w, (execOp a.eval o).run P w = .ok (.enter f args) w) (hc : ∀ w, C w → Calls P f args w fun e w'' => ∃ v, e = .returned v ∧ V v ∧ C' v w'') (h : ∀ v, V v → wpO7 P l.toArray I Q r (C' v) (a.put o.dst v)) : wpO7 P l.toArray I Q ((k, false) :: r) C a :=
  ⟨o, at_list ho, .inr (.inr (.inr ⟨.inr hk, .inr ⟨hw, V, C', hsub, fun w hC => by rw [hrun w]; exact hc w hC, h⟩⟩))⟩
theorem wpO7_store (C' : World → Prop) {t : TypeId} {x y : Operand} (ho : l[k]? = some o) (hop : o.op = .store t x y) (hd : o.dst = none) (hg : o.guard = none) (ad : Addr) (v : Value) (hx : a.eval x = .pointer (some ad)) (hy : a.eval y = v) (hsub : ∀ w, C' w → I w)
    (hrun : ∀ w, C w → ∃ w', (Instr.storeAt t (.pointer (some ad)) v).run P w = .ok () w' ∧ C' w') (h : wpO7 P l.toArray I Q r C' a) : wpO7 P l.toArray I Q ((k, false) :: r) C a := by
  refine ⟨o, at_list ho, .inr (.inr (.inl ⟨by simp [kind3, pureOp, hop], undef, C', hsub, .inl ⟨by simp [Region.wanted, hg], fun w hw => ?_⟩, ?_⟩))⟩
  · obtain ⟨w', hr, hc⟩ := hrun w hw
    unfold execOp
    simp only [hop, hx, hy]
    rw [Sem.run_bind, hr]
    exact ⟨rfl, hc⟩
  · rw [hd]; exact h
/-- a bound load: by the class at its turn -/
theorem wpO7_look {t : TypeId} {x : Operand} {ad : Addr} (v : Value) (ho : l[k]? = some o) (hop : o.op = .load t x) (hw : Region.wanted o (yielded l.toArray a.tmps) = true) (hx : a.eval x = .pointer (some ad)) (hsub : ∀ w, C w → I w)
    (hrun : ∀ w, C w → (Instr.loadAt t (.pointer (some ad))).run P w = .ok v w) (h : wpO7 P l.toArray I Q r C (a.put o.dst v)) : wpO7 P l.toArray I Q ((k, true) :: r) C a := by
  refine ⟨o, at_list ho, .inr (.inr (.inr ⟨.inl rfl, .inr ⟨hw, fun u => u = v, fun _ => C, fun _ => hsub, fun w hC => ?_, fun u hu => by subst hu; exact h⟩⟩))⟩
  unfold execOp
  simp only [hop, hx]
  rw [Sem.run_bind, hrun w hC]
  exact ⟨rfl, hC⟩
end
end Go.Proofs.YtlbfibnfmijahaaGreat

namespace Go.Proofs.YtlbfibnfmijahaaGreat
open Go.RowKit Go.Shelf
set_option maxRecDepth 100000
attribute [local go_sem] Oper.semAt_some

/-- a message's box b0 and an error's box behind it -/
structure CkB (b0 : Nat) (w4 : World) (M : Mg) (E : Int) (V : World) : Prop where
  m : ∃ P C, V.heap[b0]? = some (.cells (mC M P C) 26 (0, 0)) ∧ MAt V b0 M P C
  e : V.heap[b0 + 1]? = some (.cells #[.int .i64 E] 29 (0, 0))
  off : Off (fun q => q = b0 ∨ q = b0 + 1) w4 V
section
variable {b0 : Nat} {w4 V V' : World} {M M' : Mg} {E E' : Int}
theorem MAt.kept {w w' : World} {B : Nat} {M : Mg} {P C : Value} (h : MAt w B M P C) (hk : ∀ p : Addr, p.block < B → w'.cell? p = w.cell? p) : MAt w' B M P C := by
  obtain ⟨⟨a, c, h1, h2, h3⟩, ⟨a', c', h4, h5, h6⟩⟩ := h
  exact ⟨⟨a, c, h1, h2, h3.kept hk⟩, ⟨a', c', h4, h5, h6.kept hk⟩⟩
theorem CkB.later (h : CkB b0 w4 M E V) (hb : Below V.heap.size V V') : CkB b0 w4 M E V' := by
  obtain ⟨P, C, h1, h2⟩ := h.m
  have hl := (Array.getElem?_eq_some_iff.1 h1).1
  exact ⟨⟨P, C, (hb.block _ hl).trans h1, h2.kept fun p hp => hb.cell (by omega)⟩, (hb.block _ (Array.getElem?_eq_some_iff.1 h.e).1).trans h.e, off_below h.off (hb.mono h.off.size)⟩
theorem CkB.putObj {l : Nat} {o' : Obj} (h : CkB b0 w4 M E V) (hw : w4.heap.size ≤ l) (hw4 : b0 + 1 < w4.heap.size) : CkB b0 w4 M E (V.putObj l o') := by
  obtain ⟨P, C, h1, h2⟩ := h.m
  have hp : Below l V (V.putObj l o') := below_put V o' (Nat.le_refl _)
  exact ⟨⟨P, C, (World.putObj_heap_other (by omega)).trans h1, h2.kept fun p hp' => hp.cell (by omega)⟩, (World.putObj_heap_other (by omega)).trans h.e, off_below h.off (below_put V o' hw)⟩
/-- an error is told, and a cell of the message turned -/
theorem CkB.set (h : CkB b0 w4 M E V) (E' : Int) (j : Nat) (u : Value) (hM : ∀ P C, V.heap[b0]? = some (.cells (mC M P C) 26 (0, 0)) → MAt V b0 M P C → ∃ P' C', (mC M P C).setIfInBounds j u = mC M' P' C' ∧ MAt V b0 M' P' C') :
    CkB b0 w4 M' E' ((V.setCell ⟨b0 + 1, 0, none⟩ (.int .i64 E')).setCell ⟨b0, j, none⟩ u) := by
  obtain ⟨P, C, h1, h2⟩ := h.m
  obtain ⟨P', C', h3, h4⟩ := hM P C h1 h2
  have h5 : (V.setCell ⟨b0 + 1, 0, none⟩ (.int .i64 E')).heap[b0]? = some (.cells (mC M P C) 26 (0, 0)) := (Below.heap_setCell _ _ _ _ (by show b0 ≠ b0 + 1; omega)).trans h1
  have h6 : Below b0 V ((V.setCell ⟨b0 + 1, 0, none⟩ (.int .i64 E')).setCell ⟨b0, j, none⟩ u) := ((Below.refl b0 V).setCell (p := ⟨b0 + 1, 0, none⟩) (by show b0 ≤ b0 + 1; omega) _).setCell (p := ⟨b0, j, none⟩) (Nat.le_refl _) _
  refine ⟨⟨P', C', by rw [setCell_at h5, h3], h4.kept fun p hp => h6.cell hp⟩, ?_, ?_⟩
  · rw [Below.heap_setCell _ _ _ _ (by show b0 + 1 ≠ b0; omega), setCell_at h.e]
    rfl
  · exact (h.off.setCell (p := ⟨b0 + 1, 0, none⟩) (.inr rfl) _).setCell (p := ⟨b0, j, none⟩) (.inl rfl) _
end
theorem kf_two {V W : World} {b s : Nat} (h : Off (fun q => q = b ∨ q = b + 1) V W) (hb : b + 1 < s) : KeepsFrom s V W := ⟨h.size, fun q o hq ho _ => (h.block q (Array.getElem?_eq_some_iff.1 ho).1 (by omega)).trans ho⟩
theorem ket_two {V W : World} {b : Nat} {tf ti : TypeId} (h : Off (fun q => q = b ∨ q = b + 1) V W) : KeT tf ti (b + 2) V W := ⟨h.size, fun q cs t hq _ hA => h.block q (Array.getElem?_eq_some_iff.1 hA).1 (by omega)⟩
theorem Msm.strip {M : Mg} (h : Msm M) (f : Fd) : Msm (strip M f) := by
  unfold Proofs.YtlbfibnfmijahaaGreat.strip
  repeat' split
  · exact ⟨by simp, h.c, h.tx, h.tg⟩
  · exact ⟨h.p, by simp, h.tx, h.tg⟩
  · exact ⟨h.p, h.c, by show (ByteArray.mk #[]).size ≤ 80; decide, h.tg⟩
  · exact ⟨h.p, h.c, h.tx, by show (ByteArray.mk #[]).size ≤ 80; decide⟩
  · exact ⟨by rw [Mg.put_p]; exact h.p, by rw [Mg.put_c]; exact h.c, by rw [Mg.put_tx]; exact h.tx, by rw [Mg.put_tg]; exact h.tg⟩
theorem Msm.fold {M : Mg} (h : Msm M) : ∀ L : List Fd, Msm (L.foldl Proofs.YtlbfibnfmijahaaGreat.strip M) := by
  intro L
  induction L generalizing M with
  | nil => exact h
  | cons f r ih => exact ih (h.strip f)

set_option maxHeartbeats 16000000 in
theorem mcheck_any (M : Mg) (P C : Value) (w : World) (hs : Msm M) (h1 : MAt w w.heap.size M P C) : Calls Tryz.prog 25 #[mV M P C] w fun e w' => e = .returned (.int .i64 (mck M)) ∧ Below w.heap.size w w' := by
  have KW := Lib.hid (word_any M.k)
  obtain ⟨R, hR⟩ : ∃ R, mck M = R := ⟨_, rfl⟩
  rw [hR]
  unfold mck at hR
  obtain ⟨⟨ap, cp, rfl, hcp, ha⟩, ⟨ac, cc, rfl, hcc, hc⟩⟩ := h1
  by_cases hk : wd M.k = ⟨#[]⟩
  · rw [if_pos ((FD_nil _).2 hk)] at hR
    subst hR
    rw [hk] at KW
    have HB := Lib.hid ((Below.refl _ w).alloc (Nat.le_refl _) (.cells (mC M (.slice ap M.p.length cp) (.slice ac M.c.length cc)) 26))
    unfold mV mC at *
    clear ha hc hcp hcc hs hk
    go_enter Tryz.func25, Tryz.ntmps25
    go_wp2
    refine wp_scope_straight ?_
    go_wp2_with fail
    refine (KW.out _).mono ?_
    rintro e w1 ⟨rfl, rfl⟩
    go_wp2
    try simp only [Exit.noGoto]
    go_ret
    exact ⟨rfl, HB.out⟩
  · rw [if_neg (fun e => hk ((FD_nil _).1 e))] at hR
    have hwne := str_nil hk
    have hwn2 : (wd M.k).toList.isEmpty = false := by simpa using hwne
    obtain ⟨w3, hw3⟩ : ∃ w3, w3 = (w.alloc (.cells (mC M (.slice ap M.p.length cp) (.slice ac M.c.length cc)) 26)).alloc (.cells #[.int .i64 0] 29) := ⟨_, rfl⟩
    have hs3 : w3.heap.size = w.heap.size + 2 := by rw [hw3]; simp
    have hb3 : Below w.heap.size w w3 := by rw [hw3]; exact ((Below.refl _ w).alloc (Nat.le_refl _) _).alloc (by simp) _
    have p0 : w3.heap[w.heap.size]? = some (.cells (mC M (.slice ap M.p.length cp) (.slice ac M.c.length cc)) 26 (0, 0)) := by
      rw [hw3, Below.heap_alloc _ _ _ (by simp)]; exact World.alloc_heap_new _ _
    have p1 : w3.heap[w.heap.size + 1]? = some (.cells #[.int .i64 0] 29 (0, 0)) := by
      have := World.alloc_heap_new (w.alloc (.cells (mC M (.slice ap M.p.length cp) (.slice ac M.c.length cc)) 26)) (.cells #[.int .i64 0] 29)
      rw [World.size_alloc] at this
      rw [hw3]; exact this
    have hC3 : CkB w.heap.size w3 M 0 w3 := ⟨⟨_, _, p0, ⟨_, _, rfl, hcp, ha.below hb3⟩, ⟨_, _, rfl, hcc, hc.below hb3⟩⟩, p1, Off.refl _ _⟩
    obtain ⟨np, hnp⟩ : ∃ np, M.p.length = np := ⟨_, rfl⟩
    obtain ⟨nc, hnc⟩ : ∃ nc, M.c.length = nc := ⟨_, rfl⟩
    rw [hnp, hnc] at hw3
    unfold mV mC at *
    rw [hnp, hnc]
    have HW := Lib.hid hw3
    clear hw3 p0 p1 ha hc hcp hcc hnp hnc
    refine (callsIn_wide (n := 9)).1 ?_
    refine callsIn_of_wp_marks Tryz.func25 rfl trivial ?_ rfl
    simp only [Tryz.ntmps25, List.size_toArray, List.length_cons, List.length_nil, Nat.reduceAdd, Nat.reduceSub, Array.replicate_succ, Array.replicate_zero, List.push_toArray, List.append_toArray, List.nil_append, List.cons_append]
    gi_wp2_with fail
    refine wpIn_wide.2 (wp_scope_straight ((wpIn_wide (n := 9)).1 ?_))
    gi_wp2_with fail
    refine ⟨trivial, (callsIn_wide.2 (KW.out _)).mono ?_⟩
    rintro e w1 ⟨rfl, rfl⟩
    clear KW
    gi_wp2_with fail
    apply wpIn_label
    gi_wp2_with fail
    refine ⟨trivial, ?_⟩
    rw [← HW.out]
    refine (callsIn_wide.2 (fall_any M.k 2 w3)).mono ?_
    rintro e w4 ⟨rfl, hg0, hg1, hb4⟩
    clear HW
    rw [hs3] at hg0 hg1
    have hs4 := (Array.getElem?_eq_some_iff.1 hg1).1
    have hC4 := hC3.later hb4
    have hb04 := hb3.trans (hb4.mono (by omega))
    have hC4 : CkB w.heap.size w4 M 0 w4 := ⟨hC4.m, hC4.e, Off.refl _ _⟩
    clear hb4 hb3 hC3
    have KA := Lib.hid (FDv_two M.k)
    have KF := Lib.hid (FD_fdok M.k)
    have KE := Lib.hid (fun (j : Nat) (f : Fd) (hj : (FD M.k)[j]? = some f) => fE_at hj M)
    have KS := Lib.hid (fun (j : Nat) => fold_strip_k ((FD M.k).take j) M)
    obtain ⟨L, hL⟩ : ∃ L, FD M.k = L := ⟨_, rfl⟩
    rw [hL] at hR KA KF KE KS
    have HR := Lib.hid hR
    clear hL hR
    gi_wp2_with fail
    refine range_stopb rfl (by omega) (gf := 51) (lb := #[.pointer (some ⟨w.heap.size + 2, 0, none⟩), .pointer (some ⟨w.heap.size + 2 + 1, 0, none⟩)]) rfl trivial (enters_of Tryz.func51 (by kernel_rfl) rfl)
      (fun f : Fd => #[f.v]) (fun _ => rfl)
      (fun j f V => L[j]? = some f ∧ (∀ g ∈ L.take j, fE M g = 0) ∧ CkB w.heap.size w4 ((L.take j).foldl strip M) 0 V)
      (fun j f q V => (L[j]? = some f ∧ (∀ g ∈ L.take j, fE M g = 0) ∧ CkB w.heap.size w4 ((L.take j).foldl strip M) 0 V) ∧ w4.heap.size ≤ q ∧ V.heap[q]? = some (.cells f.cs 87 (0, 0)))
      (fun j V => (∀ g ∈ L.take j, fE M g = 0) ∧ CkB w.heap.size w4 ((L.take j).foldl strip M) 0 V)
      (fun cd V => cd = .exit 0 ∧ ∃ (E : Int) (M' : Mg), E ≠ 0 ∧ firstE M L = E ∧ CkB w.heap.size w4 M' E V)
      (KeT 87 3 (w.heap.size + 2)) L.length
      (fun j f q V l o o' h hl ho hc' => ⟨⟨h.1.1, h.1.2.1, h.1.2.2.putObj hl (by omega)⟩, h.2.1, (World.putObj_heap_other (fun e => by subst e; rw [h.2.2] at ho; injection ho with ho; subst ho; cases hc')).trans h.2.2⟩)
      (fun j V l o o' h hl ho hc' => ⟨h.1, h.2.putObj hl (by omega)⟩)
      (fun cd V l o o' h hl ho hc' => by
        obtain ⟨h1, E, M', h2, h3, h4⟩ := h
        exact ⟨h1, E, M', h2, h3, h4.putObj hl (by omega)⟩)
      (fun _ _ _ h k => h.trans k) (fun V l o o' hl ho hc' => KeT.putObj ho hc')
      (fun o => ⟨fun g hg => by simp at hg, (hC4.later ((Below.refl _ w4).alloc (Nat.le_refl _) _)).later ((Below.refl _ _).alloc (Nat.le_refl _) _)⟩) ?round ?iter ?done ?stop
    case round =>
      rintro l j f V K ⟨hf, hz, hC⟩ hj hK
      have HK := Lib.hid hK
      have hsz := hC.off.size
      clear hK
      unfold Fd.v Fd.cs
      gi_wp2_with fail
      refine HK.out _ V.heap.size _ ⟨⟨hf, hz, hC.later ((Below.refl _ V).alloc (Nat.le_refl _) _)⟩, hsz, World.alloc_heap_new _ _⟩ ⟨by simp, fun q o _ ho _ => (Below.heap_alloc _ _ _ (Array.getElem?_eq_some_iff.1 ho).1).trans ho⟩ (KeT.of_below ((Below.refl _ V).alloc (Nat.le_refl _) _)) ?_
      clear HK hC hz
      rintro l V2 hl ⟨⟨_, hz, hC⟩, hq, hc⟩
      obtain ⟨qb, hqb⟩ : ∃ qb, V.heap.size = qb := ⟨_, rfl⟩
      rw [hqb] at hq hc ⊢
      clear hqb
      obtain ⟨d0, d1, d2, d3, d4, d5, d6⟩ := fd_block hc
      have hqlt := (Array.getElem?_eq_some_iff.1 hc).1
      have ok := KF.out f (List.mem_of_getElem? hf)
      have hE := KE.out j f hf
      have hst := fold_take hf strip M
      have hsm := hs.fold (L.take j)
      obtain ⟨Mj, hMj⟩ : ∃ Mj, (L.take j).foldl strip M = Mj := ⟨_, rfl⟩
      rw [hMj] at hC hE hst hsm
      obtain ⟨E, hEd⟩ : ∃ E, fE M f = E := ⟨_, rfl⟩
      rw [hEd] at hE
      have HF := Lib.hid hf
      have HZ0 := Lib.hid hz
      have HEd := Lib.hid hEd
      have HST := Lib.hid hst
      clear hf hz hst hEd hMj
      obtain ⟨P, C, m1, ⟨a, cpp, rfl, hcpp, hpa⟩, ⟨b, ccc, rfl, hccc, hcb⟩⟩ := hC.m
      obtain ⟨c0, c1, c2, c3, c4, c5, c6, c7, c8, c9, c10⟩ := mg_block m1
      have ce := row_cell hC.e 0 _ rfl
      have ze := frozen_of_row V2 (w.heap.size + 1) 0 _ _ hC.e
      have hb2 := (Array.getElem?_eq_some_iff.1 hC.e).1
      obtain ⟨np', hnp'⟩ : ∃ np', Mj.p.length = np' := ⟨_, rfl⟩
      obtain ⟨nc', hnc'⟩ : ∃ nc', Mj.c.length = nc' := ⟨_, rfl⟩
      rw [hnp'] at hcpp c7
      rw [hnc'] at hccc c8
      have hNE : w.heap.size ≠ w.heap.size + 1 := by omega
      have hso := ok.so
      by_cases h3 : f.so = 3
      · have hfe : fE Mj f = wP Mj.p f.mo := by unfold fE; rw [if_pos h3]
        have hstF : strip Mj f = { Mj with p := [] } := by unfold strip; rw [if_pos h3]
        rw [h3] at d1
        have KW := Lib.hid (wpath_any a np' cpp Mj.p f.mo V2 hnp' hcpp ok.le.2.2.2.1 (hpa.mono (B' := V2.heap.size) (by omega)))
        rw [← hfe, hE] at KW
        clear hfe d0 d2 d3 d5 d6 c0 c1 c2 c3 c4 c5 c6 c8 c9 c10
        gi_wp2_with fail
        refine ⟨trivial, ((callsIn_wide.2 KW.out).inRound l).mono ?_⟩
        rintro e V3 ⟨rfl, hb3⟩
        have hC3 := hC.later hb3
        have e7 := (hb3.cell (p := ⟨w.heap.size, 7, none⟩) (by show w.heap.size < _; omega)).trans c7
        have ee := (hb3.cell (p := ⟨w.heap.size + 1, 0, none⟩) (by show w.heap.size + 1 < _; omega)).trans ce
        obtain ⟨_, _, m3, _⟩ := hC3.m
        have z7 := frozen_of_row V3 w.heap.size 7 _ _ m3
        have zee := frozen_of_row V3 (w.heap.size + 1) 0 _ _ hC3.e
        have hC5 := hC3.set (M' := strip Mj f) E 7 (.slice none 0 0) (fun P C h1 h2 => ⟨.slice none 0 0, C, by rw [hstF]; rfl, by rw [hstF]; exact ⟨⟨none, 0, rfl, Nat.le_refl _, Nums.nil⟩, h2.c⟩⟩)
        clear KW hC hC3 m1 m3 hstF hpa hcb hc hsm ok hE d1 d4 c7 ce ze
        have hoff : Off (fun q => q = w.heap.size ∨ q = w.heap.size + 1) V2 ((V3.setCell ⟨w.heap.size + 1, 0, none⟩ (.int .i64 E)).setCell ⟨w.heap.size, 7, none⟩ (.slice none 0 0)) := ((Off.of_below hb3).setCell (p := ⟨w.heap.size + 1, 0, none⟩) (.inr rfl) _).setCell (p := ⟨w.heap.size, 7, none⟩) (.inl rfl) _
        have HKF := Lib.hid (kf_two hoff (s := w4.heap.size) (by omega))
        have HKE := Lib.hid (ket_two (tf := 87) (ti := 3) hoff)
        have HC5 := Lib.hid hC5
        clear hoff hC5 hb3
        by_cases hE0 : E = 0
        · subst hE0
          have HZ : Hid (∀ g ∈ L.take (j + 1), fE M g = 0) := Lib.hid (take_zero HF.out HZ0.out HEd.out)
          gi_wp2
          exact ⟨HKF.out, ⟨HZ.out, by rw [HST.out]; exact HC5.out⟩, HKE.out⟩
        · have hEn : (E != 0) = true := by simpa using hE0
          have HFE : Hid (firstE M L = E) := Lib.hid ((firstE_at L M j f HF.out HZ0.out (by rw [HEd.out]; exact hE0)).trans HEd.out)
          gi_wp2
          exact ⟨HKF.out, rfl, E, _, hE0, HFE.out, HC5.out⟩
      by_cases h4 : f.so = 4
      · have hfe : fE Mj f = wC Mj.c f.mo := by unfold fE; rw [if_neg (by omega), if_pos h4]
        have hstF : strip Mj f = { Mj with c := [] } := by unfold strip; rw [if_neg (by omega), if_pos h4]
        rw [h4] at d1
        have KW := Lib.hid ((wcells_any b nc' ccc Mj.c f.mo V2 hnc' hccc ok.le.2.2.2.1 (hcb.mono (B' := V2.heap.size) (by omega))).mono (fun e w' h => (⟨h.1, h.2 ▸ Below.refl _ _⟩ : e = .returned (.int .i64 (wC Mj.c f.mo)) ∧ Below V2.heap.size V2 w')))
        rw [← hfe, hE] at KW
        clear hfe d0 d2 d3 d5 d6 c0 c1 c2 c3 c4 c5 c6 c7 c9 c10
        gi_wp2_with fail
        refine ⟨trivial, ((callsIn_wide.2 KW.out).inRound l).mono ?_⟩
        rintro e V3 ⟨rfl, hb3⟩
        have hC3 := hC.later hb3
        have e7 := (hb3.cell (p := ⟨w.heap.size, 8, none⟩) (by show w.heap.size < _; omega)).trans c8
        have ee := (hb3.cell (p := ⟨w.heap.size + 1, 0, none⟩) (by show w.heap.size + 1 < _; omega)).trans ce
        obtain ⟨_, _, m3, _⟩ := hC3.m
        have z7 := frozen_of_row V3 w.heap.size 8 _ _ m3
        have zee := frozen_of_row V3 (w.heap.size + 1) 0 _ _ hC3.e
        have hC5 := hC3.set (M' := strip Mj f) E 8 (.slice none 0 0) (fun P C h1 h2 => ⟨P, .slice none 0 0, by rw [hstF]; rfl, by rw [hstF]; exact ⟨h2.p, ⟨none, 0, rfl, Nat.le_refl _, Nums.nil⟩⟩⟩)
        clear KW hC hC3 m1 m3 hstF hpa hcb hc hsm ok hE d1 d4 c8 ce ze
        have hoff : Off (fun q => q = w.heap.size ∨ q = w.heap.size + 1) V2 ((V3.setCell ⟨w.heap.size + 1, 0, none⟩ (.int .i64 E)).setCell ⟨w.heap.size, 8, none⟩ (.slice none 0 0)) := ((Off.of_below hb3).setCell (p := ⟨w.heap.size + 1, 0, none⟩) (.inr rfl) _).setCell (p := ⟨w.heap.size, 8, none⟩) (.inl rfl) _
        have HKF := Lib.hid (kf_two hoff (s := w4.heap.size) (by omega))
        have HKE := Lib.hid (ket_two (tf := 87) (ti := 3) hoff)
        have HC5 := Lib.hid hC5
        clear hoff hC5 hb3
        by_cases hE0 : E = 0
        · subst hE0
          have HZ : Hid (∀ g ∈ L.take (j + 1), fE M g = 0) := Lib.hid (take_zero HF.out HZ0.out HEd.out)
          gi_wp2
          exact ⟨HKF.out, ⟨HZ.out, by rw [HST.out]; exact HC5.out⟩, HKE.out⟩
        · have hEn : (E != 0) = true := by simpa using hE0
          have HFE : Hid (firstE M L = E) := Lib.hid ((firstE_at L M j f HF.out HZ0.out (by rw [HEd.out]; exact hE0)).trans HEd.out)
          gi_wp2
          exact ⟨HKF.out, rfl, E, _, hE0, HFE.out, HC5.out⟩
      by_cases h5 : f.so = 5
      · have hfe : fE Mj f = wT Mj.tx f.mo := by unfold fE; rw [if_neg (by omega), if_neg (by omega), if_pos h5]
        have hstF : strip Mj f = { Mj with tx := ⟨#[]⟩ } := by unfold strip; rw [if_neg (by omega), if_neg (by omega), if_pos h5]
        rw [h5] at d1
        have KW := Lib.hid ((wtext_any Mj.tx f.mo (by have := hsm.tx; unfold maxLen; omega) V2).mono (fun e w' h => (⟨h.1, h.2 ▸ Below.refl _ _⟩ : e = .returned (.int .i64 (wT Mj.tx f.mo)) ∧ Below V2.heap.size V2 w')))
        rw [← hfe, hE] at KW
        clear hfe d0 d2 d3 d5 d6 c0 c1 c2 c3 c4 c5 c6 c7 c8 c10
        gi_wp2_with fail
        refine ⟨trivial, ((callsIn_wide.2 KW.out).inRound l).mono ?_⟩
        rintro e V3 ⟨rfl, hb3⟩
        have hC3 := hC.later hb3
        have e7 := (hb3.cell (p := ⟨w.heap.size, 9, none⟩) (by show w.heap.size < _; omega)).trans c9
        have ee := (hb3.cell (p := ⟨w.heap.size + 1, 0, none⟩) (by show w.heap.size + 1 < _; omega)).trans ce
        obtain ⟨_, _, m3, _⟩ := hC3.m
        have z7 := frozen_of_row V3 w.heap.size 9 _ _ m3
        have zee := frozen_of_row V3 (w.heap.size + 1) 0 _ _ hC3.e
        have hC5 := hC3.set (M' := strip Mj f) E 9 (.string ⟨#[]⟩) (fun P C h1 h2 => ⟨P, C, by rw [hstF]; rfl, by rw [hstF]; exact ⟨h2.p, h2.c⟩⟩)
        clear KW hC hC3 m1 m3 hstF hpa hcb hc hsm ok hE d1 d4 c9 ce ze
        have hoff : Off (fun q => q = w.heap.size ∨ q = w.heap.size + 1) V2 ((V3.setCell ⟨w.heap.size + 1, 0, none⟩ (.int .i64 E)).setCell ⟨w.heap.size, 9, none⟩ (.string ⟨#[]⟩)) := ((Off.of_below hb3).setCell (p := ⟨w.heap.size + 1, 0, none⟩) (.inr rfl) _).setCell (p := ⟨w.heap.size, 9, none⟩) (.inl rfl) _
        have HKF := Lib.hid (kf_two hoff (s := w4.heap.size) (by omega))
        have HKE := Lib.hid (ket_two (tf := 87) (ti := 3) hoff)
        have HC5 := Lib.hid hC5
        clear hoff hC5 hb3
        by_cases hE0 : E = 0
        · subst hE0
          have HZ : Hid (∀ g ∈ L.take (j + 1), fE M g = 0) := Lib.hid (take_zero HF.out HZ0.out HEd.out)
          gi_wp2
          exact ⟨HKF.out, ⟨HZ.out, by rw [HST.out]; exact HC5.out⟩, HKE.out⟩
        · have hEn : (E != 0) = true := by simpa using hE0
          have HFE : Hid (firstE M L = E) := Lib.hid ((firstE_at L M j f HF.out HZ0.out (by rw [HEd.out]; exact hE0)).trans HEd.out)
          gi_wp2
          exact ⟨HKF.out, rfl, E, _, hE0, HFE.out, HC5.out⟩
      by_cases h6 : f.so = 6
      · have hfe : fE Mj f = wT Mj.tg f.mo := by unfold fE; rw [if_neg (by omega), if_neg (by omega), if_neg (by omega), if_pos h6]
        have hstF : strip Mj f = { Mj with tg := ⟨#[]⟩ } := by unfold strip; rw [if_neg (by omega), if_neg (by omega), if_neg (by omega), if_pos h6]
        rw [h6] at d1
        have KW := Lib.hid ((wtext_any Mj.tg f.mo (by have := hsm.tg; unfold maxLen; omega) V2).mono (fun e w' h => (⟨h.1, h.2 ▸ Below.refl _ _⟩ : e = .returned (.int .i64 (wT Mj.tg f.mo)) ∧ Below V2.heap.size V2 w')))
        rw [← hfe, hE] at KW
        clear hfe d0 d2 d3 d5 d6 c0 c1 c2 c3 c4 c5 c6 c7 c8 c9
        gi_wp2_with fail
        refine ⟨trivial, ((callsIn_wide.2 KW.out).inRound l).mono ?_⟩
        rintro e V3 ⟨rfl, hb3⟩
        have hC3 := hC.later hb3
        have e7 := (hb3.cell (p := ⟨w.heap.size, 10, none⟩) (by show w.heap.size < _; omega)).trans c10
        have ee := (hb3.cell (p := ⟨w.heap.size + 1, 0, none⟩) (by show w.heap.size + 1 < _; omega)).trans ce
        obtain ⟨_, _, m3, _⟩ := hC3.m
        have z7 := frozen_of_row V3 w.heap.size 10 _ _ m3
        have zee := frozen_of_row V3 (w.heap.size + 1) 0 _ _ hC3.e
        have hC5 := hC3.set (M' := strip Mj f) E 10 (.string ⟨#[]⟩) (fun P C h1 h2 => ⟨P, C, by rw [hstF]; rfl, by rw [hstF]; exact ⟨h2.p, h2.c⟩⟩)
        clear KW hC hC3 m1 m3 hstF hpa hcb hc hsm ok hE d1 d4 c10 ce ze
        have hoff : Off (fun q => q = w.heap.size ∨ q = w.heap.size + 1) V2 ((V3.setCell ⟨w.heap.size + 1, 0, none⟩ (.int .i64 E)).setCell ⟨w.heap.size, 10, none⟩ (.string ⟨#[]⟩)) := ((Off.of_below hb3).setCell (p := ⟨w.heap.size + 1, 0, none⟩) (.inr rfl) _).setCell (p := ⟨w.heap.size, 10, none⟩) (.inl rfl) _
        have HKF := Lib.hid (kf_two hoff (s := w4.heap.size) (by omega))
        have HKE := Lib.hid (ket_two (tf := 87) (ti := 3) hoff)
        have HC5 := Lib.hid hC5
        clear hoff hC5 hb3
        by_cases hE0 : E = 0
        · subst hE0
          have HZ : Hid (∀ g ∈ L.take (j + 1), fE M g = 0) := Lib.hid (take_zero HF.out HZ0.out HEd.out)
          gi_wp2
          exact ⟨HKF.out, ⟨HZ.out, by rw [HST.out]; exact HC5.out⟩, HKE.out⟩
        · have hEn : (E != 0) = true := by simpa using hE0
          have HFE : Hid (firstE M L = E) := Lib.hid ((firstE_at L M j f HF.out HZ0.out (by rw [HEd.out]; exact hE0)).trans HEd.out)
          gi_wp2
          exact ⟨HKF.out, rfl, E, _, hE0, HFE.out, HC5.out⟩
      obtain ⟨jn, hjn, hpl⟩ := ok.pl (by omega)
      have hfe : fE Mj f = wN (Mj.at' jn) f.le f.mo := by unfold fE; rw [if_neg h3, if_neg h4, if_neg h5, if_neg h6, hpl, Int.toNat_natCast]
      have hstF : strip Mj f = Mj.put jn 0 := by unfold strip; rw [if_neg h3, if_neg h4, if_neg h5, if_neg h6, hpl, Int.toNat_natCast]
      have cn := mg_at m1 hjn
      rw [hpl] at d2
      obtain ⟨nv, hnv⟩ : ∃ nv, Mj.at' jn = nv := ⟨_, rfl⟩
      rw [hnv] at cn hfe
      have KW := Lib.hid (wnum_any nv f.le f.mo)
      rw [← hfe, hE] at KW
      have q3 : (f.so == 3) = false := by simp; omega
      have q4 : (f.so == 4) = false := by simp; omega
      have q5 : (f.so == 5) = false := by simp; omega
      have q6 : (f.so == 6) = false := by simp; omega
      clear hfe hpl hnv c0 c1 c2 c3 c4 c5 c6 c7 c8 c9 c10
      have hj6 : (jn : Int) < 6 := by omega
      gi_wp2_with fail
      have lP : ∀ W, W.heap[qb]? = some (.cells f.cs 87 (0, 0)) → (Instr.loadAt 3 (.pointer (some ⟨qb, 2, none⟩))).run Tryz.prog W = .ok (.int .i64 (jn : Int)) W := fun W hW => by
        have hx : W.cell? ⟨qb, 2, none⟩ = some (.int .i64 (jn : Int)) := by
          rw [← d2]
          simp [World.cell?, hW, hc]
        simp [Instr.loadAt, go_sem, hx]
      have lL : ∀ W, W.heap[qb]? = some (.cells f.cs 87 (0, 0)) → (Instr.loadAt 3 (.pointer (some ⟨qb, 3, none⟩))).run Tryz.prog W = .ok (.int .i64 f.le) W := fun W hW => by
        obtain ⟨_, _, _, hx, _⟩ := fd_block hW
        simp [Instr.loadAt, go_sem, hx]
      have lM : ∀ W, W.heap[qb]? = some (.cells f.cs 87 (0, 0)) → (Instr.loadAt 3 (.pointer (some ⟨qb, 4, none⟩))).run Tryz.prog W = .ok (.int .i64 f.mo) W := fun W hW => by
        obtain ⟨_, _, _, _, hx, _⟩ := fd_block hW
        simp [Instr.loadAt, go_sem, hx]
      have hne0 : qb ≠ w.heap.size := by omega
      have hne1 : qb ≠ w.heap.size + 1 := by omega
      refine wpIn_region_order7 ((0, false) :: (1, false) :: (2, false) :: (3, false) :: (4, false) :: (5, false) :: (7, false) :: (8, false) :: (9, false) :: (10, false) :: (13, false) :: (6, true) :: (11, false) :: (12, false) :: (14, false) :: (15, false) :: []) (fun W => W.heap[qb]? = some (.cells f.cs 87 (0, 0))) (C := fun W => Below V2.heap.size V2 W) (by kernel_rfl) (fun ⟨_, _, h⟩ => h) (by kernel_rfl) (by kernel_rfl) (Below.refl _ _).drew (fun W hW => (hW.block _ hqlt).trans hc) ?_
      repeat (refine wpO7_pure rfl rfl ?_; go_big_quiet_step (fail); refine wpQuiet_nil ?_)
      refine wpO7_load (ad := ⟨qb, 2, none⟩) (.int .i64 (jn : Int)) rfl rfl rfl (by rfl) lP ?_
      simp only [Act.put, List.setIfInBounds_toArray, List.set_cons_succ, List.set_cons_zero]
      repeat (refine wpO7_pure rfl rfl ?_; go_big_quiet_step (fail); refine wpQuiet_nil ?_)
      refine wpO7_load (ad := ⟨qb, 2, none⟩) (.int .i64 (jn : Int)) rfl rfl rfl (by rfl) lP ?_
      simp only [Act.put, List.setIfInBounds_toArray, List.set_cons_succ, List.set_cons_zero]
      repeat (refine wpO7_pure rfl rfl ?_; go_big_quiet_step (fail); refine wpQuiet_nil ?_)
      refine wpO7_load (ad := ⟨qb, 3, none⟩) (.int .i64 f.le) rfl rfl rfl (by rfl) lL ?_
      simp only [Act.put, List.setIfInBounds_toArray, List.set_cons_succ, List.set_cons_zero]
      repeat (refine wpO7_pure rfl rfl ?_; go_big_quiet_step (fail); refine wpQuiet_nil ?_)
      refine wpO7_load (ad := ⟨qb, 4, none⟩) (.int .i64 f.mo) rfl rfl rfl (by rfl) lM ?_
      simp only [Act.put, List.setIfInBounds_toArray, List.set_cons_succ, List.set_cons_zero]
      repeat (refine wpO7_pure rfl rfl ?_; go_big_quiet_step (fail); refine wpQuiet_nil ?_)
      refine wpO7_look (ad := ⟨w.heap.size, 1 + jn, none⟩) (.int .i64 nv) rfl rfl rfl (by rfl) (fun W hW => (hW.block _ hqlt).trans hc) (fun W hW => ?_) ?_
      · have hx := (hW.cell (p := ⟨w.heap.size, 1 + jn, none⟩) (by show w.heap.size < _; omega)).trans cn
        simp [Instr.loadAt, go_sem, hx]
      simp only [Act.put, List.setIfInBounds_toArray, List.set_cons_succ, List.set_cons_zero]
      refine wpO7_call (fun v => v = .int .i64 E) (fun _ W => Below V2.heap.size V2 W) (f := 45) (args := #[.int .i64 nv, .int .i64 f.le, .int .i64 f.mo]) rfl rfl rfl (fun _ W hW => (hW.block _ hqlt).trans hc) (fun x => by first | rfl | (simp [go_sem]; done)) (fun W hW => (KW.out W).mono (fun e w' h => ⟨_, h.1, rfl, h.2 ▸ hW⟩)) ?_
      rintro v rfl
      simp only [Act.put, List.setIfInBounds_toArray, List.set_cons_succ, List.set_cons_zero]
      refine wpO7_store (fun W => ∃ W0, Below V2.heap.size V2 W0 ∧ W = W0.setCell ⟨w.heap.size + 1, 0, none⟩ (.int .i64 E)) rfl rfl rfl rfl ⟨w.heap.size + 1, 0, none⟩ (.int .i64 E) (by rfl) (by rfl) (fun W hW => ?_) (fun W hW => ?_) ?_
      · obtain ⟨W0, h1, rfl⟩ := hW
        exact (Below.heap_setCell _ _ _ _ hne1).trans ((h1.block _ hqlt).trans hc)
      · have k0 := (hW.cell (p := ⟨w.heap.size + 1, 0, none⟩) (by show w.heap.size + 1 < _; omega)).trans ce
        have k1 := frozen_of_row W (w.heap.size + 1) 0 _ _ ((hW.block _ hb2).trans hC.e)
        exact ⟨_, by simp [Instr.storeAt, go_sem, k0, k1], W, hW, rfl⟩
      repeat (refine wpO7_pure rfl rfl ?_; go_big_quiet_step (fail); refine wpQuiet_nil ?_)
      refine wpO7_store (fun W => ∃ W0, Below V2.heap.size V2 W0 ∧ W = (W0.setCell ⟨w.heap.size + 1, 0, none⟩ (.int .i64 E)).setCell ⟨w.heap.size, 1 + jn, none⟩ (.int .i64 0)) rfl rfl rfl rfl ⟨w.heap.size, 1 + jn, none⟩ (.int .i64 0) (by rfl) (by rfl) (fun W hW => ?_) (fun W hW => ?_) ?_
      · obtain ⟨W0, h1, rfl⟩ := hW
        exact (Below.heap_setCell _ _ _ _ hne0).trans ((Below.heap_setCell _ _ _ _ hne1).trans ((h1.block _ hqlt).trans hc))
      · obtain ⟨W0, h1, rfl⟩ := hW
        have m5 := (Below.heap_setCell W0 ⟨w.heap.size + 1, 0, none⟩ (.int .i64 E) w.heap.size hNE).trans ((h1.block _ (by omega)).trans m1)
        have k0 := mg_at m5 hjn
        have k1 := frozen_of_row _ w.heap.size (1 + jn) _ _ m5
        exact ⟨_, by simp [Instr.storeAt, go_sem, k0, k1], W0, h1, rfl⟩
      rintro V6 ⟨V3, hb3, rfl⟩
      have hC5 := (hC.later hb3).set (M' := strip Mj f) E (1 + jn) (.int .i64 0) (fun P C h1 h2 => ⟨P, C, by rw [hstF, mC_put hjn], by rw [hstF]; exact ⟨by rw [Mg.put_p]; exact h2.p, by rw [Mg.put_c]; exact h2.c⟩⟩)
      have ee := row_cell hC5.e 0 _ rfl
      clear KW hC m1 hstF hpa hcb hc hsm ok hE d0 d1 d2 d3 d4 d5 d6 ce ze lP lL lM cn
      have hoff : Off (fun q => q = w.heap.size ∨ q = w.heap.size + 1) V2 ((V3.setCell ⟨w.heap.size + 1, 0, none⟩ (.int .i64 E)).setCell ⟨w.heap.size, 1 + jn, none⟩ (.int .i64 0)) := ((Off.of_below hb3).setCell (p := ⟨w.heap.size + 1, 0, none⟩) (.inr rfl) _).setCell (p := ⟨w.heap.size, 1 + jn, none⟩) (.inl rfl) _
      have HKF := Lib.hid (kf_two hoff (s := w4.heap.size) (by omega))
      have HKE := Lib.hid (ket_two (tf := 87) (ti := 3) hoff)
      have HC5 := Lib.hid hC5
      clear hoff hC5 hb3
      by_cases hE0 : E = 0
      · subst hE0
        have HZ : Hid (∀ g ∈ L.take (j + 1), fE M g = 0) := Lib.hid (take_zero HF.out HZ0.out HEd.out)
        gi_wp2
        exact ⟨HKF.out, ⟨HZ.out, by rw [HST.out]; exact HC5.out⟩, HKE.out⟩
      · have hEn : (E != 0) = true := by simpa using hE0
        have HFE : Hid (firstE M L = E) := Lib.hid ((firstE_at L M j f HF.out HZ0.out (by rw [HEd.out]; exact hE0)).trans HEd.out)
        gi_wp2
        exact ⟨HKF.out, rfl, E, _, hE0, HFE.out, HC5.out⟩
    case iter =>
      intro Bk X l V hBk hBlt hX hl hD hB hY
      have h := fall_in 8 (by omega) 7 l (w.heap.size + 2) M.k 2 (fun j V => ((∀ g ∈ L.take j, fE M g = 0) ∧ CkB w.heap.size w4 ((L.take j).foldl strip M) 0 V) ∧ Bk V) X
        (fun j A B h hb => ⟨⟨h.1.1, h.1.2.later hb⟩, hBk A _ h.2 hb.size (fun q h1 h2 => by have := hBlt A h.2; exact hb.block q (by omega))⟩)
        (fun j f W h hf => by
          rw [KA.out] at hf
          exact (hY j f W ⟨hf, h.1⟩ h.2 (List.getElem?_eq_some_iff.1 hf).1).mono (fun e W2 h => h.elim (fun h => .inl ⟨h.1, h.2.1, h.2.2.1⟩) (fun h => .inr ⟨h.1, h.2.1⟩)))
        V ((hD.2.off.block _ (by omega) (by omega)).trans hg0) ((hD.2.off.block _ (by omega) (by omega)).trans hg1) ⟨hD, hB⟩
      rw [KA.out] at h
      exact h
    case done =>
      rintro D V hD ⟨hz, hC⟩ hK
      rw [List.take_length] at hz hC
      have hf0 := (firstE_zero L M).1 hz
      have hR := HR.out
      rw [if_neg (by simp [hf0])] at hR
      have hsm := hs.fold L
      have hkk := KS.out L.length
      rw [List.take_length] at hkk
      obtain ⟨Ms, hMs⟩ : ∃ Ms, L.foldl strip M = Ms := ⟨_, rfl⟩
      rw [hMs] at hR hC hsm hkk
      obtain ⟨P, C, m1, m2⟩ := hC.m
      have KW := msame_any Ms (Mg.zero M.k) P C (.slice none 0 0) (.slice none 0 0) V hsm (m2.mono (by have := (Array.getElem?_eq_some_iff.1 hC.e).1; omega)) ⟨⟨none, 0, rfl, Nat.le_refl _, Nums.nil⟩, ⟨none, 0, rfl, Nat.le_refl _, Nums.nil⟩⟩
      obtain ⟨Q, hQ⟩ : ∃ Q, decide (Ms = Mg.zero M.k) = Q := ⟨_, rfl⟩
      rw [hQ] at KW
      simp only [mV, mC, Mg.zero] at KW
      obtain ⟨c0, c1, c2, c3, c4, c5, c6, c7, c8, c9, c10⟩ := mg_block m1
      rw [hkk] at c0 KW
      have ce := row_cell hC.e 0 _ rfl
      have HC := Lib.hid hC
      have KW := Lib.hid KW
      have HB := Lib.hid (hb04.trans (hC.off.below (B := w.heap.size) (fun k hk => by omega) hb04.size))
      have HKD := Lib.hid hK
      have hDlt := (Array.getElem?_eq_some_iff.1 hK).1
      have hb1lt := (Array.getElem?_eq_some_iff.1 hC.e).1
      have hQR : R = if Q = true then 0 else 3 := by
        rw [← hR, ← hQ]
        by_cases h : Ms = Mg.zero M.k
        · rw [if_pos h, if_pos (decide_eq_true h)]
        · rw [if_neg h, if_neg (by simpa using h)]
      clear hC m1 m2 hz hf0 hR hsm hMs hK hQ
      gi_wp2_with fail
      refine ⟨trivial, (callsIn_wide.2 KW.out).mono ?_⟩
      rintro e V2 ⟨rfl, hb2⟩
      have ee := (hb2.cell (p := ⟨w.heap.size + 1, 0, none⟩) hb1lt).trans ce
      have zee := frozen_of_row V2 (w.heap.size + 1) 0 _ _ ((hb2.block _ hb1lt).trans HC.out.e)
      have HK2 := Lib.hid ((hb2.block _ hDlt).trans HKD.out)
      have HB2 := Lib.hid (HB.out.trans (hb2.mono HB.out.size))
      have hV2 := hb2.size
      clear KW hb2 ce c0 c1 c2 c3 c4 c5 c6 c7 c8 c9 c10 HC
      cases Q
      · obtain rfl : R = 3 := hQR
        have HX := Lib.hid ((Below.heap_setCell V2 ⟨w.heap.size + 1, 0, none⟩ (.int .i64 3) D (by show _ ≠ w.heap.size + 1; omega)).trans HK2.out)
        have HY := Lib.hid (HB2.out.setCell (p := ⟨w.heap.size + 1, 0, none⟩) (Nat.le_succ _) (.int .i64 3))
        gi_wp2
        simp only [Exit.noGoto]
        refine ⟨by simp, .inl ⟨_, _, rfl, run_takeDeferred HX.out, ?_⟩⟩
        refine ⟨_, ?_, rfl, HY.out.trans (below_put _ _ (by omega))⟩
        simp [results, Tryz.f25, go_sem]
      · obtain rfl : R = 0 := hQR
        gi_wp2
        simp only [Exit.noGoto]
        refine ⟨by simp, .inl ⟨_, _, rfl, run_takeDeferred HK2.out, ?_⟩⟩
        refine ⟨_, ?_, rfl, HB2.out.trans (below_put _ _ (by omega))⟩
        simp [results, Tryz.f25, go_sem]
    case stop =>
      rintro D cd V hD ⟨rfl, E, M', hne, hfe, hC⟩ hK
      have hR := HR.out
      rw [hfe, if_pos hne] at hR
      subst hR
      have ce := row_cell hC.e 0 _ rfl
      have hEn : (E == 0) = false := by simpa using hne
      have HB := Lib.hid (hb04.trans (hC.off.below (B := w.heap.size) (fun k hk => by omega) hb04.size))
      have HKD := Lib.hid hK
      clear hC hK hfe
      gi_wp2
      refine ⟨trivial, ?_⟩
      gi_wp2
      simp only [Exit.noGoto]
      refine ⟨by simp, .inl ⟨_, _, rfl, run_takeDeferred HKD.out, ?_⟩⟩
      refine ⟨_, ?_, rfl, HB.out.trans (below_put _ _ (by omega))⟩
      simp [results, Tryz.f25, go_sem]
end Go.Proofs.YtlbfibnfmijahaaGreat

namespace Go.Proofs.YtlbfibnfmijahaaGreat
open Go.RowKit
section
variable {P : Program} {ops : Array Oper} {rest : List Oper} {op : Oper} {a : Act} {w w' : World} {Q : Exit → Act → World → Prop}
theorem wpList_load_run (hgd : op.guard = none) (ty : TypeId) (x : Operand) (ho : op.op = .load ty x) (ad : Option Addr) (hx : a.eval x = .pointer ad) (v : Value) (hr : (Instr.loadAt ty (.pointer ad)).run P w = .ok v w)
    (h : wpList P ops Q rest (a.put op.dst v) w) : wpList P ops Q (op :: rest) a w :=
  wpList_plain hgd fun _ hK => by
    unfold Oper.wp execOp
    simp only [ho, hx, Sem.run_bind, hr, Result.andThen_ok]
    exact hK _ _ h
theorem wpList_store_run (hgd : op.guard = none) (ty : TypeId) (x y : Operand) (ho : op.op = .store ty x y) (ad : Option Addr) (hx : a.eval x = .pointer ad) (v : Value) (hy : a.eval y = v) (hr : (Instr.storeAt ty (.pointer ad) v).run P w = .ok () w')
    (h : wpList P ops Q rest (a.put op.dst undef) w') : wpList P ops Q (op :: rest) a w :=
  wpList_plain hgd fun _ hK => by
    unfold Oper.wp execOp
    simp only [ho, hx, hy, Sem.run_bind, hr, Result.andThen_ok]
    exact hK _ _ h
end
end Go.Proofs.YtlbfibnfmijahaaGreat

namespace Go.Proofs.YtlbfibnfmijahaaGreat
open Go.RowKit
section
variable {F : Fence} {nF : Nat} {P : Program} {w w' : World} {ops : Array Oper} {rest : List Oper} {o : Oper} {a : Act} {Q : Exit → Act → World → Prop}
theorem wpListIn_store_run (hg : o.guard = none) (t : TypeId) (x y : Operand) (hop : o.op = .store t x y) (ad : Option Addr) (hx : a.eval x = .pointer ad) (v : Value) (hy : a.eval y = v) (hr : (Instr.storeAt t (.pointer ad) v).run P w = .ok () w')
    (hK : wpListIn F nF P ops Q rest (a.put o.dst undef) w') : wpListIn F nF P ops Q (o :: rest) a w := by
  refine wpListIn_plain hg fun K hK' => ?_
  unfold Oper.wpIn
  refine ⟨?_, ?_⟩
  · simp [Oper.about, hop]
  · rw [Oper.semAt_plain F _ _ (by rw [hop]; intro c hc'; cases hc')]
    simp [execOp, hop, hx, hy, hr, Result.andThen]
    exact hK' _ _ hK
theorem wpListIn_load_run (hg : o.guard = none) (t : TypeId) (x : Operand) (hop : o.op = .load t x) (ad : Option Addr) (hx : a.eval x = .pointer ad) (v : Value) (hr : (Instr.loadAt t (.pointer ad)).run P w = .ok v w)
    (hK : wpListIn F nF P ops Q rest (a.put o.dst v) w) : wpListIn F nF P ops Q (o :: rest) a w := by
  refine wpListIn_plain hg fun K hK' => ?_
  unfold Oper.wpIn
  refine ⟨?_, ?_⟩
  · simp [Oper.about, hop]
  · rw [Oper.semAt_plain F _ _ (by rw [hop]; intro c hc'; cases hc')]
    simp [execOp, hop, hx, hr, Result.andThen]
    exact hK' _ _ hK
end
end Go.Proofs.YtlbfibnfmijahaaGreat

namespace Go.Proofs.YtlbfibnfmijahaaGreat
open Go.RowKit Go.Shelf
set_option maxRecDepth 100000
attribute [local go_sem] Oper.semAt_some

theorem mg_store (w : World) (R : Nat) (old cs : Array Value) (h : w.heap[R]? = some (.cells old 26 (0, 0))) (ho : old.size = 11) (hc : cs.size = 11) (h1 : cs.all (·.oneCell') = true) :
    (Instr.storeAt 26 (.pointer (some ⟨R, 0, none⟩)) (.agg cs)).run Tryz.prog w = .ok () (w.setRow R cs) := by
  simp only [Instr.storeAt, Instr.sureAddr, Sem.run_bind, Sem.run_pure, Result.andThen]
  exact run_storeVar_row w R 26 26 old cs h (by rw [hc]; exact mgInfo) (by omega) h1
/-- a message's box bp whose lists' slices stay -/
structure PjB (bp : Nat) (w5 : World) (P C : Value) (M : Mg) (V : World) : Prop where
  m : V.heap[bp]? = some (.cells (mC M P C) 26 (0, 0))
  off : Off (fun q => q = bp) w5 V
section
variable {bp : Nat} {w5 V V' : World} {P C : Value} {M M' : Mg}
theorem PjB.later (h : PjB bp w5 P C M V) (hb : Below V.heap.size V V') : PjB bp w5 P C M V' := ⟨(hb.block _ (Array.getElem?_eq_some_iff.1 h.m).1).trans h.m, off_below h.off (hb.mono h.off.size)⟩
theorem PjB.putObj {l : Nat} {o' : Obj} (h : PjB bp w5 P C M V) (hw : w5.heap.size ≤ l) (hbp : bp < w5.heap.size) : PjB bp w5 P C M (V.putObj l o') := ⟨(World.putObj_heap_other (by omega)).trans h.m, off_below h.off (below_put V o' hw)⟩
theorem PjB.set (h : PjB bp w5 P C M V) (j : Nat) (u : Value) (hM : (mC M P C).setIfInBounds j u = mC M' P C) : PjB bp w5 P C M' (V.setCell ⟨bp, j, none⟩ u) := ⟨by rw [setCell_at h.m, hM], h.off.setCell (p := ⟨bp, j, none⟩) rfl _⟩
end
theorem kf_one {V W : World} {b s : Nat} (h : Off (fun q => q = b) V W) (hb : b < s) : KeepsFrom s V W := ⟨h.size, fun q o hq ho _ => (h.block q (Array.getElem?_eq_some_iff.1 ho).1 (by omega)).trans ho⟩
theorem ket_one {V W : World} {b lo : Nat} {tf ti : TypeId} (h : Off (fun q => q = b) V W) (hb : b < lo) : KeT tf ti lo V W := ⟨h.size, fun q cs t hq _ hA => h.block q (Array.getElem?_eq_some_iff.1 hA).1 (by omega)⟩
theorem prj_p (M : Mg) (f : Fd) : (prj M f).p = M.p := by
  unfold prj
  repeat' split
  all_goals first | rfl | exact Mg.put_p ..
theorem prj_c (M : Mg) (f : Fd) : (prj M f).c = M.c := by
  unfold prj
  repeat' split
  all_goals first | rfl | exact Mg.put_c ..
theorem fold_prj_p : ∀ (L : List Fd) (M : Mg), (L.foldl prj M).p = M.p
  | [], _ => rfl
  | f :: r, M => by rw [List.foldl_cons, fold_prj_p r, prj_p]
theorem fold_prj_c : ∀ (L : List Fd) (M : Mg), (L.foldl prj M).c = M.c
  | [], _ => rfl
  | f :: r, M => by rw [List.foldl_cons, fold_prj_c r, prj_c]

set_option maxHeartbeats 16000000 in
theorem mproject_any (M : Mg) (P C : Value) (v : Int) (w : World) (hs : Msm M) (h1 : MAt w w.heap.size M P C) : Calls Tryz.prog 32 #[mV M P C, .int .i64 v] w fun e w' => MR w (mproj M v) e w' := by
  obtain ⟨w2, hw2⟩ : ∃ w2, w2 = ((w.alloc (.cells (mC M P C) 26)).alloc (.cells #[.int .i64 v] 3)).alloc (.cells (mC (Mg.zero 0) (.slice none 0 0) (.slice none 0 0)) 26) := ⟨_, rfl⟩
  have hs2 : w2.heap.size = w.heap.size + 3 := by rw [hw2]; simp
  have hb2 : Below w.heap.size w w2 := by rw [hw2]; exact (((Below.refl _ w).alloc (Nat.le_refl _) _).alloc (by simp) _).alloc (by simp; omega) _
  have q0 : w2.heap[w.heap.size]? = some (.cells (mC M P C) 26 (0, 0)) := by
    rw [hw2, Below.heap_alloc _ _ _ (by simp; omega), Below.heap_alloc _ _ _ (by simp)]; exact World.alloc_heap_new _ _
  have q1 : w2.heap[w.heap.size + 1]? = some (.cells #[.int .i64 v] 3 (0, 0)) := by
    have := World.alloc_heap_new (w.alloc (.cells (mC M P C) 26)) (.cells #[.int .i64 v] 3)
    rw [World.size_alloc] at this
    rw [hw2, Below.heap_alloc _ _ _ (by simp)]; exact this
  have q2 : w2.heap[w.heap.size + 2]? = some (.cells (mC (Mg.zero 0) (.slice none 0 0) (.slice none 0 0)) 26 (0, 0)) := by
    have := World.alloc_heap_new ((w.alloc (.cells (mC M P C) 26)).alloc (.cells #[.int .i64 v] 3)) (.cells (mC (Mg.zero 0) (.slice none 0 0) (.slice none 0 0)) 26)
    rw [World.size_alloc, World.size_alloc] at this
    rw [hw2]; exact this
  obtain ⟨G, hG⟩ : ∃ G, mproj M v = G := ⟨_, rfl⟩
  rw [hG]
  unfold mproj at hG
  have KC := Lib.hid (mcopy_any M P C w2 hs ((h1.below hb2).mono hb2.size))
  unfold MR
  unfold mV at KC ⊢
  simp only [mC, Mg.zero] at hw2 KC q0 q1 q2 ⊢
  have HW := Lib.hid hw2
  have HB2 := Lib.hid hb2
  have HQ := Lib.hid (And.intro q0 (And.intro q1 q2))
  clear hw2 hb2 q0 q1 q2 h1 hs
  by_cases hv : v = 1
  case neg =>
    go_enter Tryz.func32, Tryz.ntmps32
    go_wp2
    refine wp_scope_straight ?_
    go_wp2_with fail
    rw [← HW.out]
    refine KC.out.mono ?_
    intro e w3 hMR
    unfold MR at hMR
    obtain ⟨P3, C3, rfl, ho3, hb3⟩ := hMR
    obtain ⟨⟨a3, cp3, rfl, _, _⟩, ⟨b3, cb3, rfl, _, _⟩⟩ := ho3.at
    obtain ⟨np, hnp⟩ : ∃ np, M.p.length = np := ⟨_, rfl⟩
    obtain ⟨nc, hnc⟩ : ∃ nc, M.c.length = nc := ⟨_, rfl⟩
    unfold mV mC
    rw [hnp, hnc] at ho3 ⊢
    have HLT := Lib.hid (And.intro ho3.p.lt ho3.c.lt)
    obtain ⟨w4, hw4⟩ : ∃ w4, w3.alloc (.cells #[.int .i64 M.k, .int .i64 M.n0, .int .i64 M.n1, .int .i64 M.n2, .int .i64 M.n3, .int .i64 M.n4, .int .i64 M.n5, .slice a3 np cp3, .slice b3 nc cb3, .string M.tx, .string M.tg] 26) = w4 := ⟨_, rfl⟩
    have hs4 : w4.heap.size = w3.heap.size + 1 := by rw [← hw4]; simp
    have hb34 : Below w3.heap.size w3 w4 := by rw [← hw4]; exact (Below.refl _ w3).alloc (Nat.le_refl _) _
    have r4 : w4.heap[w3.heap.size]? = some (.cells (mC M (.slice a3 np cp3) (.slice b3 nc cb3)) 26 (0, 0)) := by rw [← hw4]; exact World.alloc_heap_new _ _
    have ho4 := ho3.later hb34
    have hs3 := hb3.size
    have hb24 : Below w2.heap.size w2 w4 := hb3.trans (hb34.mono hs3)
    have p0 := (hb24.block w.heap.size (by omega)).trans HQ.out.1
    have p1 := (hb24.block (w.heap.size + 1) (by omega)).trans HQ.out.2.1
    have p2 := (hb24.block (w.heap.size + 2) (by omega)).trans HQ.out.2.2
    have HB4 := Lib.hid (HB2.out.trans (hb24.mono HB2.out.size))
    have hge : w.heap.size + 3 ≤ w3.heap.size := by omega
    have HSZ := Lib.hid (show w.heap.size + 3 = w2.heap.size by omega)
    have HO4 := Lib.hid ho4
    have HW4 := Lib.hid hw4
    have hv1 := row_cell p1 0 _ rfl
    clear KC HW ho3 ho4 hb3 hb34 hb24 HQ HB2 hs2 hs3
    have hvn : (v != 1) = true := by simpa using hv
    rw [if_neg hv] at hG
    subst hG
    obtain ⟨f0, f1, f2, f3, f4, f5, f6, f7, f8, f9, f10⟩ := mg_block r4
    rw [← hw4] at f0 f1 f2 f3 f4 f5 f6 f7 f8 f9 f10 hv1
    have HP2 := Lib.hid p2
    have HP2' := Lib.hid (hw4.symm ▸ p2)
    clear hw4 p0 p1 p2 r4 hv
    go_wp2_with (refine wpList_store_row rfl 26 (.tmp 4) (.tmp 11) rfl (w.heap.size + 1 + 1) #[.int .i64 M.k, .int .i64 M.n0, .int .i64 M.n1, .int .i64 M.n2, .int .i64 M.n3, .int .i64 M.n4, .int .i64 M.n5, .slice a3 np cp3, .slice b3 nc cb3, .string M.tx, .string M.tg] rfl rfl 26 _ HP2'.out mgInfo rfl (by simp [Value.oneCell']) ?_)
    rw [HW4.out]
    have hfin := setRow_heap w4 (w.heap.size + 1 + 1) _ #[.int .i64 M.k, .int .i64 M.n0, .int .i64 M.n1, .int .i64 M.n2, .int .i64 M.n3, .int .i64 M.n4, .int .i64 M.n5, .slice a3 np cp3, .slice b3 nc cb3, .string M.tx, .string M.tg] _ _ HP2.out
    have hoff := Off.setRow (S := fun k => k = w.heap.size + 1 + 1) (Off.refl _ w4) rfl #[.int .i64 M.k, .int .i64 M.n0, .int .i64 M.n1, .int .i64 M.n2, .int .i64 M.n3, .int .i64 M.n4, .int .i64 M.n5, .slice a3 np cp3, .slice b3 nc cb3, .string M.tx, .string M.tg]
    have hbf := HB4.out.trans (hoff.below (B := w.heap.size) (fun k hk => by omega) HB4.out.size)
    have hof := HO4.out.off hoff (fun g hg e => by have := (HLT.out.1 g hg).1; have := HSZ.out; omega) (fun g hg e => by have := (HLT.out.2 g hg).1; have := HSZ.out; omega)
    generalize w4.setRow (w.heap.size + 1 + 1) _ = Wf at *
    obtain ⟨y0, y1, y2, y3, y4, y5, y6, y7, y8, y9, y10⟩ := mg_block hfin
    simp only [Exit.noGoto]
    refine bodyPost_ret (v := .agg #[.int .i64 M.k, .int .i64 M.n0, .int .i64 M.n1, .int .i64 M.n2, .int .i64 M.n3, .int .i64 M.n4, .int .i64 M.n5, .slice a3 np cp3, .slice b3 nc cb3, .string M.tx, .string M.tg]) (by simp [results, Tryz.results32, go_sem, y0, y1, y2, y3, y4, y5, y6, y7, y8, y9, y10]) rfl ?_
    exact ⟨_, _, rfl, hof.less (by have := HSZ.out; omega), hbf⟩
  subst hv
  rw [if_pos rfl] at hG
  refine (callsIn_wide (n := 9)).1 ?_
  refine callsIn_of_wp_marks Tryz.func32 rfl trivial ?_ rfl
  simp only [Tryz.ntmps32, List.size_toArray, List.length_cons, List.length_nil, Nat.reduceAdd, Nat.reduceSub, Array.replicate_succ, Array.replicate_zero, List.push_toArray, List.append_toArray, List.nil_append, List.cons_append]
  gi_wp2_with fail
  refine wpIn_wide.2 (wp_scope_straight ((wpIn_wide (n := 9)).1 ?_))
  gi_wp2_with fail
  refine ⟨trivial, ?_⟩
  rw [← HW.out]
  refine (callsIn_wide.2 KC.out).mono ?_
  intro e w3 hMR
  unfold MR at hMR
  obtain ⟨P3, C3, rfl, ho3, hb3⟩ := hMR
  obtain ⟨⟨a3, cp3, rfl, _, _⟩, ⟨b3, cb3, rfl, _, _⟩⟩ := ho3.at
  obtain ⟨np, hnp⟩ : ∃ np, M.p.length = np := ⟨_, rfl⟩
  obtain ⟨nc, hnc⟩ : ∃ nc, M.c.length = nc := ⟨_, rfl⟩
  unfold mV mC
  rw [hnp, hnc] at ho3 ⊢
  have HLT := Lib.hid (And.intro ho3.p.lt ho3.c.lt)
  obtain ⟨w4, hw4⟩ : ∃ w4, w3.alloc (.cells #[.int .i64 M.k, .int .i64 M.n0, .int .i64 M.n1, .int .i64 M.n2, .int .i64 M.n3, .int .i64 M.n4, .int .i64 M.n5, .slice a3 np cp3, .slice b3 nc cb3, .string M.tx, .string M.tg] 26) = w4 := ⟨_, rfl⟩
  have hs4 : w4.heap.size = w3.heap.size + 1 := by rw [← hw4]; simp
  have hb34 : Below w3.heap.size w3 w4 := by rw [← hw4]; exact (Below.refl _ w3).alloc (Nat.le_refl _) _
  have r4 : w4.heap[w3.heap.size]? = some (.cells (mC M (.slice a3 np cp3) (.slice b3 nc cb3)) 26 (0, 0)) := by rw [← hw4]; exact World.alloc_heap_new _ _
  have ho4 := ho3.later hb34
  have hs3 := hb3.size
  have hb24 : Below w2.heap.size w2 w4 := hb3.trans (hb34.mono hs3)
  have p0 := (hb24.block w.heap.size (by omega)).trans HQ.out.1
  have p1 := (hb24.block (w.heap.size + 1) (by omega)).trans HQ.out.2.1
  have p2 := (hb24.block (w.heap.size + 2) (by omega)).trans HQ.out.2.2
  have HB4 := Lib.hid (HB2.out.trans (hb24.mono HB2.out.size))
  have hge : w.heap.size + 3 ≤ w3.heap.size := by omega
  have HSZ := Lib.hid (show w.heap.size + 3 = w2.heap.size by omega)
  have HO4 := Lib.hid ho4
  have HW4 := Lib.hid hw4
  have hv1 := row_cell p1 0 _ rfl
  clear KC HW ho3 ho4 hb3 hb34 hb24 HQ HB2 hs2 hs3
  have kk := row_cell p0 0 _ rfl
  rw [← hw4] at kk hv1
  have hPJ : PjB w3.heap.size w4 (.slice a3 np cp3) (.slice b3 nc cb3) M w4 := ⟨r4, Off.refl _ _⟩
  clear hw4
  gi_wp2_with fail
  apply wpIn_label
  gi_wp2_with fail
  rw [HW4.out]
  refine ⟨trivial, (callsIn_wide.2 (fall_any M.k 2 w4)).mono ?_⟩
  rintro e w5 ⟨rfl, hg0, hg1, hb5⟩
  have hs5 := (Array.getElem?_eq_some_iff.1 hg1).1
  have hPJ5 := hPJ.later hb5
  have hPJ5 : PjB w3.heap.size w5 (.slice a3 np cp3) (.slice b3 nc cb3) M w5 := ⟨hPJ5.m, Off.refl _ _⟩
  have HB5 := Lib.hid (HB4.out.trans (hb5.mono HB4.out.size))
  have HO5 := Lib.hid (HO4.out.later hb5)
  have HP2 := Lib.hid ((hb5.block _ (by omega)).trans p2)
  have HV1 := Lib.hid ((hb5.block _ (by omega)).trans p1)
  rw [hs4] at hg0 hg1 hs5
  have KA := Lib.hid (FDv_two M.k)
  have KF := Lib.hid (FD_fdok M.k)
  obtain ⟨L, hL⟩ : ∃ L, FD M.k = L := ⟨_, rfl⟩
  rw [hL] at hG KA KF
  have HG := Lib.hid hG
  clear hL hG hPJ HB4 HO4 HW4 hb5 p0 p1 p2 r4 kk hv1
  gi_wp2_with fail
  refine range_stopb rfl (by omega) (gf := 51) (lb := #[.pointer (some ⟨w3.heap.size + 1, 0, none⟩), .pointer (some ⟨w3.heap.size + 1 + 1, 0, none⟩)]) rfl trivial (enters_of Tryz.func51 (by kernel_rfl) rfl)
    (fun f : Fd => #[f.v]) (fun _ => rfl)
    (fun j f V => L[j]? = some f ∧ PjB w3.heap.size w5 (.slice a3 np cp3) (.slice b3 nc cb3) ((L.take j).foldl prj M) V)
    (fun j f q V => (L[j]? = some f ∧ PjB w3.heap.size w5 (.slice a3 np cp3) (.slice b3 nc cb3) ((L.take j).foldl prj M) V) ∧ w5.heap.size ≤ q ∧ V.heap[q]? = some (.cells f.cs 87 (0, 0)))
    (fun j V => PjB w3.heap.size w5 (.slice a3 np cp3) (.slice b3 nc cb3) ((L.take j).foldl prj M) V)
    (fun cd V => False)
    (KeT 87 3 (w3.heap.size + 1)) L.length
    (fun j f q V l o o' h hl ho hc' => ⟨⟨h.1.1, h.1.2.putObj hl (by omega)⟩, h.2.1, (World.putObj_heap_other (fun e => by subst e; rw [h.2.2] at ho; injection ho with ho; subst ho; cases hc')).trans h.2.2⟩)
    (fun j V l o o' h hl ho hc' => h.putObj hl (by omega))
    (fun cd V l o o' h hl ho hc' => h)
    (fun _ _ _ h k => h.trans k) (fun V l o o' hl ho hc' => KeT.putObj ho hc')
    (fun o => (hPJ5.later ((Below.refl _ w5).alloc (Nat.le_refl _) _)).later ((Below.refl _ _).alloc (Nat.le_refl _) _)) ?round ?iter ?done ?stop
  case round =>
    rintro l j f V K ⟨hf, hP⟩ hj hK
    have HK := Lib.hid hK
    have hsz := hP.off.size
    clear hK
    unfold Fd.v Fd.cs
    gi_wp2_with fail
    refine HK.out _ V.heap.size _ ⟨⟨hf, hP.later ((Below.refl _ V).alloc (Nat.le_refl _) _)⟩, hsz, World.alloc_heap_new _ _⟩ ⟨by simp, fun q o _ ho _ => (Below.heap_alloc _ _ _ (Array.getElem?_eq_some_iff.1 ho).1).trans ho⟩ (KeT.of_below ((Below.refl _ V).alloc (Nat.le_refl _) _)) ?_
    clear HK hP
    rintro l V2 hl ⟨⟨_, hP⟩, hq, hc⟩
    obtain ⟨qb, hqb⟩ : ∃ qb, V.heap.size = qb := ⟨_, rfl⟩
    rw [hqb] at hq hc ⊢
    clear hqb
    obtain ⟨d0, d1, d2, d3, d4, d5, d6⟩ := fd_block hc
    have ok := KF.out f (List.mem_of_getElem? hf)
    have hst := fold_take hf prj M
    obtain ⟨Mj, hMj⟩ : ∃ Mj, (L.take j).foldl prj M = Mj := ⟨_, rfl⟩
    rw [hMj] at hP hst
    clear hf hMj
    have hv1 := row_cell ((hP.off.block _ (by omega) (by omega)).trans HV1.out) 0 _ rfl
    have HST := Lib.hid hst
    have hm := hP.m
    by_cases hsi : f.si ≤ 1
    · have hfin := Lib.hid (show KeepsFrom w5.heap.size V2 V2 ∧ _ from ⟨⟨Nat.le_refl _, fun _ _ _ ho _ => ho⟩, show PjB w3.heap.size w5 (.slice a3 np cp3) (.slice b3 nc cb3) (prj Mj f) V2 by rw [show prj Mj f = Mj from if_pos hsi]; exact hP⟩)
      clear hP hst hm ok hc
      gi_wp2
      exact ⟨hfin.out.1, by rw [HST.out]; exact hfin.out.2, KeT.refl _⟩
    · by_cases h6 : f.so = 6
      · have hp6 : prj Mj f = { Mj with tg := ⟨#[]⟩ } := by unfold prj; rw [if_neg hsi, if_pos h6]
        have hP2 := hP.set (M' := prj Mj f) 10 (.string ⟨#[]⟩) (by rw [hp6]; rfl)
        have hoff := (Off.refl (fun q => q = w3.heap.size) V2).setCell (p := ⟨w3.heap.size, 10, none⟩) rfl (.string ⟨#[]⟩)
        have HF := Lib.hid (And.intro (kf_one hoff (s := w5.heap.size) (by omega)) (And.intro hP2 (ket_one (tf := 87) (ti := 3) hoff (lo := (w3.heap.size + 1)) (by omega))))
        have c10 := (mg_block hm).2.2.2.2.2.2.2.2.2.2
        have z10 := frozen_of_row V2 w3.heap.size 10 _ _ hm
        rw [h6] at d1
        clear hP hst hm ok hc hP2 hoff hp6
        gi_wp2
        exact ⟨HF.out.1, by rw [HST.out]; exact HF.out.2.1, HF.out.2.2⟩
      · have hs6 : (f.so == 6) = false := by simpa using h6
        by_cases h3 : f.so < 3
        · obtain ⟨jn, hjn, hpl⟩ := ok.pl h3
          have hp6 : prj Mj f = Mj.put jn f.ab := by unfold prj; rw [if_neg hsi, if_neg h6, if_pos (by omega), hpl, Int.toNat_natCast]
          have hP2 := hP.set (M' := prj Mj f) (1 + jn) (.int .i64 f.ab) (by rw [hp6, mC_put hjn])
          have hoff := (Off.refl (fun q => q = w3.heap.size) V2).setCell (p := ⟨w3.heap.size, 1 + jn, none⟩) rfl (.int .i64 f.ab)
          have HF := Lib.hid (And.intro (kf_one hoff (s := w5.heap.size) (by omega)) (And.intro hP2 (ket_one (tf := 87) (ti := 3) hoff (lo := (w3.heap.size + 1)) (by omega))))
          have cn := mg_at hm hjn
          have zn := frozen_of_row V2 w3.heap.size (1 + jn) _ _ hm
          rw [hpl] at d2
          have hj6 : (jn : Int) < 6 := by omega
          clear hP hst hm ok hc hP2 hoff hp6 hpl h3
          gi_wp2
          exact ⟨HF.out.1, by rw [HST.out]; exact HF.out.2.1, HF.out.2.2⟩
        · have hno := ok.no h3
          have hp6 : prj Mj f = Mj := by unfold prj; rw [if_neg hsi, if_neg h6, if_neg (by omega)]
          have hfin := Lib.hid (show KeepsFrom w5.heap.size V2 V2 ∧ _ from ⟨⟨Nat.le_refl _, fun _ _ _ ho _ => ho⟩, show PjB w3.heap.size w5 (.slice a3 np cp3) (.slice b3 nc cb3) (prj Mj f) V2 by rw [hp6]; exact hP⟩)
          rw [hno] at d2
          clear hP hst hm ok hc hp6 hno h3
          gi_wp2
          exact ⟨hfin.out.1, by rw [HST.out]; exact hfin.out.2, KeT.refl _⟩
  case iter =>
    intro Bk X l V hBk hBlt hX hl hD hB hY
    have h := fall_in 8 (by omega) 7 l (w3.heap.size + 1) M.k 2 (fun j V => PjB w3.heap.size w5 (.slice a3 np cp3) (.slice b3 nc cb3) ((L.take j).foldl prj M) V ∧ Bk V) X
      (fun j A B h hb => ⟨h.1.later hb, hBk A _ h.2 hb.size (fun q h1 h2 => by have := hBlt A h.2; exact hb.block q (by omega))⟩)
      (fun j f W h hf => by
        rw [KA.out] at hf
        exact (hY j f W ⟨hf, h.1⟩ h.2 (List.getElem?_eq_some_iff.1 hf).1).mono (fun e W2 h => h.elim (fun h => .inl ⟨h.1, h.2.1, h.2.2.1⟩) (fun h => .inr ⟨h.1, h.2.1⟩)))
      V ((hD.off.block _ (by omega) (by omega)).trans hg0) ((hD.off.block _ (by omega) (by omega)).trans hg1) ⟨hD, hB⟩
    rw [KA.out] at h
    exact h
  case done =>
    rintro D V hD hP hK
    rw [List.take_length, HG.out] at hP
    have hGp : G.p = M.p := by rw [← HG.out, fold_prj_p]
    have hGc : G.c = M.c := by rw [← HG.out, fold_prj_c]
    obtain ⟨f0, f1, f2, f3, f4, f5, f6, f7, f8, f9, f10⟩ := mg_block hP.m
    have r2 := (hP.off.block (w.heap.size + 2) (by omega) (by omega)).trans HP2.out
    have HR2 := Lib.hid r2
    have hbV := HB5.out.trans (hP.off.below (B := w.heap.size) (fun k hk => by omega) (by have := HB5.out.size; omega))
    have hoV := HO5.out.off hP.off (fun g hg e => by have := (HLT.out.1 g hg).2; omega) (fun g hg e => by have := (HLT.out.2 g hg).2; omega)
    have HBV := Lib.hid hbV
    have HOV := Lib.hid hoV
    have HKD := Lib.hid hK
    have hD2 : D ≠ w.heap.size + 1 + 1 := by omega
    clear hP r2 hbV hoV hK
    have HST := Lib.hid (mg_store V (w.heap.size + 1 + 1) _ #[.int .i64 G.k, .int .i64 G.n0, .int .i64 G.n1, .int .i64 G.n2, .int .i64 G.n3, .int .i64 G.n4, .int .i64 G.n5, .slice a3 np cp3, .slice b3 nc cb3, .string G.tx, .string G.tg] HR2.out rfl rfl (by simp [Value.oneCell']))
    gi_wp2_with (refine wpListIn_store_run rfl 26 (.tmp 4) (.tmp 36) rfl (some ⟨w.heap.size + 1 + 1, 0, none⟩) rfl (.agg #[.int .i64 G.k, .int .i64 G.n0, .int .i64 G.n1, .int .i64 G.n2, .int .i64 G.n3, .int .i64 G.n4, .int .i64 G.n5, .slice a3 np cp3, .slice b3 nc cb3, .string G.tx, .string G.tg]) rfl HST.out ?_)
    have hfin := setRow_heap V (w.heap.size + 1 + 1) _ #[.int .i64 G.k, .int .i64 G.n0, .int .i64 G.n1, .int .i64 G.n2, .int .i64 G.n3, .int .i64 G.n4, .int .i64 G.n5, .slice a3 np cp3, .slice b3 nc cb3, .string G.tx, .string G.tg] _ _ HR2.out
    have hoff := Off.setRow (S := fun k => k = w.heap.size + 1 + 1) (Off.refl _ V) rfl #[.int .i64 G.k, .int .i64 G.n0, .int .i64 G.n1, .int .i64 G.n2, .int .i64 G.n3, .int .i64 G.n4, .int .i64 G.n5, .slice a3 np cp3, .slice b3 nc cb3, .string G.tx, .string G.tg]
    have hbf := HBV.out.trans (hoff.below (B := w.heap.size) (fun k hk => by omega) HBV.out.size)
    have hof := HOV.out.off hoff (fun g hg e => by have := (HLT.out.1 g hg).1; have := HSZ.out; omega) (fun g hg e => by have := (HLT.out.2 g hg).1; have := HSZ.out; omega)
    have HKf := (setRow_other V (w.heap.size + 1 + 1) D #[.int .i64 G.k, .int .i64 G.n0, .int .i64 G.n1, .int .i64 G.n2, .int .i64 G.n3, .int .i64 G.n4, .int .i64 G.n5, .slice a3 np cp3, .slice b3 nc cb3, .string G.tx, .string G.tg] hD2).trans HKD.out
    generalize V.setRow (w.heap.size + 1 + 1) _ = Wf at *
    simp only [Exit.noGoto]
    refine ⟨by simp, .inl ⟨_, _, rfl, run_takeDeferred HKf, ?_⟩⟩
    obtain ⟨y0, y1, y2, y3, y4, y5, y6, y7, y8, y9, y10⟩ := mg_block (W := Wf.putObj D (.deferred none)) ((World.putObj_heap_other (by omega)).trans hfin)
    refine ⟨.agg #[.int .i64 G.k, .int .i64 G.n0, .int .i64 G.n1, .int .i64 G.n2, .int .i64 G.n3, .int .i64 G.n4, .int .i64 G.n5, .slice a3 np cp3, .slice b3 nc cb3, .string G.tx, .string G.tg], by simp [results, Tryz.f32, go_sem, y0, y1, y2, y3, y4, y5, y6, y7, y8, y9, y10], _, _, rfl, ?_, hbf.trans (below_put _ _ (by omega))⟩
    refine MOwn.less (base := w2.heap.size) ?_ (by have := HSZ.out; omega)
    exact ⟨by rw [hGp]; exact ownsRow_putObj hof.p _ HKf rfl, by rw [hGc]; exact ownsRow_putObj hof.c _ HKf rfl⟩
  case stop => exact fun _ _ _ _ h => h.elim
end Go.Proofs.YtlbfibnfmijahaaGreat

namespace Go.Proofs.YtlbfibnfmijahaaGreat
open Go.RowKit Go.Shelf
set_option maxRecDepth 100000
attribute [local go_sem] Oper.semAt_some

/-- a message's box b2, its lists in rows of its own at base or above -/
structure NwB (b2 base : Nat) (w4 : World) (M : Mg) (V : World) : Prop where
  m : ∃ P C, V.heap[b2]? = some (.cells (mC M P C) 26 (0, 0)) ∧ MOwn base V M P C
  off : Off (fun q => q = b2) w4 V
section
variable {b2 base : Nat} {w4 V V' : World} {M M' : Mg}
theorem NwB.later (h : NwB b2 base w4 M V) (hb : Below V.heap.size V V') : NwB b2 base w4 M V' := by
  obtain ⟨P, C, h1, h2⟩ := h.m
  exact ⟨⟨P, C, (hb.block _ (Array.getElem?_eq_some_iff.1 h1).1).trans h1, h2.later hb⟩, off_below h.off (hb.mono h.off.size)⟩
theorem NwB.putObj {l : Nat} {o o' : Obj} (h : NwB b2 base w4 M V) (hw : w4.heap.size ≤ l) (hb2 : b2 < w4.heap.size) (ho : V.heap[l]? = some o) (hc : o.isCells = false) : NwB b2 base w4 M (V.putObj l o') := by
  obtain ⟨P, C, h1, h2⟩ := h.m
  exact ⟨⟨P, C, (World.putObj_heap_other (by omega)).trans h1, ⟨ownsRow_putObj h2.p _ ho hc, ownsRow_putObj h2.c _ ho hc⟩⟩, off_below h.off (below_put V o' hw)⟩
/-- a cell of the message turned -/
theorem NwB.set (h : NwB b2 base w4 M V) (hb : b2 < base) (j : Nat) (u : Value) (hM : ∀ P C, MOwn base V M P C → ∃ P' C', (mC M P C).setIfInBounds j u = mC M' P' C' ∧ MOwn base V M' P' C') : NwB b2 base w4 M' (V.setCell ⟨b2, j, none⟩ u) := by
  obtain ⟨P, C, h1, h2⟩ := h.m
  obtain ⟨P', C', h3, h4⟩ := hM P C h2
  refine ⟨⟨P', C', by rw [setCell_at h1, h3], ⟨ownsRow_setCell_below h4.p (a := ⟨b2, j, none⟩) hb _, ownsRow_setCell_below h4.c (a := ⟨b2, j, none⟩) hb _⟩⟩, h.off.setCell (p := ⟨b2, j, none⟩) rfl _⟩
end
end Go.Proofs.YtlbfibnfmijahaaGreat

namespace Go.Proofs.YtlbfibnfmijahaaGreat
open Go.RowKit Go.Shelf
set_option maxRecDepth 100000
attribute [local go_sem] Oper.semAt_some

end Go.Proofs.YtlbfibnfmijahaaGreat

namespace Go.Proofs.YtlbfibnfmijahaaGreat
open Go.RowKit Go.Shelf
set_option maxRecDepth 100000
attribute [local go_sem] Oper.semAt_some

theorem rmInfo : (Tryz.prog.info? 38).map (·.size) = some 11 := by kernel_rfl
theorem r2Info : (Tryz.prog.info? 77).map (fun i => (i.zero, i.size, i.bytes)) = some (some (.agg #[.int .i64 0, .int .i64 0]), 2, 16) := by kernel_rfl
/-- what Of answers -/
def OfM (w : World) (M : Mg) (C : Value) (e : Ending) (w' : World) : Prop := ∃ P, e = .returned (mV M P C) ∧ w'.ownsRow w.heap.size 77 2 P M.p.length ((fl2 M.p).map (Value.int .i64)) ∧ Below w.heap.size w w'
theorem fl2_take {l : List (Int × Int)} {j : Nat} {q : Int × Int} (h : l[j]? = some q) : fl2 (l.take (j + 1)) = fl2 (l.take j) ++ [q.1, q.2] := by
  rw [List.take_add_one, h, fl2_app]
  rfl
set_option maxHeartbeats 8000000 in
theorem mof_any (M : Mg) (P C : Value) (w : World) (hs : Msm M) (h1 : MAt w w.heap.size M P C) : Calls Tryz.prog 9 #[mV M P C] w fun e w' => OfM w M C e w' := by
  obtain ⟨r0, hr, hz0, hz1, hz2⟩ := info_parts r2Info
  obtain ⟨w3, hw3⟩ : ∃ w3, w3 = ((w.alloc (.cells (mC M P C) 26)).alloc (.cells (mC (Mg.zero 0) (.slice none 0 0) (.slice none 0 0)) 38)).alloc (.cells (mC M (.slice none 0 0) C) 38) := ⟨_, rfl⟩
  have hs3 : w3.heap.size = w.heap.size + 3 := by rw [hw3]; simp
  have hb3 : Below w.heap.size w w3 := by rw [hw3]; exact (((Below.refl _ w).alloc (Nat.le_refl _) _).alloc (by simp) _).alloc (by simp; omega) _
  have q0 : w3.heap[w.heap.size]? = some (.cells (mC M P C) 26 (0, 0)) := by
    rw [hw3, Below.heap_alloc _ _ _ (by simp; omega), Below.heap_alloc _ _ _ (by simp)]; exact World.alloc_heap_new _ _
  have q1 : w3.heap[w.heap.size + 1]? = some (.cells (mC (Mg.zero 0) (.slice none 0 0) (.slice none 0 0)) 38 (0, 0)) := by
    have := World.alloc_heap_new (w.alloc (.cells (mC M P C) 26)) (.cells (mC (Mg.zero 0) (.slice none 0 0) (.slice none 0 0)) 38)
    rw [World.size_alloc] at this
    rw [hw3, Below.heap_alloc _ _ _ (by simp)]; exact this
  have q2 : w3.heap[w.heap.size + 1 + 1]? = some (.cells (mC M (.slice none 0 0) C) 38 (0, 0)) := by
    have := World.alloc_heap_new ((w.alloc (.cells (mC M P C) 26)).alloc (.cells (mC (Mg.zero 0) (.slice none 0 0) (.slice none 0 0)) 38)) (.cells (mC M (.slice none 0 0) C) 38)
    rw [World.size_alloc, World.size_alloc] at this
    rw [hw3]; exact this
  obtain ⟨⟨ap, cp, rfl, hcp, ha⟩, ⟨ac, cc, rfl, hcc, hc⟩⟩ := h1
  obtain ⟨np, hnp⟩ : ∃ np, M.p.length = np := ⟨_, rfl⟩
  obtain ⟨nc, hnc⟩ : ∃ nc, M.c.length = nc := ⟨_, rfl⟩
  have hl1 := hs.p
  rw [hnp] at hl1 hcp
  unfold OfM mV
  simp only [mC, Mg.zero, hnp, hnc] at hw3 ⊢
  have HN := Lib.hid hnp
  have HA := Lib.hid ha
  have HB3 := Lib.hid hb3
  have HQ := Lib.hid (And.intro q0 (And.intro q1 q2))
  rw [hnp, hnc] at HQ
  clear ha hc hcc hs hnp hnc q0 q1 q2 hb3
  have HW := Lib.hid hw3
  clear hw3
  go_enter Tryz.func9, Tryz.ntmps9
  go_wp2_with fail
  rw [← HW.out]
  go_loopw [4] (fun iv wr => ∃ j : Nat, j ≤ np ∧ iv = .int .i64 (j : Int) ∧ Hid (∃ A c, wr.heap[w.heap.size + 1 + 1]? = some (.cells (mC M (.slice A j c) (.slice ac nc cc)) 38 (0, 0)) ∧ j ≤ c ∧ wr.ownsRow (w.heap.size + 3) 77 2 (.slice A j c) j ((fl2 (M.p.take j)).map (Value.int .i64))) ∧ Hid (Off (fun q => q = w.heap.size + 1 + 1) w3 wr)) (fun iv _ => np - (intOf iv).toNat)
  case atStart => exact ⟨0, by omega, rfl, Lib.hid ⟨none, 0, HQ.out.2.2, Nat.le_refl _, World.ownsRow_nil _ _ _ _⟩, Lib.hid (Off.refl _ _)⟩
  case round =>
    obtain ⟨j, hj, rfl, HX, HO⟩ := hrel
    obtain ⟨A, c, hm, hjc, hown⟩ := HX.out
    clear HX
    have m0 := (HO.out.block w.heap.size (by omega) (by omega)).trans HQ.out.1
    obtain ⟨_, _, _, _, _, _, _, d7, _⟩ := mg_block m0
    rcases Nat.lt_or_ge j np with hlt | hge
    · obtain ⟨⟨x, y⟩, hq⟩ : ∃ q, M.p[j]? = some q := ⟨_, List.getElem?_eq_getElem (by rw [HN.out]; exact hlt)⟩
      have hbw : Below w.heap.size w wr := HB3.out.trans (HO.out.below (fun k hk => by omega) (by omega))
      obtain ⟨ga, off, rfl, hga, x0, x1⟩ := pts_two (HA.out.below hbw) hq
      dsimp only at x0 x1
      have hft := fl2_take hq
      have HF := Lib.hid hft
      obtain ⟨_, _, _, _, _, _, _, e7, _⟩ := mg_block hm
      have hblt := (Array.getElem?_eq_some_iff.1 hm).1
      have hwr : w.heap.size < wr.heap.size := by omega
      have hgr : ga < wr.heap.size := by omega
      have hj2 : (j : Int) < (np : Int) := by omega
      have hnc2 : (np : Int) ≤ (cp : Int) := by omega
      have lP : ∀ W, Below wr.heap.size wr W → (Instr.loadAt 23 (.pointer (some ⟨w.heap.size, 7, none⟩))).run Tryz.prog W = .ok (.slice (some ⟨ga, off, none⟩) np cp) W := fun W hW => by
        have hx := (hW.cell (p := ⟨w.heap.size, 7, none⟩) hwr).trans d7
        simp [Instr.loadAt, go_sem, hx]
      have lW : ∀ W, Below wr.heap.size wr W → (Instr.loadAt 36 (.pointer (some ⟨w.heap.size + 1 + 1, 7, none⟩))).run Tryz.prog W = .ok (.slice A j c) W := fun W hW => by
        have hx := (hW.cell (p := ⟨w.heap.size + 1 + 1, 7, none⟩) hblt).trans e7
        simp [Instr.loadAt, go_sem, hx]
      have lx : ∀ W, Below wr.heap.size wr W → (Instr.loadAt 3 (.pointer (some ⟨ga, off + j * 2, none⟩))).run Tryz.prog W = .ok (.int .i64 x) W := fun W hW => by
        have hx := (hW.cell (p := ⟨ga, off + j * 2, none⟩) hgr).trans x0
        simp [Instr.loadAt, go_sem, hx]
      have ly : ∀ W, Below wr.heap.size wr W → (Instr.loadAt 3 (.pointer (some ⟨ga, off + j * 2 + 1, none⟩))).run Tryz.prog W = .ok (.int .i64 y) W := fun W hW => by
        have hx := (hW.cell (p := ⟨ga, off + j * 2 + 1, none⟩) hgr).trans x1
        simp [Instr.loadAt, go_sem, hx]
      have HOW := Lib.hid hown
      have HM := Lib.hid hm
      have HBW := Lib.hid hbw
      clear hm hown hft hq m0 x0 x1 e7 hbw
      go_wp2_with fail
      refine wp_region_FT 42 16 [38] (fun q u W => ∃ b, u = .slice (some ⟨b, 0, none⟩) 1 1 ∧ W.heap[b]? = some (.cells #[.int .i64 x, .int .i64 y] 77 (0, 0))) (fun W => Below wr.heap.size wr W) (by kernel_rfl) (by kernel_rfl) (by rfl) (by kernel_rfl) (by kernel_rfl) (by kernel_rfl) (by rfl) (by simp) (fun W W' h hb => h.trans (hb.mono h.size)) (fun q u W W' h hb => by
        obtain ⟨b, h1, h2⟩ := h
        exact ⟨b, h1, (hb.block _ (Array.getElem?_eq_some_iff.1 h2).1).trans h2⟩) (Below.refl _ _).drew ?_
      simp only [List.take_succ_cons, List.take_zero, List.drop_succ_cons, List.drop_zero]
      repeat (refine wpF_pure rfl rfl ?_; go_big_quiet_step (fail); refine wpQuiet_nil ?_)
      refine wpF_load (ad := ⟨w.heap.size + 1 + 1, 7, none⟩) (.slice A j c) rfl (by rfl) (by rfl) (by rfl) lW ?_
      simp only [Act.put, List.setIfInBounds_toArray, List.set_cons_succ, List.set_cons_zero]
      repeat (refine wpF_pure rfl rfl ?_; go_big_quiet_step (fail); refine wpQuiet_nil ?_)
      refine wpF_load (ad := ⟨w.heap.size, 7, none⟩) (.slice (some ⟨ga, off, none⟩) np cp) rfl (by rfl) (by rfl) (by rfl) lP ?_
      simp only [Act.put, List.setIfInBounds_toArray, List.set_cons_succ, List.set_cons_zero]
      repeat (refine wpF_pure rfl rfl ?_; go_big_quiet_step (fail); refine wpQuiet_nil ?_)
      refine wpF_load (ad := ⟨ga, off + j * 2, none⟩) (.int .i64 x) rfl (by rfl) (by rfl) (by rfl) lx ?_
      simp only [Act.put, List.setIfInBounds_toArray, List.set_cons_succ, List.set_cons_zero]
      repeat (refine wpF_pure rfl rfl ?_; go_big_quiet_step (fail); refine wpQuiet_nil ?_)
      refine wpF_load (ad := ⟨w.heap.size, 7, none⟩) (.slice (some ⟨ga, off, none⟩) np cp) rfl (by rfl) (by rfl) (by rfl) lP ?_
      simp only [Act.put, List.setIfInBounds_toArray, List.set_cons_succ, List.set_cons_zero]
      repeat (refine wpF_pure rfl rfl ?_; go_big_quiet_step (fail); refine wpQuiet_nil ?_)
      refine wpF_load (ad := ⟨ga, off + j * 2 + 1, none⟩) (.int .i64 y) rfl (by rfl) (by rfl) (by rfl) ly ?_
      simp only [Act.put, List.setIfInBounds_toArray, List.set_cons_succ, List.set_cons_zero]
      refine wpF_val (.agg #[.int .i64 x, .int .i64 y]) (by rfl) (by rfl) (fun W _ => by simp [go_sem]) ?_
      simp only [Act.put, List.setIfInBounds_toArray, List.set_cons_succ, List.set_cons_zero]
      refine wpF_src 38 (by simp) rfl rfl rfl (fun W hW => ⟨.slice (some ⟨W.heap.size, 0, none⟩) 1 1, W.alloc (.cells #[.int .i64 x, .int .i64 y] 77), by simp [go_sem], ⟨_, rfl, World.alloc_heap_new _ _⟩, (Below.refl _ _).alloc (Nat.le_refl _) _⟩) ?_
      simp only [Act.put, List.setIfInBounds_toArray, List.set_cons_succ, List.set_cons_zero]
      intro xs W hW hx
      obtain ⟨b, hxb, hbl⟩ := hx 38 (by simp)
      simp only [fill, Act.put, List.setIfInBounds_toArray, List.set_cons_succ, List.set_cons_zero]
      rw [hxb]
      have HRow := Lib.hid (own_below7 HOW.out hW)
      have HNW : Hid (∀ (q : Nat) (u : Value), [Value.int .i64 x, .int .i64 y][q]? = some u → W.cell? ((⟨b, 0, none⟩ : Addr).add q) = some u) := fun q u hq => by
        rw [Addr.add_lit, Nat.zero_add]
        simp only [World.cell?, hbl]
        simpa using hq
      have hmW := (hW.block _ hblt).trans HM.out
      have HMW := Lib.hid hmW
      have HBS := Lib.hid (show w.heap.size + 3 ≤ W.heap.size by have := hW.size; have := HO.out.size; omega)
      have HOW2 := Lib.hid (off_below HO.out (hW.mono HO.out.size))
      have hge3 : ∀ g, (Value.slice A j c).ownBlock = some g → w.heap.size + 3 ≤ g := fun g hg => (HRow.out.lt g hg).1
      have HGE := Lib.hid hge3
      clear hx hxb hbl lP lW lx ly hW hmW HOW HM HBW hge3 HO
      go_wp2_with (at_builtin; refine wpList_append_own_at _ rfl (.tmp 24) (.tmp 38) 36 rfl (w.heap.size + 3) 77 r0 _ 2 16 Tryz.underlying36 hr hz0 hz1 hz2 rfl (by decide) _ _ _ rfl HRow.out ⟨b, 0, none⟩ 1 1 [Value.int .i64 x, .int .i64 y] rfl rfl HNW.out (by simp [Value.oneCell']) (by unfold maxLen; omega) (by omega) HBS.out ?_)
      intro u4 W4 hown4 hg4 _ _
      obtain ⟨A4, c4, rfl, hc4, _⟩ := nums_of_own (k := .i64) (zs := fl2 (M.p.take j) ++ [x, y]) (by simpa using hown4) (by omega)
      have hs4 := hg4.size
      have hm4 := (hg4.block (w.heap.size + 1 + 1) (by have := HBS.out; omega) (fun e => by have := HGE.out _ e.symm; omega)).trans HMW.out
      have ho4 : Off (fun q => q = w.heap.size + 1 + 1) w3 W4 := ⟨hg4.os.trans HOW2.out.os, hg4.tape.trans HOW2.out.tape, hg4.output.trans HOW2.out.output, Nat.le_trans HOW2.out.size hs4, fun q hq hne => (hg4.block q (by have := HOW2.out.size; omega) (fun e => by have := HGE.out _ e.symm; omega)).trans (HOW2.out.block q hq hne)⟩
      have HO5 := Lib.hid (ho4.setCell (p := ⟨w.heap.size + 1 + 1, 7, none⟩) rfl (.slice A4 (j + 1) c4))
      have HM5 := Lib.hid (setCell_at (j := 7) (u := .slice A4 (j + 1) c4) hm4)
      have HOW5 := Lib.hid (ownsRow_setCell_below hown4 (a := ⟨w.heap.size + 1 + 1, 7, none⟩) (by show w.heap.size + 1 + 1 < _; omega) (.slice A4 (j + 1) c4))
      have k7 := (mg_block hm4).2.2.2.2.2.2.2.1
      have z7 := frozen_of_row W4 (w.heap.size + 1 + 1) 7 _ _ hm4
      clear hown4 hg4 hm4 ho4 hs4 HRow HNW HMW HOW2 HGE HBS
      go_wp2
      refine ⟨⟨j + 1, by omega, by go_num, ?_, HO5⟩, by simp only [intOf]; omega⟩
      refine Lib.hid ⟨A4, c4, HM5.out, hc4, ?_⟩
      rw [HF.out]
      simpa using HOW5.out
    · obtain rfl : j = np := by omega
      rename_i np
      obtain ⟨f0, f1, f2, f3, f4, f5, f6, f7, f8, f9, f10⟩ := mg_block hm
      have r1 := (HO.out.block (w.heap.size + 1) (by omega) (by omega)).trans HQ.out.2.1
      have HR1 := Lib.hid r1
      have HOW := Lib.hid hown
      have HBV := Lib.hid (HB3.out.trans (HO.out.below (B := w.heap.size) (fun k hk => by omega) (by omega)))
      clear hm hown r1 m0
      go_wp2_with (refine wpList_store_row rfl 38 (.tmp 2) (.tmp 41) rfl (w.heap.size + 1) #[.int .i64 M.k, .int .i64 M.n0, .int .i64 M.n1, .int .i64 M.n2, .int .i64 M.n3, .int .i64 M.n4, .int .i64 M.n5, .slice A j c, .slice ac nc cc, .string M.tx, .string M.tg] rfl rfl 38 _ HR1.out rmInfo rfl (by simp [Value.oneCell']) ?_)
      have hfin := setRow_heap wr (w.heap.size + 1) _ #[.int .i64 M.k, .int .i64 M.n0, .int .i64 M.n1, .int .i64 M.n2, .int .i64 M.n3, .int .i64 M.n4, .int .i64 M.n5, .slice A j c, .slice ac nc cc, .string M.tx, .string M.tg] _ _ HR1.out
      have hoff := Off.setRow (S := fun k => k = w.heap.size + 1) (Off.refl _ wr) rfl #[.int .i64 M.k, .int .i64 M.n0, .int .i64 M.n1, .int .i64 M.n2, .int .i64 M.n3, .int .i64 M.n4, .int .i64 M.n5, .slice A j c, .slice ac nc cc, .string M.tx, .string M.tg]
      have hbf := HBV.out.trans (hoff.below (B := w.heap.size) (fun k hk => by omega) HBV.out.size)
      have hof := own_offM HOW.out hoff (fun g hg e => by have := (HOW.out.lt g hg).1; omega)
      generalize wr.setRow (w.heap.size + 1) _ = Wf at *
      obtain ⟨y0, y1, y2, y3, y4, y5, y6, y7, y8, y9, y10⟩ := mg_block hfin
      refine bodyPost_ret (v := .agg #[.int .i64 M.k, .int .i64 M.n0, .int .i64 M.n1, .int .i64 M.n2, .int .i64 M.n3, .int .i64 M.n4, .int .i64 M.n5, .slice A j c, .slice ac nc cc, .string M.tx, .string M.tg]) (by simp [results, Tryz.results9, go_sem, y0, y1, y2, y3, y4, y5, y6, y7, y8, y9, y10]) rfl ?_
      refine ⟨_, rfl, ?_, hbf⟩
      rw [List.take_of_length_le (by rw [HN.out]; exact Nat.le_refl _)] at hof
      exact ⟨hof.1, hof.2.imp id (fun ⟨g, cap, cur, h1, h2, h3⟩ => ⟨g, cap, cur, h1, by omega, h3⟩)⟩
end Go.Proofs.YtlbfibnfmijahaaGreat

namespace Go.Proofs.YtlbfibnfmijahaaGreat
open Go.RowKit Go.Shelf
set_option maxRecDepth 100000
attribute [local go_sem] Oper.semAt_some

theorem fl2_takes : ∀ (l : List (Int × Int)) (n : Nat), fl2 (l.take n) = (fl2 l).take (n * 2)
  | [], _ => by simp [fl2]
  | _ :: _, 0 => by simp [fl2]
  | q :: r, n + 1 => by
    rw [List.take_succ_cons, fl2, fl2_takes r n, fl2, show (n + 1) * 2 = n * 2 + 1 + 1 by omega, List.take_succ_cons, List.take_succ_cons]
/-- what Cut answers -/
def CutM (B : Nat) (w : World) (e : Ending) (w' : World) : Prop := ∃ M P C, e = .returned (mV M P C) ∧ Msm M ∧ MAt w' B M P C ∧ Below w.heap.size w w'
set_option maxHeartbeats 16000000 in
theorem mcut_any (M : Mg) (ap ac : Option Addr) (np nc cp cc : Nat) (w : World) (hnp : M.p.length = np) (hnc : M.c.length = nc) (hcp : np ≤ cp) (hcc : nc ≤ cc) (B : Nat) (hB : B ≤ w.heap.size) (ha : Nums .i64 w B ap (fl2 M.p)) (hc : Nums .i64 w B ac M.c) :
    Calls Tryz.prog 5 #[mV M (.slice ap np cp) (.slice ac nc cc)] w fun e w' => CutM B w e w' := by
  obtain ⟨mp, hmp⟩ : ∃ mp, min np 40 = mp := ⟨_, rfl⟩
  have hmp2 : min (np : Int) 40 = (mp : Int) := by omega
  have hmp3 : mp ≤ np ∧ mp ≤ 40 := by omega
  obtain ⟨mc, hmc⟩ : ∃ mc, min nc 40 = mc := ⟨_, rfl⟩
  have hmc2 : min (nc : Int) 40 = (mc : Int) := by omega
  have hmc3 : mc ≤ nc ∧ mc ≤ 40 := by omega
  unfold mV mC
  obtain ⟨k, n0, n1, n2, n3, n4, n5, p, c, tx, tg⟩ := M
  dsimp only at *
  obtain ⟨mt, hmt⟩ : ∃ mt, min tx.size 80 = mt := ⟨_, rfl⟩
  have hmt2 : min (tx.size : Int) 80 = (mt : Int) := by omega
  have hmt3 : mt ≤ tx.size ∧ mt ≤ 80 := by omega
  obtain ⟨mg, hmg⟩ : ∃ mg, min tg.size 80 = mg := ⟨_, rfl⟩
  have hmg2 : min (tg.size : Int) 80 = (mg : Int) := by omega
  have hmg3 : mg ≤ tg.size ∧ mg ≤ 80 := by omega
  have HM3 := Lib.hid (And.intro hmp3 hmc3)
  have HD := Lib.hid (And.intro hnp (And.intro hnc (And.intro ha hc)))
  clear hmt hmg hmp hmc hnp hnc ha hc
  go_enter Tryz.func5, Tryz.ntmps5
  go_wp2
  go_region
  obtain ⟨W3, hW3⟩ : ∃ W3, W3 = ((w.alloc (.cells #[.int .i64 k, .int .i64 n0, .int .i64 n1, .int .i64 n2, .int .i64 n3, .int .i64 n4, .int .i64 n5, .slice ap mp cp, .slice ac mc cc, .string tx, .string tg] 26)).alloc (.cells #[.int .i64 0, .int .i64 0, .int .i64 0, .int .i64 0, .int .i64 0, .int .i64 0, .int .i64 0, .slice none 0 0, .slice none 0 0, .string ⟨#[]⟩, .string ⟨#[]⟩] 26)).drew := ⟨_, rfl⟩
  have r0 : W3.heap[w.heap.size]? = some (.cells #[.int .i64 k, .int .i64 n0, .int .i64 n1, .int .i64 n2, .int .i64 n3, .int .i64 n4, .int .i64 n5, .slice ap mp cp, .slice ac mc cc, .string tx, .string tg] 26 (0, 0)) := by
    rw [hW3]
    show ((w.alloc _).alloc _).heap[_]? = _
    rw [Below.heap_alloc _ _ _ (by simp)]; exact World.alloc_heap_new _ _
  have r1 : W3.heap[w.heap.size + 1]? = some (.cells #[.int .i64 0, .int .i64 0, .int .i64 0, .int .i64 0, .int .i64 0, .int .i64 0, .int .i64 0, .slice none 0 0, .slice none 0 0, .string ⟨#[]⟩, .string ⟨#[]⟩] 26 (0, 0)) := by
    have := World.alloc_heap_new (w.alloc (.cells #[.int .i64 k, .int .i64 n0, .int .i64 n1, .int .i64 n2, .int .i64 n3, .int .i64 n4, .int .i64 n5, .slice ap mp cp, .slice ac mc cc, .string tx, .string tg] 26)) (.cells #[.int .i64 0, .int .i64 0, .int .i64 0, .int .i64 0, .int .i64 0, .int .i64 0, .int .i64 0, .slice none 0 0, .slice none 0 0, .string ⟨#[]⟩, .string ⟨#[]⟩] 26)
    rw [World.size_alloc] at this
    rw [hW3]; exact this
  have hb3 : Below w.heap.size w W3 := by rw [hW3]; exact (((Below.refl _ w).alloc (Nat.le_refl _) _).alloc (by simp) _).drew
  rw [← hW3]
  have f9 := row_cell r0 9 _ rfl
  have f10 := row_cell r0 10 _ rfl
  have z9 := frozen_of_row W3 w.heap.size 9 _ _ r0
  have z10 := frozen_of_row W3 w.heap.size 10 _ _ r0
  have HR0 := Lib.hid r0
  have HR1 := Lib.hid r1
  have HB3 := Lib.hid hb3
  clear hW3 r0 r1 hb3 hmp3 hmc3 hmp2 hmc2
  go_wp2
  have htx : (tx.extract 0 mt).size ≤ 80 := by rw [ByteArray.size_extract]; omega
  have htg : (tg.extract 0 mg).size ≤ 80 := by rw [ByteArray.size_extract]; omega
  have HT := Lib.hid (And.intro htx htg)
  clear htx htg
  refine wp_region_lex2 (C := fun w' => ∃ n, w' = W3.drewN n) (by kernel_rfl) (by kernel_rfl) ⟨1, rfl⟩ ?_
  repeat (first
    | (refine wpQ2_pure rfl ?_; go_big_quiet_step (fail); refine wpQuiet_nil ?_)
    | (refine wpQ2_look rfl ?_; go_big_quiet_step (fail); refine wpQuiet_nil ?_))
  refine wpQ2_store (fun w' => ∃ n, w' = (W3.setCell ⟨w.heap.size, 9, none⟩ (.string (tx.extract 0 mt))).drewN n) rfl rfl rfl ⟨w.heap.size, 9, none⟩ (.string (tx.extract 0 mt)) rfl rfl ?_ ?_
  · rintro w1 ⟨n, rfl⟩
    refine ⟨(W3.drewN n).setCell ⟨w.heap.size, 9, none⟩ (.string (tx.extract 0 mt)), ?_, n, rfl⟩
    simp [Instr.storeAt, go_sem, f9, z9]
  repeat (first
    | (refine wpQ2_pure rfl ?_; go_big_quiet_step (fail); refine wpQuiet_nil ?_))
  refine wpQ2_store (fun w' => ∃ n, w' = ((W3.setCell ⟨w.heap.size, 9, none⟩ (.string (tx.extract 0 mt))).setCell ⟨w.heap.size, 10, none⟩ (.string (tg.extract 0 mg))).drewN n) rfl rfl rfl ⟨w.heap.size, 10, none⟩ (.string (tg.extract 0 mg)) rfl rfl ?_ ?_
  · rintro w1 ⟨n, rfl⟩
    refine ⟨((W3.setCell ⟨w.heap.size, 9, none⟩ (.string (tx.extract 0 mt))).drewN n).setCell ⟨w.heap.size, 10, none⟩ (.string (tg.extract 0 mg)), ?_, n, rfl⟩
    simp [Instr.storeAt, go_sem, f10, z10]
  rintro w4 ⟨nn, rfl⟩
  generalize tx.extract 0 mt = tx2 at *
  generalize tg.extract 0 mg = tg2 at *
  obtain ⟨W5, hW5⟩ : ∃ W5, W5 = ((W3.setCell ⟨w.heap.size, 9, none⟩ (.string tx2)).setCell ⟨w.heap.size, 10, none⟩ (.string tg2)).drewN nn := ⟨_, rfl⟩
  have r0 : W5.heap[w.heap.size]? = some (.cells #[.int .i64 k, .int .i64 n0, .int .i64 n1, .int .i64 n2, .int .i64 n3, .int .i64 n4, .int .i64 n5, .slice ap mp cp, .slice ac mc cc, .string tx2, .string tg2] 26 (0, 0)) := by
    rw [hW5]
    show ((W3.setCell _ _).setCell _ _).heap[_]? = _
    rw [setCell_at (setCell_at HR0.out)]; rfl
  have r1 : W5.heap[w.heap.size + 1]? = some (.cells #[.int .i64 0, .int .i64 0, .int .i64 0, .int .i64 0, .int .i64 0, .int .i64 0, .int .i64 0, .slice none 0 0, .slice none 0 0, .string ⟨#[]⟩, .string ⟨#[]⟩] 26 (0, 0)) := by
    rw [hW5]
    show ((W3.setCell _ _).setCell _ _).heap[_]? = _
    rw [Below.heap_setCell _ _ _ _ (by show _ ≠ w.heap.size; omega), Below.heap_setCell _ _ _ _ (by show _ ≠ w.heap.size; omega)]; exact HR1.out
  have hb5 : Below w.heap.size w W5 := by rw [hW5]; exact below_drewN ((HB3.out.setCell (p := ⟨w.heap.size, 9, none⟩) (Nat.le_refl _) _).setCell (p := ⟨w.heap.size, 10, none⟩) (Nat.le_refl _) _) nn
  have f := fun j x hx => row_cell r0 j x hx
  have f0 := f 0 _ rfl; have f1 := f 1 _ rfl; have f2 := f 2 _ rfl; have f3 := f 3 _ rfl; have f4 := f 4 _ rfl; have f5 := f 5 _ rfl
  have f6 := f 6 _ rfl; have f7 := f 7 _ rfl; have f8 := f 8 _ rfl; have f9 := f 9 _ rfl; have f10 := f 10 _ rfl
  rw [← hW5]
  have HR15 := Lib.hid r1
  have HB5 := Lib.hid hb5
  clear f hW5 r0 r1 hb5
  go_wp2_with (refine wpList_store_row rfl 26 (.tmp 2) (.tmp 35) rfl (w.heap.size + 1) #[.int .i64 k, .int .i64 n0, .int .i64 n1, .int .i64 n2, .int .i64 n3, .int .i64 n4, .int .i64 n5, .slice ap mp cp, .slice ac mc cc, .string tx2, .string tg2] rfl rfl 26 _ HR15.out mgInfo rfl (by simp [Value.oneCell']) ?_)
  have hfin := setRow_heap W5 (w.heap.size + 1) _ #[.int .i64 k, .int .i64 n0, .int .i64 n1, .int .i64 n2, .int .i64 n3, .int .i64 n4, .int .i64 n5, .slice ap mp cp, .slice ac mc cc, .string tx2, .string tg2] _ _ HR15.out
  have hoff := Off.setRow (S := fun k => k = w.heap.size + 1) (Off.refl _ W5) rfl #[.int .i64 k, .int .i64 n0, .int .i64 n1, .int .i64 n2, .int .i64 n3, .int .i64 n4, .int .i64 n5, .slice ap mp cp, .slice ac mc cc, .string tx2, .string tg2]
  have hbf := HB5.out.trans (hoff.below (B := w.heap.size) (fun k hk => by omega) HB5.out.size)
  generalize W5.setRow (w.heap.size + 1) _ = Wf at *
  have y := fun j x hx => row_cell hfin j x hx
  have y0 := y 0 _ rfl; have y1 := y 1 _ rfl; have y2 := y 2 _ rfl; have y3 := y 3 _ rfl; have y4 := y 4 _ rfl; have y5 := y 5 _ rfl
  have y6 := y 6 _ rfl; have y7 := y 7 _ rfl; have y8 := y 8 _ rfl; have y9 := y 9 _ rfl; have y10 := y 10 _ rfl
  refine bodyPost_ret (v := .agg #[.int .i64 k, .int .i64 n0, .int .i64 n1, .int .i64 n2, .int .i64 n3, .int .i64 n4, .int .i64 n5, .slice ap mp cp, .slice ac mc cc, .string tx2, .string tg2]) (by simp [results, Tryz.results5, go_sem, y0, y1, y2, y3, y4, y5, y6, y7, y8, y9, y10]) rfl ?_
  obtain ⟨hnp, hnc, ha, hc⟩ := HD.out
  have hmp3 : mp ≤ np ∧ mp ≤ 40 := HM3.out.1
  have hmc3 : mc ≤ nc ∧ mc ≤ 40 := HM3.out.2
  have hp1 : (p.take mp).length = mp := by rw [List.length_take]; omega
  have hc1 : (c.take mc).length = mc := by rw [List.length_take]; omega
  refine ⟨⟨k, n0, n1, n2, n3, n4, n5, p.take mp, c.take mc, tx2, tg2⟩, _, _, rfl, ⟨by dsimp only; omega, by dsimp only; omega, HT.out.1, HT.out.2⟩, ⟨⟨ap, cp, by rw [hp1], by dsimp only; omega, ?_⟩, ⟨ac, cc, by rw [hc1], by dsimp only; omega, (hc.take mc).below (hbf.mono hB)⟩⟩, hbf⟩
  dsimp only
  rw [fl2_takes]
  exact (ha.take _).below (hbf.mono hB)
end Go.Proofs.YtlbfibnfmijahaaGreat

namespace Go.Proofs.YtlbfibnfmijahaaGreat
open Go.RowKit Go.Shelf
set_option maxRecDepth 100000
attribute [local go_sem] Oper.semAt_some

set_option maxHeartbeats 16000000 in
theorem rmproject_any (M : Mg) (ap ac : Option Addr) (np nc cp cc : Nat) (v : Int) (w : World) : Calls Tryz.prog 21 #[mV M (.slice ap np cp) (.slice ac nc cc), .int .i64 v] w fun e w' => e = .returned (mV (mproj M v) (.slice ap np cp) (.slice ac nc cc)) ∧ Below w.heap.size w w' := by
  obtain ⟨G, hG⟩ : ∃ G, mproj M v = G := ⟨_, rfl⟩
  rw [hG]
  unfold mproj at hG
  obtain ⟨w2, hw2⟩ : ∃ w2, w2 = (w.alloc (.cells (mC M (.slice ap np cp) (.slice ac nc cc)) 38)).alloc (.cells (mC (Mg.zero 0) (.slice none 0 0) (.slice none 0 0)) 38) := ⟨_, rfl⟩
  have hs2 : w2.heap.size = w.heap.size + 2 := by rw [hw2]; simp
  have hb2 : Below w.heap.size w w2 := by rw [hw2]; exact ((Below.refl _ w).alloc (Nat.le_refl _) _).alloc (by simp) _
  have q0 : w2.heap[w.heap.size]? = some (.cells (mC M (.slice ap np cp) (.slice ac nc cc)) 38 (0, 0)) := by
    rw [hw2, Below.heap_alloc _ _ _ (by simp)]; exact World.alloc_heap_new _ _
  have q1 : w2.heap[w.heap.size + 1]? = some (.cells (mC (Mg.zero 0) (.slice none 0 0) (.slice none 0 0)) 38 (0, 0)) := by
    have := World.alloc_heap_new (w.alloc (.cells (mC M (.slice ap np cp) (.slice ac nc cc)) 38)) (.cells (mC (Mg.zero 0) (.slice none 0 0) (.slice none 0 0)) 38)
    rw [World.size_alloc] at this
    rw [hw2]; exact this
  have KR := Lib.hid (rall_any M.k)
  unfold mV
  simp only [mC, Mg.zero] at hw2 ⊢
  have HW := Lib.hid hw2
  by_cases hv : v = 1
  case neg =>
    have hvn : (v != 1) = true := by simpa using hv
    rw [if_neg hv] at hG
    subst hG
    obtain ⟨f0, f1, f2, f3, f4, f5, f6, f7, f8, f9, f10⟩ := mg_block q0
    have HR1 := Lib.hid q1
    have HB2 := Lib.hid hb2
    have HR1' := Lib.hid (hw2 ▸ q1)
    clear f0 f1 f2 f3 f4 f5 f6 f7 f8 f9 f10 q0 q1 hb2 hw2 hs2 hv KR
    go_enter Tryz.func21, Tryz.ntmps21
    go_wp2_with (refine wpList_store_row rfl 38 (.tmp 4) (.tmp 9) rfl (w.heap.size + 1) #[.int .i64 M.k, .int .i64 M.n0, .int .i64 M.n1, .int .i64 M.n2, .int .i64 M.n3, .int .i64 M.n4, .int .i64 M.n5, .slice ap np cp, .slice ac nc cc, .string M.tx, .string M.tg] rfl rfl 38 _ HR1'.out rmInfo rfl (by simp [Value.oneCell']) ?_)
    rw [← HW.out]
    have hfin := setRow_heap w2 (w.heap.size + 1) _ #[.int .i64 M.k, .int .i64 M.n0, .int .i64 M.n1, .int .i64 M.n2, .int .i64 M.n3, .int .i64 M.n4, .int .i64 M.n5, .slice ap np cp, .slice ac nc cc, .string M.tx, .string M.tg] _ _ HR1.out
    have hoff := Off.setRow (S := fun k => k = w.heap.size + 1) (Off.refl _ w2) rfl #[.int .i64 M.k, .int .i64 M.n0, .int .i64 M.n1, .int .i64 M.n2, .int .i64 M.n3, .int .i64 M.n4, .int .i64 M.n5, .slice ap np cp, .slice ac nc cc, .string M.tx, .string M.tg]
    have hbf := HB2.out.trans (hoff.below (B := w.heap.size) (fun k hk => by omega) HB2.out.size)
    generalize w2.setRow (w.heap.size + 1) _ = Wf at *
    obtain ⟨y0, y1, y2, y3, y4, y5, y6, y7, y8, y9, y10⟩ := mg_block hfin
    refine bodyPost_ret (v := .agg #[.int .i64 M.k, .int .i64 M.n0, .int .i64 M.n1, .int .i64 M.n2, .int .i64 M.n3, .int .i64 M.n4, .int .i64 M.n5, .slice ap np cp, .slice ac nc cc, .string M.tx, .string M.tg]) (by simp [results, Tryz.results21, go_sem, y0, y1, y2, y3, y4, y5, y6, y7, y8, y9, y10]) rfl ?_
    exact ⟨rfl, hbf⟩
  subst hv
  rw [if_pos rfl] at hG
  have KF := Lib.hid (FD_fdok M.k)
  have h6 := FD_few M.k
  have kk := row_cell q0 0 (.int .i64 M.k) rfl
  rw [hw2] at kk
  have HQ := Lib.hid (And.intro q0 q1)
  have HB2 := Lib.hid hb2
  clear hw2 q0 q1 hb2
  go_enter Tryz.func21, Tryz.ntmps21
  go_wp2_with fail
  rw [← HW.out]
  refine (KR.out w2).mono ?_
  intro e w3 hOf
  obtain ⟨A, cA, rfl, hcA, hA, hb3⟩ := hOf
  have p0 := (hb3.block _ (by omega)).trans HQ.out.1
  have p1 := (hb3.block _ (by omega)).trans HQ.out.2
  have hs3 := hb3.size
  have HB3 := Lib.hid (HB2.out.trans (hb3.mono HB2.out.size))
  obtain ⟨L, hL⟩ : ∃ L, FD M.k = L := ⟨_, rfl⟩
  rw [hL] at hG KF h6 hcA hA ⊢
  obtain ⟨n, hn⟩ : ∃ n, L.length = n := ⟨_, rfl⟩
  rw [hn] at h6 hcA ⊢
  have HN := Lib.hid hn
  have HG := Lib.hid hG
  have HA := Lib.hid hA
  have HGE : Hid (∀ g, A = some ⟨g, 0, none⟩ → L ≠ [] → w.heap.size + 2 ≤ g) := Lib.hid (fun g hg hne => by
    obtain ⟨f, r, rfl⟩ := List.exists_cons_of_ne_nil hne
    obtain ⟨g', h1, h2, _⟩ := hA 0 f rfl
    rw [hg] at h1
    injection h1 with h1
    injection h1 with h1
    omega)
  have HP := Lib.hid (And.intro p0 p1)
  clear hL hn hG hA hb3 p0 p1 kk HQ HB2 KR HW
  go_wp2
  go_loopw [6] (fun iv wr => ∃ j : Nat, j ≤ n ∧ iv = .int .i64 (j : Int) ∧ Hid (wr.heap[w.heap.size]? = some (.cells (mC ((L.take j).foldl prj M) (.slice ap np cp) (.slice ac nc cc)) 38 (0, 0))) ∧ Hid (Off (fun q => q = w.heap.size) w3 wr)) (fun iv _ => n - (intOf iv).toNat)
  case atStart => exact ⟨0, by omega, rfl, Lib.hid HP.out.1, Lib.hid (Off.refl _ _)⟩
  case round =>
    obtain ⟨j, hj, rfl, HM, HO⟩ := hrel
    rcases Nat.lt_or_ge j n with hlt | hge
    · obtain ⟨f, hf⟩ : ∃ f, L[j]? = some f := ⟨_, List.getElem?_eq_getElem (by rw [HN.out]; exact hlt)⟩
      obtain ⟨g, rfl, _, hgl, d0, d1, d2, d3, d4, d5, d6⟩ := HA.out.seven hf
      have k := fun q x (hx : w3.cell? ⟨g, q, none⟩ = some x) => HO.out.cell hx (by show ¬ (g = w.heap.size); have := HGE.out g rfl (fun e => by rw [e] at hf; simp at hf); omega)
      have d1 := k _ _ d1
      have d2 := k _ _ d2
      have d3 := k _ _ d3
      have d5 := k _ _ d5
      have d6 := k _ _ d6
      clear k d0 d4
      have ok := KF.out f (List.mem_of_getElem? hf)
      have hst := fold_take hf prj M
      have HST := Lib.hid hst
      have hj2 : (j : Int) < (n : Int) := by omega
      have hnA : (n : Int) ≤ (cA : Int) := by omega
      obtain ⟨Mj, hMj⟩ : ∃ Mj, (L.take j).foldl prj M = Mj := ⟨_, rfl⟩
      rw [hMj] at HM HST
      have hgw : g ≠ w.heap.size := by have := HGE.out g rfl (fun e => by rw [e] at hf; simp at hf); omega
      clear hf hst hMj d3
      by_cases hsi : f.si ≤ 1
      · have hp : prj Mj f = Mj := if_pos hsi
        have q2 : (f.si == 2) = false := by simp; omega
        rw [hp] at HST
        clear hp ok hsi d1 d2 d6
        go_wp2
        exact ⟨⟨j + 1, by omega, by go_num, by rw [HST.out]; exact HM, HO⟩, by simp only [intOf]; omega⟩
      · have hs2' : f.si = 2 := by rcases ok.si with h | h <;> omega
        rw [hs2'] at d5
        by_cases h6 : f.so = 6
        · have hp : prj Mj f = { Mj with tg := ⟨#[]⟩ } := by unfold prj; rw [if_neg hsi, if_pos h6]
          have hno := ok.no (by omega)
          rw [h6] at d1
          rw [hno] at d2
          have c10 := (mg_block HM.out).2.2.2.2.2.2.2.2.2.2
          have z10 := frozen_of_row wr w.heap.size 10 _ _ HM.out
          have HM2 : Hid ((wr.setCell ⟨w.heap.size, 10, none⟩ (.string ⟨#[]⟩)).heap[w.heap.size]? = some (.cells (mC (prj Mj f) (.slice ap np cp) (.slice ac nc cc)) 38 (0, 0))) := Lib.hid (by rw [setCell_at HM.out, hp]; rfl)
          have HO2 := Lib.hid (HO.out.setCell (p := ⟨w.heap.size, 10, none⟩) rfl (.string ⟨#[]⟩))
          clear hp ok hsi hno hs2' d6
          go_wp2
          exact ⟨⟨j + 1, by omega, by go_num, by rw [HST.out]; exact HM2, HO2⟩, by simp only [intOf]; omega⟩
        · have q6 : (f.so == 6) = false := by simpa using h6
          by_cases h3 : f.so < 3
          · obtain ⟨jn, hjn, hpl⟩ := ok.pl h3
            have hp : prj Mj f = Mj.put jn f.ab := by unfold prj; rw [if_neg hsi, if_neg h6, if_pos (by omega), hpl, Int.toNat_natCast]
            rw [hpl] at d2
            have cn := mg_at HM.out hjn
            have zn := frozen_of_row wr w.heap.size (1 + jn) _ _ HM.out
            have HM2 : Hid ((wr.setCell ⟨w.heap.size, 1 + jn, none⟩ (.int .i64 f.ab)).heap[w.heap.size]? = some (.cells (mC (prj Mj f) (.slice ap np cp) (.slice ac nc cc)) 38 (0, 0))) := Lib.hid (by rw [setCell_at HM.out, mC_put hjn, hp])
            have HO2 := Lib.hid (HO.out.setCell (p := ⟨w.heap.size, 1 + jn, none⟩) rfl (.int .i64 f.ab))
            have hj6 : (jn : Int) < 6 := by omega
            clear hp ok hsi hpl hs2' h3 h6
            go_wp2
            go_region
            go_wp2
            exact ⟨⟨j + 1, by omega, by go_num, by rw [HST.out]; exact HM2, Lib.hid (off_below HO2.out ((Below.refl _ _).drew))⟩, by simp only [intOf]; omega⟩
          · have hno := ok.no h3
            have hp : prj Mj f = Mj := by unfold prj; rw [if_neg hsi, if_neg h6, if_neg (by omega)]
            rw [hp] at HST
            rw [hno] at d2
            clear hp ok hsi hno hs2' h3 d6
            go_wp2
            exact ⟨⟨j + 1, by omega, by go_num, by rw [HST.out]; exact HM, HO⟩, by simp only [intOf]; omega⟩
    · obtain rfl : j = n := by omega
      have hm := HM.out
      rw [List.take_of_length_le (by rw [HN.out]; exact Nat.le_refl _), HG.out] at hm
      obtain ⟨f0, f1, f2, f3, f4, f5, f6, f7, f8, f9, f10⟩ := mg_block hm
      have HR1 := Lib.hid ((HO.out.block (w.heap.size + 1) (by omega) (by omega)).trans HP.out.2)
      have HBW := Lib.hid (HB3.out.trans (HO.out.below (B := w.heap.size) (fun k hk => by omega) HB3.out.size))
      clear hm
      go_wp2_with (refine wpList_store_row rfl 38 (.tmp 4) (.tmp 60) rfl (w.heap.size + 1) #[.int .i64 G.k, .int .i64 G.n0, .int .i64 G.n1, .int .i64 G.n2, .int .i64 G.n3, .int .i64 G.n4, .int .i64 G.n5, .slice ap np cp, .slice ac nc cc, .string G.tx, .string G.tg] rfl rfl 38 _ HR1.out rmInfo rfl (by simp [Value.oneCell']) ?_)
      have hfin := setRow_heap wr (w.heap.size + 1) _ #[.int .i64 G.k, .int .i64 G.n0, .int .i64 G.n1, .int .i64 G.n2, .int .i64 G.n3, .int .i64 G.n4, .int .i64 G.n5, .slice ap np cp, .slice ac nc cc, .string G.tx, .string G.tg] _ _ HR1.out
      have hoff := Off.setRow (S := fun k => k = w.heap.size + 1) (Off.refl _ wr) rfl #[.int .i64 G.k, .int .i64 G.n0, .int .i64 G.n1, .int .i64 G.n2, .int .i64 G.n3, .int .i64 G.n4, .int .i64 G.n5, .slice ap np cp, .slice ac nc cc, .string G.tx, .string G.tg]
      have hbf := HBW.out.trans (hoff.below (B := w.heap.size) (fun k hk => by omega) HBW.out.size)
      generalize wr.setRow (w.heap.size + 1) _ = Wf at *
      obtain ⟨y0, y1, y2, y3, y4, y5, y6, y7, y8, y9, y10⟩ := mg_block hfin
      refine bodyPost_ret (v := .agg #[.int .i64 G.k, .int .i64 G.n0, .int .i64 G.n1, .int .i64 G.n2, .int .i64 G.n3, .int .i64 G.n4, .int .i64 G.n5, .slice ap np cp, .slice ac nc cc, .string G.tx, .string G.tg]) (by simp [results, Tryz.results21, go_sem, y0, y1, y2, y3, y4, y5, y6, y7, y8, y9, y10]) rfl ?_
      exact ⟨rfl, hbf⟩
end Go.Proofs.YtlbfibnfmijahaaGreat

namespace Go.Proofs.YtlbfibnfmijahaaGreat
open Go.RowKit Go.Shelf
set_option maxRecDepth 100000
attribute [local go_sem] Oper.semAt_some

/-- a message's box b2 of the document's, its lists in rows of its own at base or above -/
structure RnB (b2 base : Nat) (w4 : World) (M : Mg) (V : World) : Prop where
  m : ∃ P C, V.heap[b2]? = some (.cells (mC M P C) 38 (0, 0)) ∧ V.ownsRow base 77 2 P M.p.length ((fl2 M.p).map (Value.int .i64)) ∧ V.ownsRow base 3 1 C M.c.length (M.c.map (Value.int .i64))
  off : Off (fun q => q = b2) w4 V
section
variable {b2 base : Nat} {w4 V V' : World} {M M' : Mg}
theorem RnB.later (h : RnB b2 base w4 M V) (hb : Below V.heap.size V V') : RnB b2 base w4 M V' := by
  obtain ⟨P, C, h1, h2, h3⟩ := h.m
  exact ⟨⟨P, C, (hb.block _ (Array.getElem?_eq_some_iff.1 h1).1).trans h1, own_below7 h2 hb, own_below7 h3 hb⟩, off_below h.off (hb.mono h.off.size)⟩
theorem RnB.set (h : RnB b2 base w4 M V) (hb : b2 < base) (j : Nat) (u : Value) (hM : ∀ P C, V.ownsRow base 77 2 P M.p.length ((fl2 M.p).map (Value.int .i64)) → V.ownsRow base 3 1 C M.c.length (M.c.map (Value.int .i64)) → ∃ P' C', (mC M P C).setIfInBounds j u = mC M' P' C' ∧ V.ownsRow base 77 2 P' M'.p.length ((fl2 M'.p).map (Value.int .i64)) ∧ V.ownsRow base 3 1 C' M'.c.length (M'.c.map (Value.int .i64))) : RnB b2 base w4 M' (V.setCell ⟨b2, j, none⟩ u) := by
  obtain ⟨P, C, h1, h2, h3⟩ := h.m
  obtain ⟨P', C', h4, h5, h6⟩ := hM P C h2 h3
  exact ⟨⟨P', C', by rw [setCell_at h1, h4], ownsRow_setCell_below h5 (a := ⟨b2, j, none⟩) hb _, ownsRow_setCell_below h6 (a := ⟨b2, j, none⟩) hb _⟩, h.off.setCell (p := ⟨b2, j, none⟩) rfl _⟩
theorem RnB.num (h : RnB b2 base w4 M V) (hb : b2 < base) {j : Nat} (hj : j < 6) (v : Int) : RnB b2 base w4 (M.put j v) (V.setCell ⟨b2, 1 + j, none⟩ (.int .i64 v)) :=
  h.set hb (1 + j) (.int .i64 v) (fun P C h1 h2 => ⟨P, C, mC_put hj .., by rw [Mg.put_p]; exact h1, by rw [Mg.put_c]; exact h2⟩)
theorem RnB.at (h : RnB b2 base w4 M V) {j : Nat} (hj : j < 6) : V.cell? ⟨b2, 1 + j, none⟩ = some (.int .i64 (M.at' j)) ∧ V.frozen? ⟨b2, 1 + j, none⟩ = false := by
  obtain ⟨P, C, h1, _⟩ := h.m
  exact ⟨mg_at h1 hj, frozen_of_row V b2 (1 + j) _ _ h1⟩
end
end Go.Proofs.YtlbfibnfmijahaaGreat

namespace Go.Proofs.YtlbfibnfmijahaaGreat
open Go.RowKit
section
variable {P : Program} {l : List Oper} {I : World → Prop} {fs : List Tmp} {FS : Tmp → Value → World → Prop} {E : Act → Prop} {o : Oper} {rest : List Oper} {a : Act}
/-- an operation that enters no function and looks at a value that is known by what it is good for alone -/
theorem wpF_useval (s : Tmp) (j : Nat) (v : Value) (hs : s ∈ fs) (hj : (l[j]?).bind (·.dst) = some s) (hje : (o.after.any fun e => Region.binds .any e && e.on == j) = true)
    (hn : ((o.looksAt l.toArray).all fun d => !fs.contains d || d == s) = true) (hdst : (match o.dst with | some d => !fs.contains d | none => true) = true) (hw : ∀ x, Region.wanted o (yielded l.toArray (a.put (some s) x).tmps) = true)
    (hrun : ∀ x w, I w → FS s x w → (execOp (a.put (some s) x).eval o).run P w = .ok (.value v) w) (h : wpF P l.toArray I fs FS E rest (a.put o.dst v)) : wpF P l.toArray I fs FS E (o :: rest) a := by
  refine ⟨v, .inr (.inr (.inl ⟨s, hs, ⟨j, by simpa using hj, hje⟩, fun d hd hf => ?_, fun d hd hf => ?_, fun x w hI hx => ⟨hw x, ?_⟩⟩)), h⟩
  · rw [List.all_eq_true] at hn
    have := hn d hd
    simpa [hf] using this
  · rw [hd] at hdst
    simp [hf] at hdst
  · rw [hrun x w hI hx]
    exact ⟨rfl, rfl⟩
end
end Go.Proofs.YtlbfibnfmijahaaGreat

namespace Go.Proofs.YtlbfibnfmijahaaGreat
open Go.RowKit Go.Shelf
set_option maxRecDepth 100000
attribute [local go_sem] Oper.semAt_some

theorem mproj_p (M : Mg) (v : Int) : (mproj M v).p = M.p := by
  unfold mproj
  split
  · exact fold_prj_p _ _
  · rfl
theorem mproj_c (M : Mg) (v : Int) : (mproj M v).c = M.c := by
  unfold mproj
  split
  · exact fold_prj_c _ _
  · rfl
theorem prj_small {M : Mg} (h : Msm M) (f : Fd) : Msm (prj M f) := by
  refine ⟨by rw [prj_p]; exact h.p, by rw [prj_c]; exact h.c, ?_, ?_⟩
  · unfold prj
    repeat' split
    · exact h.tx
    · exact h.tx
    · rw [Mg.put_tx]; exact h.tx
    · exact h.tx
  · unfold prj
    repeat' split
    · exact h.tg
    · exact Nat.zero_le _
    · rw [Mg.put_tg]; exact h.tg
    · exact h.tg
theorem fold_prj_small : ∀ (L : List Fd) {M : Mg}, Msm M → Msm (L.foldl prj M)
  | [], _, h => h
  | f :: r, _, h => by rw [List.foldl_cons]; exact fold_prj_small r (prj_small h f)
theorem mproj_small {M : Mg} (h : Msm M) (v : Int) : Msm (mproj M v) := by
  unfold mproj
  split
  · exact fold_prj_small _ h
  · exact h
/-- a message that a call has made -/
def FMs (M : Mg) (x : Value) (W : World) : Prop := ∃ P C, x = mV M P C ∧ MAt W W.heap.size M P C
theorem FMs.later {M : Mg} {x : Value} {W W' : World} (h : FMs M x W) (hb : Below W.heap.size W W') : FMs M x W' := by
  obtain ⟨P, C, h1, h2⟩ := h
  exact ⟨P, C, h1, h2.later hb⟩
section
variable {M M' : Mg} {x y : Value} {W : World}
theorem cut_F {B : Nat} {P C : Value} (hB : B ≤ W.heap.size) (h : MAt W B M P C) : Calls Tryz.prog 5 #[mV M P C] W fun e w' => ∃ u, e = .returned u ∧ (∃ M P C, Msm M ∧ u = mV M P C ∧ MAt w' B M P C) ∧ Below W.heap.size W w' := by
  obtain ⟨⟨a, c, rfl, h1, h2⟩, ⟨a', c', rfl, h3, h4⟩⟩ := h
  refine (mcut_any M a a' _ _ c c' W rfl rfl h1 h3 B hB h2 h4).mono fun e w' h => ?_
  obtain ⟨M, P, C, rfl, hs, hm, hb⟩ := h
  exact ⟨_, rfl, ⟨M, P, C, hs, rfl, hm⟩, hb⟩
theorem of_F (hs : Msm M) (h : FMs M x W) : Calls Tryz.prog 9 #[x] W fun e w' => ∃ u, e = .returned u ∧ FMs M u w' ∧ Below W.heap.size W w' := by
  obtain ⟨P, C, rfl, h1⟩ := h
  refine (mof_any M P C W hs h1).mono fun e w' h => ?_
  obtain ⟨P', rfl, ho, hb⟩ := h
  obtain ⟨a, c, g1, g2, g3⟩ := nums_of_own ho (by omega)
  exact ⟨_, rfl, ⟨P', C, rfl, ⟨a, c, g1, g2, g3⟩, (h1.later hb).c⟩, hb⟩
theorem chk_F (hs : Msm M) (h : FMs M x W) : Calls Tryz.prog 25 #[x] W fun e w' => e = .returned (.int .i64 (mck M)) ∧ Below W.heap.size W w' := by
  obtain ⟨P, C, rfl, h1⟩ := h
  exact mcheck_any M P C W hs h1
theorem proj_F (v : Int) (hs : Msm M) (h : FMs M x W) : Calls Tryz.prog 32 #[x, .int .i64 v] W fun e w' => ∃ u, e = .returned u ∧ FMs (mproj M v) u w' ∧ Below W.heap.size W w' := by
  obtain ⟨P, C, rfl, h1⟩ := h
  refine (mproject_any M P C v W hs h1).mono fun e w' h => ?_
  obtain ⟨P, C, rfl, ho, hb⟩ := h
  exact ⟨_, rfl, ⟨P, C, rfl, ho.at⟩, hb⟩
theorem same_F (hs : Msm M) (h : FMs M x W) (h' : FMs M' y W) : Calls Tryz.prog 46 #[x, y] W fun e w' => e = .returned (.bool (decide (M = M'))) ∧ Below W.heap.size W w' := by
  obtain ⟨P, C, rfl, h1⟩ := h
  obtain ⟨P', C', rfl, h2⟩ := h'
  exact msame_any M M' P C P' C' W hs h1 h2
theorem rchk_F (hs : Msm M) (h : FMs M x W) : Calls Tryz.prog 28 #[x] W fun e w' => e = .returned (.int .i64 (mck M)) ∧ Below W.heap.size W w' := by
  obtain ⟨P, C, rfl, h1⟩ := h
  exact rmcheck_any M P C W hs h1
theorem rproj_F (v : Int) (h : FMs M x W) : Calls Tryz.prog 21 #[x, .int .i64 v] W fun e w' => ∃ u, e = .returned u ∧ FMs (mproj M v) u w' ∧ Below W.heap.size W w' := by
  obtain ⟨P, C, rfl, ⟨⟨a, c, rfl, h1, h2⟩, ⟨a', c', rfl, h3, h4⟩⟩⟩ := h
  refine (rmproject_any M a a' _ _ c c' v W).mono fun e w' h => ?_
  obtain ⟨rfl, hb⟩ := h
  refine ⟨_, rfl, ⟨_, _, rfl, ⟨a, c, by rw [mproj_p], by rw [mproj_p]; exact h1, ?_⟩, ⟨a', c', by rw [mproj_c], by rw [mproj_c]; exact h3, ?_⟩⟩, hb⟩
  · rw [mproj_p]; exact (h2.below hb).mono hb.size
  · rw [mproj_c]; exact (h4.below hb).mono hb.size
theorem rsame_F (hs : Msm M) (h : FMs M x W) (h' : FMs M' y W) : Calls Tryz.prog 20 #[x, y] W fun e w' => e = .returned (.bool (decide (M = M'))) ∧ Below W.heap.size W w' := by
  obtain ⟨P, C, rfl, h1⟩ := h
  obtain ⟨P', C', rfl, h2⟩ := h'
  exact rmsame_any M M' P C P' C' W hs h1 h2
theorem copy_F (hs : Msm M) (h : FMs M x W) : Calls Tryz.prog 31 #[x] W fun e w' => ∃ u, e = .returned u ∧ FMs M u w' ∧ Below W.heap.size W w' := by
  obtain ⟨P, C, rfl, h1⟩ := h
  refine (mcopy_any M P C W hs h1).mono fun e w' h => ?_
  obtain ⟨P, C, rfl, ho, hb⟩ := h
  exact ⟨_, rfl, ⟨P, C, rfl, ho.at⟩, hb⟩
end
/-- a message's box, read -/
theorem mg_read {W : World} {b : Nat} {M : Mg} {P C : Value} {t : TypeId} (h : W.heap[b]? = some (.cells (mC M P C) t (0, 0))) :
    (Instr.loadAt 26 (.pointer (some ⟨b, 0, none⟩))).run Tryz.prog W = .ok (mV M P C) W := by
  obtain ⟨f0, f1, f2, f3, f4, f5, f6, f7, f8, f9, f10⟩ := mg_block h
  simp [Instr.loadAt, go_sem, f0, f1, f2, f3, f4, f5, f6, f7, f8, f9, f10, mV, mC]
end Go.Proofs.YtlbfibnfmijahaaGreat

namespace Go.Proofs.YtlbfibnfmijahaaGreat
open Go.RowKit Go.Shelf
set_option maxRecDepth 100000
attribute [local go_sem] Oper.semAt_some

theorem parts_le (M : Mg) : ∀ (l : List Fd), (∀ f ∈ l, FdX f ∧ fE M f = 0) → ((l.map (mpart M)).flatten).length ≤ 129 * l.length
  | [], _ => Nat.zero_le _
  | f :: r, h => by
    have h1 := part_len (h f (List.mem_cons_self ..)).1 (h f (List.mem_cons_self ..)).2
    have h2 := parts_le M r fun g hg => h g (List.mem_cons_of_mem _ hg)
    have h3 : bnd f ≤ 129 := by
      unfold bnd
      repeat' split
      all_goals omega
    rw [List.map_cons, List.flatten_cons, List.length_append, List.length_cons]
    omega
/-- the bytes of a version's fields, of the first j -/
def upto (M : Mg) (v : Int) (L : List Fd) (j : Nat) : List Int := (((L.take j).filter fun f => decide (f.si ≤ v)).map (mpart M)).flatten
theorem upto_more {M : Mg} {v : Int} {L : List Fd} {j : Nat} {f : Fd} (hf : L[j]? = some f) : upto M v L (j + 1) = upto M v L j ++ (if f.si ≤ v then mpart M f else []) := by
  unfold upto
  rw [List.take_add_one, hf]
  simp only [Option.toList_some, List.filter_append, List.map_append, List.flatten_append]
  by_cases h : f.si ≤ v <;> simp [h]
theorem upto_le {M : Mg} {v : Int} {L : List Fd} (j : Nat) (h : ∀ f ∈ L, FdX f ∧ fE M f = 0) (h6 : L.length ≤ 6) : (upto M v L j).length ≤ 774 := by
  have h1 := parts_le M ((L.take j).filter fun f => decide (f.si ≤ v)) fun f hf => h f (List.mem_of_mem_take (List.mem_filter.1 hf).1)
  have h2 := List.length_filter_le (fun f : Fd => decide (f.si ≤ v)) (L.take j)
  rw [List.length_take] at h2
  unfold upto
  omega

theorem FdsIn.up {lo : Nat} {w w' : World} {A : Option Addr} {L : List Fd} (h : FdsIn lo w A L) (hb : Below w.heap.size w w') : FdsIn lo w' A L := fun j f hj => by
  obtain ⟨g, h1, h2, h3, h4⟩ := h j f hj
  exact ⟨g, h1, h2, Nat.lt_of_lt_of_le h3 hb.size, fun q u hq => (hb.cell (p := ⟨g, j * 7 + q, none⟩) h3).trans (h4 q u hq)⟩
/-- a box of the document's message, read -/
theorem mr_look {W : World} {b : Nat} {M : Mg} {P C : Value} {t : TypeId} (h : W.heap[b]? = some (.cells (mC M P C) t (0, 0))) :
    (Instr.loadAt 38 (.pointer (some ⟨b, 0, none⟩))).run Tryz.prog W = .ok (.agg (mC M P C)) W := by
  obtain ⟨f0, f1, f2, f3, f4, f5, f6, f7, f8, f9, f10⟩ := mg_block h
  simp [Instr.loadAt, go_sem, f0, f1, f2, f3, f4, f5, f6, f7, f8, f9, f10, mC]
/-- what Encode answers -/
def EncR (w : World) (r : List Int × Int) (e : Ending) (w' : World) : Prop := ∃ x, e = .returned (.tuple #[x, .int .i64 r.2]) ∧ Made w w' r.1 x
set_option maxHeartbeats 8000000 in
theorem rencode_any (M : Mg) (P C : Value) (v : Int) (w : World) (hs : Msm M) (h1 : MAt w w.heap.size M P C) : Calls Tryz.prog 17 #[mV M P C, .int .i64 v] w fun e w' => EncR w (benc M v) e w' := by
  obtain ⟨i0, hi, hz0, hz1, hz2⟩ := info_parts byteInfo
  obtain ⟨w2, hw2⟩ : ∃ w2, w.alloc (.cells (mC M P C) 38) = w2 := ⟨_, rfl⟩
  have hb2 : Below w.heap.size w w2 := by rw [← hw2]; exact (Below.refl _ w).alloc (Nat.le_refl _) _
  have q0 : w2.heap[w.heap.size]? = some (.cells (mC M P C) 38 (0, 0)) := by rw [← hw2]; exact World.alloc_heap_new _ _
  have hl0 := (Array.getElem?_eq_some_iff.1 q0).1
  have HW2 := Lib.hid hw2
  have HB2 := Lib.hid hb2
  have HQ0 := Lib.hid q0
  have HMA := Lib.hid (h1.later hb2)
  clear hw2 hb2 q0 h1
  by_cases hv : v ≠ 1 ∧ v ≠ 2
  · have hr : benc M v = ([], 10) := by unfold benc; rw [if_pos hv]
    rw [hr]
    obtain ⟨v1, v2⟩ := hv
    have e1 : (v != 1) = true := by simpa using v1
    have e2 : (v != 2) = true := by simpa using v2
    unfold mV
    go_enter Tryz.func17, Tryz.ntmps17
    go_wp2_with fail
    rw [HW2.out]
    go_wp2
    go_ret2
    exact ⟨_, rfl, World.ownsRow_nil _ _ _ _, HB2.out⟩
  · have hv' : v = 1 ∨ v = 2 := by omega
    obtain ⟨E, hE⟩ : ∃ E, mck M = E := ⟨_, rfl⟩
    have K1 : Hid (∀ W, Below w2.heap.size w2 W → Calls Tryz.prog 28 #[.agg (mC M P C)] W fun e w' => e = .returned (.int .i64 E) ∧ Below W.heap.size W w') := Lib.hid fun W hW => by
      have := rmcheck_any M P C W hs (HMA.out.later hW)
      rw [hE] at this
      exact this
    have L0 : ∀ W, Below w2.heap.size w2 W → (Instr.loadAt 38 (.pointer (some ⟨w.heap.size, 0, none⟩))).run Tryz.prog W = .ok (.agg (mC M P C)) W := fun W hW => mr_look ((hW.block _ hl0).trans HQ0.out)
    unfold mV
    rcases hv' with rfl | rfl
    · by_cases hE0 : E = 0
      · have hr : benc M 1 = (body M 1, 0) := by unfold benc; rw [if_neg hv, hE, if_neg (by simpa using hE0)]
        rw [hr]
        subst hE0
        have hmck := hE
        rw [mck_zero] at hE
        obtain ⟨hE1, hE2, _⟩ := hE
        have HFE := Lib.hid (show ∀ f ∈ FD M.k, FdX f ∧ fE M f = 0 from fun f hf => ⟨FD_fdx M.k f hf, hE2 f hf⟩)
        have h6 := FD_few M.k
        have k0 := row_cell HQ0.out 0 (.int .i64 M.k) rfl
        have HK0 := Lib.hid k0
        have K2 := Lib.hid (rall_any M.k)
        have HB : Hid (body M 1 = upto M 1 (FD M.k) (FD M.k).length) := by show _ = _; unfold body upto FDv; rw [List.take_length]
        obtain ⟨L, hL⟩ : ∃ L, FD M.k = L := ⟨_, rfl⟩
        rw [hL] at HFE h6 HB
        have HL := Lib.hid hL
        obtain ⟨n, hn⟩ : ∃ n, L.length = n := ⟨_, rfl⟩
        rw [hn] at HB h6
        have HN := Lib.hid hn
        clear hE1 hE2 hmck hL hn hr k0
        go_enter Tryz.func17, Tryz.ntmps17
        go_wp2_with (first | (rw [HW2.out]; refine wpList_load_run rfl 38 (.tmp 2) rfl (some ⟨w.heap.size, 0, none⟩) rfl (.agg (mC M P C)) (L0 w2 (Below.refl _ _)) ?_))
        refine (K1.out w2 (Below.refl _ _)).mono ?_
        rintro e w3 ⟨rfl, hb3⟩
        have HK3 := Lib.hid ((hb3.cell (p := ⟨w.heap.size, 0, none⟩) hl0).trans HK0.out)
        have c0 := HK3.out
        have hs3 := hb3.size
        have HB3 := Lib.hid hb3
        clear hb3 K1
        go_wp2_with fail
        refine (K2.out w3).mono ?_
        rintro e w4 ⟨Ad, c, rfl, hcap, hrow, hb4⟩
        rw [HL.out] at hcap hrow ⊢
        rw [HN.out] at hcap ⊢
        have HB4 := Lib.hid (HB3.out.trans (hb4.mono hs3))
        have HR := Lib.hid hrow
        have hs4 := hb4.size
        have hcap' : (n : Int) ≤ (c : Int) := by omega
        clear hrow hb4 c0 K2 HK3
        go_wp2_with fail
        go_loopw [7, 8] (fun ov iv wr => ∃ (j : Nat) (x : Value), x = ov ∧ j ≤ n ∧ iv = .int .i64 (j : Int) ∧ Hid (Made w4 wr (upto M 1 L j) x)) (fun _ iv _ => n - (intOf iv).toNat)
        case atStart => exact ⟨0, _, rfl, by omega, rfl, Lib.hid ⟨World.ownsRow_nil _ _ _ _, Below.refl _ _⟩⟩
        case round =>
          obtain ⟨j, x, rfl, hj, rfl, HM⟩ := hrel
          rcases Nat.lt_or_ge j n with hlt | hge
          · obtain ⟨f, hf⟩ : ∃ f, L[j]? = some f := ⟨_, List.getElem?_eq_getElem (by rw [HN.out]; exact hlt)⟩
            obtain ⟨gr, rfl, hg1, hg2, e0, e1, e2, e3, e4, e5, e6⟩ := (FdsIn.up HR.out HM.out.2).seven hf
            have hj2 : (j : Int) < (n : Int) := by omega
            have hj7 : j ≤ 6 := by omega
            have HUM := Lib.hid (upto_more (M := M) (v := 1) hf)
            obtain ⟨hfx, hfe⟩ := HFE.out f (List.mem_of_getElem? hf)
            have hTl := upto_le (M := M) (v := 1) j HFE.out (by rw [HN.out]; exact h6)
            obtain ⟨T, hT⟩ : ∃ T, upto M 1 L j = T := ⟨_, rfl⟩
            rw [hT] at HM hTl
            have HT := Lib.hid hT
            clear hT hf
            by_cases hsi : f.si ≤ 1
            · have hU := HUM.out
              rw [if_pos hsi, HT.out] at hU
              obtain ⟨zx, hzx⟩ : ∃ zx, mpart M f = zx := ⟨_, rfl⟩
              have hlx : zx.length ≤ 129 := by
                rw [← hzx]
                refine Nat.le_trans (part_len hfx hfe) ?_
                unfold bnd
                repeat' split
                all_goals omega
              rw [hzx] at hU
              have HU := Lib.hid hU
              have hs2w : w2.heap.size ≤ w4.heap.size := HB4.out.size
              have hswr := HM.out.2.size
              have LW : ∀ W, Below wr.heap.size wr W → Below w2.heap.size w2 W := fun W hW => HB4.out.trans ((HM.out.2.trans (hW.mono hswr)).mono hs2w)
              have KP : Hid (∀ W, Below wr.heap.size wr W → Calls Tryz.prog 37 #[.agg (mC M P C), .agg #[.string f.nm, .int .i64 f.so, .int .i64 f.pl, .int .i64 f.le, .int .i64 f.mo, .int .i64 f.si, .int .i64 f.ab]] W fun e w' => ∃ u, e = .returned u ∧ (∃ A c, u = .slice A zx.length c ∧ zx.length ≤ c ∧ Nums .u8 w' w'.heap.size A zx) ∧ Below W.heap.size W w') := Lib.hid fun W hW => by
                refine (rpart_any M f P C W (HMA.out.later (LW W hW)) hfx hfe).mono fun e w' h => ?_
                obtain ⟨u, h1, h2⟩ := h
                rw [hzx] at h2
                obtain ⟨A, c, h3, h4, h5⟩ := h2.slice
                exact ⟨u, h1, ⟨A, c, h3, h4, h5⟩, h2.2⟩
              have LM : ∀ W, Below wr.heap.size wr W → (Instr.loadAt 38 (.pointer (some ⟨w.heap.size, 0, none⟩))).run Tryz.prog W = .ok (.agg (mC M P C)) W := fun W hW => L0 W (LW W hW)
              have LG : ∀ W, Below wr.heap.size wr W → (Instr.loadAt 81 (.pointer (some ⟨gr, j * 7, none⟩))).run Tryz.prog W = .ok (.agg #[.string f.nm, .int .i64 f.so, .int .i64 f.pl, .int .i64 f.le, .int .i64 f.mo, .int .i64 f.si, .int .i64 f.ab]) W := fun W hW => by
                have t0 := (hW.cell (p := ⟨gr, j * 7, none⟩) hg2).trans e0
                have t1 := (hW.cell (p := ⟨gr, j * 7 + 1, none⟩) hg2).trans e1
                have t2 := (hW.cell (p := ⟨gr, j * 7 + 2, none⟩) hg2).trans e2
                have t3 := (hW.cell (p := ⟨gr, j * 7 + 3, none⟩) hg2).trans e3
                have t4 := (hW.cell (p := ⟨gr, j * 7 + 4, none⟩) hg2).trans e4
                have t5 := (hW.cell (p := ⟨gr, j * 7 + 5, none⟩) hg2).trans e5
                have t6 := (hW.cell (p := ⟨gr, j * 7 + 6, none⟩) hg2).trans e6
                simp [Instr.loadAt, go_sem, t0, t1, t2, t3, t4, t5, t6]
              clear hU hzx e0 e1 e2 e3 e4 e6 LW
              go_wp2_with fail
              refine wp_region_FT 45 7 [42] (fun _ x W => ∃ A c, x = .slice A zx.length c ∧ zx.length ≤ c ∧ Nums .u8 W W.heap.size A zx) (fun W => Below wr.heap.size wr W) (by kernel_rfl) (by kernel_rfl) (by rfl) (by kernel_rfl) (by kernel_rfl) (by kernel_rfl) (by rfl) (by simp) (fun W W' h hb => h.trans (hb.mono h.size)) (fun _ x W W' h hb => by
                obtain ⟨A, c, h1, h2, h3⟩ := h
                exact ⟨A, c, h1, h2, (h3.below hb).mono hb.size⟩) (Below.refl _ _).drew ?_
              simp only [List.take_succ_cons, List.take_zero, List.drop_succ_cons, List.drop_zero]
              repeat (refine wpF_pure rfl rfl ?_; go_big_quiet_step (fail); refine wpQuiet_nil ?_)
              refine wpF_load (ad := ⟨w.heap.size, 0, none⟩) (.agg (mC M P C)) rfl (by rfl) (by rfl) (by rfl) LM ?_
              simp only [Act.put, List.setIfInBounds_toArray, List.set_cons_succ, List.set_cons_zero]
              repeat (refine wpF_pure rfl rfl ?_; go_big_quiet_step (fail); refine wpQuiet_nil ?_)
              refine wpF_load (ad := ⟨gr, j * 7, none⟩) (.agg #[.string f.nm, .int .i64 f.so, .int .i64 f.pl, .int .i64 f.le, .int .i64 f.mo, .int .i64 f.si, .int .i64 f.ab]) rfl (by rfl) (by rfl) (by rfl) LG ?_
              simp only [Act.put, List.setIfInBounds_toArray, List.set_cons_succ, List.set_cons_zero]
              refine wpF_callsrc 42 (f := 37) (args := #[.agg (mC M P C), .agg #[.string f.nm, .int .i64 f.so, .int .i64 f.pl, .int .i64 f.le, .int .i64 f.mo, .int .i64 f.si, .int .i64 f.ab]]) (by simp) rfl rfl rfl (fun x => by first | rfl | (simp [go_sem]; done)) (fun W hW => KP.out W hW) ?_
              simp only [Act.put, List.setIfInBounds_toArray, List.set_cons_succ, List.set_cons_zero]
              intro xs w5 hb5 hxs
              obtain ⟨A1, cc1, hx1, hcc1, hna1⟩ := hxs 42 (by simp)
              simp only [fill, hx1]
              simp only [Act.put, List.setIfInBounds_toArray, List.set_cons_succ, List.set_cons_zero]
              have HM5 := Lib.hid (HM.out.later hb5)
              have HNA := Lib.hid hna1
              have HX1 : Hid (T.length + zx.length ≤ maxLen) := by show _ ≤ _; unfold maxLen; omega
              have HX2 : Hid ((T.length + zx.length) * 1 ≤ 140737488355328) := by show _ ≤ _; omega
              clear hna1 hxs hx1 hb5 KP HM LM LG e5 L0
              go_wp2_with (at_builtin; refine wpList_append_any rfl (.tmp 36) (.tmp 42) 49 rfl w4.heap.size 5 i0 (.int .u8 0) 1 Tryz.underlying49 hi hz0 hz1 hz2 rfl .u8 T zx _ rfl HM5.out.1 _ _ _ _ rfl rfl HNA.out HX1.out HX2.out HM5.out.2.size ?_)
              intro v7 w7 hown hgr
              have hm7 := HM5.out.more (zs := zx) (v' := v7) (by simpa using hown) hgr
              rw [← HU.out] at hm7
              have HF := Lib.hid hm7
              clear hm7 hown hgr HX1 HX2 HNA HM5
              go_wp2
              exact ⟨⟨j + 1, _, rfl, by omega, by go_num, HF⟩, by simp only [intOf]; omega⟩
            · have hU := HUM.out
              rw [if_neg hsi, List.append_nil, HT.out] at hU
              have HU := Lib.hid hU
              clear hU e0 e1 e2 e3 e4 e6
              go_wp2
              exact ⟨⟨j + 1, _, rfl, by omega, by go_num, by rw [HU.out]; exact HM⟩, by simp only [intOf]; omega⟩
          · obtain rfl : j = n := by omega
            have HF := Lib.hid HM.out
            go_wp2
            go_ret2
            exact ⟨_, rfl, by rw [HB.out]; exact HF.out.since (HB2.out.trans (HB4.out.mono (Nat.le_of_lt hl0)))⟩
      · have hr : benc M 1 = ([], E) := by unfold benc; rw [if_neg hv, hE, if_pos hE0]
        rw [hr]
        have e3 : (E != 0) = true := by simpa using hE0
        go_enter Tryz.func17, Tryz.ntmps17
        go_wp2_with (first | (rw [HW2.out]; refine wpList_load_run rfl 38 (.tmp 2) rfl (some ⟨w.heap.size, 0, none⟩) rfl (.agg (mC M P C)) (L0 w2 (Below.refl _ _)) ?_))
        refine (K1.out w2 (Below.refl _ _)).mono ?_
        rintro e w3 ⟨rfl, hb3⟩
        have L3 := Lib.hid (L0 w3 hb3)
        have HB3 := Lib.hid hb3
        have hs3 := hb3.size
        clear hb3
        go_wp2_with (refine wpList_load_run rfl 38 (.tmp 2) rfl (some ⟨w.heap.size, 0, none⟩) rfl (.agg (mC M P C)) L3.out ?_)
        refine (K1.out w3 HB3.out).mono ?_
        rintro e w4 ⟨rfl, hb4⟩
        have HB4 := Lib.hid (HB2.out.trans ((HB3.out.trans (hb4.mono hs3)).mono (Nat.le_of_lt hl0)))
        clear hb4 L3 L0 K1
        go_wp2
        go_ret2
        exact ⟨_, rfl, World.ownsRow_nil _ _ _ _, HB4.out⟩
    · by_cases hE0 : E = 0
      · have hr : benc M 2 = (body M 2, 0) := by unfold benc; rw [if_neg hv, hE, if_neg (by simpa using hE0)]
        rw [hr]
        subst hE0
        have hmck := hE
        rw [mck_zero] at hE
        obtain ⟨hE1, hE2, _⟩ := hE
        have HFE := Lib.hid (show ∀ f ∈ FD M.k, FdX f ∧ fE M f = 0 from fun f hf => ⟨FD_fdx M.k f hf, hE2 f hf⟩)
        have h6 := FD_few M.k
        have k0 := row_cell HQ0.out 0 (.int .i64 M.k) rfl
        have HK0 := Lib.hid k0
        have K2 := Lib.hid (rall_any M.k)
        have HB : Hid (body M 2 = upto M 2 (FD M.k) (FD M.k).length) := by show _ = _; unfold body upto FDv; rw [List.take_length]
        obtain ⟨L, hL⟩ : ∃ L, FD M.k = L := ⟨_, rfl⟩
        rw [hL] at HFE h6 HB
        have HL := Lib.hid hL
        obtain ⟨n, hn⟩ : ∃ n, L.length = n := ⟨_, rfl⟩
        rw [hn] at HB h6
        have HN := Lib.hid hn
        clear hE1 hE2 hmck hL hn hr k0
        go_enter Tryz.func17, Tryz.ntmps17
        go_wp2_with (first | (rw [HW2.out]; refine wpList_load_run rfl 38 (.tmp 2) rfl (some ⟨w.heap.size, 0, none⟩) rfl (.agg (mC M P C)) (L0 w2 (Below.refl _ _)) ?_))
        refine (K1.out w2 (Below.refl _ _)).mono ?_
        rintro e w3 ⟨rfl, hb3⟩
        have HK3 := Lib.hid ((hb3.cell (p := ⟨w.heap.size, 0, none⟩) hl0).trans HK0.out)
        have c0 := HK3.out
        have hs3 := hb3.size
        have HB3 := Lib.hid hb3
        clear hb3 K1
        go_wp2_with fail
        refine (K2.out w3).mono ?_
        rintro e w4 ⟨Ad, c, rfl, hcap, hrow, hb4⟩
        rw [HL.out] at hcap hrow ⊢
        rw [HN.out] at hcap ⊢
        have HB4 := Lib.hid (HB3.out.trans (hb4.mono hs3))
        have HR := Lib.hid hrow
        have hs4 := hb4.size
        have hcap' : (n : Int) ≤ (c : Int) := by omega
        clear hrow hb4 c0 K2 HK3
        go_wp2_with fail
        go_loopw [7, 8] (fun ov iv wr => ∃ (j : Nat) (x : Value), x = ov ∧ j ≤ n ∧ iv = .int .i64 (j : Int) ∧ Hid (Made w4 wr (upto M 2 L j) x)) (fun _ iv _ => n - (intOf iv).toNat)
        case atStart => exact ⟨0, _, rfl, by omega, rfl, Lib.hid ⟨World.ownsRow_nil _ _ _ _, Below.refl _ _⟩⟩
        case round =>
          obtain ⟨j, x, rfl, hj, rfl, HM⟩ := hrel
          rcases Nat.lt_or_ge j n with hlt | hge
          · obtain ⟨f, hf⟩ : ∃ f, L[j]? = some f := ⟨_, List.getElem?_eq_getElem (by rw [HN.out]; exact hlt)⟩
            obtain ⟨gr, rfl, hg1, hg2, e0, e1, e2, e3, e4, e5, e6⟩ := (FdsIn.up HR.out HM.out.2).seven hf
            have hj2 : (j : Int) < (n : Int) := by omega
            have hj7 : j ≤ 6 := by omega
            have HUM := Lib.hid (upto_more (M := M) (v := 2) hf)
            obtain ⟨hfx, hfe⟩ := HFE.out f (List.mem_of_getElem? hf)
            have hTl := upto_le (M := M) (v := 2) j HFE.out (by rw [HN.out]; exact h6)
            obtain ⟨T, hT⟩ : ∃ T, upto M 2 L j = T := ⟨_, rfl⟩
            rw [hT] at HM hTl
            have HT := Lib.hid hT
            clear hT hf
            by_cases hsi : f.si ≤ 2
            · have hU := HUM.out
              rw [if_pos hsi, HT.out] at hU
              obtain ⟨zx, hzx⟩ : ∃ zx, mpart M f = zx := ⟨_, rfl⟩
              have hlx : zx.length ≤ 129 := by
                rw [← hzx]
                refine Nat.le_trans (part_len hfx hfe) ?_
                unfold bnd
                repeat' split
                all_goals omega
              rw [hzx] at hU
              have HU := Lib.hid hU
              have hs2w : w2.heap.size ≤ w4.heap.size := HB4.out.size
              have hswr := HM.out.2.size
              have LW : ∀ W, Below wr.heap.size wr W → Below w2.heap.size w2 W := fun W hW => HB4.out.trans ((HM.out.2.trans (hW.mono hswr)).mono hs2w)
              have KP : Hid (∀ W, Below wr.heap.size wr W → Calls Tryz.prog 37 #[.agg (mC M P C), .agg #[.string f.nm, .int .i64 f.so, .int .i64 f.pl, .int .i64 f.le, .int .i64 f.mo, .int .i64 f.si, .int .i64 f.ab]] W fun e w' => ∃ u, e = .returned u ∧ (∃ A c, u = .slice A zx.length c ∧ zx.length ≤ c ∧ Nums .u8 w' w'.heap.size A zx) ∧ Below W.heap.size W w') := Lib.hid fun W hW => by
                refine (rpart_any M f P C W (HMA.out.later (LW W hW)) hfx hfe).mono fun e w' h => ?_
                obtain ⟨u, h1, h2⟩ := h
                rw [hzx] at h2
                obtain ⟨A, c, h3, h4, h5⟩ := h2.slice
                exact ⟨u, h1, ⟨A, c, h3, h4, h5⟩, h2.2⟩
              have LM : ∀ W, Below wr.heap.size wr W → (Instr.loadAt 38 (.pointer (some ⟨w.heap.size, 0, none⟩))).run Tryz.prog W = .ok (.agg (mC M P C)) W := fun W hW => L0 W (LW W hW)
              have LG : ∀ W, Below wr.heap.size wr W → (Instr.loadAt 81 (.pointer (some ⟨gr, j * 7, none⟩))).run Tryz.prog W = .ok (.agg #[.string f.nm, .int .i64 f.so, .int .i64 f.pl, .int .i64 f.le, .int .i64 f.mo, .int .i64 f.si, .int .i64 f.ab]) W := fun W hW => by
                have t0 := (hW.cell (p := ⟨gr, j * 7, none⟩) hg2).trans e0
                have t1 := (hW.cell (p := ⟨gr, j * 7 + 1, none⟩) hg2).trans e1
                have t2 := (hW.cell (p := ⟨gr, j * 7 + 2, none⟩) hg2).trans e2
                have t3 := (hW.cell (p := ⟨gr, j * 7 + 3, none⟩) hg2).trans e3
                have t4 := (hW.cell (p := ⟨gr, j * 7 + 4, none⟩) hg2).trans e4
                have t5 := (hW.cell (p := ⟨gr, j * 7 + 5, none⟩) hg2).trans e5
                have t6 := (hW.cell (p := ⟨gr, j * 7 + 6, none⟩) hg2).trans e6
                simp [Instr.loadAt, go_sem, t0, t1, t2, t3, t4, t5, t6]
              clear hU hzx e0 e1 e2 e3 e4 e6 LW
              go_wp2_with fail
              refine wp_region_FT 45 7 [42] (fun _ x W => ∃ A c, x = .slice A zx.length c ∧ zx.length ≤ c ∧ Nums .u8 W W.heap.size A zx) (fun W => Below wr.heap.size wr W) (by kernel_rfl) (by kernel_rfl) (by rfl) (by kernel_rfl) (by kernel_rfl) (by kernel_rfl) (by rfl) (by simp) (fun W W' h hb => h.trans (hb.mono h.size)) (fun _ x W W' h hb => by
                obtain ⟨A, c, h1, h2, h3⟩ := h
                exact ⟨A, c, h1, h2, (h3.below hb).mono hb.size⟩) (Below.refl _ _).drew ?_
              simp only [List.take_succ_cons, List.take_zero, List.drop_succ_cons, List.drop_zero]
              repeat (refine wpF_pure rfl rfl ?_; go_big_quiet_step (fail); refine wpQuiet_nil ?_)
              refine wpF_load (ad := ⟨w.heap.size, 0, none⟩) (.agg (mC M P C)) rfl (by rfl) (by rfl) (by rfl) LM ?_
              simp only [Act.put, List.setIfInBounds_toArray, List.set_cons_succ, List.set_cons_zero]
              repeat (refine wpF_pure rfl rfl ?_; go_big_quiet_step (fail); refine wpQuiet_nil ?_)
              refine wpF_load (ad := ⟨gr, j * 7, none⟩) (.agg #[.string f.nm, .int .i64 f.so, .int .i64 f.pl, .int .i64 f.le, .int .i64 f.mo, .int .i64 f.si, .int .i64 f.ab]) rfl (by rfl) (by rfl) (by rfl) LG ?_
              simp only [Act.put, List.setIfInBounds_toArray, List.set_cons_succ, List.set_cons_zero]
              refine wpF_callsrc 42 (f := 37) (args := #[.agg (mC M P C), .agg #[.string f.nm, .int .i64 f.so, .int .i64 f.pl, .int .i64 f.le, .int .i64 f.mo, .int .i64 f.si, .int .i64 f.ab]]) (by simp) rfl rfl rfl (fun x => by first | rfl | (simp [go_sem]; done)) (fun W hW => KP.out W hW) ?_
              simp only [Act.put, List.setIfInBounds_toArray, List.set_cons_succ, List.set_cons_zero]
              intro xs w5 hb5 hxs
              obtain ⟨A1, cc1, hx1, hcc1, hna1⟩ := hxs 42 (by simp)
              simp only [fill, hx1]
              simp only [Act.put, List.setIfInBounds_toArray, List.set_cons_succ, List.set_cons_zero]
              have HM5 := Lib.hid (HM.out.later hb5)
              have HNA := Lib.hid hna1
              have HX1 : Hid (T.length + zx.length ≤ maxLen) := by show _ ≤ _; unfold maxLen; omega
              have HX2 : Hid ((T.length + zx.length) * 1 ≤ 140737488355328) := by show _ ≤ _; omega
              clear hna1 hxs hx1 hb5 KP HM LM LG e5 L0
              go_wp2_with (at_builtin; refine wpList_append_any rfl (.tmp 36) (.tmp 42) 49 rfl w4.heap.size 5 i0 (.int .u8 0) 1 Tryz.underlying49 hi hz0 hz1 hz2 rfl .u8 T zx _ rfl HM5.out.1 _ _ _ _ rfl rfl HNA.out HX1.out HX2.out HM5.out.2.size ?_)
              intro v7 w7 hown hgr
              have hm7 := HM5.out.more (zs := zx) (v' := v7) (by simpa using hown) hgr
              rw [← HU.out] at hm7
              have HF := Lib.hid hm7
              clear hm7 hown hgr HX1 HX2 HNA HM5
              go_wp2
              exact ⟨⟨j + 1, _, rfl, by omega, by go_num, HF⟩, by simp only [intOf]; omega⟩
            · have hU := HUM.out
              rw [if_neg hsi, List.append_nil, HT.out] at hU
              have HU := Lib.hid hU
              clear hU e0 e1 e2 e3 e4 e6
              go_wp2
              exact ⟨⟨j + 1, _, rfl, by omega, by go_num, by rw [HU.out]; exact HM⟩, by simp only [intOf]; omega⟩
          · obtain rfl : j = n := by omega
            have HF := Lib.hid HM.out
            go_wp2
            go_ret2
            exact ⟨_, rfl, by rw [HB.out]; exact HF.out.since (HB2.out.trans (HB4.out.mono (Nat.le_of_lt hl0)))⟩
      · have hr : benc M 2 = ([], E) := by unfold benc; rw [if_neg hv, hE, if_pos hE0]
        rw [hr]
        have e3 : (E != 0) = true := by simpa using hE0
        go_enter Tryz.func17, Tryz.ntmps17
        go_wp2_with (first | (rw [HW2.out]; refine wpList_load_run rfl 38 (.tmp 2) rfl (some ⟨w.heap.size, 0, none⟩) rfl (.agg (mC M P C)) (L0 w2 (Below.refl _ _)) ?_))
        refine (K1.out w2 (Below.refl _ _)).mono ?_
        rintro e w3 ⟨rfl, hb3⟩
        have L3 := Lib.hid (L0 w3 hb3)
        have HB3 := Lib.hid hb3
        have hs3 := hb3.size
        clear hb3
        go_wp2_with (refine wpList_load_run rfl 38 (.tmp 2) rfl (some ⟨w.heap.size, 0, none⟩) rfl (.agg (mC M P C)) L3.out ?_)
        refine (K1.out w3 HB3.out).mono ?_
        rintro e w4 ⟨rfl, hb4⟩
        have HB4 := Lib.hid (HB2.out.trans ((HB3.out.trans (hb4.mono hs3)).mono (Nat.le_of_lt hl0)))
        clear hb4 L3 L0 K1
        go_wp2
        go_ret2
        exact ⟨_, rfl, World.ownsRow_nil _ _ _ _, HB4.out⟩
end Go.Proofs.YtlbfibnfmijahaaGreat
