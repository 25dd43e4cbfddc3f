/-
  A part of the texts of one proof, put together: Q2, Q20, ResR, Bts, SerN, WinN, SerA, Mem, Row, WinM, WinL, WinV, WinW, Q3, Q11, WinX, Map, SloN, HdN, Given.
-/
import Derived.Deep.Quiet
import Derived.BigQuiet
import Derived.Deep.WholeRow
import Derived.Deep.MidRow
import Derived.Laws.CopyRow
import Derived.Laws.Rows
import Derived.WalkKit
import Derived.ProofKit
import Derived.OpenShut
import Derived.Test.YtfdbcfkjablnkaaGreatRows
import Derived.WalkSpells
import Derived.Lib.Hide
import Derived.Deep.Draws
import Derived.Laws.OwnMore
import Derived.Deep.AppendLies
import Derived.Maps.AppendAt
import Derived.Laws.CopyOwn
import Derived.Lib.AppendZerosOnto
import Derived.Laws.ShiftsVarLaws
import Derived.RangeFuncNested
import Derived.Maps.RangeWalk
import Derived.Sort.MapsRangeIn
import Derived.RangeFuncRecord
import Derived.Below
import Derived.RangeFuncBox
import Derived.RangeFuncWrites
import Derived.RangeFuncLeaves
import Derived.OwnWalkIn
namespace Go.Proofs.YtfdbcfkjablnkaaGreat
section
variable {P : Program} {ops : Array Oper} {md : Region.Mode}

/-- 0: it looks at no memory and enters no function; 2: a store; 1: all others -/
def pureOp (o : Oper) : Bool :=
  match o.op with
  | .move _ | .assign _ | .binOp _ _ _ _ _ | .unOp _ _ _ | .convert _ _ _ | .slice _ _ _ _ _ | .fieldAddr _ _ _ | .indexAddr _ _ _ | .extract _ _ | .pick _ _ _ => true
  | .call c =>
    match c.callee with
    | .builtin .len | .builtin .cap | .builtin .min | .builtin .max => true
    | _ => false
  | _ => false
def kindOf (o : Oper) : Nat :=
  if pureOp o then 0 else match o.op with
    | .store _ _ _ => 2
    | _ => 1
theorem run_value (s : Sem Value) (w w' : World) (f : FuncId) (args : Array Value) : (do pure (Next.value (← s)) : Sem Next).run P w ≠ .ok (.enter f args) w' := by
  intro h
  rw [Sem.run_bind] at h
  cases hs : s.run P w with
  | ok x w1 => rw [hs] at h; simp [Result.andThen] at h
  | halt x w1 => rw [hs] at h; simp [Result.andThen] at h
theorem andThen_value (r : Result Value) (w' : World) (f : FuncId) (args : Array Value) : (r.andThen fun a w' => Result.ok (Next.value a) w') ≠ .ok (.enter f args) w' := by
  intro h
  cases r <;> simp [Result.andThen] at h
theorem pure_no_enter {o : Oper} (ho : pureOp o = true) (ρ : Operand → Value) (w w' : World) (f : FuncId) (args : Array Value) : (execOp ρ o).run P w ≠ .ok (.enter f args) w' := by
  unfold pureOp at ho
  unfold execOp
  cases hop : o.op <;> simp only [hop] at ho ⊢ <;> try contradiction
  all_goals first
    | exact run_value _ _ _ _ _
    | (intro h; simp at h; done)
    | skip
  case pick c x y =>
    intro h
    rw [Sem.run_bind] at h
    cases hs : (asBool (ρ c)).run P w with
    | ok x w1 => rw [hs] at h; simp [Result.andThen] at h
    | halt x w1 => rw [hs] at h; simp [Result.andThen] at h
  case call c =>
    obtain ⟨callee, cargs, cts⟩ := c
    cases callee with
    | builtin b =>
      cases b <;> simp at ho <;>
      · intro h
        simp [resolve, invoke, builtin] at h
        exact andThen_value _ _ _ _ h
    | _ => simp at ho

def stepUpon (C' : World → Prop) (v : Value) : Result Next → Prop
  | .ok (.value u) w' => u = v ∧ C' w'
  | .ok .skip w' => v = undef ∧ C' w'
  | _ => False
def StepsIn (P : Program) (ops : Array Oper) (C C' : World → Prop) (o : Oper) (v : Value) (a : Act) : Prop :=
  (Region.wanted o (yielded ops a.tmps) = true ∧ ∀ w, C w → stepUpon C' v ((execOp a.eval o).run P w)) ∨ (Region.wanted o (yielded ops a.tmps) = false ∧ v = undef ∧ C' = C)
/-- what an operation does to the class of worlds, and its value -/
def OpR (P : Program) (ops : Array Oper) (C C' : World → Prop) (o : Oper) (v : Value) (a : Act) : Prop :=
  (kindOf o = 0 ∧ C' = C ∧ YieldsIn P ops (fun _ => True) o v a) ∨ (kindOf o = 1 ∧ C' = C ∧ YieldsIn P ops C o v a) ∨ (kindOf o = 2 ∧ StepsIn P ops C C' o v a)
theorem kind_pure {o : Oper} (h : kindOf o = 0) : pureOp o = true := by
  unfold kindOf at h
  split at h
  · assumption
  · split at h <;> simp at h
theorem yields_pure {o : Oper} {v : Value} {a : Act} (hk : kindOf o = 0) (h : YieldsIn P ops (fun _ => True) o v a) (C : World → Prop) : YieldsIn P ops C o v a := by
  rcases h with ⟨hw, h⟩ | h
  · refine .inl ⟨hw, fun w _ => ?_⟩
    have h1 := h w trivial
    have h2 := pure_no_enter (P := P) (kind_pure hk) a.eval w
    unfold Oper.quietAt at h1 ⊢
    generalize (execOp a.eval o).run P w = r at h1 h2
    cases r with
    | ok n w' =>
      cases n with
      | enter f args => exact absurd rfl (h2 w' f args)
      | _ => exact h1
    | halt x w' => exact h1
  · exact .inr h
theorem OpR.of_same {C C' : World → Prop} {o : Oper} {v : Value} {a a' : Act} (h : OpR P ops C C' o v a) (he : execOp a'.eval o = execOp a.eval o) (hw : Region.wanted o (yielded ops a'.tmps) = Region.wanted o (yielded ops a.tmps)) : OpR P ops C C' o v a' := by
  rcases h with ⟨hk, hc, h⟩ | ⟨hk, hc, h⟩ | ⟨hk, h⟩
  · exact .inl ⟨hk, hc, h.of_same he hw⟩
  · exact .inr (.inl ⟨hk, hc, h.of_same he hw⟩)
  · refine .inr (.inr ⟨hk, ?_⟩)
    unfold StepsIn at *
    rw [he, hw]
    exact h
theorem OpR.wpOp {C C' : World → Prop} {i : Nat} {o : Oper} {v : Value} {a : Act} {K : Act → World → Prop} {Q' : Exit → Act → World → Prop} {w : World} (hi : ops[i]? = some o) (h : OpR P ops C C' o v a) (hC : C w) (hK : ∀ w', C' w' → K (a.put o.dst v) w') : wpOp P ops Q' i K a w := by
  have quiet : ∀ {D : World → Prop}, D w → (∀ w', D w' → K (a.put o.dst v) w') → YieldsIn P ops D o v a → Go.wpOp P ops Q' i K a w := fun {D} hD hK hy => by
    unfold Go.wpOp
    simp only [hi]
    rcases hy with ⟨hw, hv⟩ | ⟨hw, rfl⟩
    · simp only [hw, if_true]
      exact .inl (Oper.wp_of_quiet (C := D) (K := fun a' => a' = a.put o.dst v) hD (fun a' w' hw' e => by subst e; exact hK w' hw') ⟨v, hv, rfl⟩)
    · simp only [hw, Bool.false_eq_true, if_false]
      exact hK w hD
  rcases h with ⟨hk, rfl, h⟩ | ⟨hk, rfl, h⟩ | ⟨hk, h⟩
  · exact quiet hC hK (yields_pure hk h _)
  · exact quiet hC hK h
  · unfold Go.wpOp
    simp only [hi]
    rcases h with ⟨hw, hv⟩ | ⟨hw, rfl, rfl⟩
    · simp only [hw, if_true]
      left
      have h1 := hv w hC
      unfold Oper.wp
      generalize (execOp a.eval o).run P w = r at h1
      cases r with
      | ok n w' =>
        cases n <;> simp only [stepUpon] at h1 <;> simp only [Oper.upon]
        case value u => rw [h1.1]; exact hK w' h1.2
        case skip => rw [← h1.1]; exact hK w' h1.2
      | halt x w' => simp only [stepUpon] at h1
    · simp only [hw, Bool.false_eq_true, if_false]
      exact hK w hC

/-- whatever order is picked from here on -/
def wpAny2 (P : Program) (md : Region.Mode) (ops : Array Oper) (Q : (World → Prop) → Act → Prop) : Nat → Array Bool → (World → Prop) → Act → Prop
  | 0, listed, C, a => Region.ready md ops listed = [] ∧ Q C a
  | fuel + 1, listed, C, a =>
    (Region.ready md ops listed = [] → Q C a) ∧
    ∀ i ∈ Region.ready md ops listed, ∀ o, ops[i]? = some o → ∃ v C', OpR P ops C C' o v a ∧ wpAny2 P md ops Q fuel (listed.setIfInBounds i true) C' (a.put o.dst v)
theorem wpAny_of_2 {Q : (World → Prop) → Act → Prop} {Q' : Exit → Act → World → Prop} (hQ : ∀ (C : World → Prop) a w, C w → Q C a → Q' .normal a w) : ∀ (fuel : Nat) (listed : Array Bool) (C : World → Prop) (a : Act) (w : World), C w →
    wpAny2 P md ops Q fuel listed C a → wpAny P md ops Q' fuel listed a w
  | 0, _, _, _, _, hw, h => ⟨h.1, hQ _ _ _ hw h.2⟩
  | fuel + 1, _, _, _, _, hw, h => ⟨fun h0 => hQ _ _ _ hw (h.1 h0), fun i hi => by
      obtain ⟨_, o, ho, _⟩ := mem_ready.1 hi
      obtain ⟨v, C', hr, hn⟩ := h.2 i hi o ho
      exact hr.wpOp ho hw fun w' hw' => wpAny_of_2 hQ fuel _ C' _ w' hw' hn⟩

/-- nothing that may come up beside it stands in its way -/
def free2 (md : Region.Mode) (ops : Array Oper) (listed : Array Bool) (k : Nat) : Bool :=
  match ops[k]? with
  | none => false
  | some ok => (List.range ops.size).all fun j => j == k || listed.getD j true ||
    (match ops[j]? with
     | some oj => oj.after.any (fun e => Region.binds md e && e.on == k) || (ok.apart ops oj && (kindOf ok == 0 || (kindOf ok == 1 && kindOf oj != 2)))
     | none => true)
def Free (md : Region.Mode) (ops : Array Oper) (listed : Array Bool) (i : Nat) (oi : Oper) : Prop :=
  ∀ j oj, ops[j]? = some oj → j ≠ i → listed.getD j true = false → (∀ e ∈ oj.after, Region.binds md e = true → e.on ≠ i) → oi.apart ops oj = true ∧ (kindOf oi = 0 ∨ (kindOf oi = 1 ∧ kindOf oj ≠ 2))
theorem free2_spec {i : Nat} {oi : Oper} {listed : Array Bool} (hi : ops[i]? = some oi) (h : free2 md ops listed i = true) : Free md ops listed i oi := by
  intro j oj hj hne hun hno
  simp only [free2, hi, List.all_eq_true, List.mem_range] at h
  have h1 := h j (Array.getElem?_eq_some_iff.1 hj).1
  simp only [hj, Bool.or_eq_true, beq_iff_eq, hne, false_or, hun, Bool.false_eq_true, Bool.and_eq_true, bne_iff_ne, ne_eq] at h1
  rcases h1 with h1 | h1
  · obtain ⟨e, he, hb⟩ := Array.any_eq_true'.1 h1
    simp only [Bool.and_eq_true, beq_iff_eq] at hb
    exact absurd hb.2 (hno e he hb.1)
  · exact h1
/-- an operation that may come up now may be taken first -/
theorem wpAny2_first {Q : (World → Prop) → Act → Prop} {i : Nat} {oi : Oper} {v : Value} (hi : ops[i]? = some oi) (hsel : ∀ (j : Nat) (o : Oper) cs b, ops[j]? = some o → o.op ≠ .select cs b) :
    ∀ (fuel : Nat) (listed : Array Bool) (C C1 : World → Prop) (a : Act), Free md ops listed i oi → i ∈ Region.ready md ops listed → OpR P ops C C1 oi v a →
      wpAny2 P md ops Q fuel (listed.setIfInBounds i true) C1 (a.put oi.dst v) → wpAny2 P md ops Q (fuel + 1) listed C a := by
  intro fuel
  induction fuel with
  | zero =>
    intro listed C C1 a _ hr hy H
    refine ⟨fun h => (by rw [h] at hr; cases hr), fun j hj o ho => ?_⟩
    by_cases hji : j = i
    · subst hji
      have : o = oi := Option.some.inj (ho.symm.trans hi)
      subst this
      exact ⟨v, C1, hy, H⟩
    · have := ready_mono hj hji
      rw [H.1] at this
      cases this
  | succ fuel ih =>
    intro listed C C1 a hfree hr hy H
    refine ⟨fun h => (by rw [h] at hr; cases hr), fun j hj oj hoj => ?_⟩
    by_cases hji : j = i
    · subst hji
      have : oj = oi := Option.some.inj (hoj.symm.trans hi)
      subst this
      exact ⟨v, C1, hy, H⟩
    · obtain ⟨hjun, oj', hoj', hall⟩ := mem_ready.1 hj
      have : oj' = oj := Option.some.inj (hoj'.symm.trans hoj)
      subst this
      have hnot : ∀ e ∈ oj'.after, Region.binds md e = true → e.on ≠ i := fun e he hb heq => by
        have h1 := hall e he hb
        have h0 := (mem_ready.1 hr).1
        rw [heq] at h1
        rcases Nat.lt_or_ge i listed.size with h' | h'
        · simp [h'] at h0 h1; rw [h0] at h1; cases h1
        · simp [Array.getElem?_eq_none h'] at h1
      obtain ⟨hap, hkind⟩ := hfree j oj' hoj hji hjun hnot
      obtain ⟨p1, p2, p3⟩ := Oper.apart_spec hap
      have hC1 : C1 = C := by
        rcases hy with ⟨_, h, _⟩ | ⟨_, h, _⟩ | ⟨hk2, _⟩
        · exact h
        · exact h
        · rcases hkind with h | ⟨h, _⟩ <;> rw [h] at hk2 <;> simp at hk2
      subst hC1
      obtain ⟨u, C2, hR, hn⟩ := H.2 j (ready_mono hj hji) oj' hoj
      have hsi : ∀ cs b, oi.op ≠ .select cs b := fun cs b => hsel i oi cs b hi
      have hsj : ∀ cs b, oj'.op ≠ .select cs b := fun cs b => hsel j oj' cs b hoj
      have hRa : OpR P ops C1 C2 oj' u a := hR.of_same (execOp_put oj' hsj a oi.dst v p1).symm (wanted_put oj' a oi.dst v p1).symm
      have hyu : OpR P ops C2 C2 oi v (a.put oj'.dst u) := by
        have h0 := hy.of_same (a' := a.put oj'.dst u) (execOp_put oi hsi a oj'.dst u p3) (wanted_put oi a oj'.dst u p3)
        rcases h0 with ⟨hk, _, h⟩ | ⟨hk, _, h⟩ | ⟨hk, _⟩
        · exact .inl ⟨hk, rfl, h⟩
        · have hC2 : C2 = C1 := by
            rcases hkind with h' | ⟨_, h'⟩
            · rw [hk] at h'; simp at h'
            · rcases hR with ⟨_, h2, _⟩ | ⟨_, h2, _⟩ | ⟨h2, _⟩
              · exact h2
              · exact h2
              · exact absurd h2 h'
          subst hC2
          exact .inr (.inl ⟨hk, rfl, h⟩)
        · rcases hkind with h' | ⟨h', _⟩ <;> rw [hk] at h' <;> simp at h'
      refine ⟨u, C2, hRa, ih (listed.setIfInBounds j true) C2 C2 _ ?_ (ready_mono hr (Ne.symm hji)) hyu ?_⟩
      · intro k ok hk hki hun hno
        refine hfree k ok hk hki ?_ hno
        by_cases hjk : j = k
        · subst hjk; exact hjun
        · rw [getD_set_ne true hjk] at hun; exact hun
      · rw [Array.setIfInBounds_comm _ _ hji]
        rw [Act.put_comm a v u p2] at hn
        exact hn

def lexFrom2 (md : Region.Mode) (ops : Array Oper) : Nat → Nat → Array Bool → Bool
  | 0, _, listed => (Region.ready md ops listed).isEmpty
  | fuel + 1, k, listed => (Region.ready md ops listed).contains k && free2 md ops listed k && lexFrom2 md ops fuel (k + 1) (listed.setIfInBounds k true)
def lexB2 (md : Region.Mode) (ops : Array Oper) : Bool := Region.noSelect ops && lexFrom2 md ops ops.size 0 (Array.replicate ops.size false)
/-- the walk in the text's order -/
def wpQ2 (P : Program) (ops : Array Oper) (Q : (World → Prop) → Act → Prop) : List Oper → (World → Prop) → Act → Prop
  | [], C, a => Q C a
  | o :: rest, C, a => ∃ v C', OpR P ops C C' o v a ∧ wpQ2 P ops Q rest C' (a.put o.dst v)
theorem wpAny2_lex {Q : (World → Prop) → Act → Prop} (hs : Region.noSelect ops = true) : ∀ (l : List Oper) (k : Nat) (listed : Array Bool) (C : World → Prop) (a : Act), (∀ j, l[j]? = ops[k + j]?) →
    lexFrom2 md ops l.length k listed = true → wpQ2 P ops Q l C a → wpAny2 P md ops Q l.length listed C a
  | [], _, _, _, _, _, hB, h => ⟨by simpa [lexFrom2] using hB, h⟩
  | o :: l, k, listed, C, a, hl, hB, h => by
    have h0 : ops[k]? = some o := by simpa using (hl 0).symm
    simp only [List.length_cons, lexFrom2, Bool.and_eq_true] at hB
    obtain ⟨⟨hr, hf⟩, hB'⟩ := hB
    obtain ⟨v, C', hR, hn⟩ := h
    exact wpAny2_first h0 (Region.noSelect_spec hs) l.length listed C C' a (free2_spec h0 hf) (by simpa using hr) hR
      (wpAny2_lex hs l (k + 1) _ C' _ (fun j => by have := hl (j + 1); simpa [Nat.add_assoc, Nat.add_comm 1 j] using this) hB' hn)
/-- ONE WALK IN THE TEXT's ORDER SERVES EVERY ORDER -/
theorem wp_region_lex2 {id : Nat} {Q : Exit → Act → World → Prop} {a : Act} {w : World} {l : List Oper} {C : World → Prop} (hm : P.follows .mixedOrders = true) (hB : lexB2 .any l.toArray = true) (hC : C w.drew)
    (h : wpQ2 P l.toArray (fun C a' => ∀ w', C w' → Q .normal a' w') l C a) : (Code.region id l.toArray true).wp P Q a w := by
  simp only [lexB2, Bool.and_eq_true] at hB
  refine wp_region_any hm (wpAny_of_2 (Q := fun C a' => ∀ w', C w' → Q .normal a' w') (fun C a w' hw' h => h w' hw') _ _ C _ _ hC ?_)
  have := wpAny2_lex (md := .any) hB.1 l 0 (Array.replicate l.toArray.size false) C a (by simp) (by simpa using hB.2) h
  simpa using this
/-! one operation of the walk -/
theorem wpQ2_quiet {Q : (World → Prop) → Act → Prop} {o : Oper} {rest : List Oper} {C D : World → Prop} {a : Act} (hk : (kindOf o = 0 ∧ D = fun _ => True) ∨ (kindOf o = 1 ∧ D = C)) (h : wpQuiet P ops D (fun a' => wpQ2 P ops Q rest C a') [o] a) : wpQ2 P ops Q (o :: rest) C a := by
  have key : ∃ v, YieldsIn P ops D o v a ∧ wpQ2 P ops Q rest C (a.put o.dst v) := by
    unfold wpQuiet at h
    by_cases hw : Region.wanted o (yielded ops a.tmps) = true
    · simp only [hw, if_true] at h
      obtain ⟨v, h1, h2⟩ := h
      exact ⟨v, .inl ⟨hw, h1⟩, h2⟩
    · simp only [hw] at h
      exact ⟨undef, .inr ⟨by simpa using hw, rfl⟩, h⟩
  obtain ⟨v, hy, hn⟩ := key
  rcases hk with ⟨hk, rfl⟩ | ⟨hk, rfl⟩
  · exact ⟨v, C, .inl ⟨hk, rfl, hy⟩, hn⟩
  · exact ⟨v, D, .inr (.inl ⟨hk, rfl, hy⟩), hn⟩
theorem wpQ2_pure {Q : (World → Prop) → Act → Prop} {o : Oper} {rest : List Oper} {C : World → Prop} {a : Act} (hk : kindOf o = 0) (h : wpQuiet P ops (fun _ => True) (fun a' => wpQ2 P ops Q rest C a') [o] a) : wpQ2 P ops Q (o :: rest) C a := wpQ2_quiet (.inl ⟨hk, rfl⟩) h
theorem wpQ2_look {Q : (World → Prop) → Act → Prop} {o : Oper} {rest : List Oper} {C : World → Prop} {a : Act} (hk : kindOf o = 1) (h : wpQuiet P ops C (fun a' => wpQ2 P ops Q rest C a') [o] a) : wpQ2 P ops Q (o :: rest) C a := wpQ2_quiet (.inr ⟨hk, rfl⟩) h
/-- a store of one cell -/
theorem wpQ2_store {Q : (World → Prop) → Act → Prop} {o : Oper} {rest : List Oper} {C : World → Prop} {a : Act} (C' : World → Prop) {t : TypeId} {x y : Operand} (ho : o.op = .store t x y) (hd : o.dst = none) (hg : o.guard = none) (ad : Addr) (v : Value) (hx : a.eval x = .pointer (some ad)) (hy : a.eval y = v)
    (hrun : ∀ w, C w → ∃ w', (Instr.storeAt t (.pointer (some ad)) v).run P w = .ok () w' ∧ C' w') (h : wpQ2 P ops Q rest C' a) : wpQ2 P ops Q (o :: rest) C a := by
  refine ⟨undef, C', .inr (.inr ⟨?_, .inl ⟨by simp [Region.wanted, hg], fun w hw => ?_⟩⟩), ?_⟩
  · simp [kindOf, pureOp, ho]
  · obtain ⟨w', hr, hc⟩ := hrun w hw
    unfold execOp
    simp only [ho, hx, hy]
    rw [Sem.run_bind, hr]
    exact ⟨rfl, hc⟩
  · rw [hd]; exact h
end
end Go.Proofs.YtfdbcfkjablnkaaGreat

namespace Go.Proofs.YtfdbcfkjablnkaaGreat
open Go.RowKit
section
variable {P : Program} {ops : Array Oper} {rest : List Oper} {op : Oper} {a : Act} {w w' : World} {Q : Exit → Act → World → Prop}
theorem wpList_load_run (hgd : op.guard = none) (ty : TypeId) (x : Operand) (ho : op.op = .load ty x) (ad : Option Addr) (hx : a.eval x = .pointer ad) (v : Value) (hr : (Instr.loadAt ty (.pointer ad)).run P w = .ok v w)
    (h : wpList P ops Q rest (a.put op.dst v) w) : wpList P ops Q (op :: rest) a w :=
  wpList_plain hgd fun _ hK => by
    unfold Oper.wp execOp
    simp only [ho, hx, Sem.run_bind, hr, Result.andThen_ok]
    exact hK _ _ h
/-- .. a guarded load -/
theorem wpList_load_rung (hwt : Region.wanted op (yielded ops a.tmps) = true) (ty : TypeId) (x : Operand) (ho : op.op = .load ty x) (ad : Option Addr) (hx : a.eval x = .pointer ad) (v : Value) (hr : (Instr.loadAt ty (.pointer ad)).run P w = .ok v w)
    (h : wpList P ops Q rest (a.put op.dst v) w) : wpList P ops Q (op :: rest) a w := by
  simp only [wpList, hwt, if_true]
  left
  unfold Oper.wp execOp
  simp only [ho, hx, Sem.run_bind, hr, Result.andThen_ok]
  exact h
theorem wpList_build_run (hgd : op.guard = none) (ty : TypeId) (parts : Array (Nat × Operand)) (ho : op.op = .build ty parts) (ps : List (Nat × Value)) (hp : (parts.toList.map fun p => (p.1, a.eval p.2)) = ps) (v : Value) (hr : (Instr.build ty ps.toArray).run P w = .ok v w)
    (h : wpList P ops Q rest (a.put op.dst v) w) : wpList P ops Q (op :: rest) a w :=
  wpList_plain hgd fun _ hK => by
    have hp2 : (parts.map fun p => (p.1, a.eval p.2)) = ps.toArray := by
      rw [← hp, ← Array.toList_map]
    unfold Oper.wp execOp
    simp only [ho, hp2, Sem.run_bind, hr, Result.andThen_ok]
    exact hK _ _ h
theorem wpList_store_run (hgd : op.guard = none) (ty : TypeId) (x y : Operand) (ho : op.op = .store ty x y) (ad : Option Addr) (hx : a.eval x = .pointer ad) (v : Value) (hy : a.eval y = v) (hr : (Instr.storeAt ty (.pointer ad) v).run P w = .ok () w')
    (h : wpList P ops Q rest (a.put op.dst undef) w') : wpList P ops Q (op :: rest) a w :=
  wpList_plain hgd fun _ hK => by
    unfold Oper.wp execOp
    simp only [ho, hx, hy, Sem.run_bind, hr, Result.andThen_ok]
    exact hK _ _ h
end
theorem fold_set (off : Nat) : ∀ (l : List Value) (i : Nat) (z : List Value), off + i + l.length ≤ z.length → (l.zipIdx i).foldl (fun (cs : Array Value) x => cs.setIfInBounds (off + x.2) x.1) z.toArray = (z.take (off + i) ++ l ++ z.drop (off + i + l.length)).toArray
  | [], i, z, _ => by simp
  | v :: r, i, z, h => by
    rw [List.length_cons] at h
    rw [List.zipIdx_cons, List.foldl_cons]
    have h1 : z.toArray.setIfInBounds (off + i) v = (z.set (off + i) v).toArray := by simp
    rw [h1, fold_set off r (i + 1) (z.set (off + i) v) (by rw [List.length_set]; omega), show off + (i + 1) = off + i + 1 by omega, list_seg_step z (off + i) v r (by omega)]
    rfl
/-- what 'fill' puts at one place -/
theorem fill_part (z cs : Array Value) (off : Nat) (h : off + cs.size ≤ z.size) : cs.zipIdx.foldl (fun (a : Array Value) x => a.setIfInBounds (off + x.2) x.1) z = (z.toList.take off ++ cs.toList ++ z.toList.drop (off + cs.size)).toArray := by
  have h1 := fold_set off cs.toList 0 z.toList (by rw [Nat.add_zero, Array.length_toList, Array.length_toList]; exact h)
  rw [Nat.add_zero, Array.toArray_toList, Array.length_toList] at h1
  rw [← h1, ← Array.foldl_toList, Array.toList_zipIdx]
theorem fill_cons {place : Nat → Option (Nat × Nat)} {cells out : Array Value} {i : Nat} {v : Value} {rest : List (Nat × Value)} {off size : Nat} (h : place i = some (off, size)) (hs : v.cells.size = size) (hf : off + v.cells.size ≤ cells.size)
    (ho : (cells.toList.take off ++ v.cells.toList ++ cells.toList.drop (off + v.cells.size)).toArray = out) : Instr.fill place cells ((i, v) :: rest) = Instr.fill place out rest := by
  rw [Instr.fill, h]
  have e1 : (decide (v.cells.size ≠ size)) = false := by simpa using hs
  have e2 : (decide (off + v.cells.size > cells.size)) = false := by simp; omega
  simp only [e1, e2, Bool.or_self, Bool.false_eq_true, if_false]
  rw [← ho, ← fill_part cells v.cells off hf]
/-- cells stored into a row from place o on -/
theorem run_store_part {P : Program} (W : World) (b o : Nat) (ty t : TypeId) (cur cs : Array Value) (h : W.heap[b]? = some (.cells cur t (0, 0))) (hfit : o + cs.size ≤ cur.size) (hi : (P.info? ty).map (·.size) = some cs.size) (h1 : cs.all (·.oneCell') = true) :
    (Instr.storeAt ty (.pointer (some ⟨b, o, none⟩)) (.agg cs)).run P W = .ok () (W.setRow b (cur.toList.take o ++ cs.toList ++ cur.toList.drop (o + cs.size)).toArray) := by
  have hst := run_storeCells_at (P := P) b o t cs.toList 0 cur W h (by rw [Array.length_toList]; omega) (fun v hv => (Array.all_eq_true_iff_forall_mem.1 h1) v (by simpa using hv))
  rw [Nat.add_zero, Array.length_toList] at hst
  cases hq : P.info? ty with
  | none => simp [hq] at hi
  | some i =>
    have hs : cs.size = i.size := by simp [hq] at hi; omega
    simp only [Instr.storeAt, Instr.sureAddr, Sem.run_bind, Sem.run_pure, Result.andThen_ok]
    simp [storeVar, sizeOf, typeInfo, hq, Value.cells, hs] at hst ⊢
    exact hst
end Go.Proofs.YtfdbcfkjablnkaaGreat

namespace Go.Proofs.YtfdbcfkjablnkaaGreat
open Go.RowKit

/-- a row and a number as the results -/
theorem results_row_tmp {P : Program} {fn : Func} {p s : Tmp} {ty : TypeId} (h : fn.results = #[.cell p ty, .tmp s]) (tmps : Array Value) (w : World) (g : Nat) (t : TypeId) (cs : Array Value) (d : TypeDesc)
    (hp : tmps.getD p undef = .pointer (some ⟨g, 0, none⟩)) (hg : w.heap[g]? = some (.cells cs t (0, 0)))
    (hu : P.underlying ty = some d) (hd : (match d with | .struct _ | .array _ _ => true | _ => false) = true) (hi : (P.info? ty).map (·.size) = some cs.size) :
    (results fn tmps).run P w = .ok (.tuple #[.agg cs, tmps.getD s undef]) w := by
  have hp' : tmps[p]?.getD undef = .pointer (some ⟨g, 0, none⟩) := by simpa using hp
  simp [results, h, hp', asAddr, run_loadVar_row w g t ty cs (0, 0) d hg hu hd hi]
end Go.Proofs.YtfdbcfkjablnkaaGreat

namespace Go.Proofs.YtfdbcfkjablnkaaGreat
open Go.RowKit

/-- bytes -/
def Bytes (zs : List Int) : Prop := ∀ z ∈ zs, 0 ≤ z ∧ z < 256
theorem Bytes.take {zs : List Int} (h : Bytes zs) (n : Nat) : Bytes (zs.take n) := fun z hz => h z (List.mem_of_mem_take hz)
theorem Bytes.drop {zs : List Int} (h : Bytes zs) (n : Nat) : Bytes (zs.drop n) := fun z hz => h z (List.mem_of_mem_drop hz)
theorem Bytes.append {x y : List Int} (hx : Bytes x) (hy : Bytes y) : Bytes (x ++ y) := fun z hz => by
  rcases List.mem_append.1 hz with h | h
  · exact hx z h
  · exact hy z h
theorem Bytes.lt {zs : List Int} (h : Bytes zs) : ∀ z ∈ zs, z < 256 := fun z hz => (h z hz).2
theorem bytes_of {es : List Int} (h : ∀ n ∈ es, (Lit.int .u8 n).wf = true) : Bytes es := fun z hz => by
  have := bounds_u8 (h z hz)
  omega
theorem ret_int {k : IntKind} {a b : Int} (h : a = b) : Ending.returned (.int k a) = .returned (.int k b) := by rw [h]
end Go.Proofs.YtfdbcfkjablnkaaGreat

namespace Go.Proofs.YtfdbcfkjablnkaaGreat
open Go.RowKit
namespace Sr
def way (a b : Int) : Int := (b - a) % 4294967296
def add (a n : Int) : Int := (a + n) % 4294967296
def after (a b : Int) : Bool := decide (1 ≤ way b a ∧ way b a < 2147483648)
theorem way_lt (a b : Int) : 0 ≤ way a b ∧ way a b < 4294967296 := by unfold way; omega
theorem add_lt (a b : Int) : 0 ≤ add a b ∧ add a b < 4294967296 := by unfold add; omega
/-- numbers of 32 bits -/
def U (zs : List Int) : Prop := ∀ z ∈ zs, 0 ≤ z ∧ z < 4294967296
/-- is n to be taken in the stead of now? -/
def st (nw : Bool) (n now : Int) : Bool := if nw then after n now else after now n
/-- those that are taken, one behind the other -/
def tk (nw : Bool) : Bool → Int → List Int → List Int
  | _, _, [] => []
  | f, now, z :: zs => if (f || st nw z now) = true then z :: tk nw false z zs else tk nw false now zs
def best (nw : Bool) : Int → List Int → Int
  | now, [] => now
  | now, z :: zs => best nw (if st nw z now = true then z else now) zs
/-- the one that is taken last; 0 without any -/
def bst (nw : Bool) : List Int → Int
  | [] => 0
  | z :: zs => best nw z zs
theorem tk_last (nw : Bool) : ∀ (zs : List Int) (now : Int), (tk nw false now zs).getLastD now = best nw now zs
  | [], _ => rfl
  | z :: zs, now => by
    unfold tk best
    by_cases h : st nw z now = true
    · rw [if_pos (by simp [h]), if_pos h, ← tk_last nw zs z, List.getLastD_cons]
    · rw [if_neg (by simp [h]), if_neg h, tk_last nw zs now]
theorem tk_bst (nw : Bool) : ∀ (zs : List Int), (tk nw true 0 zs).getLastD 0 = bst nw zs
  | [] => rfl
  | z :: zs => by
    show (z :: tk nw false z zs).getLastD 0 = best nw z zs
    rw [List.getLastD_cons, tk_last]
theorem tk_pos (nw : Bool) (zs : List Int) : decide (0 < (tk nw true 0 zs).length) = decide (0 < zs.length) := by
  cases zs with
  | nil => rfl
  | cons z zs => rw [tk, if_pos (by simp)]; simp
/-- one step of the loop over the list -/
theorem tk_step {zs : List Int} {k : Nat} {z : Int} (nw f : Bool) (now : Int) (h : zs[k]? = some z) :
    tk nw f now (zs.drop k) = if (f || st nw z now) = true then z :: tk nw false z (zs.drop (k + 1)) else tk nw false now (zs.drop (k + 1)) := by
  have hd : zs.drop k = z :: zs.drop (k + 1) := by
    have hk : k < zs.length := by
      rcases Nat.lt_or_ge k zs.length with h1 | h1
      · exact h1
      · rw [List.getElem?_eq_none h1] at h; cases h
    rw [List.getElem?_eq_getElem hk] at h
    injection h with h
    rw [← h, List.getElem_cons_drop]
  rw [hd, tk]
theorem best_step {zs : List Int} {k : Nat} {z : Int} (nw : Bool) (now : Int) (h : zs[k]? = some z) :
    best nw now (zs.drop k) = best nw (if st nw z now = true then z else now) (zs.drop (k + 1)) := by
  have hd : zs.drop k = z :: zs.drop (k + 1) := by
    have hk : k < zs.length := by
      rcases Nat.lt_or_ge k zs.length with h1 | h1
      · exact h1
      · rw [List.getElem?_eq_none h1] at h; cases h
    rw [List.getElem?_eq_getElem hk] at h
    injection h with h
    rw [← h, List.getElem_cons_drop]
  rw [hd, best]
theorem last_next {L : List Int} {j : Nat} {x d : Int} (h : L[j]? = some x) : (L.take (j + 1)).getLastD d = x := by
  rw [List.take_add_one, h]
  simp
theorem bst_mem (nw : Bool) : ∀ (zs : List Int) (now : Int), best nw now zs = now ∨ best nw now zs ∈ zs
  | [], _ => .inl rfl
  | z :: zs, now => by
    unfold best
    rcases bst_mem nw zs (if st nw z now = true then z else now) with h | h
    · rw [h]
      by_cases hs : st nw z now = true
      · rw [if_pos hs]; exact .inr (by simp)
      · rw [if_neg hs]; exact .inl rfl
    · exact .inr (List.mem_cons_of_mem _ h)
theorem best_U {nw : Bool} {zs : List Int} {now : Int} (h : U zs) (hn : 0 ≤ now ∧ now < 4294967296) : 0 ≤ best nw now zs ∧ best nw now zs < 4294967296 := by
  rcases bst_mem nw zs now with e | e
  · rw [e]; exact hn
  · exact h _ e
theorem bst_U {nw : Bool} {zs : List Int} (h : U zs) : 0 ≤ bst nw zs ∧ bst nw zs < 4294967296 := by
  cases zs with
  | nil => exact ⟨Int.le_refl _, (by decide : (0 : Int) < 4294967296)⟩
  | cons z zs => exact best_U (fun c hc => h c (List.mem_cons_of_mem _ hc)) (h z (by simp))
end Sr
end Go.Proofs.YtfdbcfkjablnkaaGreat

namespace Go.Proofs.YtfdbcfkjablnkaaGreat
open Go.RowKit
namespace Wn
/-- 0: new; 14: it has come; 15: old -/
def look (t : Int) (q : Nat) (n : Int) : Int :=
  if Sr.after n t = true then 0 else if 64 ≤ Sr.way n t then 15 else if q.testBit (Sr.way n t).toNat = true then 14 else 0
/-- the top behind a new one -/
def nt (t n : Int) : Int := if Sr.after n t = true then n else t
/-- the bits, moved by so many -/
def shl (q v : Nat) : Nat := if 64 ≤ v then 0 else q * 2 ^ v % 18446744073709551616
/-- the bits behind a new one -/
def nq (t : Int) (q : Nat) (n : Int) : Nat := if Sr.after n t = true then shl q (Sr.way t n).toNat ||| 1 else q ||| 2 ^ (Sr.way n t).toNat
theorem shl_lt (q v : Nat) : shl q v < 18446744073709551616 := by unfold shl; split <;> omega
theorem or_lt {a b : Nat} (ha : a < 18446744073709551616) (hb : b < 18446744073709551616) : a ||| b < 18446744073709551616 := by
  have := @Nat.or_lt_two_pow a b 64 (by simpa using ha) (by simpa using hb)
  simpa using this
theorem pow_lt {d : Nat} (h : d < 64) : 2 ^ d < 18446744073709551616 := by
  have : (2 : Nat) ^ d < 2 ^ 64 := Nat.pow_lt_pow_right (by omega) h
  simpa using this
theorem nt_lt {t n : Int} (ht : 0 ≤ t ∧ t < 4294967296) (hn : 0 ≤ n ∧ n < 4294967296) : 0 ≤ nt t n ∧ nt t n < 4294967296 := by unfold nt; split <;> assumption
theorem after_way {n t : Int} (h : Sr.after n t = true) : 1 ≤ Sr.way t n ∧ Sr.way t n < 2147483648 := of_decide_eq_true h
theorem shl_bit (q v d : Nat) : (shl q v).testBit d = (decide (v ≤ d ∧ d < 64) && q.testBit (d - v)) := by
  unfold shl
  split
  · rename_i h
    rw [Nat.zero_testBit, decide_eq_false (by omega), Bool.false_and]
  · rename_i h
    rw [show (18446744073709551616 : Nat) = 2 ^ 64 from rfl, Nat.testBit_mod_two_pow, Nat.mul_comm, Nat.testBit_two_pow_mul]
    by_cases h1 : d < 64 <;> by_cases h2 : v ≤ d <;> simp [h1, h2]
theorem one_bit (d : Nat) : (1 : Nat).testBit d = decide (d = 0) := by
  rw [show (1 : Nat) = 2 ^ 0 from rfl, Nat.testBit_two_pow]
  simp [eq_comm]
theorem nq_lt {t : Int} {q : Nat} {n : Int} (hq : q < 18446744073709551616) (h : look t q n = 0) : nq t q n < 18446744073709551616 := by
  unfold nq
  unfold look at h
  split
  · exact or_lt (shl_lt _ _) (by omega)
  · rename_i h1
    rw [if_neg h1] at h
    have h3 := Sr.way_lt n t
    by_cases h2 : 64 ≤ Sr.way n t
    · rw [if_pos h2] at h; exact absurd h (by decide)
    · exact or_lt hq (pow_lt (by omega))
theorem nq_after {t : Int} {q : Nat} {n : Int} (h : Sr.after n t = true) (d : Nat) (hd : d < 64) :
    (nq t q n).testBit d = (decide (d = 0) || (decide ((Sr.way t n).toNat ≤ d) && q.testBit (d - (Sr.way t n).toNat))) := by
  unfold nq
  rw [if_pos h, Nat.testBit_or, shl_bit, one_bit, Bool.or_comm]
  congr 2
  exact decide_eq_decide.2 ⟨fun h => h.1, fun h => ⟨h, hd⟩⟩
theorem nq_in {t : Int} {q : Nat} {n : Int} (h : ¬ Sr.after n t = true) (d : Nat) : (nq t q n).testBit d = (decide (d = (Sr.way n t).toNat) || q.testBit d) := by
  unfold nq
  rw [if_neg h, Nat.testBit_or, Nat.testBit_two_pow, Bool.or_comm]
  congr 1
  exact decide_eq_decide.2 eq_comm
/-- what has come isn't new -/
theorem look_again {t : Int} {q : Nat} {n : Int} (h : look t q n = 0) : look (nt t n) (nq t q n) n = 14 := by
  have hw := Sr.way_lt n t
  by_cases ha : Sr.after n t = true
  · have h0 : Sr.way n n = 0 := by unfold Sr.way; omega
    have h1 : ¬ Sr.after n n = true := by unfold Sr.after; rw [h0]; decide
    unfold look
    rw [show nt t n = n from if_pos ha, if_neg h1, h0, if_neg (by decide), if_pos]
    rw [Int.toNat_zero, nq_after ha 0 (by decide)]
    rfl
  · unfold look at h ⊢
    rw [if_neg ha] at h
    rw [show nt t n = t from if_neg ha, if_neg ha]
    by_cases h2 : 64 ≤ Sr.way n t
    · rw [if_pos h2] at h; exact absurd h (by decide)
    · rw [if_neg h2, if_pos]
      rw [nq_in ha, decide_eq_true rfl, Bool.true_or]
/-- a bit that stands changes nothing -/
theorem or_same {q d : Nat} (h : q.testBit d = true) : q ||| 2 ^ d = q := by
  apply Nat.eq_of_testBit_eq
  intro i
  rw [Nat.testBit_or, Nat.testBit_two_pow]
  by_cases hi : d = i
  · subst hi; simp [h]
  · simp [hi]
theorem or_other {q d : Nat} (h : q.testBit d = false) : q ||| 2 ^ d ≠ q := fun e => by
  have : (q ||| 2 ^ d).testBit d = true := by rw [Nat.testBit_or, Nat.testBit_two_pow]; simp
  rw [e, h] at this
  cases this
/-! ### numbers by their places -/
/-- the top is at place P from s on; bits tell of the places behind it which have come (S) -/
structure Inv (s : Int) (P : Int) (S : Int → Prop) (t : Int) (q : Nat) : Prop where
  top : t = Sr.add s P
  lo : -1 ≤ P
  hi : P < 1000000
  bit : ∀ d : Nat, d < 64 → (q.testBit d = true ↔ S (P - d))
  le : ∀ p, S p → p ≤ P
  lt : q < 18446744073709551616
section
variable {s P p t : Int} {S : Int → Prop} {q : Nat}
theorem ones_bit (d : Nat) (h : d < 64) : (18446744073709551615 : Nat).testBit d = true := by
  rw [show (18446744073709551615 : Nat) = 2 ^ 64 - 1 from rfl, Nat.testBit_two_pow_sub_one]
  exact decide_eq_true h
theorem Inv.start (s : Int) : Inv s (-1) (fun p => p < 0) (Sr.add s (-1)) 18446744073709551615 :=
  ⟨rfl, by decide, by decide, fun d h => ⟨fun _ => by omega, fun _ => ones_bit d h⟩, fun p h => by omega, by decide⟩
theorem Inv.ways (h : Inv s P S t q) (hp : -1000 ≤ p ∧ p < 1000000) :
    (P < p → Sr.after (Sr.add s p) t = true ∧ Sr.way t (Sr.add s p) = p - P) ∧ (p ≤ P → ¬ Sr.after (Sr.add s p) t = true ∧ Sr.way (Sr.add s p) t = P - p) := by
  have ht := h.top
  have h1 := h.lo
  have h2 := h.hi
  have e1 : Sr.way t (Sr.add s p) = (p - P) % 4294967296 := by rw [ht]; unfold Sr.way Sr.add; omega
  have e2 : Sr.way (Sr.add s p) t = (P - p) % 4294967296 := by rw [ht]; unfold Sr.way Sr.add; omega
  refine ⟨fun h3 => ⟨decide_eq_true ?_, by rw [e1]; omega⟩, fun h3 => ⟨fun h4 => ?_, by rw [e2]; omega⟩⟩
  · rw [e1]; omega
  · have := after_way h4
    rw [e1] at this
    omega
theorem Inv.look_new (h : Inv s P S t q) (hp : -1000 ≤ p ∧ p < 1000000) : look t q (Sr.add s p) = 0 ↔ P < p ∨ (P - p < 64 ∧ ¬ S p) := by
  obtain ⟨w1, w2⟩ := h.ways hp
  unfold look
  rcases Int.lt_or_le P p with h1 | h1
  · rw [if_pos (w1 h1).1]
    exact ⟨fun _ => .inl h1, fun _ => rfl⟩
  · obtain ⟨h2, h3⟩ := w2 h1
    rw [if_neg h2, h3]
    by_cases h4 : 64 ≤ P - p
    · rw [if_pos h4]
      exact ⟨fun h => absurd h (by decide), fun h => by omega⟩
    · have hb := h.bit (P - p).toNat (by omega)
      rw [show P - ((P - p).toNat : Int) = p by omega] at hb
      rw [if_neg h4]
      by_cases h5 : q.testBit (P - p).toNat = true
      · rw [if_pos h5]
        exact ⟨fun h => absurd h (by decide), fun h => (h.elim (fun h => by omega) (fun h => absurd (hb.1 h5) h.2))⟩
      · rw [if_neg h5]
        exact ⟨fun _ => .inr ⟨by omega, fun h => h5 (hb.2 h)⟩, fun _ => rfl⟩
/-- a new one comes -/
theorem Inv.come (h : Inv s P S t q) (hp : -1000 ≤ p ∧ p < 1000000) (hl : look t q (Sr.add s p) = 0) :
    Inv s (max P p) (fun x => S x ∨ x = p) (nt t (Sr.add s p)) (nq t q (Sr.add s p)) := by
  obtain ⟨w1, w2⟩ := h.ways hp
  have h1 := h.lo
  have h2 := h.hi
  rcases Int.lt_or_le P p with h3 | h3
  · obtain ⟨h4, h5⟩ := w1 h3
    have hm : max P p = p := by omega
    rw [hm]
    refine ⟨if_pos h4, by omega, hp.2, fun d hd => ?_, fun x hx => ?_, nq_lt h.lt hl⟩
    · rw [nq_after h4 d hd, h5]
      by_cases h6 : d = 0
      · subst h6; simp
      · by_cases h7 : (p - P).toNat ≤ d
        · have hb := h.bit (d - (p - P).toNat) (by omega)
          rw [show P - ((d - (p - P).toNat : Nat) : Int) = p - d by omega] at hb
          rw [decide_eq_false h6, decide_eq_true h7, Bool.false_or, Bool.true_and, hb]
          exact ⟨.inl, fun h => h.elim id fun h => by omega⟩
        · rw [decide_eq_false h6, decide_eq_false h7, Bool.false_or, Bool.false_and]
          refine ⟨fun h => (by cases h), fun h8 => ?_⟩
          rcases h8 with h8 | h8
          · have := h.le _ h8; omega
          · omega
    · rcases hx with hx | hx
      · have := h.le _ hx; omega
      · omega
  · obtain ⟨h4, h5⟩ := w2 h3
    have hm : max P p = P := by omega
    rw [hm]
    have hd0 : P - p < 64 := by
      rcases (h.look_new hp).1 hl with h | h <;> omega
    refine ⟨(if_neg h4).trans h.top, h1, h2, fun d hd => ?_, fun x hx => ?_, nq_lt h.lt hl⟩
    · rw [nq_in h4, h5]
      by_cases h6 : d = (P - p).toNat
      · rw [decide_eq_true h6, Bool.true_or]
        exact ⟨fun _ => .inr (by omega), fun _ => rfl⟩
      · rw [decide_eq_false h6, Bool.false_or, h.bit d hd]
        exact ⟨.inl, fun h => h.elim id fun h => by omega⟩
    · rcases hx with hx | hx
      · exact h.le _ hx
      · omega
theorem Inv.congr {S' : Int → Prop} (h : Inv s P S t q) (hS : ∀ x, S' x ↔ S x) : Inv s P S' t q :=
  ⟨h.top, h.lo, h.hi, fun d hd => (h.bit d hd).trans (hS _).symm, fun p hp => h.le p ((hS p).1 hp), h.lt⟩
end
/-! ### those that have come, and those that haven't -/
def cnt (q : Nat) (c : Bool) : Nat → Nat
  | 0 => 0
  | k + 1 => cnt q c k + (if q.testBit k = c then 1 else 0)
/-- of the first k those that have (haven't) come -/
def gv (t : Int) (q : Nat) (c : Bool) : Nat → List Int
  | 0 => []
  | k + 1 => if q.testBit k = c then gv t q c k ++ [Sr.add t (-(k : Int))] else gv t q c k
theorem gv_len (t : Int) (q : Nat) (c : Bool) : ∀ k, (gv t q c k).length = cnt q c k
  | 0 => rfl
  | k + 1 => by
    unfold gv cnt
    split
    · rw [List.length_append, gv_len t q c k]; rfl
    · exact gv_len t q c k
theorem cnt_mono (q : Nat) (c : Bool) : ∀ {k m : Nat}, k ≤ m → cnt q c k ≤ cnt q c m := by
  intro k m h
  induction m with
  | zero => have : k = 0 := by omega
            subst this; exact Nat.le_refl _
  | succ m ih =>
    rcases Nat.lt_or_ge k (m + 1) with h1 | h1
    · have := ih (by omega)
      show _ ≤ cnt q c m + _
      omega
    · have : k = m + 1 := by omega
      subst this; exact Nat.le_refl _
theorem cnt_le (q : Nat) (c : Bool) : ∀ k, cnt q c k ≤ k
  | 0 => Nat.le_refl _
  | k + 1 => by
    have := cnt_le q c k
    show cnt q c k + _ ≤ _
    split <;> omega
theorem cnt_step {q k : Nat} {c : Bool} (h : q.testBit k = c) : cnt q c (k + 1) = cnt q c k + 1 := by
  show cnt q c k + _ = _
  rw [if_pos h]
theorem cnt_stay {q k : Nat} {c : Bool} (h : ¬ q.testBit k = c) : cnt q c (k + 1) = cnt q c k := by
  show cnt q c k + _ = _
  rw [if_neg h]
  rfl
theorem gv_at (t : Int) {q i : Nat} {c : Bool} (h : q.testBit i = c) : ∀ {k : Nat}, i < k → (gv t q c k)[cnt q c i]? = some (Sr.add t (-(i : Int))) := by
  intro k hk
  induction k with
  | zero => omega
  | succ k ih =>
    unfold gv
    rcases Nat.lt_or_ge i k with h1 | h1
    · split
      · rw [List.getElem?_append_left (by rw [gv_len]; have := cnt_mono q c (show i + 1 ≤ k by omega); rw [cnt_step h] at this; omega)]
        exact ih h1
      · exact ih h1
    · have : i = k := by omega
      subst this
      rw [if_pos h, List.getElem?_append_right (by rw [gv_len]; exact Nat.le_refl _), gv_len, Nat.sub_self]
      rfl
/-- those from v on, ahead of k: none, if so many are ahead of either -/
theorem cnt_none {q v k : Nat} {c : Bool} (h : cnt q c v = cnt q c k) {i : Nat} (h1 : v ≤ i) (h2 : i < k) : ¬ q.testBit i = c := fun e => by
  have h3 := cnt_mono q c h1
  have h4 := cnt_mono q c (show i + 1 ≤ k by omega)
  rw [cnt_step e] at h4
  omega
/-- what is the bit k -/
theorem cnt_past {q v k : Nat} {c : Bool} (h : cnt q c v = cnt q c k) (hk : q.testBit k = c) : v ≤ k := by
  rcases Nat.lt_or_ge k v with h1 | h1
  · have := cnt_mono q c (show k + 1 ≤ v by omega)
    rw [cnt_step hk] at this
    omega
  · exact h1
end Wn
end Go.Proofs.YtfdbcfkjablnkaaGreat

namespace Go.Proofs.YtfdbcfkjablnkaaGreat
open Go.RowKit
set_option maxRecDepth 100000

theorem ret_bool {a b : Bool} (h : a = b) : Ending.returned (.bool a) = .returned (.bool b) := by rw [h]
theorem way_any (a b : Int) (w : World) (_ha : 0 ≤ a ∧ a < 4294967296) (_hb : 0 ≤ b ∧ b < 4294967296) :
    Calls Tryz.prog 103 #[.int .u32 a, .int .u32 b] w fun e w' => e = .returned (.int .u32 (Sr.way a b)) ∧ w' = w := by
  go_enter Tryz.func103, Tryz.ntmps103
  go_wp2
  go_ret
  exact ⟨ret_int rfl, rfl⟩
theorem rway_any (a b : Int) (w : World) (_ha : 0 ≤ a ∧ a < 4294967296) (_hb : 0 ≤ b ∧ b < 4294967296) :
    Calls Tryz.prog 52 #[.int .u32 a, .int .u32 b] w fun e w' => e = .returned (.int .u32 (Sr.way a b)) ∧ w' = w := by
  go_enter Tryz.func52, Tryz.ntmps52
  go_wp2
  go_ret
  exact ⟨ret_int (show (b + 4294967296 - a) % 4294967296 = (b - a) % 4294967296 by omega), rfl⟩
theorem sadd_any (a n : Int) (w : World) (_ha : 0 ≤ a ∧ a < 4294967296) :
    Calls Tryz.prog 37 #[.int .u32 a, .int .i64 n] w fun e w' => e = .returned (.int .u32 (Sr.add a n)) ∧ w' = w := by
  go_enter Tryz.func37, Tryz.ntmps37
  go_wp2
  go_ret
  exact ⟨ret_int (show (a + n % 4294967296) % 4294967296 = (a + n) % 4294967296 by omega), rfl⟩
theorem tmod_round (n : Int) : ∃ r : Int, n.tmod 4294967296 = r ∧ -4294967296 < r ∧ r < 4294967296 ∧ (∀ a : Int, (a + r) % 4294967296 = (a + n) % 4294967296) := by
  refine ⟨_, rfl, ?_⟩
  have h := Int.tmod_add_mul_tdiv n 4294967296
  rcases Int.le_total 0 n with h0 | h0
  · rw [Int.tmod_eq_emod_of_nonneg h0]
    refine ⟨by omega, by omega, fun a => by omega⟩
  · have h1 : n.tmod 4294967296 = -((-n) % 4294967296) := by
      have := Int.neg_tmod (a := -n) (b := 4294967296)
      rw [Int.neg_neg] at this
      rw [this, Int.tmod_eq_emod_of_nonneg (by omega)]
    rw [h1]
    refine ⟨by omega, by omega, fun a => by omega⟩
theorem sradd_any (a n : Int) (w : World) (_ha : 0 ≤ a ∧ a < 4294967296) (_hn : -9223372036854775808 ≤ n ∧ n < 9223372036854775808) :
    Calls Tryz.prog 38 #[.int .u32 a, .int .i64 n] w fun e w' => e = .returned (.int .u32 (Sr.add a n)) ∧ w' = w := by
  obtain ⟨r, hr, h1, h2, h3⟩ := tmod_round n
  have H3 : Hid ((a + r) % 4294967296 = (a + n) % 4294967296) := h3 a
  clear h3
  go_enter Tryz.func38, Tryz.ntmps38
  by_cases h0 : r < 0
  · go_wp2
    go_ret
    exact ⟨ret_int ((by omega : (a + (r + 4294967296)) % 4294967296 = (a + r) % 4294967296).trans H3.out), rfl⟩
  · go_wp2
    go_ret
    exact ⟨ret_int H3.out, rfl⟩

theorem after_any (a b : Int) (w : World) (ha : 0 ≤ a ∧ a < 4294967296) (hb : 0 ≤ b ∧ b < 4294967296) :
    Calls Tryz.prog 80 #[.int .u32 a, .int .u32 b] w fun e w' => e = .returned (.bool (Sr.after a b)) ∧ w' = w := by
  have K := way_any b a w hb ha
  have hw := Sr.way_lt b a
  have H : Hid (Sr.after a b = decide (1 ≤ Sr.way b a ∧ Sr.way b a < 2147483648)) := rfl
  generalize Sr.way b a = v at *
  generalize Sr.after a b = r at *
  go_enter Tryz.func80, Tryz.ntmps80
  go_wp2_with fail
  refine K.mono ?_
  rintro e w' ⟨rfl, rfl⟩
  by_cases h1 : v = 0
  · subst h1
    go_wp2
    go_ret
    exact ⟨ret_bool (by rw [H.out]; rfl), rfl⟩
  · have h2 : 0 < v := by omega
    by_cases h3 : v < 2147483648
    · go_wp2
      go_ret
      exact ⟨ret_bool (by rw [H.out]; symm; apply decide_eq_true; omega), rfl⟩
    · go_wp2
      go_ret
      exact ⟨ret_bool (by rw [H.out]; exact decide_eq_decide.2 (by omega)), rfl⟩
theorem rafter_any (a b : Int) (w : World) (ha : 0 ≤ a ∧ a < 4294967296) (hb : 0 ≤ b ∧ b < 4294967296) :
    Calls Tryz.prog 39 #[.int .u32 a, .int .u32 b] w fun e w' => e = .returned (.bool (Sr.after a b)) ∧ w' = w := by
  have K := fun w => rway_any b a w hb ha
  have hw := Sr.way_lt b a
  have H : Hid (Sr.after a b = decide (1 ≤ Sr.way b a ∧ Sr.way b a < 2147483648)) := rfl
  generalize Sr.way b a = v at *
  generalize Sr.after a b = r at *
  have KH := Lib.hid K
  clear K
  go_enter Tryz.func39, Tryz.ntmps39
  go_wp2_with fail
  refine (KH.out _).mono ?_
  rintro e w' ⟨rfl, rfl⟩
  by_cases h1 : 1 ≤ v
  · go_wp2_with fail
    refine (KH.out _).mono ?_
    rintro e w' ⟨rfl, rfl⟩
    by_cases h3 : v < 2147483648
    · go_wp2
      go_ret
      exact ⟨ret_bool (by rw [H.out]; symm; apply decide_eq_true; omega), rfl⟩
    · go_wp2
      go_ret
      exact ⟨ret_bool (by rw [H.out]; exact decide_eq_decide.2 (by omega)), rfl⟩
  · go_wp2
    go_ret
    exact ⟨ret_bool (by rw [H.out]; symm; apply decide_eq_false; omega), rfl⟩
theorem ahead_any (a b : Int) (w : World) (ha : 0 ≤ a ∧ a < 4294967296) (hb : 0 ≤ b ∧ b < 4294967296) :
    Calls Tryz.prog 102 #[.int .u32 a, .int .u32 b] w fun e w' => e = .returned (.bool (Sr.after b a)) ∧ w' = w := by
  have K := after_any b a w hb ha
  generalize Sr.after b a = r at *
  go_enter Tryz.func102, Tryz.ntmps102
  go_wp2_with fail
  refine K.mono ?_
  rintro e w' ⟨rfl, rfl⟩
  go_wp2
  go_ret
  exact ⟨rfl, rfl⟩
end Go.Proofs.YtfdbcfkjablnkaaGreat

namespace Go.Proofs.YtfdbcfkjablnkaaGreat
open Go.RowKit

/-- the numbers zs, of kind k, lie at the slice's address, below block B; where there are none the address is whatever it is -/
def Nums (k : IntKind) (w : World) (B : Nat) (a : Option Addr) (zs : List Int) : Prop :=
  zs ≠ [] → ∃ b off, a = some ⟨b, off, none⟩ ∧ b < B ∧ ∀ j c, zs[j]? = some c → w.cell? ⟨b, off + j, none⟩ = some (.int k c)

theorem below_drewN {B : Nat} {a w : World} (h : Below B a w) (n : Nat) : Below B a (w.drewN n) := ⟨h.os, h.tape, h.output, h.size, h.block⟩

section
variable {k : IntKind} {w w' : World} {B B' : Nat} {a : Option Addr} {zs : List Int}
theorem Nums.nil : Nums k w B a [] := fun h => absurd rfl h
theorem Nums.open (h : Nums k w B a zs) {j : Nat} {c : Int} (hj : zs[j]? = some c) : ∃ b off, a = some ⟨b, off, none⟩ ∧ b < B ∧ w.cell? ⟨b, off + j, none⟩ = some (.int k c) := by
  obtain ⟨b, off, e, hb, hc⟩ := h (by intro e; subst e; simp at hj)
  exact ⟨b, off, e, hb, hc j c hj⟩
theorem Nums.kept (h : Nums k w B a zs) (hk : ∀ p : Addr, p.block < B → w'.cell? p = w.cell? p) : Nums k w' B a zs := fun hn => by
  obtain ⟨b, off, e, hb, hc⟩ := h hn
  exact ⟨b, off, e, hb, fun j c hj => (hk ⟨b, off + j, none⟩ hb).trans (hc j c hj)⟩
theorem Nums.below (h : Nums k w B a zs) (hb : Below B w w') : Nums k w' B a zs := h.kept fun _ hp => hb.cell hp
theorem Nums.mono (h : Nums k w B a zs) (hB : B ≤ B') : Nums k w B' a zs := fun hn => by
  obtain ⟨b, off, e, hb, hc⟩ := h hn
  exact ⟨b, off, e, by omega, hc⟩
theorem Nums.take (h : Nums k w B a zs) (n : Nat) : Nums k w B a (zs.take n) := fun hn => by
  obtain ⟨b, off, e, hb, hc⟩ := h (by intro e; subst e; simp at hn)
  refine ⟨b, off, e, hb, fun j c hj => hc j c ?_⟩
  rw [List.getElem?_take] at hj
  by_cases hlt : j < n
  · simpa [hlt] using hj
  · simp [hlt] at hj
/-- 's[i:]' of a slice, as the model spells its address -/
theorem Nums.drop (h : Nums k w B a zs) {i cap : Nat} (hc : zs.length ≤ cap) : Nums k w B (if cap = i then a else a.map (·.add i)) (zs.drop i) := fun hn => by
  have hi : i < zs.length := by
    rcases Nat.lt_or_ge i zs.length with h1 | h1
    · exact h1
    · exact absurd (List.drop_eq_nil_of_le h1) hn
  obtain ⟨b, off, rfl, hb, hcell⟩ := h (by intro e; subst e; simp at hi)
  refine ⟨b, off + i, ?_, hb, fun j c hj => ?_⟩
  · rw [if_neg (by omega)]; simp [Addr.add]

  · rw [Nat.add_assoc]
    exact hcell (i + j) c (by rw [← hj, List.getElem?_drop])
theorem Nums.of_own {base e : Nat} {c : Nat} (h : w.ownsRow base e 1 (.slice a zs.length c) zs.length (zs.map (Value.int k))) : Nums k w w.heap.size a zs := fun hn => by
  have hp : 0 < zs.length := by
    rcases Nat.eq_zero_or_pos zs.length with h0 | h0
    · exact absurd (List.eq_nil_of_length_eq_zero h0) hn
    · exact h0
  obtain ⟨g, cap, hv, _, hlt⟩ := h.form hp
  have ha : a = some ⟨g, 0, none⟩ := by injection hv
  subst ha
  refine ⟨g, 0, rfl, hlt, fun j c hj => ?_⟩
  have := h.cells (g := g) rfl j (.int k c) (by rw [List.getElem?_map, hj]; rfl)
  rw [Nat.zero_add]
  by_cases h0 : j = 0
  · subst h0; simpa [Addr.add] using this
  · simpa [Addr.add, h0] using this
/-- one number at a place -/
theorem Nums.one {k : IntKind} {w : World} {B b off : Nat} {z : Int} (hb : b < B) (hc : w.cell? ⟨b, off, none⟩ = some (.int k z)) : Nums k w B (some ⟨b, off, none⟩) [z] := fun _ =>
  ⟨b, off, rfl, hb, fun j c hj => by
    cases j with
    | zero => simp at hj; subst hj; exact hc
    | succ j => simp at hj⟩
/-- a slice that has just been laid -/
theorem Nums.new (k : IntKind) (w : World) (t : TypeId) (zs : List Int) (cs : Array Value) (h : cs = (zs.map (Value.int k)).toArray) : Nums k (w.alloc (.cells cs t)) (w.heap.size + 1) (some ⟨w.heap.size, 0, none⟩) zs := fun _ => by
  refine ⟨w.heap.size, 0, rfl, by omega, fun j c hj => ?_⟩
  rw [World.cell?_alloc_at _ _ _ _ rfl, h]
  simp [hj]
end

/-- a slice of integers that came in: nil, or a row of 'cap' cells with the numbers zs, of which the first len are its elements -/
def IsRow (k : IntKind) (w : World) (a : Option Addr) (len cap : Nat) (zs : List Int) : Prop :=
  (a = none ∧ len = 0 ∧ cap = 0 ∧ zs = []) ∨
  ∃ x, a = some x ∧ len ≤ cap ∧ cap ≤ maxLen ∧ zs.length = cap ∧ (∀ i, i < zs.length → w.cell? (x.add i) = some (.int k (zs.getD i 0))) ∧ ∀ n ∈ zs, (Lit.int k n).wf = true
theorem block_of_cell {w : World} {p : Addr} {v : Value} (h : w.cell? p = some v) : p.block < w.heap.size := by
  rcases Nat.lt_or_ge p.block w.heap.size with h1 | h1
  · exact h1
  · simp [World.cell?, Array.getElem?_eq_none h1] at h
/-- .. as its elements lie -/
theorem IsRow.elems {k : IntKind} {w : World} {a : Option Addr} {len cap : Nat} {zs : List Int} (h : IsRow k w a len cap zs) :
    ∃ es : List Int, es.length = len ∧ len ≤ cap ∧ cap ≤ maxLen ∧ Nums k w w.heap.size a es ∧ ∀ n ∈ es, (Lit.int k n).wf = true := by
  rcases h with ⟨rfl, rfl, rfl, rfl⟩ | ⟨x, rfl, hl, hm, hz, hc, hw⟩
  · exact ⟨[], rfl, by omega, by omega, Nums.nil, by simp⟩
  · refine ⟨zs.take len, by rw [List.length_take]; omega, hl, hm, ?_, fun n hn => hw n (List.mem_of_mem_take hn)⟩
    refine Nums.take (fun hn => ?_) len
    have h0 : 0 < zs.length := by
      rcases Nat.eq_zero_or_pos zs.length with h | h
      · exact absurd (List.eq_nil_of_length_eq_zero h) hn
      · exact h
    obtain ⟨b, off, spot⟩ := x
    have hc0 := hc 0 h0
    have hspot : spot = none := by simpa [Addr.add] using World.cell?_spot hc0
    subst hspot
    refine ⟨b, off, rfl, by simpa [Addr.add] using block_of_cell hc0, fun j c hj => ?_⟩
    have hlt : j < zs.length := by
      rcases Nat.lt_or_ge j zs.length with h | h
      · exact h
      · rw [List.getElem?_eq_none h] at hj; simp at hj
    have hcj := hc j hlt
    rw [List.getD, hj] at hcj
    by_cases hj0 : j = 0
    · subst hj0; simpa [Addr.add] using hcj
    · simpa [Addr.add, hj0] using hcj

/-! ### numbers that a call has made, of an element type e and a kind k -/
def MadeK (e : TypeId) (k : IntKind) (w w' : World) (L : List Int) (v : Value) : Prop := w'.ownsRow w.heap.size e 1 v L.length (L.map (Value.int k)) ∧ Below w.heap.size w w'
section
variable {e : TypeId} {k : IntKind} {w w1 w2 : World} {L : List Int} {v v' : Value}
theorem MadeK.nil (e : TypeId) (k : IntKind) (h : Below w.heap.size w w1) : MadeK e k w w1 [] (.slice none 0 0) := ⟨World.ownsRow_nil _ _ _ _, h⟩
theorem MadeK.slice (h : MadeK e k w w1 L v) : ∃ A c, v = .slice A L.length c ∧ L.length ≤ c ∧ Nums k w1 w1.heap.size A L := by
  have h1 := h.1
  obtain ⟨_, h2⟩ := h1
  rcases h2 with ⟨rfl, h0⟩ | ⟨g, cap, cur, rfl, hg, hh, hn, _⟩
  · have : L = [] := List.eq_nil_of_length_eq_zero h0
    subst this
    exact ⟨none, 0, rfl, by simp, Nums.nil⟩
  · exact ⟨some ⟨g, 0, none⟩, cap, rfl, hn, Nums.of_own h.1⟩
theorem MadeK.own_ge (h : MadeK e k w w1 L v) {g : Nat} (hg : v.ownBlock = some g) : w.heap.size ≤ g ∧ ∃ cur, w1.heap[g]? = some (.cells cur e (0, 0)) := by
  have hv := h.1
  obtain ⟨_, h2⟩ := hv
  rcases h2 with ⟨rfl, h0⟩ | ⟨g', cap, cur, rfl, hg', hh, hn, _⟩
  · simp [Value.ownBlock] at hg
  · simp [Value.ownBlock] at hg; subst hg; exact ⟨hg', cur, hh⟩
/-- another row, of another element type, has grown -/
theorem MadeK.far {e2 : TypeId} {k2 : IntKind} {L2 : List Int} {v2 : Value} {o : Obj} (h : MadeK e k w w1 L v) (h2 : MadeK e2 k2 w w1 L2 v2) (hne : e ≠ e2) (hg : (w1.alloc o).grownBy w2 v2.ownBlock) (hb : Below w.heap.size w w2) : MadeK e k w w2 L v := by
  refine ⟨(h.1.alloc o).kept hg ?_, hb⟩
  cases hv : v.ownBlock with
  | none => exact .inl rfl
  | some g =>
    right
    intro he
    obtain ⟨_, cur, hc⟩ := h.own_ge hv
    obtain ⟨_, cur2, hc2⟩ := h2.own_ge he.symm
    rw [hc] at hc2
    injection hc2 with hc2
    injection hc2 with _ ht
    exact hne ht
theorem MadeK.later (h : MadeK e k w w1 L v) (o : Obj) : MadeK e k w (w1.alloc o) L v := ⟨h.1.alloc o, h.2.alloc h.2.size o⟩
end
end Go.Proofs.YtfdbcfkjablnkaaGreat

namespace Go.Proofs.YtfdbcfkjablnkaaGreat
open Go.RowKit

/-- of the blocks that are there, those outside S are as they were -/
structure Off (S : Nat → Prop) (w w' : World) : Prop where
  os : w'.os = w.os
  tape : w'.tape = w.tape
  output : w'.output = w.output
  size : w.heap.size ≤ w'.heap.size
  block : ∀ k, k < w.heap.size → ¬ S k → w'.heap[k]? = w.heap[k]?
section
variable {S S' : Nat → Prop} {w w1 w' : World} {B : Nat}
theorem Off.refl (S : Nat → Prop) (w : World) : Off S w w := ⟨rfl, rfl, rfl, Nat.le_refl _, fun _ _ _ => rfl⟩
theorem Off.trans (h : Off S w w1) (k : Off S' w1 w') (hS : ∀ j, j < w.heap.size → S' j → S j) : Off S w w' :=
  ⟨k.os.trans h.os, k.tape.trans h.tape, k.output.trans h.output, Nat.le_trans h.size k.size, fun i hi hn => (k.block i (Nat.lt_of_lt_of_le hi h.size) (fun hs => hn (hS i hi hs))).trans (h.block i hi hn)⟩
theorem Off.mono (h : Off S w w') (hS : ∀ j, j < w.heap.size → S j → S' j) : Off S' w w' := ⟨h.os, h.tape, h.output, h.size, fun k hk hn => h.block k hk fun hs => hn (hS k hk hs)⟩
theorem Off.of_below (h : Below w.heap.size w w') : Off S w w' := ⟨h.os, h.tape, h.output, h.size, fun k hk _ => h.block k hk⟩
theorem Off.below (h : Off S w w') (hS : ∀ k, S k → B ≤ k) (hB : B ≤ w.heap.size) : Below B w w' := ⟨h.os, h.tape, h.output, h.size, fun k hk => h.block k (by omega) (fun hs => by have := hS k hs; omega)⟩
theorem Off.cell (h : Off S w w') {p : Addr} {v : Value} (hv : w.cell? p = some v) (hn : ¬ S p.block) : w'.cell? p = some v :=
  (World.cell?_of_block (h.block p.block (World.block_lt_of_cell? w p hv) hn)).trans hv
theorem Off.setCell (h : Off S w w') {p : Addr} (hp : S p.block) (u : Value) : Off S w (w'.setCell p u) :=
  ⟨h.os, h.tape, h.output, by simpa [World.setCell] using h.size, fun k hk hn => (Below.heap_setCell _ _ _ _ (fun e => hn (by subst e; exact hp))).trans (h.block k hk hn)⟩
theorem Off.setRow (h : Off S w w') {g : Nat} (hp : S g) (cs : Array Value) : Off S w (w'.setRow g cs) :=
  ⟨h.os, h.tape, h.output, by simpa [World.setRow] using h.size, fun k hk hn => (setRow_other _ _ _ _ (fun e => hn (by subst e; exact hp))).trans (h.block k hk hn)⟩
end

/-- the block of a slice's address -/
def blockOf (A : Option Addr) (g : Nat) : Prop := ∃ o s, A = some ⟨g, o, s⟩

theorem Nums.off {S : Nat → Prop} {k : IntKind} {w w' : World} {B : Nat} {A : Option Addr} {zs : List Int} (h : Nums k w B A zs) (hf : Off S w w') (hn : zs ≠ [] → ∀ g, blockOf A g → ¬ S g) : Nums k w' B A zs := fun h0 => by
  obtain ⟨b, off, e, hb, hc⟩ := h h0
  exact ⟨b, off, e, hb, fun j c hj => hf.cell (hc j c hj) (hn h0 b ⟨_, _, e⟩)⟩

/-- a row that the call made, known whole: nil, or cap cells of type T, the numbers cur -/
def KRow (T : TypeId) (k : IntKind) (w : World) (A : Option Addr) (cap : Nat) (cur : List Int) : Prop :=
  cur.length = cap ∧ ((A = none ∧ cap = 0) ∨ ∃ g, A = some ⟨g, 0, none⟩ ∧ cap ≤ maxLen ∧ w.heap[g]? = some (.cells (cur.map (Value.int k)).toArray T (0, 0)))
section
variable {T : TypeId} {k : IntKind} {w w' : World} {A : Option Addr} {cap : Nat} {cur : List Int}
theorem KRow.nil (T : TypeId) (k : IntKind) (w : World) : KRow T k w none 0 [] := ⟨rfl, .inl ⟨rfl, rfl⟩⟩
theorem KRow.lt (h : KRow T k w A cap cur) {g : Nat} (hg : blockOf A g) : g < w.heap.size := by
  obtain ⟨o, s, rfl⟩ := hg
  rcases h.2 with ⟨h0, _⟩ | ⟨g', e, _, hh⟩
  · simp at h0
  · injection e with e; injection e with e1; subst e1
    exact (Array.getElem?_eq_some_iff.1 hh).1
theorem KRow.off {S : Nat → Prop} (h : KRow T k w A cap cur) (hf : Off S w w') (hn : ∀ g, blockOf A g → ¬ S g) : KRow T k w' A cap cur := by
  refine ⟨h.1, ?_⟩
  rcases h.2 with h0 | ⟨g, rfl, hm, hh⟩
  · exact .inl h0
  · exact .inr ⟨g, rfl, hm, by rw [hf.block g (Array.getElem?_eq_some_iff.1 hh).1 (hn g ⟨_, _, rfl⟩)]; exact hh⟩
theorem KRow.cells (h : KRow T k w A cap cur) {g o : Nat} (hA : A = some ⟨g, o, none⟩) : o = 0 ∧ w.heap[g]? = some (.cells (cur.map (Value.int k)).toArray T (0, 0)) := by
  rcases h.2 with ⟨h0, _⟩ | ⟨g', e, _, hh⟩
  · rw [hA] at h0; simp at h0
  · rw [hA] at e; injection e with e; injection e with e1 e2; subst e1; exact ⟨e2, hh⟩
theorem KRow.cell (h : KRow T k w A cap cur) {g o : Nat} (hA : A = some ⟨g, o, none⟩) {j : Nat} {c : Int} (hj : cur[j]? = some c) : w.cell? ⟨g, j, none⟩ = some (.int k c) := by
  obtain ⟨_, hh⟩ := h.cells hA
  simp [World.cell?, hh, hj]
theorem KRow.nums (h : KRow T k w A cap cur) (n : Nat) : Nums k w w.heap.size A (cur.take n) := by
  refine Nums.take (fun hn => ?_) n
  rcases h.2 with ⟨_, h1⟩ | ⟨g, rfl, _, hh⟩
  · exact absurd (List.eq_nil_of_length_eq_zero (h.1.trans h1)) hn
  · exact ⟨g, 0, rfl, (Array.getElem?_eq_some_iff.1 hh).1, fun j c hj => by rw [Nat.zero_add]; exact h.cell rfl hj⟩
end
theorem setCell_at {w : World} {b j : Nat} {cs : Array Value} {t : TypeId} {u : Value} (h : w.heap[b]? = some (.cells cs t (0, 0))) : (w.setCell ⟨b, j, none⟩ u).heap[b]? = some (.cells (cs.setIfInBounds j u) t (0, 0)) := by
  have hlt := (Array.getElem?_eq_some_iff.1 h).1
  have hv := (Array.getElem?_eq_some_iff.1 h).2
  simp [World.setCell, Array.getElem?_modify, h]
end Go.Proofs.YtfdbcfkjablnkaaGreat

namespace Go.Proofs.YtfdbcfkjablnkaaGreat
open Go.RowKit
set_option maxRecDepth 100000

/-- block b is a window: its top and bits -/
def WinAt (w : World) (b : Nat) (t : Int) (q : Nat) : Prop := w.heap[b]? = some (.cells #[.int .u32 t, .int .u64 (q : Int)] 103 (0, 0))
section
variable {w w' : World} {b : Nat} {t : Int} {q : Nat}
theorem WinAt.size (h : WinAt w b t q) : b < w.heap.size := (Array.getElem?_eq_some_iff.1 h).1
theorem WinAt.cells (h : WinAt w b t q) : w.cell? ⟨b, 0, none⟩ = some (.int .u32 t) ∧ w.cell? ⟨b, 1, none⟩ = some (.int .u64 (q : Int)) := by
  have : w.heap[b]? = _ := h
  simp [World.cell?, this]
theorem WinAt.thaw (h : WinAt w b t q) (j : Nat) : w.frozen? ⟨b, j, none⟩ = false := by
  have : w.heap[b]? = _ := h
  simp [World.frozen?, this]
theorem WinAt.below (h : WinAt w b t q) (hb : Below w.heap.size w w') : WinAt w' b t q := (hb.block b h.size).trans h
theorem WinAt.off {S : Nat → Prop} (h : WinAt w b t q) (hf : Off S w w') (hn : ¬ S b) : WinAt w' b t q := (hf.block b h.size hn).trans h
end
/-- a row by value -/
def rowV (t : Int) (q : Nat) : Value := .agg #[.int .u32 t, .int .u64 (q : Int)]

/-- the shifts as the walk spells them -/
theorem shl_val (q n : Nat) : IntKind.u64.wrap ((q : Int) * 2 ^ min n 64) = ((Wn.shl q n : Nat) : Int) := by
  rw [IntKind.wrap_u64]
  unfold Wn.shl
  split
  · rename_i h
    rw [show min n 64 = 64 by omega]
    exact Int.mul_emod_left _ _
  · rename_i h
    rw [show min n 64 = n by omega]
    simp
theorem shl_or (q n : Nat) : bits .or .u64 (IntKind.u64.wrap ((q : Int) * 2 ^ min n 64)) 1 = ((Wn.shl q n ||| 1 : Nat) : Int) := by
  rw [shl_val]
  exact u64_or_nat _ 1 (Wn.shl_lt _ _) (by omega)
theorem one_or (q n : Nat) (hq : q < 18446744073709551616) (h : n < 64) : bits .or .u64 (q : Int) (IntKind.u64.wrap (2 ^ min n 64)) = ((q ||| 2 ^ n : Nat) : Int) := by
  rw [IntKind.wrap_u64, show min n 64 = n by omega, show ((2 : Int) ^ n) = ((2 ^ n : Nat) : Int) by simp, Int.emod_eq_of_lt (Int.natCast_nonneg _) (by have := Wn.pow_lt h; omega)]
  exact u64_or_nat _ _ hq (Wn.pow_lt h)
/-- a row's store behind a drawn region -/
theorem row_store {W : World} {b : Nat} {cs : Array Value} {t : Int} {q : Nat} (c : W.heap[b]? = some (.cells cs 101 (0, 0))) (hs : cs.size = 2) (n : Nat) :
    (Instr.storeAt 101 (.pointer (some ⟨b, 0, none⟩)) (rowV t q)).run Tryz.prog (W.drewN n) = .ok () (((W.setCell ⟨b, 0, none⟩ (.int .u32 t)).setCell ⟨b, 1, none⟩ (.int .u64 (q : Int))).drewN n) := by
  match cs, hs with
  | ⟨[x0, x1]⟩, _ =>
    have d0 : W.cell? ⟨b, 0, none⟩ = some x0 := by simp [World.cell?, c]
    have d1 : W.cell? ⟨b, 1, none⟩ = some x1 := by simp [World.cell?, c]
    have f0 : W.frozen? ⟨b, 0, none⟩ = false := by simp [World.frozen?, c]
    have f1 : W.frozen? ⟨b, 1, none⟩ = false := by simp [World.frozen?, c]
    simp [rowV, Instr.storeAt, go_sem, d0, d1, f0, f1]
    rfl
theorem wquiet_of {f : FuncId} {args : Array Value} {w : World} {n : Nat} {v : Value} (h : Calls Tryz.prog f args (w.drewN n) fun e w' => e = .returned v ∧ w' = w.drewN n) : Calls Tryz.prog f args (w.drewN n) fun e w' => e = .returned v ∧ ∃ m, w' = w.drewN m :=
  h.mono fun _ _ h => ⟨h.1, n, h.2⟩
theorem wnew_any (s : Int) (hs : 0 ≤ s ∧ s < 4294967296) (w : World) : Calls Tryz.prog 19 #[.int .u32 s] w fun e w' => e = .returned (.pointer (some ⟨w.heap.size, 0, none⟩)) ∧ WinAt w' w.heap.size (Sr.add s (-1)) 18446744073709551615 ∧ Below w.heap.size w w' ∧ w'.heap.size = w.heap.size + 1 := by
  have K := sadd_any s (-1) w hs
  generalize Sr.add s (-1) = t at *
  go_enter Tryz.func19, Tryz.ntmps19
  go_wp2_with fail
  refine K.mono ?_
  rintro e w1 ⟨rfl, rfl⟩
  go_wp2
  go_ret
  exact ⟨rfl, World.alloc_heap_new _ _, (Below.refl _ w1).alloc (Nat.le_refl _) _, by simp⟩
section
variable {w : World} {b : Nat} {t : Int} {q : Nat}
theorem wtop_any (h : WinAt w b t q) : Calls Tryz.prog 58 #[.pointer (some ⟨b, 0, none⟩)] w fun e w' => e = .returned (.int .u32 t) ∧ w' = w := by
  obtain ⟨c0, c1⟩ := h.cells
  clear h
  go_enter Tryz.func58, Tryz.ntmps58
  go_wp2
  go_ret
  exact ⟨rfl, rfl⟩
theorem wbits_any (h : WinAt w b t q) : Calls Tryz.prog 59 #[.pointer (some ⟨b, 0, none⟩)] w fun e w' => e = .returned (.int .u64 (q : Int)) ∧ w' = w := by
  obtain ⟨c0, c1⟩ := h.cells
  clear h
  go_enter Tryz.func59, Tryz.ntmps59
  go_wp2
  go_ret
  exact ⟨rfl, rfl⟩
theorem wcopy_any (h : WinAt w b t q) : Calls Tryz.prog 56 #[.pointer (some ⟨b, 0, none⟩)] w fun e w' => e = .returned (.pointer (some ⟨w.heap.size, 0, none⟩)) ∧ WinAt w' w.heap.size t q ∧ Below w.heap.size w w' ∧ w'.heap.size = w.heap.size + 1 := by
  obtain ⟨c0, c1⟩ := h.cells
  clear h
  go_enter Tryz.func56, Tryz.ntmps56
  go_wp2
  go_ret
  exact ⟨rfl, World.alloc_heap_new _ _, (Below.refl _ w).alloc (Nat.le_refl _) _, by simp⟩
end
/-- is a number neither after the top nor one of the 64? -/
theorem wold_any (t : Int) (q : Nat) (n : Int) (ht : 0 ≤ t ∧ t < 4294967296) (hn : 0 ≤ n ∧ n < 4294967296) (w : World) :
    Calls Tryz.prog 82 #[rowV t q, .int .u32 n] w fun e w' => e = .returned (.bool (!Sr.after n t && decide (64 ≤ Sr.way n t))) ∧ Below w.heap.size w w' := by
  have K := Lib.hid (fun w => after_any n t w hn ht)
  have KW := Lib.hid (fun w => way_any n t w hn ht)
  have hw := Sr.way_lt n t
  generalize Sr.after n t = a at *
  generalize Sr.way n t = v at *
  unfold rowV
  go_enter Tryz.func82, Tryz.ntmps82
  go_wp2_with fail
  refine (K.out _).mono ?_
  rintro e w1 ⟨rfl, rfl⟩
  cases a with
  | true =>
    go_wp2
    go_ret
    exact ⟨rfl, (Below.refl _ w).alloc (Nat.le_refl _) _⟩
  | false =>
    go_wp2_with fail
    refine (KW.out _).mono ?_
    rintro e w1 ⟨rfl, rfl⟩
    by_cases h1 : 64 ≤ v
    · go_wp2
      go_ret
      exact ⟨ret_bool (by rw [decide_eq_true h1]; rfl), (Below.refl _ w).alloc (Nat.le_refl _) _⟩
    · go_wp2
      go_ret
      exact ⟨ret_bool (by rw [decide_eq_false (by omega)]; rfl), (Below.refl _ w).alloc (Nat.le_refl _) _⟩
/-- the row behind the coming of a number that isn't old -/
theorem wwith_any (t : Int) (q : Nat) (n : Int) (ht : 0 ≤ t ∧ t < 4294967296) (hn : 0 ≤ n ∧ n < 4294967296) (hq : q < 18446744073709551616) (hu : Sr.after n t = true ∨ Sr.way n t < 64) (w : World) :
    Calls Tryz.prog 83 #[rowV t q, .int .u32 n] w fun e w' => e = .returned (rowV (Wn.nt t n) (Wn.nq t q n)) ∧ Below w.heap.size w w' := by
  have K := Lib.hid (fun w => after_any n t w hn ht)
  have KW := Lib.hid (fun w => way_any n t w hn ht)
  have KV := Lib.hid (fun w => way_any t n w ht hn)
  have hw := Sr.way_lt n t
  have hv := Sr.way_lt t n
  have HT := Lib.hid (show Wn.nt t n = if Sr.after n t = true then n else t from rfl)
  have HQ := Lib.hid (show Wn.nq t q n = if Sr.after n t = true then Wn.shl q (Sr.way t n).toNat ||| 1 else q ||| 2 ^ (Sr.way n t).toNat from rfl)
  generalize Wn.nt t n = t' at *
  generalize Wn.nq t q n = q' at *
  generalize Sr.after n t = a at *
  generalize Sr.way n t = u at *
  generalize Sr.way t n = v at *
  unfold rowV
  go_enter Tryz.func83, Tryz.ntmps83
  go_wp2_with fail
  refine (K.out _).mono ?_
  rintro e w1 ⟨rfl, rfl⟩
  obtain ⟨W, hW⟩ : ∃ W, (w.alloc (Obj.cells #[Value.int .u32 t, Value.int .u64 (q : Int)] 101)).alloc (Obj.cells #[Value.int .u32 0, Value.int .u64 0] 101) = W := ⟨_, rfl⟩
  have b0 : W.heap[w.heap.size]? = some (.cells #[Value.int .u32 t, Value.int .u64 (q : Int)] 101 (0, 0)) := by rw [← hW]; exact (Below.heap_alloc _ _ _ (by simp)).trans (World.alloc_heap_new _ _)
  have b1 : W.heap[w.heap.size + 1]? = some (.cells #[Value.int .u32 0, Value.int .u64 0] 101 (0, 0)) := by
    have := World.alloc_heap_new (w.alloc (Obj.cells #[Value.int .u32 t, Value.int .u64 (q : Int)] 101)) (Obj.cells #[Value.int .u32 0, Value.int .u64 0] 101)
    rw [World.size_alloc] at this
    rw [← hW]; exact this
  have hb : Below w.heap.size w W := by rw [← hW]; exact ((Below.refl _ w).alloc (Nat.le_refl _) _).alloc (by simp) _
  have HW := Lib.hid hW
  have c0 : W.cell? ⟨w.heap.size, 0, none⟩ = some (.int .u32 t) := by simp [World.cell?, b0]
  have c1 : W.cell? ⟨w.heap.size, 1, none⟩ = some (.int .u64 (q : Int)) := by simp [World.cell?, b0]
  have d0 : W.cell? ⟨w.heap.size + 1, 0, none⟩ = some (.int .u32 0) := by simp [World.cell?, b1]
  have d1 : W.cell? ⟨w.heap.size + 1, 1, none⟩ = some (.int .u64 0) := by simp [World.cell?, b1]
  have f0 : W.frozen? ⟨w.heap.size + 1, 0, none⟩ = false := by simp [World.frozen?, b1]
  have f1 : W.frozen? ⟨w.heap.size + 1, 1, none⟩ = false := by simp [World.frozen?, b1]
  have b1 := Lib.hid b1
  have HU := Lib.hid hu
  clear hW b0 hu
  cases a with
  | true =>
    go_wp2
    rw [HW.out]
    refine wp_region_lex2 (C := fun w' => ∃ n, w' = W.drewN n) (by kernel_rfl) (by kernel_rfl) ⟨1, rfl⟩ ?_
    repeat (first
      | (refine wpQ2_pure rfl ?_; go_big_quiet_step (fail); refine wpQuiet_nil ?_)
      | (refine wpQ2_look rfl ?_; go_big_quiet_step (fail); refine wpQuiet_nil ?_))
    refine wpQ2_look rfl ?_
    go_big_quiet_step ((go_at_call 103; exact wquiet_of (KV.out _)))
    refine wpQuiet_nil ?_
    repeat (first
      | (refine wpQ2_pure rfl ?_; go_big_quiet_step (fail); refine wpQuiet_nil ?_))
    refine wpQ2_look rfl ?_
    go_big_quiet_step (fail)
    refine wpQuiet_nil ?_
    rw [shl_or]
    refine wpQ2_store (fun w' => ∃ d, w' = ((W.setCell ⟨w.heap.size + 1, 0, none⟩ (.int .u32 n)).setCell ⟨w.heap.size + 1, 1, none⟩ (.int .u64 ((Wn.shl q v.toNat ||| 1 : Nat) : Int))).drewN d) rfl rfl rfl ⟨w.heap.size + 1, 0, none⟩ (rowV n (Wn.shl q v.toNat ||| 1)) rfl rfl ?_ ?_
    · rintro w5 ⟨n5, rfl⟩
      exact ⟨_, row_store b1.out rfl n5, n5, rfl⟩
    rintro w6 ⟨n6, rfl⟩
    have hR := setCell_at (j := 1) (u := .int .u64 ((Wn.shl q v.toNat ||| 1 : Nat) : Int)) (setCell_at (j := 0) (u := .int .u32 n) b1.out)
    have hBf := Lib.hid (below_drewN ((hb.setCell (p := ⟨w.heap.size + 1, 0, none⟩) (Nat.le_succ _) (.int .u32 n)).setCell (p := ⟨w.heap.size + 1, 1, none⟩) (Nat.le_succ _) (.int .u64 ((Wn.shl q v.toNat ||| 1 : Nat) : Int))) n6)
    have hRd : (((W.setCell ⟨w.heap.size + 1, 0, none⟩ (.int .u32 n)).setCell ⟨w.heap.size + 1, 1, none⟩ (.int .u64 ((Wn.shl q v.toNat ||| 1 : Nat) : Int))).drewN n6).heap[w.heap.size + 1]? = some (.cells #[.int .u32 n, .int .u64 ((Wn.shl q v.toNat ||| 1 : Nat) : Int)] 101 (0, 0)) := hR
    generalize ((W.setCell ⟨w.heap.size + 1, 0, none⟩ (.int .u32 n)).setCell ⟨w.heap.size + 1, 1, none⟩ (.int .u64 ((Wn.shl q v.toNat ||| 1 : Nat) : Int))).drewN n6 = W6 at *
    have g0 : W6.cell? ⟨w.heap.size + 1, 0, none⟩ = some (.int .u32 n) := by simp [World.cell?, hRd]
    have g1 : W6.cell? ⟨w.heap.size + 1, 1, none⟩ = some (.int .u64 ((Wn.shl q v.toNat ||| 1 : Nat) : Int)) := by simp [World.cell?, hRd]
    clear hR hRd c0 c1 d0 d1 f0 f1 hb
    go_wp2
    refine bodyPost_ret (by simp [results, Tryz.results83, go_sem, g0, g1]; try rfl) rfl ?_
    exact ⟨by rw [HT.out, HQ.out]; rfl, hBf.out⟩
  | false =>
    go_wp2
    rw [HW.out]
    refine wp_region_lex2 (C := fun w' => ∃ n, w' = W.drewN n) (by kernel_rfl) (by kernel_rfl) ⟨1, rfl⟩ ?_
    repeat (first
      | (refine wpQ2_pure rfl ?_; go_big_quiet_step (fail); refine wpQuiet_nil ?_)
      | (refine wpQ2_look rfl ?_; go_big_quiet_step (fail); refine wpQuiet_nil ?_))
    refine wpQ2_look rfl ?_
    go_big_quiet_step ((go_at_call 103; exact wquiet_of (KW.out _)))
    refine wpQuiet_nil ?_
    repeat (first
      | (refine wpQ2_pure rfl ?_; go_big_quiet_step (fail); refine wpQuiet_nil ?_)
      | (refine wpQ2_look rfl ?_; go_big_quiet_step (fail); refine wpQuiet_nil ?_))
    rw [one_or q u.toNat hq (by have := HU.out; simp at this; omega)]
    refine wpQ2_store (fun w' => ∃ d, w' = ((W.setCell ⟨w.heap.size + 1, 0, none⟩ (.int .u32 t)).setCell ⟨w.heap.size + 1, 1, none⟩ (.int .u64 ((q ||| 2 ^ u.toNat : Nat) : Int))).drewN d) rfl rfl rfl ⟨w.heap.size + 1, 0, none⟩ (rowV t (q ||| 2 ^ u.toNat)) rfl rfl ?_ ?_
    · rintro w5 ⟨n5, rfl⟩
      exact ⟨_, row_store b1.out rfl n5, n5, rfl⟩
    rintro w6 ⟨n6, rfl⟩
    have hR := setCell_at (j := 1) (u := .int .u64 ((q ||| 2 ^ u.toNat : Nat) : Int)) (setCell_at (j := 0) (u := .int .u32 t) b1.out)
    have hBf := Lib.hid (below_drewN ((hb.setCell (p := ⟨w.heap.size + 1, 0, none⟩) (Nat.le_succ _) (.int .u32 t)).setCell (p := ⟨w.heap.size + 1, 1, none⟩) (Nat.le_succ _) (.int .u64 ((q ||| 2 ^ u.toNat : Nat) : Int))) n6)
    have hRd : (((W.setCell ⟨w.heap.size + 1, 0, none⟩ (.int .u32 t)).setCell ⟨w.heap.size + 1, 1, none⟩ (.int .u64 ((q ||| 2 ^ u.toNat : Nat) : Int))).drewN n6).heap[w.heap.size + 1]? = some (.cells #[.int .u32 t, .int .u64 ((q ||| 2 ^ u.toNat : Nat) : Int)] 101 (0, 0)) := hR
    generalize ((W.setCell ⟨w.heap.size + 1, 0, none⟩ (.int .u32 t)).setCell ⟨w.heap.size + 1, 1, none⟩ (.int .u64 ((q ||| 2 ^ u.toNat : Nat) : Int))).drewN n6 = W6 at *
    have g0 : W6.cell? ⟨w.heap.size + 1, 0, none⟩ = some (.int .u32 t) := by simp [World.cell?, hRd]
    have g1 : W6.cell? ⟨w.heap.size + 1, 1, none⟩ = some (.int .u64 ((q ||| 2 ^ u.toNat : Nat) : Int)) := by simp [World.cell?, hRd]
    clear hR hRd c0 c1 d0 d1 f0 f1 hb
    go_wp2
    refine bodyPost_ret (by simp [results, Tryz.results83, go_sem, g0, g1]; try rfl) rfl ?_
    exact ⟨by rw [HT.out, HQ.out]; rfl, hBf.out⟩
end Go.Proofs.YtfdbcfkjablnkaaGreat

namespace Go.Proofs.YtfdbcfkjablnkaaGreat
open Go.RowKit
set_option maxRecDepth 100000

theorem wlk_any {w : World} {b : Nat} {t : Int} {q : Nat} (h : WinAt w b t q) (n : Int) (ht : 0 ≤ t ∧ t < 4294967296) (hn : 0 ≤ n ∧ n < 4294967296) (hq : q < 18446744073709551616) :
    Calls Tryz.prog 53 #[.pointer (some ⟨b, 0, none⟩), .int .u32 n] w fun e w' =>
      (∃ t1 q1, e = .returned (.tuple #[rowV t1 q1, .int .i64 (Wn.look t q n)]) ∧ (Wn.look t q n = 0 → t1 = Wn.nt t n ∧ q1 = Wn.nq t q n)) ∧ Below w.heap.size w w' := by
  have KO := Lib.hid (fun w => wold_any t q n ht hn w)
  have KW := Lib.hid (fun hu w => wwith_any t q n ht hn hq hu w)
  have hA := h
  obtain ⟨c0, c1⟩ := h.cells
  have hlt := h.size
  clear h
  have HL : Hid (Wn.look t q n = if Sr.after n t = true then 0 else if 64 ≤ Sr.way n t then 15 else if q.testBit (Sr.way n t).toNat = true then 14 else 0) := rfl
  have HT : Hid (Wn.nt t n = if Sr.after n t = true then n else t) := rfl
  have HQ : Hid (Wn.nq t q n = if Sr.after n t = true then Wn.shl q (Sr.way t n).toNat ||| 1 else q ||| 2 ^ (Sr.way n t).toNat) := rfl
  have HN : Hid (Sr.after n t = true → n ≠ t) := fun h e => by
    subst e
    have := Wn.after_way h
    unfold Sr.way at this
    omega
  have hu := Sr.way_lt n t
  generalize Sr.after n t = a at *
  generalize Sr.way n t = u at *
  generalize Sr.way t n = v at *
  generalize Wn.nt t n = t' at *
  generalize Wn.nq t q n = q' at *
  generalize Wn.look t q n = L at *
  go_enter Tryz.func53, Tryz.ntmps53
  go_wp2_with fail
  refine (KO.out _).mono ?_
  rintro e w1 ⟨rfl, hb1⟩
  have hb01 : Below w.heap.size w w1 := ((Below.refl _ w).alloc (Nat.le_refl _) (.cells #[Value.int IntKind.u32 0, Value.int IntKind.u64 0] 101)).trans (hb1.mono (by simp))
  have r1 : w1.heap[w.heap.size]? = some (.cells #[Value.int IntKind.u32 0, Value.int IntKind.u64 0] 101 (0, 0)) := (hb1.block _ (by simp)).trans (World.alloc_heap_new _ _)
  have A1 := Lib.hid (hA.below hb01)
  have B1 := Lib.hid hb01
  have R1 := Lib.hid r1
  have hs1 : w.heap.size < w1.heap.size := (Array.getElem?_eq_some_iff.1 r1).1
  obtain ⟨r, hr⟩ : ∃ r, w.heap.size = r := ⟨_, rfl⟩
  rw [hr] at R1 hs1 hlt
  have HR := Lib.hid hr
  clear hb1 hb01 r1 c0 c1 KO hA
  by_cases ho : a = false ∧ 64 ≤ u
  · obtain ⟨rfl, h64⟩ := ho
    have hd : (!false && decide (64 ≤ u)) = true := by simp [h64]
    rw [hd, hr]
    have g0 : w1.cell? ⟨r, 0, none⟩ = some (.int .u32 0) := by simp [World.cell?, R1.out]
    have g1 : w1.cell? ⟨r, 1, none⟩ = some (.int .u64 0) := by simp [World.cell?, R1.out]
    have f0 : w1.frozen? ⟨r, 0, none⟩ = false := by simp [World.frozen?, R1.out]
    have f1 : w1.frozen? ⟨r, 1, none⟩ = false := by simp [World.frozen?, R1.out]
    have hL : L = 15 := by have := HL.out; simpa [h64] using this
    clear h64 hd
    go_wp2
    have hF := setCell_at (j := 1) (u := .int .u64 0) (setCell_at (j := 0) (u := .int .u32 0) R1.out)
    have hB := Lib.hid ((B1.out.setCell (p := ⟨r, 0, none⟩) (Nat.le_of_eq HR.out) (.int .u32 0)).setCell (p := ⟨r, 1, none⟩) (Nat.le_of_eq HR.out) (.int .u64 0))
    generalize (World.setCell w1 ⟨r, 0, none⟩ (.int .u32 0)).setCell ⟨r, 1, none⟩ (.int .u64 0) = W6 at *
    have k0 : W6.cell? ⟨r, 0, none⟩ = some (.int .u32 0) := by simp [World.cell?, hF]
    have k1 : W6.cell? ⟨r, 1, none⟩ = some (.int .u64 0) := by simp [World.cell?, hF]
    clear hF
    refine bodyPost_ret (by simp [results, Tryz.results53, go_sem, k0, k1]; try rfl) rfl ?_
    exact ⟨⟨0, 0, by rw [hL]; rfl, fun h => absurd (hL.symm.trans h) (by decide)⟩, hB.out⟩
  · have hau : a = true ∨ u < 64 := by
      cases a with
      | true => exact .inl rfl
      | false => exact .inr (by simp at ho; omega)
    have hd : (!a && decide (64 ≤ u)) = false := by
      cases a with
      | true => rfl
      | false => simp at ho; simp; omega
    rw [hd, hr]
    have KW2 := KW.out hau w1
    obtain ⟨e0, e1⟩ := A1.out.cells
    have hb1 := A1.out.size
    clear KW hd ho
    go_wp2_with fail
    refine KW2.mono ?_
    rintro e w2 ⟨rfl, hb2⟩
    clear KW2 e0 e1
    obtain ⟨w3, hw3⟩ : ∃ w3, w2.alloc (.cells #[Value.int .u32 t', Value.int .u64 (q' : Int)] 101) = w3 := ⟨_, rfl⟩
    have hs2 := hb2.size
    have hb23 : Below w2.heap.size w2 w3 := by rw [← hw3]; exact (Below.refl _ w2).alloc (Nat.le_refl _) _
    have hb13 : Below w1.heap.size w1 w3 := hb2.trans (hb23.mono hs2)
    have r3 : w3.heap[w2.heap.size]? = some (.cells #[Value.int .u32 t', Value.int .u64 (q' : Int)] 101 (0, 0)) := by rw [← hw3]; exact World.alloc_heap_new _ _
    have o3 : w3.heap[r]? = some (.cells #[Value.int IntKind.u32 0, Value.int IntKind.u64 0] 101 (0, 0)) := (hb13.block _ hs1).trans R1.out
    have a3 : WinAt w3 b t q := A1.out.below hb13
    have hB3 := Lib.hid (B1.out.trans (hb13.mono (by omega)))
    obtain ⟨m, hm⟩ : ∃ m, w2.heap.size = m := ⟨_, rfl⟩
    rw [hm] at r3
    unfold rowV
    go_wp2_with fail
    obtain ⟨c0, c1⟩ := a3.cells
    have d0 : w3.cell? ⟨m, 0, none⟩ = some (.int .u32 t') := by simp [World.cell?, r3]
    have d1 : w3.cell? ⟨m, 1, none⟩ = some (.int .u64 (q' : Int)) := by simp [World.cell?, r3]
    have O3 := Lib.hid o3
    have R3 := Lib.hid r3
    clear o3 r3 a3 hw3 hb2 hb23 hb13 hs2 hr
    cases a with
    | true =>
      have e1 : (t' == t) = false := by
        rw [beq_eq_false_iff_ne]
        have := HT.out
        rw [if_pos rfl] at this
        rw [this]
        exact HN.out rfl
      have hL : L = 0 := by have := HL.out; rwa [if_pos rfl] at this
      have HL2 := Lib.hid hL
      clear HL HT HQ HN hL hau
      go_quiet (fail)
      clear c0 c1 d0 d1
      have o4 : (w3.drewN nq).heap[r]? = some (.cells #[Value.int IntKind.u32 0, Value.int IntKind.u64 0] 101 (0, 0)) := O3.out
      have m4 : (w3.drewN nq).heap[m]? = some (.cells #[Value.int .u32 t', Value.int .u64 (q' : Int)] 101 (0, 0)) := R3.out
      have hB4 := Lib.hid (below_drewN hB3.out nq)
      generalize w3.drewN nq = w4 at *
      have g0 : w4.cell? ⟨r, 0, none⟩ = some (.int .u32 0) := by simp [World.cell?, o4]
      have g1 : w4.cell? ⟨r, 1, none⟩ = some (.int .u64 0) := by simp [World.cell?, o4]
      have f0 : w4.frozen? ⟨r, 0, none⟩ = false := by simp [World.frozen?, o4]
      have f1 : w4.frozen? ⟨r, 1, none⟩ = false := by simp [World.frozen?, o4]
      have h0 : w4.cell? ⟨m, 0, none⟩ = some (.int .u32 t') := by simp [World.cell?, m4]
      have h1 : w4.cell? ⟨m, 1, none⟩ = some (.int .u64 (q' : Int)) := by simp [World.cell?, m4]
      have O4 := Lib.hid o4
      clear o4 m4
      go_wp2
      have hF := setCell_at (j := 1) (u := .int .u64 (q' : Int)) (setCell_at (j := 0) (u := .int .u32 t') O4.out)
      have hB := Lib.hid ((hB4.out.setCell (p := ⟨r, 0, none⟩) (Nat.le_of_eq HR.out) (.int .u32 t')).setCell (p := ⟨r, 1, none⟩) (Nat.le_of_eq HR.out) (.int .u64 (q' : Int)))
      generalize (World.setCell w4 ⟨r, 0, none⟩ (.int .u32 t')).setCell ⟨r, 1, none⟩ (.int .u64 (q' : Int)) = W6 at *
      have k0 : W6.cell? ⟨r, 0, none⟩ = some (.int .u32 t') := by simp [World.cell?, hF]
      have k1 : W6.cell? ⟨r, 1, none⟩ = some (.int .u64 (q' : Int)) := by simp [World.cell?, hF]
      clear hF
      refine bodyPost_ret (by simp [results, Tryz.results53, go_sem, k0, k1]; try rfl) rfl ?_
      exact ⟨⟨t', q', by rw [HL2.out]; rfl, fun _ => ⟨rfl, rfl⟩⟩, hB.out⟩
    | false =>
      have hu64 : u < 64 := by simpa using hau
      have hT : t' = t := HT.out
      subst hT
      have hQ := HQ.out
      have hL := HL.out
      rw [if_neg (by decide)] at hQ hL
      rw [if_neg (by omega)] at hL
      cases hb : q.testBit u.toNat with
      | true =>
        have hq2 : q' = q := hQ.trans (Wn.or_same hb)
        subst hq2
        rw [hb, if_pos rfl] at hL
        have HL2 := Lib.hid hL
        clear HL HT HQ HN hL hau hQ hb
        go_quiet (fail)
        clear c0 c1 d0 d1
        have o4 : (w3.drewN nq).heap[r]? = some (.cells #[Value.int IntKind.u32 0, Value.int IntKind.u64 0] 101 (0, 0)) := O3.out
        have m4 : (w3.drewN nq).heap[m]? = some (.cells #[Value.int .u32 t', Value.int .u64 (q' : Int)] 101 (0, 0)) := R3.out
        have hB4 := Lib.hid (below_drewN hB3.out nq)
        generalize w3.drewN nq = w4 at *
        have g0 : w4.cell? ⟨r, 0, none⟩ = some (.int .u32 0) := by simp [World.cell?, o4]
        have g1 : w4.cell? ⟨r, 1, none⟩ = some (.int .u64 0) := by simp [World.cell?, o4]
        have f0 : w4.frozen? ⟨r, 0, none⟩ = false := by simp [World.frozen?, o4]
        have f1 : w4.frozen? ⟨r, 1, none⟩ = false := by simp [World.frozen?, o4]
        have h0 : w4.cell? ⟨m, 0, none⟩ = some (.int .u32 t') := by simp [World.cell?, m4]
        have h1 : w4.cell? ⟨m, 1, none⟩ = some (.int .u64 (q' : Int)) := by simp [World.cell?, m4]
        have O4 := Lib.hid o4
        clear o4 m4
        go_wp2
        have hF := setCell_at (j := 1) (u := .int .u64 0) (setCell_at (j := 0) (u := .int .u32 0) O4.out)
        have hB := Lib.hid ((hB4.out.setCell (p := ⟨r, 0, none⟩) (Nat.le_of_eq HR.out) (.int .u32 0)).setCell (p := ⟨r, 1, none⟩) (Nat.le_of_eq HR.out) (.int .u64 0))
        generalize (World.setCell w4 ⟨r, 0, none⟩ (.int .u32 0)).setCell ⟨r, 1, none⟩ (.int .u64 0) = W6 at *
        have k0 : W6.cell? ⟨r, 0, none⟩ = some (.int .u32 0) := by simp [World.cell?, hF]
        have k1 : W6.cell? ⟨r, 1, none⟩ = some (.int .u64 0) := by simp [World.cell?, hF]
        clear hF
        refine bodyPost_ret (by simp [results, Tryz.results53, go_sem, k0, k1]; try rfl) rfl ?_
        exact ⟨⟨0, 0, by rw [HL2.out]; rfl, fun h => absurd (HL2.out.symm.trans h) (by decide)⟩, hB.out⟩
      | false =>
        have hq2 : q' ≠ q := by rw [hQ]; exact Wn.or_other hb
        have e1 : ((q' : Int) == (q : Int)) = false := by rw [beq_eq_false_iff_ne]; omega
        rw [hb, if_neg (by decide)] at hL
        have HL2 := Lib.hid hL
        clear HL HT HQ HN hL hau hQ hb hq2
        go_quiet (fail)
        clear c0 c1 d0 d1
        have o4 : (w3.drewN nq).heap[r]? = some (.cells #[Value.int IntKind.u32 0, Value.int IntKind.u64 0] 101 (0, 0)) := O3.out
        have m4 : (w3.drewN nq).heap[m]? = some (.cells #[Value.int .u32 t', Value.int .u64 (q' : Int)] 101 (0, 0)) := R3.out
        have hB4 := Lib.hid (below_drewN hB3.out nq)
        generalize w3.drewN nq = w4 at *
        have g0 : w4.cell? ⟨r, 0, none⟩ = some (.int .u32 0) := by simp [World.cell?, o4]
        have g1 : w4.cell? ⟨r, 1, none⟩ = some (.int .u64 0) := by simp [World.cell?, o4]
        have f0 : w4.frozen? ⟨r, 0, none⟩ = false := by simp [World.frozen?, o4]
        have f1 : w4.frozen? ⟨r, 1, none⟩ = false := by simp [World.frozen?, o4]
        have h0 : w4.cell? ⟨m, 0, none⟩ = some (.int .u32 t') := by simp [World.cell?, m4]
        have h1 : w4.cell? ⟨m, 1, none⟩ = some (.int .u64 (q' : Int)) := by simp [World.cell?, m4]
        have O4 := Lib.hid o4
        clear o4 m4
        go_wp2
        have hF := setCell_at (j := 1) (u := .int .u64 (q' : Int)) (setCell_at (j := 0) (u := .int .u32 t') O4.out)
        have hB := Lib.hid ((hB4.out.setCell (p := ⟨r, 0, none⟩) (Nat.le_of_eq HR.out) (.int .u32 t')).setCell (p := ⟨r, 1, none⟩) (Nat.le_of_eq HR.out) (.int .u64 (q' : Int)))
        generalize (World.setCell w4 ⟨r, 0, none⟩ (.int .u32 t')).setCell ⟨r, 1, none⟩ (.int .u64 (q' : Int)) = W6 at *
        have k0 : W6.cell? ⟨r, 0, none⟩ = some (.int .u32 t') := by simp [World.cell?, hF]
        have k1 : W6.cell? ⟨r, 1, none⟩ = some (.int .u64 (q' : Int)) := by simp [World.cell?, hF]
        clear hF
        refine bodyPost_ret (by simp [results, Tryz.results53, go_sem, k0, k1]; try rfl) rfl ?_
        exact ⟨⟨t', q', by rw [HL2.out]; rfl, fun _ => ⟨rfl, rfl⟩⟩, hB.out⟩

theorem wLook_any {w : World} {b : Nat} {t : Int} {q : Nat} (h : WinAt w b t q) (n : Int) (ht : 0 ≤ t ∧ t < 4294967296) (hn : 0 ≤ n ∧ n < 4294967296) (hq : q < 18446744073709551616) :
    Calls Tryz.prog 47 #[.pointer (some ⟨b, 0, none⟩), .int .u32 n] w fun e w' => e = .returned (.int .i64 (Wn.look t q n)) ∧ Below w.heap.size w w' := by
  have K := wlk_any h n ht hn hq
  generalize Wn.look t q n = L at *
  generalize Wn.nt t n = t' at *
  generalize Wn.nq t q n = q' at *
  clear h
  go_enter Tryz.func47, Tryz.ntmps47
  go_wp2_with fail
  refine K.mono ?_
  rintro e w1 ⟨⟨t1, q1, rfl, _⟩, hb1⟩
  unfold rowV
  go_wp2
  go_ret
  exact ⟨rfl, hb1.alloc hb1.size _⟩
/-- what Mark leaves: of a new one the window that it comes to, else the window as it was -/
theorem wMark_any {w : World} {b : Nat} {t : Int} {q : Nat} (h : WinAt w b t q) (n : Int) (ht : 0 ≤ t ∧ t < 4294967296) (hn : 0 ≤ n ∧ n < 4294967296) (hq : q < 18446744073709551616) :
    Calls Tryz.prog 28 #[.pointer (some ⟨b, 0, none⟩), .int .u32 n] w fun e w' => e = .returned (.int .i64 (Wn.look t q n)) ∧
      WinAt w' b (if Wn.look t q n = 0 then Wn.nt t n else t) (if Wn.look t q n = 0 then Wn.nq t q n else q) ∧ Off (fun k => k = b) w w' := by
  have K := wlk_any h n ht hn hq
  generalize Wn.look t q n = L at *
  generalize Wn.nt t n = t' at *
  generalize Wn.nq t q n = q' at *
  have HA := Lib.hid h
  have hlt := h.size
  clear h
  go_enter Tryz.func28, Tryz.ntmps28
  go_wp2_with fail
  refine K.mono ?_
  rintro e w1 ⟨⟨t1, q1, rfl, hr⟩, hb1⟩
  have hA1 := HA.out.below hb1
  have hs1 := hb1.size
  obtain ⟨w2, hw2⟩ : ∃ w2, w1.alloc (.cells #[Value.int .u32 t1, Value.int .u64 (q1 : Int)] 101) = w2 := ⟨_, rfl⟩
  have hb12 : Below w1.heap.size w1 w2 := by rw [← hw2]; exact (Below.refl _ w1).alloc (Nat.le_refl _) _
  have hA2 := hA1.below hb12
  have r2 : w2.heap[w1.heap.size]? = some (.cells #[Value.int .u32 t1, Value.int .u64 (q1 : Int)] 101 (0, 0)) := by rw [← hw2]; exact World.alloc_heap_new _ _
  have hB := Lib.hid (hb1.trans (hb12.mono hs1))
  have d0 : w2.cell? ⟨w1.heap.size, 0, none⟩ = some (.int .u32 t1) := by simp [World.cell?, r2]
  have d1 : w2.cell? ⟨w1.heap.size, 1, none⟩ = some (.int .u64 (q1 : Int)) := by simp [World.cell?, r2]
  obtain ⟨c0, c1⟩ := hA2.cells
  have f0 := hA2.thaw 0
  have f1 := hA2.thaw 1
  have A2 := Lib.hid hA2
  have HR := Lib.hid hr
  clear r2 hA2 hA1 hb12 hb1 hr K
  unfold rowV
  by_cases hL : L = 0
  · subst hL
    obtain ⟨rfl, rfl⟩ := HR.out rfl
    go_wp2
    go_ret
    have h2 : w2.heap[b]? = _ := A2.out
    refine ⟨rfl, ?_, ((Off.of_below (S := fun k => k = b) hB.out).setCell (p := ⟨b, 0, none⟩) rfl _).setCell (p := ⟨b, 1, none⟩) rfl _⟩
    exact setCell_at (setCell_at h2)
  · have e1 : (L == 0) = false := by rw [beq_eq_false_iff_ne]; exact hL
    have hL' := Lib.hid hL
    clear hL
    go_wp2
    go_ret
    exact ⟨rfl, A2.out, Off.of_below hB.out⟩
end Go.Proofs.YtfdbcfkjablnkaaGreat

namespace Go.Proofs.YtfdbcfkjablnkaaGreat
open Go.RowKit
set_option maxRecDepth 100000

/-- the cells of a window of the document's: its top, and of each of the 64 whether it has come -/
def wC (t : Int) (p : Nat → Bool) : Array Value := (Value.int .u32 t :: (List.range 64).map fun i => Value.bool (p i)).toArray
theorem wC_size (t : Int) (p : Nat → Bool) : (wC t p).size = 65 := by simp [wC]
theorem wC_top (t : Int) (p : Nat → Bool) : (wC t p)[0]? = some (.int .u32 t) := rfl
theorem wC_at (t : Int) (p : Nat → Bool) (i : Nat) (h : i < 64) : (wC t p)[1 + i]? = some (.bool (p i)) := by
  rw [Nat.add_comm]
  simp [wC, h]
theorem wC_one (t : Int) (p : Nat → Bool) : (wC t p).all (·.oneCell') = true := by
  rw [Array.all_eq_true_iff_forall_mem]
  intro v hv
  have hv : v ∈ Value.int .u32 t :: (List.range 64).map fun i => Value.bool (p i) := by simpa [wC] using hv
  rcases List.mem_cons.1 hv with rfl | hv
  · rfl
  · obtain ⟨i, _, rfl⟩ := List.mem_map.1 hv
    rfl
theorem wC_ext {C : Array Value} {t : Int} {p : Nat → Bool} (hs : C.size = 65) (h0 : C[0]? = some (.int .u32 t)) (h : ∀ i, i < 64 → C[1 + i]? = some (.bool (p i))) : C = wC t p := by
  apply Array.ext_getElem?
  intro j
  rcases Nat.lt_or_ge j 65 with hj | hj
  · cases j with
    | zero => rw [h0, wC_top]
    | succ i => rw [Nat.add_comm, h i (by omega), wC_at t p i (by omega)]
  · rw [Array.getElem?_eq_none (by omega), Array.getElem?_eq_none (by rw [wC_size]; omega)]
theorem wC_congr {t : Int} {p p' : Nat → Bool} (h : ∀ i, i < 64 → p i = p' i) : wC t p = wC t p' := wC_ext (wC_size _ _) (wC_top _ _) fun i hi => by rw [wC_at t p i hi, h i hi]
theorem wC_set (t : Int) (p : Nat → Bool) (i : Nat) (b : Bool) (_h : i < 64) : (wC t p).setIfInBounds (1 + i) (.bool b) = wC t (fun j => if j = i then b else p j) := by
  apply wC_ext (by simp [wC_size])
  · rw [Array.getElem?_setIfInBounds, if_neg (by omega)]; exact wC_top t p
  · intro j hj
    rw [Array.getElem?_setIfInBounds]
    by_cases hij : j = i
    · subst hij
      rw [if_pos rfl, if_pos (by rw [wC_size]; omega), if_pos rfl]
    · rw [if_neg (by omega), if_neg hij]
      exact wC_at t p j hj
theorem wC_setTop (t t' : Int) (p : Nat → Bool) : (wC t p).setIfInBounds 0 (.int .u32 t') = wC t' p := by
  apply wC_ext (by simp [wC_size])
  · rw [Array.getElem?_setIfInBounds, if_pos rfl, if_pos (by rw [wC_size]; omega)]
  · intro j hj
    rw [Array.getElem?_setIfInBounds, if_neg (by omega)]
    exact wC_at t p j hj
theorem wInfo : (Tryz.prog.info? 31).map (·.size) = some 65 := by kernel_rfl
theorem wZero : (Tryz.prog.info? 31).map (fun i => (i.zero, i.size)) = some (some (.agg (wC 0 (fun _ => false))), 65) := by kernel_rfl

/-- two rows that the call made: the result's, in block r, and a variable's, in block r + 1 -/
structure W2 (w wr : World) (r : Nat) (Z C : Array Value) : Prop where
  h0 : wr.heap[r]? = some (.cells Z 31 (0, 0))
  h1 : wr.heap[r + 1]? = some (.cells C 31 (0, 0))
  hr : w.heap.size ≤ r
  b : Below w.heap.size w wr
theorem W2.set {w wr : World} {r : Nat} {Z : Array Value} {t : Int} {p : Nat → Bool} (h : W2 w wr r Z (wC t p)) (i : Nat) (b : Bool) (hi : i < 64) : W2 w (wr.setCell ⟨r + 1, 1 + i, none⟩ (.bool b)) r Z (wC t (fun j => if j = i then b else p j)) := by
  refine ⟨(Below.heap_setCell wr ⟨r + 1, 1 + i, none⟩ _ r (by simp)).trans h.h0, ?_, h.hr, h.b.setCell (p := ⟨r + 1, 1 + i, none⟩) (by have := h.hr; simp; omega) _⟩
  rw [← wC_set t p i b hi]
  exact setCell_at h.h1
set_option maxHeartbeats 1000000 in
theorem rnew_any (s : Int) (hs : 0 ≤ s ∧ s < 4294967296) (w : World) :
    Calls Tryz.prog 20 #[.int .u32 s] w fun e w' => e = .returned (.agg (wC (Sr.add s (-1)) (fun _ => true))) ∧ Below w.heap.size w w' := by
  have K := fun w => sradd_any s (-1) w hs (by omega)
  obtain ⟨hz, hzs⟩ := zero_of_info (P := Tryz.prog) wZero
  obtain ⟨Z, hZ⟩ : ∃ Z, wC 0 (fun _ => false) = Z := ⟨_, rfl⟩
  rw [hZ] at hz
  have hZs : Z.size = 65 := by rw [← hZ]; exact wC_size _ _
  have hZn : ¬ Z = #[] := fun h => by rw [h] at hZs; cases hZs
  have HZ := Lib.hid hZ
  have HZs := Lib.hid hZs
  have HZi := Lib.hid hzs
  clear hZ hZs hzs
  generalize Sr.add s (-1) = t at *
  go_enter Tryz.func20, Tryz.ntmps20
  go_wp2_with fail
  refine (K _).mono ?_
  rintro e w1 ⟨rfl, rfl⟩
  simp only []
  rename ∀ (a : Act) (w : World), wpList _ _ _ _ a w → _ => hK
  refine hK _ _ ?_
  clear hK
  go_step
  go_step
  go_step
  go_step
  rw [show Z.setIfInBounds 0 (.int .u32 t) = wC t (fun _ => false) by rw [← HZ.out, wC_setTop]]
  have hCs : (wC t (fun _ => false)).size = 65 := wC_size _ _
  have hC1 := wC_one t (fun _ => false)
  obtain ⟨C0, hC0⟩ : ∃ C0, wC t (fun _ => false) = C0 := ⟨_, rfl⟩
  rw [hC0] at hCs hC1 ⊢
  go_step
  go_step
  refine wpList_store_row (by rfl) _ _ _ (by rfl) (w.heap.size + 1) C0 (by rfl) (by rfl) 31 Z (heap_alloc2_new w _ _) (by rw [hCs]; exact HZi.out) (by rw [HZs.out, hCs]) hC1 ?_
  have hW : W2 w (((w.alloc (.cells Z 31)).alloc (.cells Z 31)).setRow (w.heap.size + 1) C0) w.heap.size Z C0 :=
    ⟨(setRow_other _ _ _ _ (by omega)).trans (heap_alloc2_old w _ _), setRow_heap _ _ _ _ _ _ (heap_alloc2_new w _ _), Nat.le_refl _,
      ⟨rfl, rfl, rfl, by simp; omega, fun k hk => (setRow_other _ _ _ _ (by omega)).trans ((((Below.refl w.heap.size w).alloc (Nat.le_refl _) _).alloc (by simp) _).block k hk)⟩⟩
  generalize World.setRow _ (w.heap.size + 1) C0 = W at *
  rw [← hC0] at hW
  have HWW := Lib.hid hW
  clear hW hC1 hCs hC0 hz hZn
  obtain ⟨r, hr⟩ : ∃ r, w.heap.size = r := ⟨_, rfl⟩
  rw [hr] at HWW ⊢
  have HRr := Lib.hid hr
  clear hr
  go_wp2
  go_loopw [4] (fun i wr => ∃ k : Nat, k ≤ 64 ∧ i = .int .i64 (k : Int) ∧ Hid (W2 w wr r Z (wC t (fun j => decide (j < k))))) (fun i _ => 64 - (intOf i).toNat)
  case atStart => exact ⟨0, by omega, rfl, by have h := HWW.out; rw [wC_congr (p' := fun j => decide (j < 0)) (fun i _ => by simp)] at h; exact h⟩
  case round =>
    obtain ⟨k, hk, rfl, HK⟩ := hrel
    rcases Nat.lt_or_ge k 64 with h4 | h4
    · have h5 : (k : Int) < 64 := by omega
      have hc : wr.cell? ⟨r + 1, 1 + k, none⟩ = some (.bool (decide (k < k))) := by
        rw [cell_of_row wr (r + 1) (1 + k) _ _ _ HK.out.h1]
        exact wC_at t _ k h4
      have hf : wr.frozen? ⟨r + 1, 1 + k, none⟩ = false := by simp [World.frozen?, HK.out.h1]
      have HN : Hid (W2 w (wr.setCell ⟨r + 1, 1 + k, none⟩ (.bool true)) r Z (wC t (fun j => decide (j < k + 1)))) := by
        have h := HK.out.set k true h4
        rw [wC_congr (p' := fun j => decide (j < k + 1)) (fun i _ => by
          by_cases hik : i = k
          · subst hik; simp
          · rw [if_neg hik]; exact decide_eq_decide.2 (by omega))] at h
        exact h
      go_wp2
      go_roundw
      case rel => exact ⟨k + 1, by omega, by go_num, HN⟩
      case measure => simp [intOf]; omega
    · obtain rfl : 64 = k := by omega
      have hC : wC t (fun j => decide (j < 64)) = wC t (fun _ => true) := wC_congr fun i hi => decide_eq_true hi
      have hCs : (wC t (fun _ => true)).size = 65 := wC_size _ _
      have hC1 := wC_one t (fun _ => true)
      rw [hC] at HK
      clear hC
      obtain ⟨C, hCe⟩ : ∃ C, wC t (fun _ => true) = C := ⟨_, rfl⟩
      rw [hCe] at HK hCs hC1
      have HCe := Lib.hid hCe
      clear hCe
      rename ∀ (a : Act) (w : World), Code.wp _ _ _ a w → _ => hK
      have HKK := Lib.hid hK
      clear hK
      have hlt' : ¬ ((64 : Nat) : Int) < 64 := by omega
      have hsi : (Tryz.prog.info? 31).map (·.size) = some C.size := by rw [hCs]; exact HZi.out
      go_wp2
      refine HKK.out _ _ ?_
      go_step
      go_step
      refine wpList_load_row (by rfl) _ _ (by rfl) (r + 1) (by rfl) 31 C (0, 0) _ HK.out.h1 Tryz.underlying31 (by rfl) hsi ?_
      refine wpList_store_row (by rfl) _ _ _ (by rfl) r C (by rfl) (by rfl) 31 Z HK.out.h0 hsi (by rw [HZs.out, hCs]) hC1 ?_
      have HF := setRow_heap wr r Z C 31 (0, 0) HK.out.h0
      have hb2 : Below w.heap.size w (wr.setRow r C) := ⟨HK.out.b.os, HK.out.b.tape, HK.out.b.output, by have := HK.out.b.size; simpa [World.setRow] using this, fun k hk => (setRow_other _ _ _ _ (by have := HK.out.hr; omega)).trans (HK.out.b.block k hk)⟩
      generalize wr.setRow r C = W2' at *
      have HFH := Lib.hid HF
      clear HF
      go_wp2
      refine bodyPost_ret (results_cell_row (P := Tryz.prog) (fn := Tryz.f20) rfl _ _ r 31 C (0, 0) _ (by rfl) HFH.out Tryz.underlying31 (by rfl) hsi) rfl ⟨by rw [HCe.out], hb2⟩
end Go.Proofs.YtfdbcfkjablnkaaGreat

namespace Go.Proofs.YtfdbcfkjablnkaaGreat
open Go.RowKit
set_option maxRecDepth 100000

/-- a window of the document's by value -/
def refV (t : Int) (q : Nat) : Value := .agg (wC t q.testBit)
theorem way_back {t n : Int} {k : Nat} (hn : 0 ≤ n ∧ n < 4294967296) (hk : k < 64) : Sr.add t (-(k : Int)) = n ↔ Sr.way n t = (k : Int) := by
  unfold Sr.add Sr.way
  omega

set_option maxHeartbeats 1000000 in
theorem rlook_any (t : Int) (q : Nat) (n : Int) (ht : 0 ≤ t ∧ t < 4294967296) (hn : 0 ≤ n ∧ n < 4294967296) (w : World) :
    Calls Tryz.prog 22 #[refV t q, .int .u32 n] w fun e w' => e = .returned (.int .i64 (Wn.look t q n)) ∧ Below w.heap.size w w' := by
  have KA := Lib.hid (fun w => rafter_any n t w hn ht)
  have KD := Lib.hid (fun (k : Nat) (hk : k < 64) w => sradd_any t (-(k : Int)) w ht (by omega))
  have HWB := Lib.hid (fun k hk => @way_back t n k hn hk)
  have HL : Hid (Wn.look t q n = if Sr.after n t = true then 0 else if 64 ≤ Sr.way n t then 15 else if q.testBit (Sr.way n t).toNat = true then 14 else 0) := rfl
  have hw := Sr.way_lt n t
  generalize Wn.look t q n = L at *
  generalize Sr.after n t = a at *
  generalize Sr.way n t = u at *
  have h0 := wC_top t q.testBit
  have hat := wC_at t q.testBit
  unfold refV
  generalize wC t q.testBit = C at *
  obtain ⟨w1, hw1⟩ : ∃ w1, w.alloc (.cells C 31) = w1 := ⟨_, rfl⟩
  have hb1 : w1.heap[w.heap.size]? = some (.cells C 31 (0, 0)) := by rw [← hw1]; exact heap_alloc_new _ _
  have hB : Below w.heap.size w w1 := by rw [← hw1]; exact (Below.refl _ w).alloc (Nat.le_refl _) _
  have c0 : w1.cell? ⟨w.heap.size, 0, none⟩ = some (.int .u32 t) := by rw [cell_of_row w1 _ 0 _ _ _ hb1]; exact h0
  have HAT : Hid (∀ k, k < 64 → w1.cell? ⟨w.heap.size, 1 + k, none⟩ = some (.bool (q.testBit k))) := fun k hk => by rw [cell_of_row w1 _ (1 + k) _ _ _ hb1]; exact hat k hk
  have HB := Lib.hid hB
  clear hat h0 hb1 hB
  go_enter Tryz.func22, Tryz.ntmps22
  go_wp2_with fail
  refine (KA.out _).mono ?_
  rintro e V ⟨rfl, hV⟩
  rw [hV]
  clear hV KA
  cases a with
  | true =>
    have hL : L = 0 := by have := HL.out; rwa [if_pos rfl] at this
    have HL2 := Lib.hid hL
    clear hL hw1 HL
    go_wp2
    go_ret
    exact ⟨ret_int HL2.out.symm, HB.out⟩
  | false =>
    have hL : L = if 64 ≤ u then 15 else if q.testBit u.toNat = true then 14 else 0 := by have := HL.out; rwa [if_neg (by decide)] at this
    have HL2 := Lib.hid hL
    clear hL HL
    go_wp2
    go_loopw [5] (fun i wr => ∃ k : Nat, k ≤ 64 ∧ i = .int .i64 (k : Int) ∧ wr = w1 ∧ Hid (∀ j : Nat, j < k → u ≠ (j : Int))) (fun i _ => 64 - (intOf i).toNat)
    case atStart => exact ⟨0, by omega, rfl, rfl, fun j hj => absurd hj (Nat.not_lt_zero j)⟩
    case round =>
      obtain ⟨k, hk, rfl, rfl, HK⟩ := hrel
      rename World => w1
      rcases Nat.lt_or_ge k 64 with h4 | h4
      · have h5 : (k : Int) < 64 := by omega
        have K := KD.out k h4 w1
        have hwb := HWB.out k h4
        have hck := HAT.out k h4
        generalize Sr.add t (-(k : Int)) = x at *
        by_cases hx : x = n
        · have huk := hwb.1 hx
          have e1 : (x == n) = true := by rw [beq_iff_eq]; exact hx
          have hL : L = if q.testBit k = true then 14 else 0 := by
            have := HL2.out
            rw [huk, if_neg (by omega)] at this
            exact this
          have HL3 := Lib.hid hL
          clear hL hx huk hwb
          cases hb : q.testBit k with
          | true =>
            rw [hb] at hck HL3
            clear hb
            go_wp2_with fail
            refine K.mono ?_
            rintro e V ⟨rfl, hV⟩
            rw [hV]
            clear hV K
            go_wp2
            go_ret
            exact ⟨ret_int (by rw [HL3.out]; rfl), HB.out⟩
          | false =>
            rw [hb] at hck HL3
            clear hb
            go_wp2_with fail
            refine K.mono ?_
            rintro e V ⟨rfl, hV⟩
            rw [hV]
            clear hV K
            go_wp2
            go_ret
            exact ⟨ret_int (by rw [HL3.out]; rfl), HB.out⟩
        · have huk : u ≠ (k : Int) := fun h => hx (hwb.2 h)
          have e1 : (x == n) = false := by rw [beq_eq_false_iff_ne]; exact hx
          have HN : Hid (∀ j : Nat, j < k + 1 → u ≠ (j : Int)) := fun j hj => by
            rcases Nat.lt_or_ge j k with h | h
            · exact HK.out j h
            · have : j = k := by omega
              subst this; exact huk
          clear hx huk hwb hck
          go_wp2_with fail
          refine K.mono ?_
          rintro e V ⟨rfl, hV⟩
          rw [hV]
          clear hV K
          go_wp2
          go_roundw
          case rel => exact ⟨k + 1, by omega, by go_num, trivial, HN⟩
          case measure => simp [intOf]; omega
      · obtain rfl : 64 = k := by omega
        have hu64 : 64 ≤ u := by
          rcases Int.lt_or_le u 64 with h | h
          · exact absurd (Int.toNat_of_nonneg hw.1).symm (HK.out u.toNat (by omega))
          · exact h
        have hL : L = 15 := by have := HL2.out; rwa [if_pos hu64] at this
        have HL3 := Lib.hid hL
        clear hL hu64
        go_wp2
        go_ret
        exact ⟨ret_int HL3.out.symm, HB.out⟩
theorem bit_step (q k : Nat) : q / 2 ^ k = 2 * (q / 2 ^ (k + 1)) + (if q.testBit k = true then 1 else 0) := by
  rw [Nat.pow_succ, ← Nat.div_div_eq_div_mul, Nat.testBit_eq_decide_div_mod_eq]
  rcases Nat.mod_two_eq_zero_or_one (q / 2 ^ k) with h | h
  · rw [if_neg (by rw [h]; decide)]; omega
  · rw [if_pos (by rw [h]; decide)]; omega
set_option maxHeartbeats 1000000 in
theorem rbits_any (t : Int) (q : Nat) (hq : q < 18446744073709551616) (w : World) :
    Calls Tryz.prog 60 #[refV t q] w fun e w' => e = .returned (.int .u64 (q : Int)) ∧ Below w.heap.size w w' := by
  have hat := wC_at t q.testBit
  unfold refV
  generalize wC t q.testBit = C at *
  obtain ⟨w1, hw1⟩ : ∃ w1, w.alloc (.cells C 31) = w1 := ⟨_, rfl⟩
  have hb1 : w1.heap[w.heap.size]? = some (.cells C 31 (0, 0)) := by rw [← hw1]; exact heap_alloc_new _ _
  have hB : Below w.heap.size w w1 := by rw [← hw1]; exact (Below.refl _ w).alloc (Nat.le_refl _) _
  have HAT : Hid (∀ k, k < 64 → w1.cell? ⟨w.heap.size, 1 + k, none⟩ = some (.bool (q.testBit k))) := fun k hk => by rw [cell_of_row w1 _ (1 + k) _ _ _ hb1]; exact hat k hk
  have HB := Lib.hid hB
  clear hat hb1 hB
  go_enter Tryz.func60, Tryz.ntmps60
  go_wp2
  go_loopw [3, 4] (fun x i wr => ∃ k N : Nat, k ≤ 64 ∧ i = .int .i64 ((k : Int) - 1) ∧ x = .int .u64 (N : Int) ∧ Hid (N = q / 2 ^ k) ∧ wr = w1) (fun _ i _ => (intOf i + 1).toNat)
  case atStart => exact ⟨64, 0, by omega, rfl, rfl, by show 0 = _; rw [Nat.div_eq_of_lt (by simpa using hq)], rfl⟩
  case round =>
    obtain ⟨k, N, hk, rfl, rfl, HN, rfl⟩ := hrel
    rename World => w1
    cases k with
    | succ j =>
      have h2 : ((j + 1 : Nat) : Int) - 1 = (j : Int) := by omega
      have hck := HAT.out j (by omega)
      have hs := bit_step q j
      have hlt : q / 2 ^ j < 18446744073709551616 := Nat.lt_of_le_of_lt (Nat.div_le_self _ _) hq
      rw [← HN.out] at hs
      have h64 : (j : Int) < 64 := by omega
      rw [h2]
      cases hb : q.testBit j with
      | true =>
        rw [hb] at hck hs
        rw [if_pos rfl] at hs
        have HS := Lib.hid hs
        have hlt2 : 2 * (N : Int) + 1 < 18446744073709551616 := by omega
        clear hb hs hlt h2
        go_wp2
        go_roundw
        case rel => exact ⟨j, 2 * N + 1, by omega, rfl, by go_num, HS.out.symm, trivial⟩
        case measure => simp [intOf]
      | false =>
        rw [hb] at hck hs
        rw [if_neg (by decide), Nat.add_zero] at hs
        have HS := Lib.hid hs
        have hlt2 : 2 * (N : Int) < 18446744073709551616 := by omega
        clear hb hs hlt h2
        go_wp2
        go_roundw
        case rel => exact ⟨j, 2 * N, by omega, rfl, by go_num, HS.out.symm, trivial⟩
        case measure => simp [intOf]
    | zero =>
      have h2 : ((0 : Nat) : Int) - 1 = -1 := by omega
      rw [h2]
      clear h2
      go_wp2
      go_ret
      exact ⟨ret_int (by rw [HN.out, Nat.pow_zero, Nat.div_one]), HB.out⟩
end Go.Proofs.YtfdbcfkjablnkaaGreat

namespace Go.Proofs.YtfdbcfkjablnkaaGreat
section
variable {P : Program} {ops : Array Oper} {md : Region.Mode}

/-- 0: it looks at no memory and enters no function; 1: a load; 2: a store; 3: all others -/
def kind3 (o : Oper) : Nat :=
  if pureOp o then 0 else match o.op with
    | .load _ _ => 1
    | .store _ _ _ => 2
    | _ => 3
theorem kind3_pure {o : Oper} (h : kind3 o = 0) : kindOf o = 0 := by
  unfold kind3 at h
  unfold kindOf
  split at h
  · rename_i hp; rw [if_pos hp]
  · split at h <;> simp at h
theorem kind3_load {o : Oper} (h : kind3 o = 1) : ∃ t x, o.op = .load t x := by
  unfold kind3 at h
  split at h
  · simp at h
  · split at h
    · exact ⟨_, _, by assumption⟩
    · simp at h
    · simp at h
theorem load_no_enter {o : Oper} {t : TypeId} {x : Operand} (ho : o.op = .load t x) (ρ : Operand → Value) (w w' : World) (f : FuncId) (args : Array Value) : (execOp ρ o).run P w ≠ .ok (.enter f args) w' := by
  unfold execOp
  simp only [ho]
  exact run_value _ _ _ _ _
theorem yields_load {o : Oper} {v : Value} {a : Act} {C D : World → Prop} (hk : kind3 o = 1) (h : YieldsIn P ops C o v a) (hD : ∀ w, D w → C w) : YieldsIn P ops D o v a := by
  obtain ⟨t, x, ho⟩ := kind3_load hk
  rcases h with ⟨hw, h⟩ | h
  · refine .inl ⟨hw, fun w hwD => ?_⟩
    have h1 := h w (hD w hwD)
    have h2 := load_no_enter (P := P) ho a.eval w
    unfold Oper.quietAt at h1 ⊢
    generalize (execOp a.eval o).run P w = r at h1 h2
    cases r with
    | ok n w' =>
      cases n with
      | enter f args => exact absurd rfl (h2 w' f args)
      | _ => exact h1
    | halt x w' => exact h1
  · exact .inr h

def famUpon (P : Program) (V : Value → Prop) (C' : Value → World → Prop) : Result Next → Prop
  | .ok (.value u) w' => V u ∧ C' u w'
  | .ok (.enter f args) w' => Calls P f args w' fun e w'' => ∃ v, e = .returned v ∧ V v ∧ C' v w''
  | _ => False
/-- one operation, in a class of worlds -/
def Step3 (P : Program) (ops : Array Oper) (o : Oper) (a : Act) (C : World → Prop) (K : (World → Prop) → Act → Prop) : Prop :=
  (kind3 o = 0 ∧ ∃ v, YieldsIn P ops (fun _ => True) o v a ∧ K C (a.put o.dst v)) ∨
  (kind3 o = 1 ∧ ∃ v, YieldsIn P ops C o v a ∧ K C (a.put o.dst v)) ∨
  (kind3 o = 2 ∧ ∃ v C', StepsIn P ops C C' o v a ∧ K C' (a.put o.dst v)) ∨
  (kind3 o = 3 ∧ ((Region.wanted o (yielded ops a.tmps) = false ∧ K C (a.put o.dst undef)) ∨ (Region.wanted o (yielded ops a.tmps) = true ∧ ∃ (V : Value → Prop) (C' : Value → World → Prop), (∀ v w, C' v w → C w) ∧ (∀ w, C w → famUpon P V C' ((execOp a.eval o).run P w)) ∧ ∀ v, V v → K (C' v) (a.put o.dst v))))

theorem Step3.wpOp {C : World → Prop} {i : Nat} {o : Oper} {a : Act} {K : (World → Prop) → Act → Prop} {K' : Act → World → Prop} {Q' : Exit → Act → World → Prop} {w : World} (hi : ops[i]? = some o) (h : Step3 P ops o a C K) (hC : C w) (hK : ∀ (C' : World → Prop) a' w', C' w' → K C' a' → K' a' w') : wpOp P ops Q' i K' a w := by
  rcases h with ⟨hk, v, hy, hn⟩ | ⟨hk, v, hy, hn⟩ | ⟨hk, v, C', hy, hn⟩ | ⟨hk, h⟩
  · exact OpR.wpOp (C := C) (C' := C) hi (.inl ⟨kind3_pure hk, rfl, hy⟩) hC fun w' hw' => hK C _ w' hw' hn
  · have hk1 : kindOf o = 1 := by
      obtain ⟨t, x, ho⟩ := kind3_load hk
      simp [kindOf, pureOp, ho]
    exact OpR.wpOp (C := C) (C' := C) hi (.inr (.inl ⟨hk1, rfl, hy⟩)) hC fun w' hw' => hK C _ w' hw' hn
  · have hk2 : kindOf o = 2 := by
      unfold kind3 at hk
      unfold kindOf
      split at hk
      · simp at hk
      · rename_i hp
        rw [if_neg hp]
        split at hk
        · simp at hk
        · rename_i heq; simp [heq]
        · simp at hk
    exact OpR.wpOp (C := C) (C' := C') hi (.inr (.inr ⟨hk2, hy⟩)) hC fun w' hw' => hK C' _ w' hw' hn
  · unfold Go.wpOp
    simp only [hi]
    rcases h with ⟨hw, hn⟩ | ⟨hw, V, C', _, hv, hn⟩
    · simp only [hw, Bool.false_eq_true, if_false]
      exact hK C _ w hC hn
    · simp only [hw, if_true]
      left
      have h1 := hv w hC
      unfold Oper.wp
      generalize (execOp a.eval o).run P w = r at h1
      cases r with
      | ok n w' =>
        cases n <;> simp only [famUpon] at h1 <;> simp only [Oper.upon]
        case value u => exact hK (C' u) _ w' h1.2 (hn u h1.1)
        case enter f args =>
          refine h1.mono fun e w'' ⟨v, he, hV, hc⟩ => ?_
          subst he
          exact hK (C' v) _ w'' hc (hn v hV)
      | halt x w' => simp only [famUpon] at h1
/-- what waits for k, through others too -/
def blocked (md : Region.Mode) (ops : Array Oper) (k : Nat) : Array Bool :=
  (List.range ops.size).foldl (fun u j => u.push (j == k || (match ops[j]? with | some oj => oj.after.any (fun e => Region.binds md e && u.getD e.on false) | none => false))) #[]
structure Free3 (md : Region.Mode) (ops : Array Oper) (listed : Array Bool) (i : Nat) (oi : Oper) (U : Array Bool) : Prop where
  size : U.size = ops.size
  own : U.getD i false = true
  wait : ∀ j oj, ops[j]? = some oj → U.getD j false = true → j ≠ i → ∃ e ∈ oj.after, Region.binds md e = true ∧ U.getD e.on false = true
  un : ∀ j, U.getD j false = true → listed.getD j false = false
  free : ∀ j oj, ops[j]? = some oj → U.getD j false = false → listed.getD j true = false → oi.apart ops oj = true ∧ (kind3 oi = 0 ∨ (kind3 oi = 1 ∧ kind3 oj ≠ 2))
theorem Free3.ready {i j : Nat} {oi oj : Oper} {listed U : Array Bool} (h : Free3 md ops listed i oi U) (hj : ops[j]? = some oj) (hji : j ≠ i) (hall : ∀ e ∈ oj.after, Region.binds md e = true → listed.getD e.on false = true) : U.getD j false = false := by
  cases hu : U.getD j false with
  | false => rfl
  | true =>
    obtain ⟨e, he, hb, hue⟩ := h.wait j oj hj hu hji
    have h1 := hall e he hb
    rw [h.un e.on hue] at h1
    cases h1
theorem Free3.set {i j : Nat} {oi : Oper} {listed U : Array Bool} (h : Free3 md ops listed i oi U) (hu : U.getD j false = false) : Free3 md ops (listed.setIfInBounds j true) i oi U := by
  refine ⟨h.size, h.own, h.wait, fun k hk => ?_, fun k ok hk hku hun => h.free k ok hk hku ?_⟩
  · have hne : j ≠ k := fun e => by subst e; rw [hu] at hk; cases hk
    rw [getD_set_ne false hne]; exact h.un k hk
  · by_cases hjk : j = k
    · subst hjk
      rcases Nat.lt_or_ge j listed.size with h' | h'
      · simp [h'] at hun
      · simp [Array.getElem?_eq_none (show (listed.setIfInBounds j true).size ≤ j by simpa using h')] at hun
    · rw [getD_set_ne true hjk] at hun; exact hun
/-- an operation apart: its step is the same whether another's value is in its slot or not -/
theorem Step3.put {oi oj : Oper} {v : Value} {a : Act} {C : World → Prop} {K1 K2 : (World → Prop) → Act → Prop} (hap : oi.apart ops oj = true) (hsj : ∀ cs b, oj.op ≠ .select cs b)
    (hK : ∀ (C' : World → Prop) u, (C' = C ∨ (kind3 oj = 3 ∧ ∀ w, C' w → C w) ∨ kind3 oj = 2) → K1 C' ((a.put oi.dst v).put oj.dst u) → K2 C' (a.put oj.dst u)) (h : Step3 P ops oj (a.put oi.dst v) C K1) : Step3 P ops oj a C K2 := by
  obtain ⟨p1, p2, p3⟩ := Oper.apart_spec hap
  have he := execOp_put oj hsj a oi.dst v p1
  have hw := wanted_put oj a oi.dst v p1
  rcases h with ⟨hk, u, hy, hn⟩ | ⟨hk, u, hy, hn⟩ | ⟨hk, u, C', hy, hn⟩ | ⟨hk, h⟩
  · exact .inl ⟨hk, u, hy.of_same he.symm hw.symm, hK C u (.inl rfl) hn⟩
  · exact .inr (.inl ⟨hk, u, hy.of_same he.symm hw.symm, hK C u (.inl rfl) hn⟩)
  · refine .inr (.inr (.inl ⟨hk, u, C', ?_, hK C' u (.inr (.inr hk)) hn⟩))
    unfold StepsIn at hy ⊢
    rwa [he, hw] at hy
  · refine .inr (.inr (.inr ⟨hk, ?_⟩))
    rcases h with ⟨hwf, hn⟩ | ⟨hwt, V, C', hsub, hv, hn⟩
    · exact .inl ⟨by rw [← hw]; exact hwf, hK C undef (.inl rfl) hn⟩
    · exact .inr ⟨by rw [← hw]; exact hwt, V, C', hsub, by rwa [he] at hv, fun u hu => hK (C' u) u (.inr (.inl ⟨hk, hsub u⟩)) (hn u hu)⟩
theorem Step3.mono {o : Oper} {a : Act} {C : World → Prop} {K K' : (World → Prop) → Act → Prop} (h : Step3 P ops o a C K) (hK : ∀ C a, K C a → K' C a) : Step3 P ops o a C K' := by
  rcases h with ⟨hk, v, hy, hn⟩ | ⟨hk, v, hy, hn⟩ | ⟨hk, v, C', hy, hn⟩ | ⟨hk, h⟩
  · exact .inl ⟨hk, v, hy, hK _ _ hn⟩
  · exact .inr (.inl ⟨hk, v, hy, hK _ _ hn⟩)
  · exact .inr (.inr (.inl ⟨hk, v, C', hy, hK _ _ hn⟩))
  · refine .inr (.inr (.inr ⟨hk, ?_⟩))
    rcases h with ⟨hw, hn⟩ | ⟨hw, V, C', hs, hv, hn⟩
    · exact .inl ⟨hw, hK _ _ hn⟩
    · exact .inr ⟨hw, V, C', hs, hv, fun v hV => hK _ _ (hn v hV)⟩
/-! one operation of the walk -/
theorem yields_of_quiet {o : Oper} {C : World → Prop} {a : Act} {K : Act → Prop} (h : wpQuiet P ops C K [o] a) : ∃ v, YieldsIn P ops C o v a ∧ K (a.put o.dst v) := by
  unfold wpQuiet at h
  by_cases hw : Region.wanted o (yielded ops a.tmps) = true
  · simp only [hw, if_true] at h
    obtain ⟨v, h1, h2⟩ := h
    exact ⟨v, .inl ⟨hw, h1⟩, h2⟩
  · simp only [hw] at h
    exact ⟨undef, .inr ⟨by simpa using hw, rfl⟩, h⟩
/-! the same, the region's operations as a list: so each operation comes written out -/
section
variable {l : List Oper} {Q : (World → Prop) → Act → Prop} {o : Oper} {k : Nat} {r : List Nat} {C : World → Prop} {a : Act}
theorem at_list (ho : l[k]? = some o) : l.toArray[k]? = some o := by simpa using ho
end
end
end Go.Proofs.YtfdbcfkjablnkaaGreat

namespace Go.Proofs.YtfdbcfkjablnkaaGreat
section
variable {P : Program} {ops : Array Oper} {md : Region.Mode} {I : World → Prop}

/-- one operation, in a class of worlds -/
def Step4 (P : Program) (ops : Array Oper) (I : World → Prop) (o : Oper) (a : Act) (C : World → Prop) (K : (World → Prop) → Act → Prop) : Prop :=
  (kind3 o = 0 ∧ ∃ v, YieldsIn P ops (fun _ => True) o v a ∧ K C (a.put o.dst v)) ∨
  (kind3 o = 1 ∧ ∃ v, YieldsIn P ops I o v a ∧ K C (a.put o.dst v)) ∨
  (kind3 o = 2 ∧ ∃ v C', (∀ w, C' w → I w) ∧ StepsIn P ops C C' o v a ∧ K C' (a.put o.dst v)) ∨
  (kind3 o = 3 ∧ ((Region.wanted o (yielded ops a.tmps) = false ∧ K C (a.put o.dst undef)) ∨ (Region.wanted o (yielded ops a.tmps) = true ∧ ∃ (V : Value → Prop) (C' : Value → World → Prop), (∀ v w, C' v w → I w) ∧ (∀ w, C w → famUpon P V C' ((execOp a.eval o).run P w)) ∧ ∀ v, V v → K (C' v) (a.put o.dst v))))

def wpAny4 (P : Program) (md : Region.Mode) (ops : Array Oper) (I : World → Prop) (Q : (World → Prop) → Act → Prop) : Nat → Array Bool → (World → Prop) → Act → Prop
  | 0, listed, C, a => Region.ready md ops listed = [] ∧ Q C a
  | fuel + 1, listed, C, a =>
    (Region.ready md ops listed = [] → Q C a) ∧
    ∀ i ∈ Region.ready md ops listed, ∀ o, ops[i]? = some o → Step4 P ops I o a C (wpAny4 P md ops I Q fuel (listed.setIfInBounds i true))
theorem Step4.wpOp {C : World → Prop} {i : Nat} {o : Oper} {a : Act} {K : (World → Prop) → Act → Prop} {K' : Act → World → Prop} {Q' : Exit → Act → World → Prop} {w : World} (hi : ops[i]? = some o) (h : Step4 P ops I o a C K) (hC : C w) (hCI : ∀ w, C w → I w) (hK : ∀ (C' : World → Prop) a' w', C' w' → (∀ w, C' w → I w) → K C' a' → K' a' w') : wpOp P ops Q' i K' a w := by
  rcases h with ⟨hk, v, hy, hn⟩ | ⟨hk, v, hy, hn⟩ | ⟨hk, v, C', hI, hy, hn⟩ | ⟨hk, h⟩
  · exact OpR.wpOp (C := C) (C' := C) hi (.inl ⟨kind3_pure hk, rfl, hy⟩) hC fun w' hw' => hK C _ w' hw' hCI hn
  · have hk1 : kindOf o = 1 := by
      obtain ⟨t, x, ho⟩ := kind3_load hk
      simp [kindOf, pureOp, ho]
    exact OpR.wpOp (C := C) (C' := C) hi (.inr (.inl ⟨hk1, rfl, yields_load hk hy hCI⟩)) hC fun w' hw' => hK C _ w' hw' hCI hn
  · have hk2 : kindOf o = 2 := by
      unfold kind3 at hk
      unfold kindOf
      split at hk
      · simp at hk
      · rename_i hp
        rw [if_neg hp]
        split at hk
        · simp at hk
        · rename_i heq; simp [heq]
        · simp at hk
    exact OpR.wpOp (C := C) (C' := C') hi (.inr (.inr ⟨hk2, hy⟩)) hC fun w' hw' => hK C' _ w' hw' hI hn
  · unfold Go.wpOp
    simp only [hi]
    rcases h with ⟨hw, hn⟩ | ⟨hw, V, C', hI, hv, hn⟩
    · simp only [hw, Bool.false_eq_true, if_false]
      exact hK C _ w hC hCI hn
    · simp only [hw, if_true]
      left
      have h1 := hv w hC
      unfold Oper.wp
      generalize (execOp a.eval o).run P w = r at h1
      cases r with
      | ok n w' =>
        cases n <;> simp only [famUpon] at h1 <;> simp only [Oper.upon]
        case value u => exact hK (C' u) _ w' h1.2 (hI u) (hn u h1.1)
        case enter f args =>
          refine h1.mono fun e w'' ⟨v, he, hV, hc⟩ => ?_
          subst he
          exact hK (C' v) _ w'' hc (hI v) (hn v hV)
      | halt x w' => simp only [famUpon] at h1
theorem wpAny_of_4 {Q : (World → Prop) → Act → Prop} {Q' : Exit → Act → World → Prop} (hQ : ∀ (C : World → Prop) a w, C w → Q C a → Q' .normal a w) : ∀ (fuel : Nat) (listed : Array Bool) (C : World → Prop) (a : Act) (w : World), C w → (∀ w, C w → I w) →
    wpAny4 P md ops I Q fuel listed C a → wpAny P md ops Q' fuel listed a w
  | 0, _, _, _, _, hw, _, h => ⟨h.1, hQ _ _ _ hw h.2⟩
  | fuel + 1, _, _, _, _, hw, hI, h => ⟨fun h0 => hQ _ _ _ hw (h.1 h0), fun i hi => by
      obtain ⟨_, o, ho, _⟩ := mem_ready.1 hi
      exact (h.2 i hi o ho).wpOp ho hw hI fun C' a' w' hw' hI' hn => wpAny_of_4 hQ fuel _ C' a' w' hw' hI' hn⟩
/-- an operation apart: its step is the same whether another's value is in its slot or not -/
theorem Step4.put {oi oj : Oper} {v : Value} {a : Act} {C : World → Prop} {K1 K2 : (World → Prop) → Act → Prop} (hap : oi.apart ops oj = true) (hsj : ∀ cs b, oj.op ≠ .select cs b)
    (hK : ∀ (C' : World → Prop) u, K1 C' ((a.put oi.dst v).put oj.dst u) → K2 C' (a.put oj.dst u)) (h : Step4 P ops I oj (a.put oi.dst v) C K1) : Step4 P ops I oj a C K2 := by
  obtain ⟨p1, p2, p3⟩ := Oper.apart_spec hap
  have he := execOp_put oj hsj a oi.dst v p1
  have hw := wanted_put oj a oi.dst v p1
  rcases h with ⟨hk, u, hy, hn⟩ | ⟨hk, u, hy, hn⟩ | ⟨hk, u, C', hI, hy, hn⟩ | ⟨hk, h⟩
  · exact .inl ⟨hk, u, hy.of_same he.symm hw.symm, hK C u hn⟩
  · exact .inr (.inl ⟨hk, u, hy.of_same he.symm hw.symm, hK C u hn⟩)
  · refine .inr (.inr (.inl ⟨hk, u, C', hI, ?_, hK C' u hn⟩))
    unfold StepsIn at hy ⊢
    rwa [he, hw] at hy
  · refine .inr (.inr (.inr ⟨hk, ?_⟩))
    rcases h with ⟨hwf, hn⟩ | ⟨hwt, V, C', hsub, hv, hn⟩
    · exact .inl ⟨by rw [← hw]; exact hwf, hK C undef hn⟩
    · exact .inr ⟨by rw [← hw]; exact hwt, V, C', hsub, by rwa [he] at hv, fun u hu => hK (C' u) u (hn u hu)⟩
/-! as XQ3's, but a load is free of stores too: they stay in I -/
def free4 (md : Region.Mode) (ops : Array Oper) (listed : Array Bool) (k : Nat) : Bool :=
  let U := blocked md ops k
  U.getD k false && U.size == ops.size &&
  match ops[k]? with
  | none => false
  | some ok => (List.range ops.size).all fun j =>
    match ops[j]? with
    | some oj =>
      if U.getD j false then !listed.getD j false && (j == k || oj.after.any (fun e => Region.binds md e && U.getD e.on false))
      else listed.getD j true || (ok.apart ops oj && (kind3 ok == 0 || kind3 ok == 1))
    | none => true
structure Free4 (md : Region.Mode) (ops : Array Oper) (listed : Array Bool) (i : Nat) (oi : Oper) (U : Array Bool) : Prop where
  size : U.size = ops.size
  own : U.getD i false = true
  wait : ∀ j oj, ops[j]? = some oj → U.getD j false = true → j ≠ i → ∃ e ∈ oj.after, Region.binds md e = true ∧ U.getD e.on false = true
  un : ∀ j, U.getD j false = true → listed.getD j false = false
  free : ∀ j oj, ops[j]? = some oj → U.getD j false = false → listed.getD j true = false → oi.apart ops oj = true ∧ (kind3 oi = 0 ∨ kind3 oi = 1)
theorem free4_spec {i : Nat} {oi : Oper} {listed : Array Bool} (hi : ops[i]? = some oi) (h : free4 md ops listed i = true) : Free4 md ops listed i oi (blocked md ops i) := by
  simp only [free4, hi, List.all_eq_true, List.mem_range, Bool.and_eq_true, beq_iff_eq] at h
  obtain ⟨⟨hown, hsz⟩, h⟩ := h
  have at_ : ∀ j oj, ops[j]? = some oj → (if (blocked md ops i).getD j false = true then (!listed.getD j false && (j == i || oj.after.any (fun e => Region.binds md e && (blocked md ops i).getD e.on false))) = true
      else (listed.getD j true || (oi.apart ops oj && (kind3 oi == 0 || kind3 oi == 1))) = true) := fun j oj hj => by
    have h1 := h j (Array.getElem?_eq_some_iff.1 hj).1
    simp only [hj] at h1
    split at h1 <;> rename_i hu
    · rw [if_pos hu]; exact h1
    · rw [if_neg hu]; exact h1
  refine ⟨hsz, hown, fun j oj hj hu hne => ?_, fun j hu => ?_, fun j oj hj hu hun => ?_⟩
  · have h1 := at_ j oj hj
    rw [if_pos hu] at h1
    simp only [Bool.and_eq_true, Bool.or_eq_true, beq_iff_eq, hne, false_or] at h1
    obtain ⟨e, he, hb⟩ := Array.any_eq_true'.1 h1.2
    simp only [Bool.and_eq_true] at hb
    exact ⟨e, he, hb.1, hb.2⟩
  · have hlt : j < ops.size := by
      rw [← hsz]
      rcases Nat.lt_or_ge j (blocked md ops i).size with h' | h'
      · exact h'
      · simp [Array.getElem?_eq_none h'] at hu
    have h1 := at_ j _ (Array.getElem?_eq_getElem hlt)
    rw [if_pos hu] at h1
    simp only [Bool.and_eq_true, Bool.not_eq_true'] at h1
    exact h1.1
  · have h1 := at_ j oj hj
    rw [if_neg (by rw [hu]; exact Bool.false_ne_true)] at h1
    simp only [hun, Bool.or_eq_true, Bool.false_eq_true, false_or, Bool.and_eq_true, beq_iff_eq] at h1
    exact h1
theorem Free4.ready {i j : Nat} {oi oj : Oper} {listed U : Array Bool} (h : Free4 md ops listed i oi U) (hj : ops[j]? = some oj) (hji : j ≠ i) (hall : ∀ e ∈ oj.after, Region.binds md e = true → listed.getD e.on false = true) : U.getD j false = false := by
  cases hu : U.getD j false with
  | false => rfl
  | true =>
    obtain ⟨e, he, hb, hue⟩ := h.wait j oj hj hu hji
    have h1 := hall e he hb
    rw [h.un e.on hue] at h1
    cases h1
theorem Free4.set {i j : Nat} {oi : Oper} {listed U : Array Bool} (h : Free4 md ops listed i oi U) (hu : U.getD j false = false) : Free4 md ops (listed.setIfInBounds j true) i oi U := by
  refine ⟨h.size, h.own, h.wait, fun k hk => ?_, fun k ok hk hku hun => h.free k ok hk hku ?_⟩
  · have hne : j ≠ k := fun e => by subst e; rw [hu] at hk; cases hk
    rw [getD_set_ne false hne]; exact h.un k hk
  · by_cases hjk : j = k
    · subst hjk
      rcases Nat.lt_or_ge j listed.size with h' | h'
      · simp [h'] at hun
      · simp [Array.getElem?_eq_none (show (listed.setIfInBounds j true).size ≤ j by simpa using h')] at hun
    · rw [getD_set_ne true hjk] at hun; exact hun
/-- may the operations be walked in this order? -/
def orderB4 (md : Region.Mode) (ops : Array Oper) : List Nat → Array Bool → Bool
  | [], listed => (Region.ready md ops listed).isEmpty
  | k :: r, listed => (Region.ready md ops listed).contains k && free4 md ops listed k && orderB4 md ops r (listed.setIfInBounds k true)
def order4 (md : Region.Mode) (ops : Array Oper) (ks : List Nat) : Bool := Region.noSelect ops && ks.length == ops.size && orderB4 md ops ks (Array.replicate ops.size false)
theorem wpAny4_first {Q : (World → Prop) → Act → Prop} {i : Nat} {oi : Oper} (hi : ops[i]? = some oi) (hsel : ∀ (j : Nat) (o : Oper) cs b, ops[j]? = some o → o.op ≠ .select cs b) :
    ∀ (fuel : Nat) (listed : Array Bool) (C : World → Prop) (a : Act) (U : Array Bool), Free4 md ops listed i oi U → i ∈ Region.ready md ops listed →
      Step4 P ops I oi a C (wpAny4 P md ops I Q fuel (listed.setIfInBounds i true)) → wpAny4 P md ops I Q (fuel + 1) listed C a := by
  intro fuel
  induction fuel with
  | zero =>
    intro listed C a U hfree hr H
    refine ⟨fun h => (by rw [h] at hr; cases hr), fun j hj o ho => ?_⟩
    by_cases hji : j = i
    · subst hji
      have : o = oi := Option.some.inj (ho.symm.trans hi)
      subst this
      exact H
    · exfalso
      have hmono := ready_mono hj hji
      obtain ⟨hjun, oj', hoj', hall⟩ := mem_ready.1 hj
      have hju := hfree.ready hoj' hji hall
      obtain ⟨_, hkind⟩ := hfree.free j oj' hoj' hju hjun
      have nil : ∀ {C' : World → Prop} {a' : Act}, wpAny4 P md ops I Q 0 (listed.setIfInBounds i true) C' a' → False := fun h => by
        rw [h.1] at hmono; cases hmono
      rcases H with ⟨_, _, _, hn⟩ | ⟨_, _, _, hn⟩ | ⟨hk, _⟩ | ⟨hk, _⟩
      · exact nil hn
      · exact nil hn
      · rcases hkind with h | h <;> rw [hk] at h <;> simp at h
      · rcases hkind with h | h <;> rw [hk] at h <;> simp at h
  | succ fuel ih =>
    intro listed C a U hfree hr H
    refine ⟨fun h => (by rw [h] at hr; cases hr), fun j hj oj hoj => ?_⟩
    by_cases hji : j = i
    · subst hji
      have : oj = oi := Option.some.inj (hoj.symm.trans hi)
      subst this
      exact H
    · obtain ⟨hjun, oj', hoj', hall⟩ := mem_ready.1 hj
      have : oj' = oj := Option.some.inj (hoj'.symm.trans hoj)
      subst this
      have hju := hfree.ready hoj' hji hall
      obtain ⟨hap, hkind⟩ := hfree.free j oj' hoj hju hjun
      obtain ⟨p1, p2, p3⟩ := Oper.apart_spec hap
      have hsi : ∀ cs b, oi.op ≠ .select cs b := fun cs b => hsel i oi cs b hi
      have hsj : ∀ cs b, oj'.op ≠ .select cs b := fun cs b => hsel j oj' cs b hoj
      have hfree' := hfree.set hju
      have hr' := ready_mono hr (Ne.symm hji)
      have next : ∀ v, (kind3 oi = 0 ∧ YieldsIn P ops (fun _ => True) oi v a ∨ kind3 oi = 1 ∧ YieldsIn P ops I oi v a) → wpAny4 P md ops I Q (fuel + 1) (listed.setIfInBounds i true) C (a.put oi.dst v) → Step4 P ops I oj' a C (wpAny4 P md ops I Q (fuel + 1) (listed.setIfInBounds j true)) := by
        intro v hy hn
        refine Step4.put (v := v) hap hsj (fun C' u h3 => ih _ C' _ U hfree' hr' ?_) (hn.2 j (ready_mono hj hji) oj' hoj)
        have h4 : wpAny4 P md ops I Q fuel ((listed.setIfInBounds j true).setIfInBounds i true) C' ((a.put oj'.dst u).put oi.dst v) := by
          rw [Array.setIfInBounds_comm _ _ hji]
          rw [Act.put_comm a v u p2] at h3
          exact h3
        have hs1 := execOp_put oi hsi a oj'.dst u p3
        have hs2 := wanted_put oi a oj'.dst u p3
        rcases hy with ⟨hk, hy⟩ | ⟨hk, hy⟩
        · exact .inl ⟨hk, v, hy.of_same hs1 hs2, h4⟩
        · exact .inr (.inl ⟨hk, v, hy.of_same hs1 hs2, h4⟩)
      rcases H with ⟨hk, v, hy, hn⟩ | ⟨hk, v, hy, hn⟩ | ⟨hk, _⟩ | ⟨hk, _⟩
      · exact next v (.inl ⟨hk, hy⟩) hn
      · exact next v (.inr ⟨hk, hy⟩) hn
      · rcases hkind with h | h <;> rw [hk] at h <;> simp at h
      · rcases hkind with h | h <;> rw [hk] at h <;> simp at h

/-- the walk in that order -/
def wpO4 (P : Program) (ops : Array Oper) (I : World → Prop) (Q : (World → Prop) → Act → Prop) : List Nat → (World → Prop) → Act → Prop
  | [], C, a => Q C a
  | k :: r, C, a => ∃ o, ops[k]? = some o ∧ Step4 P ops I o a C (wpO4 P ops I Q r)
theorem Step4.mono {o : Oper} {a : Act} {C : World → Prop} {K K' : (World → Prop) → Act → Prop} (h : Step4 P ops I o a C K) (hK : ∀ C a, K C a → K' C a) : Step4 P ops I o a C K' := by
  rcases h with ⟨hk, v, hy, hn⟩ | ⟨hk, v, hy, hn⟩ | ⟨hk, v, C', hI, hy, hn⟩ | ⟨hk, h⟩
  · exact .inl ⟨hk, v, hy, hK _ _ hn⟩
  · exact .inr (.inl ⟨hk, v, hy, hK _ _ hn⟩)
  · exact .inr (.inr (.inl ⟨hk, v, C', hI, hy, hK _ _ hn⟩))
  · refine .inr (.inr (.inr ⟨hk, ?_⟩))
    rcases h with ⟨hw, hn⟩ | ⟨hw, V, C', hs, hv, hn⟩
    · exact .inl ⟨hw, hK _ _ hn⟩
    · exact .inr ⟨hw, V, C', hs, hv, fun v hV => hK _ _ (hn v hV)⟩
theorem wpAny4_order {Q : (World → Prop) → Act → Prop} (hs : Region.noSelect ops = true) : ∀ (ks : List Nat) (listed : Array Bool) (C : World → Prop) (a : Act),
    orderB4 md ops ks listed = true → wpO4 P ops I Q ks C a → wpAny4 P md ops I Q ks.length listed C a
  | [], _, _, _, hB, h => ⟨by simpa [orderB4] using hB, h⟩
  | k :: r, listed, C, a, hB, h => by
    obtain ⟨o, ho, h⟩ := h
    simp only [orderB4, Bool.and_eq_true] at hB
    obtain ⟨⟨hr, hf⟩, hB'⟩ := hB
    exact wpAny4_first ho (Region.noSelect_spec hs) r.length listed C a _ (free4_spec ho hf) (by simpa using hr) (h.mono fun C' a' hn => wpAny4_order hs r _ C' a' hB' hn)
theorem wp_region_order4 {id : Nat} {Q : Exit → Act → World → Prop} {a : Act} {w : World} {l : List Oper} (ks : List Nat) (I : World → Prop) {C : World → Prop} (hm : P.follows .mixedOrders = true) (hB : order4 .any l.toArray ks = true) (hC : C w.drew) (hI : ∀ w, C w → I w)
    (h : wpO4 P l.toArray I (fun C a' => ∀ w', C w' → Q .normal a' w') ks C a) : (Code.region id l.toArray true).wp P Q a w := by
  simp only [order4, Bool.and_eq_true, beq_iff_eq] at hB
  refine wp_region_any hm (wpAny_of_4 (I := I) (Q := fun C a' => ∀ w', C w' → Q .normal a' w') (fun C a w' hw' h => h w' hw') _ _ C _ _ hC hI ?_)
  have := wpAny4_order (md := .any) hB.1.1 ks (Array.replicate l.toArray.size false) C a hB.2 h
  rwa [hB.1.2] at this
end
/-! one operation of the walk -/
section
variable {P : Program} {I : World → Prop} {l : List Oper} {Q : (World → Prop) → Act → Prop} {o : Oper} {k : Nat} {r : List Nat} {C : World → Prop} {a : Act}
theorem wpO4_pure (ho : l[k]? = some o) (hk : kind3 o = 0) (h : wpQuiet P l.toArray (fun _ => True) (fun a' => wpO4 P l.toArray I Q r C a') [o] a) : wpO4 P l.toArray I Q (k :: r) C a :=
  ⟨o, at_list ho, .inl ⟨hk, yields_of_quiet h⟩⟩
theorem wpO4_load {t : TypeId} {x : Operand} {ad : Addr} (v : Value) (ho : l[k]? = some o) (hop : o.op = .load t x) (hw : Region.wanted o (yielded l.toArray a.tmps) = true) (hx : a.eval x = .pointer (some ad))
    (hrun : ∀ w, I w → (Instr.loadAt t (.pointer (some ad))).run P w = .ok v w) (h : wpO4 P l.toArray I Q r C (a.put o.dst v)) : wpO4 P l.toArray I Q (k :: r) C a := by
  refine ⟨o, at_list ho, .inr (.inl ⟨by simp [kind3, pureOp, hop], v, .inl ⟨hw, fun w hC => ?_⟩, h⟩)⟩
  unfold Oper.quietAt execOp
  simp only [hop, hx]
  rw [Sem.run_bind, hrun w hC]
  exact ⟨rfl, rfl⟩
theorem wpO4_call (V : Value → Prop) (C' : Value → World → Prop) {f : FuncId} {args : Array Value} (ho : l[k]? = some o) (hk : kind3 o = 3) (hw : Region.wanted o (yielded l.toArray a.tmps) = true) (hsub : ∀ v w, C' v w → I w)
    (hrun : ∀ w, (execOp a.eval o).run P w = .ok (.enter f args) w) (hc : ∀ w, C w → Calls P f args w fun e w'' => ∃ v, e = .returned v ∧ V v ∧ C' v w'') (h : ∀ v, V v → wpO4 P l.toArray I Q r (C' v) (a.put o.dst v)) : wpO4 P l.toArray I Q (k :: r) C a :=
  ⟨o, at_list ho, .inr (.inr (.inr ⟨hk, .inr ⟨hw, V, C', hsub, fun w hC => by rw [hrun w]; exact hc w hC, h⟩⟩))⟩
theorem wpO4_store (C' : World → Prop) {t : TypeId} {x y : Operand} (ho : l[k]? = some o) (hop : o.op = .store t x y) (hd : o.dst = none) (hg : o.guard = none) (ad : Addr) (v : Value) (hx : a.eval x = .pointer (some ad)) (hy : a.eval y = v) (hsub : ∀ w, C' w → I w)
    (hrun : ∀ w, C w → ∃ w', (Instr.storeAt t (.pointer (some ad)) v).run P w = .ok () w' ∧ C' w') (h : wpO4 P l.toArray I Q r C' a) : wpO4 P l.toArray I Q (k :: r) C a := by
  refine ⟨o, at_list ho, .inr (.inr (.inl ⟨by simp [kind3, pureOp, hop], undef, C', hsub, .inl ⟨by simp [Region.wanted, hg], fun w hw => ?_⟩, ?_⟩))⟩
  · obtain ⟨w', hr, hc⟩ := hrun w hw
    unfold execOp
    simp only [hop, hx, hy]
    rw [Sem.run_bind, hr]
    exact ⟨rfl, hc⟩
  · rw [hd]; exact h
end
end Go.Proofs.YtfdbcfkjablnkaaGreat

namespace Go.Proofs.YtfdbcfkjablnkaaGreat
open Go.RowKit
set_option maxRecDepth 100000

/-- 64 truths -/
def bC (p : Nat → Bool) : Array Value := ((List.range 64).map fun i => Value.bool (p i)).toArray
theorem bC_size (p : Nat → Bool) : (bC p).size = 64 := by simp [bC]
theorem bC_at (p : Nat → Bool) (i : Nat) (h : i < 64) : (bC p)[i]? = some (.bool (p i)) := by simp [bC, h]
theorem bC_one (p : Nat → Bool) : (bC p).all (·.oneCell') = true := by
  rw [Array.all_eq_true_iff_forall_mem]
  intro v hv
  have hv : v ∈ (List.range 64).map fun i => Value.bool (p i) := by simpa [bC] using hv
  obtain ⟨i, _, rfl⟩ := List.mem_map.1 hv
  rfl
theorem bC_congr {p p' : Nat → Bool} (h : ∀ i, i < 64 → p i = p' i) : bC p = bC p' := by
  unfold bC
  congr 1
  exact List.map_congr_left fun i hi => by rw [h i (List.mem_range.1 hi)]
theorem bC_set (p : Nat → Bool) (i : Nat) (b : Bool) (h : i < 64) : (bC p).setIfInBounds i (.bool b) = bC (fun j => if j = i then b else p j) := by
  apply Array.ext_getElem?
  intro j
  rw [Array.getElem?_setIfInBounds]
  by_cases hj : j < 64
  · by_cases hij : i = j
    · subst hij
      rw [if_pos rfl, if_pos (by rw [bC_size]; omega), bC_at _ i h, if_pos rfl]
    · rw [if_neg hij, bC_at p j hj, bC_at _ j hj, if_neg (Ne.symm hij)]
  · rw [if_neg (by omega), Array.getElem?_eq_none (by rw [bC_size]; omega), Array.getElem?_eq_none (by rw [bC_size]; omega)]
theorem wC_parts (t : Int) (p p' : Nat → Bool) : ((wC t p).toList.take 1 ++ (bC p').toList).toArray = wC t p' := by simp [wC, bC]
theorem bInfo : (Tryz.prog.info? 29).map (·.size) = some 64 := by kernel_rfl
theorem bZero : (Tryz.prog.info? 29).map (fun i => (i.zero, i.size)) = some (some (.agg (bC (fun _ => false))), 64) := by kernel_rfl
/-- the 64 truths of a window, stored whole -/
theorem run_store_come (W : World) (r : Nat) (t : Int) (p p' : Nat → Bool) (h : W.heap[r]? = some (.cells (wC t p) 31 (0, 0))) :
    (Instr.storeAt 29 (.pointer (some ⟨r, 1, none⟩)) (.agg (bC p'))).run Tryz.prog W = .ok () (W.setRow r (wC t p')) := by
  have hst := run_storeCells_at (P := Tryz.prog) r 1 31 (bC p').toList 0 (wC t p) W h (by rw [wC_size, Array.length_toList, bC_size]; omega) (fun v hv => (Array.all_eq_true_iff_forall_mem.1 (bC_one p')) v (by simpa using hv))
  rw [Nat.add_zero, List.drop_eq_nil_of_le (by rw [Array.length_toList, wC_size, Array.length_toList, bC_size]; omega), List.append_nil, wC_parts] at hst
  have hi := bInfo
  have hsz := bC_size p'
  generalize bC p' = NB at *
  cases hq : Tryz.prog.info? 29 with
  | none => simp [hq] at hi
  | some i =>
    have hs : NB.size = i.size := by simp [hq] at hi; omega
    simp only [Instr.storeAt, Instr.sureAddr, Sem.run_bind, Sem.run_pure, Result.andThen_ok]
    simp [storeVar, sizeOf, typeInfo, hq, Value.cells, hs, hst]
/-- the call's copy of the window in block r, the result's row behind it -/
structure M2 (w wr : World) (r : Nat) (Z C : Array Value) : Prop where
  h0 : wr.heap[r]? = some (.cells C 31 (0, 0))
  h1 : wr.heap[r + 1]? = some (.cells Z 31 (0, 0))
  hr : w.heap.size ≤ r
  b : Below w.heap.size w wr
section
variable {w wr : World} {r : Nat} {Z C : Array Value} {t : Int} {p : Nat → Bool}
theorem M2.later {w' : World} (h : M2 w wr r Z C) (hb : Below wr.heap.size wr w') : M2 w w' r Z C :=
  ⟨(hb.block _ (Array.getElem?_eq_some_iff.1 h.h0).1).trans h.h0, (hb.block _ (Array.getElem?_eq_some_iff.1 h.h1).1).trans h.h1, h.hr, h.b.trans (hb.mono h.b.size)⟩
theorem M2.row (h : M2 w wr r Z C) (D : Array Value) : M2 w (wr.setRow r D) r Z D :=
  ⟨setRow_heap _ _ _ _ _ _ h.h0, (setRow_other _ _ _ _ (by omega)).trans h.h1, h.hr, ⟨h.b.os, h.b.tape, h.b.output, by have := h.b.size; simpa [World.setRow] using this, fun k hk => (setRow_other _ _ _ _ (by have := h.hr; omega)).trans (h.b.block k hk)⟩⟩
theorem M2.set (h : M2 w wr r Z (wC t p)) (i : Nat) (b : Bool) (hi : i < 64) : M2 w (wr.setCell ⟨r, 1 + i, none⟩ (.bool b)) r Z (wC t (fun j => if j = i then b else p j)) := by
  refine ⟨?_, (Below.heap_setCell wr ⟨r, 1 + i, none⟩ _ (r + 1) (by simp)).trans h.h1, h.hr, h.b.setCell (p := ⟨r, 1 + i, none⟩) h.hr _⟩
  rw [← wC_set t p i b hi]
  exact setCell_at h.h0
theorem M2.setTop (h : M2 w wr r Z (wC t p)) (t' : Int) : M2 w (wr.setCell ⟨r, 0, none⟩ (.int .u32 t')) r Z (wC t' p) := by
  refine ⟨?_, (Below.heap_setCell wr ⟨r, 0, none⟩ _ (r + 1) (by simp)).trans h.h1, h.hr, h.b.setCell (p := ⟨r, 0, none⟩) h.hr _⟩
  rw [← wC_setTop t t' p]
  exact setCell_at h.h0
theorem M2.far (h : M2 w wr r Z C) {g j : Nat} (hg : r + 1 < g) (v : Value) : M2 w (wr.setCell ⟨g, j, none⟩ v) r Z C :=
  ⟨(Below.heap_setCell wr ⟨g, j, none⟩ _ r (by simp; omega)).trans h.h0, (Below.heap_setCell wr ⟨g, j, none⟩ _ (r + 1) (by simp; omega)).trans h.h1, h.hr, h.b.setCell (p := ⟨g, j, none⟩) (by have := h.hr; simp; omega) _⟩
theorem M2.drewN (h : M2 w wr r Z C) (d : Nat) : M2 w (wr.drewN d) r Z C := ⟨h.h0, h.h1, h.hr, below_drewN h.b d⟩
theorem M2.top (h : M2 w wr r Z (wC t p)) : wr.cell? ⟨r, 0, none⟩ = some (.int .u32 t) ∧ wr.frozen? ⟨r, 0, none⟩ = false := by
  refine ⟨?_, by simp [World.frozen?, h.h0]⟩
  rw [cell_of_row wr r 0 _ _ _ h.h0]; exact wC_top t p
theorem M2.at' (h : M2 w wr r Z (wC t p)) {i : Nat} (hi : i < 64) : wr.cell? ⟨r, 1 + i, none⟩ = some (.bool (p i)) ∧ wr.frozen? ⟨r, 1 + i, none⟩ = false := by
  refine ⟨?_, by simp [World.frozen?, h.h0]⟩
  rw [cell_of_row wr r (1 + i) _ _ _ h.h0]; exact wC_at t p i hi
end

/-- .. and the truths that the call makes anew, in block g -/
structure N2 (w wr : World) (r g : Nat) (Z C N : Array Value) : Prop where
  m : M2 w wr r Z C
  hb : wr.heap[g]? = some (.cells N 29 (0, 0))
  lt : r + 1 < g
theorem N2.drewN {w wr : World} {r g : Nat} {Z C N : Array Value} (h : N2 w wr r g Z C N) (d : Nat) : N2 w (wr.drewN d) r g Z C N := ⟨h.m.drewN d, h.hb, h.lt⟩
theorem N2.set {w wr : World} {r g : Nat} {Z C : Array Value} {p : Nat → Bool} (h : N2 w wr r g Z C (bC p)) (i : Nat) (b : Bool) (hi : i < 64) : N2 w (wr.setCell ⟨g, i, none⟩ (.bool b)) r g Z C (bC (fun j => if j = i then b else p j)) := by
  refine ⟨h.m.far h.lt _, ?_, h.lt⟩
  rw [← bC_set p i b hi]
  exact setCell_at h.hb
set_option maxHeartbeats 4000000 in
theorem rmark_any (t : Int) (q : Nat) (n : Int) (ht : 0 ≤ t ∧ t < 4294967296) (hn : 0 ≤ n ∧ n < 4294967296) (w : World) :
    Calls Tryz.prog 27 #[refV t q, .int .u32 n] w fun e w' =>
      e = .returned (.tuple #[refV (if Wn.look t q n = 0 then Wn.nt t n else t) (if Wn.look t q n = 0 then Wn.nq t q n else q), .int .i64 (Wn.look t q n)]) ∧ Below w.heap.size w w' := by
  obtain ⟨hz, hzs⟩ := zero_of_info (P := Tryz.prog) wZero
  obtain ⟨Z, hZ⟩ : ∃ Z, wC 0 (fun _ => false) = Z := ⟨_, rfl⟩
  rw [hZ] at hz
  have hZs : Z.size = 65 := by rw [← hZ]; exact wC_size _ _
  have HZs := Lib.hid hZs
  have HZi := Lib.hid hzs
  clear hZ hZs hzs
  have KL := Lib.hid (fun w => rlook_any t q n ht hn w)
  have HLK : Hid (Wn.look t q n = if Sr.after n t = true then 0 else if 64 ≤ Sr.way n t then 15 else if q.testBit (Sr.way n t).toNat = true then 14 else 0) := rfl
  have HT : Hid (Wn.nt t n = if Sr.after n t = true then n else t) := rfl
  have HQA : Hid (Sr.after n t = true → ∀ d, d < 64 → (Wn.nq t q n).testBit d = (decide (d = 0) || (decide ((Sr.way t n).toNat ≤ d) && q.testBit (d - (Sr.way t n).toNat)))) := fun h d hd => Wn.nq_after h d hd
  have HQI : Hid (¬ Sr.after n t = true → ∀ d, (Wn.nq t q n).testBit d = (decide (d = (Sr.way n t).toNat) || q.testBit d)) := fun h d => Wn.nq_in h d
  obtain ⟨C, hC⟩ : ∃ C, wC t q.testBit = C := ⟨_, rfl⟩
  unfold refV at KL ⊢
  rw [hC] at KL
  rw [hC]
  obtain ⟨R, hR⟩ : ∃ R, wC (if Wn.look t q n = 0 then Wn.nt t n else t) (if Wn.look t q n = 0 then Wn.nq t q n else q).testBit = R := ⟨_, rfl⟩
  rw [hR]
  have HR : Hid ((Wn.look t q n = 0 → wC (Wn.nt t n) (Wn.nq t q n).testBit = R) ∧ (¬ Wn.look t q n = 0 → C = R)) := by
    refine ⟨fun h => ?_, fun h => ?_⟩
    · rw [← hR, if_pos h, if_pos h]
    · rw [← hR, if_neg h, if_neg h, hC]
  clear hR
  generalize Wn.look t q n = L at *
  generalize Wn.nt t n = t' at *
  generalize Wn.nq t q n = q' at *
  have HC := Lib.hid hC
  have hCs : C.size = 65 := by rw [← hC]; exact wC_size _ _
  have hC1 : C.all (·.oneCell') = true := by rw [← hC]; exact wC_one _ _
  have HCs := Lib.hid hCs
  have HC1 := Lib.hid hC1
  clear hC hCs hC1
  obtain ⟨r, hr⟩ : ∃ r, w.heap.size = r := ⟨_, rfl⟩
  obtain ⟨w1, hw1⟩ : ∃ w1, (w.alloc (.cells C 31)).alloc (.cells Z 31) = w1 := ⟨_, rfl⟩
  have hM : M2 w w1 r Z C := by
    refine ⟨?_, ?_, Nat.le_of_eq hr, ?_⟩
    · rw [← hr, ← hw1]; exact heap_alloc2_old w _ _
    · rw [← hr, ← hw1]; exact heap_alloc2_new w _ _
    · rw [← hw1]; exact ((Below.refl _ w).alloc (Nat.le_refl _) _).alloc (by simp) _
  have HM := Lib.hid hM
  have HI : Hid ((Tryz.prog.info? 31).map (·.size) = some C.size) := by show _ = _; rw [HCs.out]; exact HZi.out
  clear hM
  go_enter Tryz.func27, Tryz.ntmps27
  go_wp2_with (refine wpList_load_row rfl 31 (.tmp 2) rfl r rfl 31 C (0, 0) _ HM.out.h0 Tryz.underlying31 rfl HI.out ?_)
  refine (KL.out _).mono ?_
  rintro e w2 ⟨rfl, hb2⟩
  have hM2 := HM.out.later hb2
  rw [← HC.out] at hM2
  have c0 := hM2.top.1
  have HM2 := Lib.hid hM2
  have KA := Lib.hid (fun w => rafter_any n t w hn ht)
  have KW := Lib.hid (fun w => rway_any t n w ht hn)
  have hvb := Sr.way_lt t n
  clear hb2 hw1 hM2 HM KL hr
  by_cases hL : L = 0
  · subst hL
    have HRe := Lib.hid (HR.out.1 rfl)
    have htU : 0 ≤ t' ∧ t' < 4294967296 := by rw [HT.out]; split <;> assumption
    have KD := Lib.hid (fun (T : Int) (hT : 0 ≤ T ∧ T < 4294967296) (k : Nat) (hk : k < 64) w => sradd_any T (-(k : Int)) w hT (by omega))
    have HWB := Lib.hid (fun T k hk => @way_back T n k hn hk)
    cases ha : Sr.after n t with
    | true =>
      rw [ha] at KA
      have hT : t' = n := by have := HT.out; rwa [ha, if_pos rfl] at this
      have hbits := HQA.out ha
      obtain ⟨v, hv⟩ : ∃ v : Nat, Sr.way t n = (v : Int) := ⟨(Sr.way t n).toNat, by omega⟩
      rw [hv] at KW
      rw [hv, Int.toNat_natCast] at hbits
      have hvb2 : (v : Int) < 4294967296 := by omega
      obtain ⟨hzB, _⟩ := zero_of_info (P := Tryz.prog) bZero
      obtain ⟨ZB, hZB⟩ : ∃ ZB, bC (fun _ => false) = ZB := ⟨_, rfl⟩
      rw [hZB] at hzB
      have HZB := Lib.hid hZB
      have HBT := Lib.hid hbits
      have HTn := Lib.hid hT
      clear HR HT HLK HQA HQI ha hbits hv hvb hZB hT
      go_wp2_with fail
      refine (KA.out _).mono ?_
      rintro e V ⟨rfl, hV⟩
      rw [hV]
      clear hV KA
      go_wp2_with fail
      refine (KW.out _).mono ?_
      rintro e V ⟨rfl, hV⟩
      rw [hV]
      clear hV KW
      go_wp2
      obtain ⟨w3, hw3⟩ : ∃ w3, w2.alloc (.cells ZB 29) = w3 := ⟨_, rfl⟩
      have hg3 : w3.heap[w2.heap.size]? = some (.cells ZB 29 (0, 0)) := by rw [← hw3]; exact heap_alloc_new _ _
      have hM3 := HM2.out.later (show Below w2.heap.size w2 w3 by rw [← hw3]; exact (Below.refl _ w2).alloc (Nat.le_refl _) _)
      have hrg : r + 1 < w2.heap.size := (Array.getElem?_eq_some_iff.1 HM2.out.h1).1
      obtain ⟨g, hg⟩ : ∃ g, w2.heap.size = g := ⟨_, rfl⟩
      rw [hg] at hg3 hrg
      rw [hw3, hg]
      have HN0 : Hid (N2 w w3 r g Z (wC t q.testBit) (bC (fun j => decide (j < 0) && (decide (v ≤ j) && q.testBit (j - v))))) := by
        refine ⟨hM3, ?_, hrg⟩
        rw [hg3, ← HZB.out, bC_congr (p' := fun j => decide (j < 0) && (decide (v ≤ j) && q.testBit (j - v))) (fun i _ => by simp)]
      clear hg3 hM3 hg hw3 HM2 c0 hzB HZB
      go_loopw [9] (fun i wr => ∃ k : Nat, k ≤ 64 ∧ i = .int .i64 (k : Int) ∧ Hid (N2 w wr r g Z (wC t q.testBit) (bC (fun j => decide (j < k) && (decide (v ≤ j) && q.testBit (j - v)))))) (fun i _ => 64 - (intOf i).toNat)
      case atStart => exact ⟨0, by omega, rfl, HN0⟩
      case round =>
        obtain ⟨k, hk, rfl, HK⟩ := hrel
        rcases Nat.lt_or_ge k 64 with h4 | h4
        · have h5 : (k : Int) < 64 := by omega
          obtain ⟨x0, cx⟩ : ∃ x0, wr.cell? ⟨g, k, none⟩ = some x0 := ⟨_, by rw [cell_of_row wr g k _ _ _ HK.out.hb]; exact bC_at _ k h4⟩
          have fx : wr.frozen? ⟨g, k, none⟩ = false := by simp [World.frozen?, HK.out.hb]
          have HN : Hid (N2 w (wr.setCell ⟨g, k, none⟩ (.bool (decide (v ≤ k) && q.testBit (k - v)))) r g Z (wC t q.testBit) (bC (fun j => decide (j < k + 1) && (decide (v ≤ j) && q.testBit (j - v))))) := by
            have h := HK.out.set k (decide (v ≤ k) && q.testBit (k - v)) h4
            rw [bC_congr (p' := fun j => decide (j < k + 1) && (decide (v ≤ j) && q.testBit (j - v))) (fun i _ => by
              by_cases hik : i = k
              · subst hik; rw [if_pos rfl, decide_eq_true (Nat.lt_succ_self i), Bool.true_and]
              · rw [if_neg hik]; congr 1; exact decide_eq_decide.2 (by omega))] at h
            exact h
          by_cases hvk : v ≤ k
          · have hvk' : (v : Int) ≤ (k : Int) := by omega
            obtain ⟨J, hJ⟩ : ∃ J : Nat, (k : Int) - (v : Int) = (J : Int) := ⟨k - v, by omega⟩
            have hJk : J = k - v := by omega
            have hJ64 : (J : Int) < 64 := by omega
            have cj := (HK.out.m.at' (show J < 64 by omega)).1
            rw [← hJk, decide_eq_true hvk, Bool.true_and] at HN
            clear hJk hvk
            generalize q.testBit J = bj at *
            go_wp2
            go_roundw
            case rel => exact ⟨k + 1, by omega, by go_num, HN⟩
            case measure => simp [intOf]; omega
          · have hvk' : ¬ (v : Int) ≤ (k : Int) := by omega
            rw [decide_eq_false hvk, Bool.false_and] at HN
            clear hvk
            go_wp2
            go_roundw
            case rel => exact ⟨k + 1, by omega, by go_num, HN⟩
            case measure => simp [intOf]; omega
        · obtain rfl : 64 = k := by omega
          rw [show ((64 : Nat) : Int) = 64 from rfl]
          obtain ⟨p1, hp1⟩ : ∃ p1 : Nat → Bool, p1 = fun j => decide (v ≤ j) && q.testBit (j - v) := ⟨_, rfl⟩
          rw [bC_congr (p' := p1) (fun i hi => by rw [hp1]; show (decide (i < 64) && _) = _; rw [decide_eq_true hi, Bool.true_and])] at HK
          have hNi : (Tryz.prog.info? 29).map (·.size) = some (bC p1).size := by rw [bC_size]; exact bInfo
          have HF : Hid (∀ j, j < 64 → (p1 j || decide (Sr.way n t' = (j : Int))) = q'.testBit j) := fun j hj => by
            rw [HBT.out j hj, hp1, HTn.out, Bool.or_comm]
            congr 1
            have : Sr.way n n = 0 := by unfold Sr.way; omega
            rw [this]
            exact decide_eq_decide.2 (by omega)
          have HST := Lib.hid (fun (W : World) (hW : W.heap[r]? = some (.cells (wC n q.testBit) 31 (0, 0))) => run_store_come W r n q.testBit p1 hW)
          clear hp1 HBT
          obtain ⟨NB, hNB⟩ : ∃ NB, bC p1 = NB := ⟨_, rfl⟩
          rw [hNB] at HK hNi HST
          clear hNB
          go_wp2
          refine wp_region_order4 (0 :: 1 :: 2 :: 3 :: 4 :: 5 :: []) (fun W => W.heap[g]? = some (.cells NB 29 (0, 0))) (C := fun W => N2 w W r g Z (wC t q.testBit) NB) (by kernel_rfl) (by kernel_rfl) (HK.out.drewN 1) (fun W hW => hW.hb) ?_
          refine wpO4_pure rfl rfl ?_
          go_big_quiet_step (fail)
          refine wpQuiet_nil ?_
          refine wpO4_load (ad := ⟨g, 0, none⟩) (.agg NB) rfl rfl rfl (by rfl) (fun W hW => ?_) ?_
          · exact run_loadVar_row W g 29 29 NB (0, 0) _ hW Tryz.underlying29 (by rfl) hNi
          simp only [Act.put, List.setIfInBounds_toArray, List.set_cons_succ, List.set_cons_zero]
          refine wpO4_pure rfl rfl ?_
          go_big_quiet_step (fail)
          refine wpQuiet_nil ?_
          refine wpO4_store (fun W => N2 w W r g Z (wC n q.testBit) NB) rfl rfl rfl rfl ⟨r, 0, none⟩ (.int .u32 n) (by rfl) (by rfl) (fun W hW => hW.hb) (fun W hW => ?_) ?_
          · obtain ⟨k0, k1⟩ := hW.m.top
            refine ⟨W.setCell ⟨r, 0, none⟩ (.int .u32 n), by simp [Instr.storeAt, go_sem, k0, k1], hW.m.setTop n, ?_, hW.lt⟩
            exact (Below.heap_setCell W ⟨r, 0, none⟩ _ g (by have := hW.lt; simp; omega)).trans hW.hb
          refine wpO4_pure rfl rfl ?_
          go_big_quiet_step (fail)
          refine wpQuiet_nil ?_
          refine wpO4_store (fun W => N2 w W r g Z (wC n p1) NB) rfl rfl rfl rfl ⟨r, 1, none⟩ (.agg NB) (by rfl) (by rfl) (fun W hW => hW.hb) (fun W hW => ?_) ?_
          · exact ⟨W.setRow r (wC n p1), HST.out W hW.m.h0, hW.m.row _, (setRow_other _ _ _ _ (by have := hW.lt; omega)).trans hW.hb, hW.lt⟩
          intro w4 hM4
          rw [← HTn.out] at hM4
          have HM4 := Lib.hid hM4.m
          clear HK HST hM4 HTn
          go_wp2
          go_loopw [10] (fun i wr => ∃ k : Nat, k ≤ 64 ∧ i = .int .i64 (k : Int) ∧ Hid (M2 w wr r Z (wC t' (fun j => p1 j || (decide (j < k) && decide (Sr.way n t' = (j : Int))))))) (fun i _ => 64 - (intOf i).toNat)
          case atStart => exact ⟨0, by omega, rfl, by have h := HM4.out; rw [wC_congr (p' := fun j => p1 j || (decide (j < 0) && decide (Sr.way n t' = (j : Int)))) (fun i _ => by simp)] at h; exact h⟩
          case round =>
            obtain ⟨k, hk, rfl, HK⟩ := hrel
            rcases Nat.lt_or_ge k 64 with h4 | h4
            · have h5 : (k : Int) < 64 := by omega
              have K := KD.out t' htU k h4 wr
              have hwb := HWB.out t' k h4
              obtain ⟨c0, _⟩ := HK.out.top
              obtain ⟨ck, fk⟩ := HK.out.at' h4
              have hset := HK.out.set k true h4
              generalize Sr.add t' (-(k : Int)) = x at *
              by_cases hx : x = n
              · have huk := hwb.1 hx
                have e1 : (x == n) = true := by rw [beq_iff_eq]; exact hx
                have HN : Hid (M2 w (wr.setCell ⟨r, 1 + k, none⟩ (.bool true)) r Z (wC t' (fun j => p1 j || (decide (j < k + 1) && decide (Sr.way n t' = (j : Int)))))) := by
                  rw [wC_congr (p' := fun j => p1 j || (decide (j < k + 1) && decide (Sr.way n t' = (j : Int)))) (fun i _ => by
                    by_cases hik : i = k
                    · subst hik; rw [if_pos rfl, decide_eq_true (Nat.lt_succ_self i), decide_eq_true huk, Bool.true_and, Bool.or_true]
                    · rw [if_neg hik]; congr 2; exact decide_eq_decide.2 (by omega))] at hset
                  exact hset
                clear hx huk hwb hset
                go_wp2_with fail
                refine K.mono ?_
                rintro e V ⟨rfl, hV⟩
                rw [hV]
                clear hV K
                go_wp2
                go_roundw
                case rel => exact ⟨k + 1, by omega, by go_num, HN⟩
                case measure => simp [intOf]; omega
              · have huk : ¬ Sr.way n t' = (k : Int) := fun h => hx (hwb.2 h)
                have e1 : (x == n) = false := by rw [beq_eq_false_iff_ne]; exact hx
                have HN : Hid (M2 w wr r Z (wC t' (fun j => p1 j || (decide (j < k + 1) && decide (Sr.way n t' = (j : Int)))))) := by
                  have h := HK.out
                  rw [wC_congr (p' := fun j => p1 j || (decide (j < k + 1) && decide (Sr.way n t' = (j : Int)))) (fun i _ => by
                    by_cases hik : i = k
                    · subst hik; rw [decide_eq_false huk, Bool.and_false, Bool.and_false]
                    · congr 2; exact decide_eq_decide.2 (by omega))] at h
                  exact h
                clear hx huk hwb hset ck fk
                go_wp2_with fail
                refine K.mono ?_
                rintro e V ⟨rfl, hV⟩
                rw [hV]
                clear hV K
                go_wp2
                go_roundw
                case rel => exact ⟨k + 1, by omega, by go_num, HN⟩
                case measure => simp [intOf]; omega
            · obtain rfl : 64 = k := by omega
              have h64 := HK.out
              rw [wC_congr (p' := q'.testBit) (fun i hi => by rw [decide_eq_true hi, Bool.true_and]; exact HF.out i hi), HRe.out] at h64
              have H0 := Lib.hid h64.h0
              have H1 := Lib.hid h64.h1
              have HRs : Hid (R.size = 65) := by show _ = _; rw [← HRe.out]; exact wC_size _ _
              have HR1 : Hid (R.all (·.oneCell') = true) := by show _ = _; rw [← HRe.out]; exact wC_one _ _
              have HRi : Hid ((Tryz.prog.info? 31).map (·.size) = some R.size) := by show _ = _; rw [HRs.out]; exact HZi.out
              have HB : Hid (Below w.heap.size w (wr.setRow (r + 1) R)) := by
                have hb := h64.b
                have hrr := h64.hr
                exact ⟨hb.os, hb.tape, hb.output, by have := hb.size; simpa [World.setRow] using this, fun k hk => (setRow_other _ _ _ _ (by omega)).trans (hb.block k hk)⟩
              clear h64 HK HM4 HF KD HWB
              go_wp2_with (first
                | (refine wpList_load_row rfl 31 (.tmp 2) rfl r rfl 31 R (0, 0) _ H0.out Tryz.underlying31 rfl HRi.out ?_)
                | (refine wpList_store_row rfl 31 (.tmp 4) (.tmp 62) rfl (r + 1) R rfl rfl 31 _ H1.out HRi.out (HZs.out.trans HRs.out.symm) HR1.out ?_))
              refine bodyPost_ret (results_row_tmp (P := Tryz.prog) (fn := Tryz.f27) rfl _ _ (r + 1) 31 R _ (by rfl) (setRow_heap _ _ _ _ _ _ H1.out) Tryz.underlying31 (by rfl) HRi.out) rfl ?_
              exact ⟨rfl, HB.out⟩
    | false =>
      rw [ha] at KA
      have hT : t' = t := by have := HT.out; rwa [ha, if_neg (by decide)] at this
      have hbits := HQI.out (by rw [ha]; decide)
      have hnt := Sr.way_lt n t
      have hq64 : Sr.way n t < 64 := by
        have h := HLK.out
        rw [ha, if_neg (by decide)] at h
        rcases Int.lt_or_le (Sr.way n t) 64 with h1 | h1
        · exact h1
        · rw [if_pos h1] at h; exact absurd h (by decide)
      obtain ⟨p1, hp1⟩ : ∃ p1 : Nat → Bool, q.testBit = p1 := ⟨_, rfl⟩
      have HF : Hid (∀ j, j < 64 → (p1 j || decide (Sr.way n t' = (j : Int))) = q'.testBit j) := fun j hj => by
        rw [hbits j, hT, ← hp1, Bool.or_comm]
        congr 1
        exact decide_eq_decide.2 (by omega)
      have HM4 : Hid (M2 w w2 r Z (wC t' p1)) := by show M2 _ _ _ _ _; rw [hT, ← hp1]; exact HM2.out
      clear HR HT HLK HQA HQI ha hbits hvb hnt hq64 hT hp1 HM2
      go_wp2_with fail
      refine (KA.out _).mono ?_
      rintro e V ⟨rfl, hV⟩
      rw [hV]
      clear hV KA c0
      go_wp2
      go_loopw [10] (fun i wr => ∃ k : Nat, k ≤ 64 ∧ i = .int .i64 (k : Int) ∧ Hid (M2 w wr r Z (wC t' (fun j => p1 j || (decide (j < k) && decide (Sr.way n t' = (j : Int))))))) (fun i _ => 64 - (intOf i).toNat)
      case atStart => exact ⟨0, by omega, rfl, by have h := HM4.out; rw [wC_congr (p' := fun j => p1 j || (decide (j < 0) && decide (Sr.way n t' = (j : Int)))) (fun i _ => by simp)] at h; exact h⟩
      case round =>
        obtain ⟨k, hk, rfl, HK⟩ := hrel
        rcases Nat.lt_or_ge k 64 with h4 | h4
        · have h5 : (k : Int) < 64 := by omega
          have K := KD.out t' htU k h4 wr
          have hwb := HWB.out t' k h4
          obtain ⟨c0, _⟩ := HK.out.top
          obtain ⟨ck, fk⟩ := HK.out.at' h4
          have hset := HK.out.set k true h4
          generalize Sr.add t' (-(k : Int)) = x at *
          by_cases hx : x = n
          · have huk := hwb.1 hx
            have e1 : (x == n) = true := by rw [beq_iff_eq]; exact hx
            have HN : Hid (M2 w (wr.setCell ⟨r, 1 + k, none⟩ (.bool true)) r Z (wC t' (fun j => p1 j || (decide (j < k + 1) && decide (Sr.way n t' = (j : Int)))))) := by
              rw [wC_congr (p' := fun j => p1 j || (decide (j < k + 1) && decide (Sr.way n t' = (j : Int)))) (fun i _ => by
                by_cases hik : i = k
                · subst hik; rw [if_pos rfl, decide_eq_true (Nat.lt_succ_self i), decide_eq_true huk, Bool.true_and, Bool.or_true]
                · rw [if_neg hik]; congr 2; exact decide_eq_decide.2 (by omega))] at hset
              exact hset
            clear hx huk hwb hset
            go_wp2_with fail
            refine K.mono ?_
            rintro e V ⟨rfl, hV⟩
            rw [hV]
            clear hV K
            go_wp2
            go_roundw
            case rel => exact ⟨k + 1, by omega, by go_num, HN⟩
            case measure => simp [intOf]; omega
          · have huk : ¬ Sr.way n t' = (k : Int) := fun h => hx (hwb.2 h)
            have e1 : (x == n) = false := by rw [beq_eq_false_iff_ne]; exact hx
            have HN : Hid (M2 w wr r Z (wC t' (fun j => p1 j || (decide (j < k + 1) && decide (Sr.way n t' = (j : Int)))))) := by
              have h := HK.out
              rw [wC_congr (p' := fun j => p1 j || (decide (j < k + 1) && decide (Sr.way n t' = (j : Int)))) (fun i _ => by
                by_cases hik : i = k
                · subst hik; rw [decide_eq_false huk, Bool.and_false, Bool.and_false]
                · congr 2; exact decide_eq_decide.2 (by omega))] at h
              exact h
            clear hx huk hwb hset ck fk
            go_wp2_with fail
            refine K.mono ?_
            rintro e V ⟨rfl, hV⟩
            rw [hV]
            clear hV K
            go_wp2
            go_roundw
            case rel => exact ⟨k + 1, by omega, by go_num, HN⟩
            case measure => simp [intOf]; omega
        · obtain rfl : 64 = k := by omega
          have h64 := HK.out
          rw [wC_congr (p' := q'.testBit) (fun i hi => by rw [decide_eq_true hi, Bool.true_and]; exact HF.out i hi), HRe.out] at h64
          have H0 := Lib.hid h64.h0
          have H1 := Lib.hid h64.h1
          have HRs : Hid (R.size = 65) := by show _ = _; rw [← HRe.out]; exact wC_size _ _
          have HR1 : Hid (R.all (·.oneCell') = true) := by show _ = _; rw [← HRe.out]; exact wC_one _ _
          have HRi : Hid ((Tryz.prog.info? 31).map (·.size) = some R.size) := by show _ = _; rw [HRs.out]; exact HZi.out
          have HB : Hid (Below w.heap.size w (wr.setRow (r + 1) R)) := by
            have hb := h64.b
            have hrr := h64.hr
            exact ⟨hb.os, hb.tape, hb.output, by have := hb.size; simpa [World.setRow] using this, fun k hk => (setRow_other _ _ _ _ (by omega)).trans (hb.block k hk)⟩
          clear h64 HK HM4 HF KD HWB
          go_wp2_with (first
            | (refine wpList_load_row rfl 31 (.tmp 2) rfl r rfl 31 R (0, 0) _ H0.out Tryz.underlying31 rfl HRi.out ?_)
            | (refine wpList_store_row rfl 31 (.tmp 4) (.tmp 62) rfl (r + 1) R rfl rfl 31 _ H1.out HRi.out (HZs.out.trans HRs.out.symm) HR1.out ?_))
          refine bodyPost_ret (results_row_tmp (P := Tryz.prog) (fn := Tryz.f27) rfl _ _ (r + 1) 31 R _ (by rfl) (setRow_heap _ _ _ _ _ _ H1.out) Tryz.underlying31 (by rfl) HRi.out) rfl ?_
          exact ⟨rfl, HB.out⟩
  · have e2 : (L != 0) = true := by rw [bne_iff_ne]; exact hL
    have h1 : w2.heap[r + 1]? = some (.cells Z 31 (0, 0)) := HM2.out.h1
    have h0 : w2.heap[r]? = some (.cells C 31 (0, 0)) := by rw [← HC.out]; exact HM2.out.h0
    have H0 := Lib.hid h0
    have H1 := Lib.hid h1
    have hCR := HR.out.2 hL
    have HCR := Lib.hid hCR
    have HB : Hid (Below w.heap.size w (w2.setRow (r + 1) C)) := by
      have hb := HM2.out.b
      have hrr := HM2.out.hr
      exact ⟨hb.os, hb.tape, hb.output, by have := hb.size; simpa [World.setRow] using this, fun k hk => (setRow_other _ _ _ _ (by omega)).trans (hb.block k hk)⟩
    clear h0 h1 hL hCR HT HLK HQA HQI
    go_wp2_with (first
      | (refine wpList_load_row rfl 31 (.tmp 2) rfl r rfl 31 C (0, 0) _ H0.out Tryz.underlying31 rfl HI.out ?_)
      | (refine wpList_store_row rfl 31 (.tmp 4) (.tmp 16) rfl (r + 1) C rfl rfl 31 _ H1.out HI.out (HZs.out.trans HCs.out.symm) HC1.out ?_))
    refine bodyPost_ret (results_row_tmp (P := Tryz.prog) (fn := Tryz.f27) rfl _ _ (r + 1) 31 C _ (by rfl) (setRow_heap _ _ _ _ _ _ H1.out) Tryz.underlying31 (by rfl) HI.out) rfl ?_
    exact ⟨by rw [← HCR.out]; rfl, HB.out⟩
end Go.Proofs.YtfdbcfkjablnkaaGreat

namespace Go.Proofs.YtfdbcfkjablnkaaGreat
open Go.RowKit Go.MapKept Go.Maps
open Go.ChangeMaps (setBlock)

/-- an element of such a map: its place, and where its bytes lie -/
structure Pl where
  i : Nat
  a : Option Addr
  cp : Nat
  zs : List Int
def Pl.val (p : Pl) : Value := .slice p.a p.zs.length p.cp
def Pl.kv (p : Pl) : Value × Value := (.int .i64 (p.i : Int), p.val)
def kvOf (e : MapEntry) : Value × Value := (e.key, e.val)
/-- the element at a place -/
def Pl.at (E : List Pl) (i : Nat) : Option Pl := E.find? fun p => p.i == i
/-- places that are ints, no two alike -/
def Pl.Keys (E : List Pl) : Prop := (E.map Pl.i).Nodup ∧ ∀ p ∈ E, p.i ≤ 9223372036854775807
theorem Pl.at_mem {E : List Pl} {i : Nat} {p : Pl} (h : Pl.at E i = some p) : p ∈ E ∧ p.i = i := ⟨List.mem_of_find?_eq_some h, by simpa using List.find?_some h⟩
theorem Pl.at_none {E : List Pl} {i : Nat} : Pl.at E i = none ↔ ∀ p ∈ E, p.i ≠ i := by simp [Pl.at, List.find?_eq_none]
theorem Pl.at_of : ∀ {E : List Pl} {p : Pl}, (E.map Pl.i).Nodup → p ∈ E → Pl.at E p.i = some p
  | q :: r, p, hn, hp => by
    rw [List.map_cons, List.nodup_cons] at hn
    unfold Pl.at
    by_cases h : q.i = p.i
    · rw [List.find?_cons_of_pos (by simpa using h)]
      rcases List.mem_cons.1 hp with rfl | hr
      · rfl
      · exact absurd (List.mem_map.2 ⟨p, hr, h.symm⟩) hn.1
    · rw [List.find?_cons_of_neg (by simpa using h)]
      rcases List.mem_cons.1 hp with rfl | hr
      · exact absurd rfl h
      · exact Pl.at_of hn.2 hr

structure Ents (A : Array MapEntry) (clock : Nat) (E : List Pl) : Prop where
  st : Stamped A clock
  kv : A.toList.map kvOf = E.map Pl.kv
  keys : Pl.Keys E
/-- block m is such a map -/
def MapAt (w : World) (m : Nat) (E : List Pl) : Prop := ∃ A clock, w.heap[m]? = some (.map A clock) ∧ Ents A clock E
section
variable {P : Program} {w w' : World} {m : Nat} {E : List Pl} {t k e : TypeId}
theorem MapAt.lt (h : MapAt w m E) : m < w.heap.size := by
  obtain ⟨A, clock, hb, _⟩ := h
  exact (Array.getElem?_eq_some_iff.1 hb).1
theorem MapAt.same (h : MapAt w m E) (hb : w'.heap[m]? = w.heap[m]?) : MapAt w' m E := by
  obtain ⟨A, clock, h1, h2⟩ := h
  exact ⟨A, clock, hb.trans h1, h2⟩
theorem MapAt.below (h : MapAt w m E) (hb : Below w.heap.size w w') : MapAt w' m E := h.same (hb.block m h.lt)
theorem MapAt.off {S : Nat → Prop} (h : MapAt w m E) (hf : Off S w w') (hn : ¬ S m) : MapAt w' m E := h.same (hf.block m h.lt hn)
theorem MapAt.keys (h : MapAt w m E) : Pl.Keys E := by
  obtain ⟨A, clock, _, h2⟩ := h
  exact h2.keys
theorem MapAt.not_cells (h : MapAt w m E) (cs : Array Value) (t : TypeId) (x : Nat × Nat) : w.heap[m]? ≠ some (.cells cs t x) := by
  obtain ⟨A, clock, hb, _⟩ := h
  rw [hb]
  intro h; injection h with h; cases h
theorem MapAt.new (w : World) : MapAt (w.alloc (.map #[] 0)) w.heap.size [] := ⟨#[], 0, World.alloc_heap_new _ _, ⟨stamped_empty 0, rfl, by simp [Pl.Keys]⟩⟩
theorem Ents.len {A : Array MapEntry} {clock : Nat} (h : Ents A clock E) : A.size = E.length := by
  have := congrArg List.length h.kv
  simpa using this
/-- an entry's place in the list -/
theorem Ents.get {A : Array MapEntry} {clock : Nat} (h : Ents A clock E) {x : MapEntry} (hx : x ∈ A.toList) : ∃ p ∈ E, x.key = .int .i64 (p.i : Int) ∧ x.val = p.val := by
  have : kvOf x ∈ E.map Pl.kv := by rw [← h.kv]; exact List.mem_map.2 ⟨x, hx, rfl⟩
  obtain ⟨p, hp, e1⟩ := List.mem_map.1 this
  simp only [Pl.kv, kvOf, Prod.mk.injEq] at e1
  exact ⟨p, hp, e1.1.symm, e1.2.symm⟩
theorem Ents.put {A : Array MapEntry} {clock : Nat} (h : Ents A clock E) {p : Pl} (hp : p ∈ E) : ∃ x ∈ A.toList, x.key = .int .i64 (p.i : Int) ∧ x.val = p.val := by
  have : p.kv ∈ A.toList.map kvOf := by rw [h.kv]; exact List.mem_map.2 ⟨p, hp, rfl⟩
  obtain ⟨x, hx, e1⟩ := List.mem_map.1 this
  simp only [Pl.kv, kvOf, Prod.mk.injEq] at e1
  exact ⟨x, hx, e1.1, e1.2⟩
theorem wf_nat {i : Nat} (h : i ≤ 9223372036854775807) : (Lit.int .i64 (i : Int)).wf = true := WalkArith.wf_i64 (by omega)

theorem key_nat (hk : P.underlying k = some (.int .i64)) {i : Nat} (h : i ≤ 9223372036854775807) : keyOf P k (.int .i64 (i : Int)) = some (.int .i64 (i : Int)) := keyOf_int_mk hk (wf_nat h)
theorem Ents.keyed {A : Array MapEntry} {clock : Nat} (h : Ents A clock E) (hk : P.underlying k = some (.int .i64)) : ∀ x ∈ A.toList, ∃ l, keyOf P k x.key = some l := fun x hx => by
  obtain ⟨p, hp, e1, _⟩ := h.get hx
  rw [e1]
  exact ⟨_, key_nat hk (h.keys.2 p hp)⟩

theorem MapAt.run_len (h : MapAt w m E) (ht : P.underlying t = some (.map k e)) (ty : TypeId) : (Builtin.len_ #[t] ty #[.map (some m)]).run P w = .ok (.int .i64 (E.length : Int)) w := by
  obtain ⟨A, clock, hb, h2⟩ := h
  rw [← h2.len]
  simp [Builtin.len_, run_underlying ht, MapKept.run_getObj_map hb, goInt, Result.andThen]
theorem MapAt.run_look (h : MapAt w m E) (c : Bool) (ht : P.underlying t = some (.map k e)) (hk : P.underlying k = some (.int .i64)) {z : Value} (hz : (zeroValue e).run P w = .ok z w) {i : Nat} (hi : i ≤ 9223372036854775807) :
    (Instr.lookup t (.map (some m)) (.int .i64 (i : Int)) c).run P w = .ok (match Pl.at E i with | some p => if c then .tuple #[p.val, .bool true] else p.val | none => if c then .tuple #[z, .bool false] else z) w := by
  obtain ⟨A, clock, hb, h2⟩ := h
  have K : Keyed P k := int_keyed hk
  have hkey := key_nat hk hi
  rcases K.find w hkey A.toList (h2.keyed hk) with ⟨h1, h3⟩ | ⟨j, e0, h1, h3, h4⟩
  · have : Pl.at E i = none := Pl.at_none.2 fun p hp e1 => by
      obtain ⟨x, hx, e2, _⟩ := h2.put hp
      rw [e1] at e2
      exact h3 x hx e2
    rw [this]
    simp [Instr.lookup, run_underlying ht, MapKept.run_getObj_map hb, K.check w _ hkey, h1, hz, Result.andThen]
  · obtain ⟨p, hp, e1, e2⟩ := h2.get (List.mem_of_getElem? h3)
    rw [h4] at e1
    injection e1 with _ e1
    have e3 : p.i = i := by omega
    subst e3
    rw [Pl.at_of h2.keys.1 hp]
    simp [Instr.lookup, run_underlying ht, MapKept.run_getObj_map hb, K.check w _ hkey, h1, e2, Result.andThen]
theorem MapAt.run_upd (h : MapAt w m E) (ht : P.underlying t = some (.map k e)) (hk : P.underlying k = some (.int .i64)) (p : Pl) (hi : p.i ≤ 9223372036854775807) (hn : Pl.at E p.i = none) :
    ∃ w', (Instr.mapUpdate t (.map (some m)) (.int .i64 (p.i : Int)) p.val).run P w = .ok () w' ∧ MapAt w' m (E ++ [p]) ∧ Off (fun q => q = m) w w' ∧ w'.heap.size = w.heap.size := by
  obtain ⟨A, clock, hb, h2⟩ := h
  have K : Keyed P k := int_keyed hk
  have hkey := key_nat hk hi
  have hne : ∀ x ∈ A.toList, x.key ≠ .int .i64 (p.i : Int) := fun x hx e1 => by
    obtain ⟨q, hq, e2, _⟩ := h2.get hx
    rw [e1] at e2
    injection e2 with _ e2
    exact Pl.at_none.1 hn q hq (by omega)
  rcases K.find w hkey A.toList (h2.keyed hk) with ⟨h1, h3⟩ | ⟨j, e0, h1, h3, h4⟩
  · refine ⟨setBlock w m (.map (A.push ⟨.int .i64 (p.i : Int), p.val, clock⟩) (clock + 1)), ?_, ⟨_, _, ChangeMaps.heap_setBlock_same hb _, stamped_push h2.st hne, ?_, ?_, ?_⟩, ⟨rfl, rfl, rfl, by simp [setBlock], fun q _ hq => ChangeMaps.heap_setBlock_other hb _ hq⟩, by simp [setBlock]⟩
    · simp [Instr.mapUpdate, run_underlying ht, MapKept.run_getObj_map hb, K.check w false hkey, h1, MapKept.run_setObj_map _ hb, Result.andThen, setBlock]
    · rw [Array.toList_push, List.map_append, h2.kv, List.map_append]
      rfl
    · rw [List.map_append, List.nodup_append]
      exact ⟨h2.keys.1, by simp, fun a ha b hb => by
        simp only [List.map_cons, List.map_nil, List.mem_singleton] at hb
        subst hb
        obtain ⟨q, hq, rfl⟩ := List.mem_map.1 ha
        exact Pl.at_none.1 hn q hq⟩
    · intro q hq
      rcases List.mem_append.1 hq with hq | hq
      · exact h2.keys.2 q hq
      · obtain rfl := List.mem_singleton.1 hq
        exact hi
  · exact absurd h4 (hne e0 (List.mem_of_getElem? h3))
end

/-- a range over block m under way, its iterator in block r: D has come, in that order -/
def RangeAt (w : World) (m r : Nat) (E D : List Pl) : Prop :=
  ∃ A clock since seen c0 R, w.heap[m]? = some (.map A clock) ∧ Ents A clock E ∧ w.heap[r]? = some (.mapIter (some m) since seen c0) ∧ (∀ x ∈ A.toList, x.born < since) ∧ since ≤ c0 ∧ since ≤ clock ∧ (leftOf A seen).toList.map kvOf = R.map Pl.kv ∧ (D ++ R).Perm E
section
variable {P : Program} {w w' : World} {m r : Nat} {E D : List Pl} {t k e : TypeId}
theorem RangeAt.map (h : RangeAt w m r E D) : MapAt w m E := by
  obtain ⟨A, clock, since, seen, c0, R, hb, h2, _⟩ := h
  exact ⟨A, clock, hb, h2⟩
theorem RangeAt.lt (h : RangeAt w m r E D) : r < w.heap.size := by
  obtain ⟨A, clock, since, seen, c0, R, hb, h2, hr, _⟩ := h
  exact (Array.getElem?_eq_some_iff.1 hr).1
theorem RangeAt.same (h : RangeAt w m r E D) (hm : w'.heap[m]? = w.heap[m]?) (hr : w'.heap[r]? = w.heap[r]?) : RangeAt w' m r E D := by
  obtain ⟨A, clock, since, seen, c0, R, hb, h2, hr', rest⟩ := h
  exact ⟨A, clock, since, seen, c0, R, hm.trans hb, h2, hr.trans hr', rest⟩
theorem RangeAt.off {S : Nat → Prop} (h : RangeAt w m r E D) (hf : Off S w w') (h1 : ¬ S m) (h2 : ¬ S r) : RangeAt w' m r E D := h.same (hf.block m h.map.lt h1) (hf.block r h.lt h2)
theorem RangeAt.below (h : RangeAt w m r E D) (hb : Below w.heap.size w w') : RangeAt w' m r E D := h.same (hb.block m h.map.lt) (hb.block r h.lt)
theorem RangeAt.left (h : RangeAt w m r E D) : w.rangeLeft m r = E.length - D.length := by
  obtain ⟨A, clock, since, seen, c0, R, hb, h2, hr, _, _, _, hR, hp⟩ := h
  have e1 := congrArg List.length hR
  have e2 := hp.length_eq
  simp at e1 e2
  simp only [World.rangeLeft, hb, hr]
  omega
theorem RangeAt.sub (h : RangeAt w m r E D) : ∃ R, (D ++ R).Perm E := by
  obtain ⟨A, clock, since, seen, c0, R, hb, h2, hr, _, _, _, hR, hp⟩ := h
  exact ⟨R, hp⟩
theorem Pl.Keys.perm {E E' : List Pl} (h : Pl.Keys E) (hp : E'.Perm E) : Pl.Keys E' := ⟨((hp.map Pl.i).nodup_iff).2 h.1, fun p hp' => h.2 p (hp.mem_iff.1 hp')⟩
theorem RangeAt.keys (h : RangeAt w m r E D) : Pl.Keys D ∧ ∀ p ∈ D, p ∈ E := by
  obtain ⟨R, hp⟩ := h.sub
  have hk := h.map.keys.perm hp
  exact ⟨⟨by have := hk.1; rw [List.map_append, List.nodup_append] at this; exact this.1, fun p hp => hk.2 p (List.mem_append_left _ hp)⟩, fun p h1 => hp.mem_iff.1 (List.mem_append_left _ h1)⟩
theorem MapAt.range (h : MapAt w m E) (ht : P.underlying t = some (.map k e)) :
    ∃ w', (Instr.range t (.map (some m))).run P w = .ok (.pointer (some ⟨w.heap.size, 0, none⟩)) w' ∧ RangeAt w' m w.heap.size E [] ∧ Below w.heap.size w w' ∧ w'.heap.size = w.heap.size + 1 := by
  have hlt := h.lt
  obtain ⟨A, clock, hb, h2⟩ := h
  refine ⟨_, run_range_map w t k e m A clock ht hb, ⟨A, clock, clock, #[], clock, E, ?_, h2, World.alloc_heap_new _ _, h2.st.1, Nat.le_refl _, Nat.le_refl _, ?_, ?_⟩, (Below.refl _ w).alloc (Nat.le_refl _) _, by simp⟩
  · exact (Below.heap_alloc _ _ _ hlt).trans hb
  · rw [← h2.kv]
    congr 1
    simp [leftOf]
  · exact List.Perm.refl _
theorem RangeAt.next (h : RangeAt w m r E D) (ty : TypeId) :
    (D.Perm E ∧ (Instr.next (.pointer (some ⟨r, 0, none⟩)) false ty).run P w = .ok (.tuple #[.bool false]) w) ∨
    ∃ p w', p ∈ E ∧ (Instr.next (.pointer (some ⟨r, 0, none⟩)) false ty).run P w = .ok (.tuple #[.bool true, .int .i64 (p.i : Int), p.val]) w' ∧ RangeAt w' m r E (D ++ [p]) ∧ Off (fun q => q = r) w w' ∧ w'.heap.size = w.heap.size ∧
      (Instr.entry (.pointer (some ⟨r, 0, none⟩))).run P w' = .ok (.tuple #[.int .i64 (p.i : Int), p.val]) w' := by
  obtain ⟨A, clock, since, seen, c0, R, hb, h2, hr, hold, hsc, hsk, hR, hp⟩ := h
  rcases run_next_at (P := P) w ty r m since c0 seen A clock hr hb hold hsc with ⟨h0, hrun⟩ | ⟨e, he, w1, hal, hrun⟩
  · refine .inl ⟨?_, hrun⟩
    have : R = [] := by
      have e1 := congrArg List.length hR
      simp at e1
      exact List.eq_nil_of_length_eq_zero (by omega)
    rw [this, List.append_nil] at hp
    exact hp
  · obtain ⟨hem, hes⟩ := mem_left he
    have hr1 : w1.heap[r]? = some (.mapIter (some m) since seen c0) := by rcases hal with rfl | rfl <;> exact hr
    have hb1 : w1.heap[m]? = some (.map A clock) := by rcases hal with rfl | rfl <;> exact hb
    have hne : m ≠ r := fun e1 => by rw [e1, hr1] at hb1; injection hb1 with e2; cases e2
    obtain ⟨j, hj⟩ := List.getElem?_of_mem he
    have hRj : (R.map Pl.kv)[j]? = some (kvOf e) := by rw [← hR, List.getElem?_map, hj]; rfl
    rw [List.getElem?_map] at hRj
    obtain ⟨p, hpj, hpk⟩ := Option.map_eq_some_iff.1 hRj
    simp only [Pl.kv, kvOf, Prod.mk.injEq] at hpk
    have hsize : (setBlock w1 r (.mapIter (some m) since (seen.push e.born) clock)).heap.size = w.heap.size := by rcases hal with rfl | rfl <;> simp [setBlock] <;> rfl
    have hb2 : (setBlock w1 r (.mapIter (some m) since (seen.push e.born) clock)).heap[m]? = some (.map A clock) := by
      simp only [setBlock]
      rw [Array.getElem?_setIfInBounds, if_neg (Ne.symm hne)]
      exact hb1
    have hr2 : (setBlock w1 r (.mapIter (some m) since (seen.push e.born) clock)).heap[r]? = some (.mapIter (some m) since (seen.push e.born) clock) := by
      simp only [setBlock]
      rw [Array.getElem?_setIfInBounds, if_pos rfl, if_pos (Array.getElem?_eq_some_iff.1 hr1).1]
    have hmem : p ∈ E := hp.mem_iff.1 (List.mem_append_right _ (List.mem_of_getElem? hpj))
    refine .inr ⟨p, _, hmem, by rw [hpk.1, hpk.2]; exact hrun, ⟨A, clock, since, seen.push e.born, clock, R.eraseIdx j, hb2, h2, hr2, hold, hsk, hsk, ?_, ?_⟩, ?_, hsize, ?_⟩
    · have e1 : (leftOf A (seen.push e.born)).toList = (leftOf A seen).toList.eraseIdx j := by
        rw [← ChangeMaps.filter_eq_eraseIdx (fun x : MapEntry => x.born == e.born) _ j e hj (by simp) ?_]
        · unfold leftOf
          rw [Array.toList_filter, Array.toList_filter, List.filter_filter]
          refine List.filter_congr fun x _ => ?_
          rw [contains_push]
          cases seen.contains x.born <;> cases x.born == e.born <;> rfl
        · have hn : ((leftOf A seen).toList.map (·.born)).Nodup := by
            unfold leftOf
            rw [Array.toList_filter]
            exact (List.filter_sublist.map _).nodup h2.st.2.1
          refine (List.pairwise_map.1 hn).imp fun {x y} hxy hh => ?_
          simp only [beq_iff_eq] at hh
          exact hxy (hh.1.trans hh.2.symm)
      rw [e1, ChangeMaps.map_eraseIdx, hR, ChangeMaps.map_eraseIdx]
    · refine List.Perm.trans ?_ hp
      rw [List.append_assoc]
      refine List.Perm.append_left D ?_
      have hlt : j < R.length := (List.getElem?_eq_some_iff.1 hpj).1
      have hg : R[j] = p := (List.getElem?_eq_some_iff.1 hpj).2
      have h3 : R = R.take j ++ p :: R.drop (j + 1) := by rw [← hg, List.getElem_cons_drop, List.take_append_drop]
      rw [List.eraseIdx_eq_take_drop_succ]
      refine (List.perm_middle.symm : (p :: (R.take j ++ R.drop (j + 1))).Perm _).trans ?_
      rw [← h3]
    · refine ⟨?_, ?_, ?_, by rw [hsize]; exact Nat.le_refl _, fun q _ hq => ?_⟩
      · rcases hal with rfl | rfl <;> rfl
      · rcases hal with rfl | rfl <;> rfl
      · rcases hal with rfl | rfl <;> rfl
      · simp only [setBlock]
        rw [Array.getElem?_setIfInBounds, if_neg (Ne.symm hq)]
        rcases hal with rfl | rfl <;> rfl
    · rw [hpk.1, hpk.2]
      exact run_entry_at _ r m since seen A clock e hr2 hb2 hem h2.st.2.1
end

/-! ### at the operation -/
section
variable {P : Program} {w : World} {ops : Array Oper} {rest : List Oper} {o : Oper} {a : Act} {Q : Exit → Act → World → Prop} {m r : Nat} {E D : List Pl}
/-- 'range m' -/
theorem wpList_range_map (hg : o.guard = none) (x : Operand) (t : TypeId) (hop : o.op = Op.range t x) (k e : TypeId) (ht : P.underlying t = some (.map k e)) (hm : a.eval x = .map (some m)) (h : MapAt w m E)
    (hK : ∀ w', RangeAt w' m w.heap.size E [] → Below w.heap.size w w' → w'.heap.size = w.heap.size + 1 → wpList P ops Q rest (a.put o.dst (.pointer (some ⟨w.heap.size, 0, none⟩))) w') : wpList P ops Q (o :: rest) a w := by
  refine wpList_plain hg fun K' hK' => ?_
  obtain ⟨w', hrun, r1, r2, r3⟩ := h.range ht
  unfold Oper.wp
  simp [execOp, hop, hm, hrun, Result.andThen]
  exact hK' _ _ (hK w' r1 r2 r3)
/-- its step -/
theorem wpList_next_map (hg : o.guard = none) (it : Operand) (hop : o.op = Op.next it false) (hit : a.eval it = .pointer (some ⟨r, 0, none⟩)) (h : RangeAt w m r E D)
    (hDone : D.Perm E → wpList P ops Q rest (a.put o.dst (.tuple #[.bool false])) w)
    (hMore : ∀ (p : Pl) (w' : World), p ∈ E → RangeAt w' m r E (D ++ [p]) → Off (fun q => q = r) w w' → w'.heap.size = w.heap.size → (Instr.entry (.pointer (some ⟨r, 0, none⟩))).run P w' = .ok (.tuple #[.int .i64 (p.i : Int), .slice p.a p.zs.length p.cp]) w' →
      wpList P ops Q rest (a.put o.dst (.tuple #[.bool true, .int .i64 (p.i : Int), .slice p.a p.zs.length p.cp])) w') : wpList P ops Q (o :: rest) a w := by
  refine wpList_plain hg fun K' hK' => ?_
  unfold Oper.wp
  rcases h.next (P := P) o.type with ⟨h0, hrun⟩ | ⟨p, w', hp, hrun, h1, h2, h3, h4⟩
  · simp [execOp, hop, hit, hrun, Result.andThen]
    exact hK' _ _ (hDone h0)
  · simp [execOp, hop, hit, hrun, Result.andThen]
    exact hK' _ _ (hMore p w' hp h1 h2 h3 h4)
end
end Go.Proofs.YtfdbcfkjablnkaaGreat

namespace Go.Proofs.YtfdbcfkjablnkaaGreat

theorem nodup_few : ∀ (n : Nat) (l : List Nat), l.Nodup → (∀ x ∈ l, x < n) → l.length ≤ n
  | 0, l, _, h => by
    cases l with
    | nil => simp
    | cons x r => have := h x (by simp); omega
  | n + 1, l, hn, h => by
    have h1 := nodup_few n (l.erase n) (hn.erase n) fun x hx => by
      have h2 := (List.Nodup.mem_erase_iff hn).1 hx
      have := h x h2.2
      have := h2.1
      omega
    by_cases hm : n ∈ l
    · rw [List.length_erase_of_mem hm] at h1
      omega
    · rw [List.erase_of_not_mem hm] at h1
      omega
namespace Sl
/-- places, each with its bytes -/
abbrev Ct := List (Nat × List Int)
def has (C : Ct) (i : Nat) : Bool := C.any fun p => p.1 == i
def at' (C : Ct) (i : Nat) : List Int := ((C.find? fun p => p.1 == i).map (·.2)).getD []
def tot (C : Ct) : Nat := (C.map (·.2.length)).sum
/-- the bytes of the first n places -/
def cat (C : Ct) (n : Nat) : List Int := (List.range n).flatMap (at' C)
/-- of the first n places those that are empty -/
def mis (C : Ct) (n : Nat) : List Nat := (List.range n).filter fun i => !has C i
def Keys (C : Ct) : Prop := (C.map Prod.fst).Nodup
section
variable {C C' : Ct} {i n : Nat}
theorem has_iff : has C i = true ↔ i ∈ C.map Prod.fst := by
  simp [has]
theorem has_mem {x : List Int} (h : (i, x) ∈ C) : has C i = true := has_iff.2 (List.mem_map.2 ⟨_, h, rfl⟩)
theorem has_perm (hp : C.Perm C') (i : Nat) : has C i = has C' i := by
  have h : has C i = true ↔ has C' i = true := by rw [has_iff, has_iff]; exact (hp.map _).mem_iff
  cases h1 : has C i <;> cases h2 : has C' i <;> simp_all
theorem at_mem : ∀ {C : Ct} {i : Nat} {x : List Int}, Keys C → (i, x) ∈ C → at' C i = x
  | q :: r, i, x, hn, hp => by
    unfold Keys at hn
    rw [List.map_cons, List.nodup_cons] at hn
    unfold at'
    by_cases h : q.1 = i
    · rw [List.find?_cons_of_pos (by simpa using h)]
      rcases List.mem_cons.1 hp with rfl | hr
      · rfl
      · exact absurd (List.mem_map.2 ⟨_, hr, h.symm⟩) hn.1
    · rw [List.find?_cons_of_neg (by simpa using h)]
      rcases List.mem_cons.1 hp with rfl | hr
      · exact absurd rfl h
      · exact at_mem hn.2 hr
theorem at_none (h : has C i = false) : at' C i = [] := by
  have : C.find? (fun p => p.1 == i) = none := by
    rw [List.find?_eq_none]
    intro p hp h1
    have : has C i = true := List.any_eq_true.2 ⟨p, hp, h1⟩
    rw [h] at this; cases this
  simp [at', this]
theorem has_get (h : has C i = true) : ∃ x, (i, x) ∈ C := by
  obtain ⟨p, hp, e⟩ := List.mem_map.1 (has_iff.1 h)
  exact ⟨p.2, by rw [← e]; exact hp⟩
theorem at_perm (hp : C.Perm C') (hk : Keys C) (i : Nat) : at' C i = at' C' i := by
  have hk' : Keys C' := ((hp.map Prod.fst).nodup_iff).1 hk
  cases h : has C i with
  | false => rw [at_none h, at_none (by rw [← has_perm hp]; exact h)]
  | true =>
    obtain ⟨x, hx⟩ := has_get h
    rw [at_mem hk hx, at_mem hk' (hp.mem_iff.1 hx)]
theorem tot_perm (hp : C.Perm C') : tot C = tot C' := (hp.map _).sum_nat
theorem cat_perm (hp : C.Perm C') (hk : Keys C) (n : Nat) : cat C n = cat C' n := by
  unfold cat
  congr 1
  funext i
  exact at_perm hp hk i
theorem mis_perm (hp : C.Perm C') (n : Nat) : mis C n = mis C' n := by
  unfold mis
  congr 1
  funext i
  rw [has_perm hp]
theorem cat_succ (C : Ct) (n : Nat) : cat C (n + 1) = cat C n ++ at' C n := by
  unfold cat
  rw [List.range_succ, List.flatMap_append]
  simp
theorem mis_succ (C : Ct) (n : Nat) : mis C (n + 1) = mis C n ++ if has C n then [] else [n] := by
  unfold mis
  rw [List.range_succ, List.filter_append]
  cases h : has C n <;> simp [h]
theorem mis_at {C : Ct} {k : Nat} (h : has C k = false) : ∀ n : Nat, k < n → (mis C n)[(mis C k).length]? = some k
  | 0, hk => by omega
  | n + 1, hk => by
    rw [mis_succ]
    by_cases hkn : k = n
    · subst hkn
      simp [h]
    · have ih := mis_at h n (by omega)
      rw [List.getElem?_append_left (List.getElem?_eq_some_iff.1 ih).1]
      exact ih
theorem mis_stay {C : Ct} {k : Nat} (h : has C k = true) : mis C (k + 1) = mis C k := by simp [mis_succ, h]
theorem mis_step {C : Ct} {k : Nat} (h : has C k = false) : mis C (k + 1) = mis C k ++ [k] := by simp [mis_succ, h]
theorem mis_few (C : Ct) (n : Nat) : (mis C n).length ≤ n := by
  unfold mis
  have := List.length_filter_le (fun i => !has C i) (List.range n)
  rwa [List.length_range] at this
theorem tot_push (C : Ct) (p : Nat × List Int) : tot (C ++ [p]) = tot C + p.2.length := by simp [tot]
theorem at_len (C : Ct) (i : Nat) : (at' C i).length ≤ tot C := by
  cases h : has C i with
  | false => rw [at_none h]; simp
  | true =>
    unfold at'
    cases hf : C.find? (fun p => p.1 == i) with
    | none => simp
    | some p =>
      have hm := List.mem_of_find?_eq_some hf
      show p.2.length ≤ _
      unfold tot
      clear hf h
      induction C with
      | nil => cases hm
      | cons q r ih =>
        rw [List.map_cons, List.sum_cons]
        rcases List.mem_cons.1 hm with rfl | hm
        · omega
        · have := ih hm
          omega
theorem cat_len (C : Ct) : ∀ n : Nat, (cat C n).length ≤ n * tot C
  | 0 => by simp [cat]
  | n + 1 => by
    rw [cat_succ, List.length_append, Nat.add_mul]
    have := cat_len C n
    have := at_len C n
    omega
end
end Sl
end Go.Proofs.YtfdbcfkjablnkaaGreat

namespace Go.Proofs.YtfdbcfkjablnkaaGreat
open Go.RowKit

/-- a head, as a value -/
def hdV (v k s i c : Int) : Value := .agg #[.int .i64 v, .int .i64 k, .int .u32 s, .int .i64 i, .int .i64 c]
/-- what is wrong with a head -/
def chk (v k i c : Int) : Int := if v < 1 ∨ 2 < v then 10 else if k < 1 ∨ 5 < k then 9 else if c < 1 ∨ 255 < c ∨ i < 0 ∨ c ≤ i then 3 else 0
theorem chk_zero {v k i c : Int} (h : chk v k i c = 0) : (v = 1 ∨ v = 2) ∧ 1 ≤ k ∧ k ≤ 5 ∧ 1 ≤ c ∧ c ≤ 255 ∧ 0 ≤ i ∧ i < c := by
  unfold chk at h
  split at h
  · omega
  · split at h
    · omega
    · split at h <;> omega
theorem chk_cases (v k i c : Int) : (chk v k i c = 10 ∧ (v < 1 ∨ 2 < v)) ∨ (chk v k i c = 9 ∧ 1 ≤ v ∧ v ≤ 2 ∧ (k < 1 ∨ 5 < k)) ∨ (chk v k i c = 3 ∧ 1 ≤ v ∧ v ≤ 2 ∧ 1 ≤ k ∧ k ≤ 5 ∧ (c < 1 ∨ 255 < c)) ∨
    (chk v k i c = 3 ∧ 1 ≤ v ∧ v ≤ 2 ∧ 1 ≤ k ∧ k ≤ 5 ∧ 1 ≤ c ∧ c ≤ 255 ∧ (i < 0 ∨ c ≤ i)) ∨ (chk v k i c = 0 ∧ 1 ≤ v ∧ v ≤ 2 ∧ 1 ≤ k ∧ k ≤ 5 ∧ 1 ≤ c ∧ c ≤ 255 ∧ 0 ≤ i ∧ i < c) := by
  unfold chk
  split
  · omega
  · split
    · omega
    · split <;> omega
theorem hd_block {W : World} {b : Nat} {v k s i c : Int} {t : TypeId} (h : W.heap[b]? = some (.cells #[.int .i64 v, .int .i64 k, .int .u32 s, .int .i64 i, .int .i64 c] t (0, 0))) :
    W.cell? ⟨b, 0, none⟩ = some (.int .i64 v) ∧ W.cell? ⟨b, 1, none⟩ = some (.int .i64 k) ∧ W.cell? ⟨b, 2, none⟩ = some (.int .u32 s) ∧ W.cell? ⟨b, 3, none⟩ = some (.int .i64 i) ∧ W.cell? ⟨b, 4, none⟩ = some (.int .i64 c) := by
  simp [World.cell?, h]
end Go.Proofs.YtfdbcfkjablnkaaGreat

namespace Go.Proofs.YtfdbcfkjablnkaaGreat
open Go.RowKit

/-- whatever is no cells, lies from B on and is not l lies as it lay -/
structure KeepsBut (B l : Nat) (W W' : World) : Prop where
  size : W.heap.size ≤ W'.heap.size
  same : ∀ (k : Nat) (o : Obj), k ≠ l → B ≤ k → W.heap[k]? = some o → o.isCells = false → W'.heap[k]? = some o

section
variable {F : Fence} {n : Nat} {P : Program} {g : Operand} {ps : Array Tmp} {assign body : Code} {Q : Exit → Act → World → Prop} {a : Act} {w : World}
end

theorem yield_any {m : Nat} (m' : Nat) {P : Program} {l : Nat} {args : Array Value} {W : World} {R : Ending → World → Prop} (h : YieldAt Fence.wide m P l args W R) : YieldAt Fence.wide m' P l args W R := by
  obtain ⟨fn, tmps, assign, body, hy, hR⟩ := h
  exact ⟨fn, tmps, assign, body, hy, hR.1, fun c cs _ => hR.2 c cs (fun d hd => by cases hd)⟩
end Go.Proofs.YtfdbcfkjablnkaaGreat
