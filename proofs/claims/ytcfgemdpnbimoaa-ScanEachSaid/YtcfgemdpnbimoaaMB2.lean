/-
  A part of the texts of one proof, put together: Q2, ScP, Q5, Q6, Q7, Q10, ScE, Q9, ScI, ScV, StopA, StopB.
-/
import Derived.Deep.Quiet
import Derived.BigQuiet
import Derived.Below
import Derived.StillTail
import Derived.WalkSpells
import Derived.RangeFuncBound
import Derived.RangeFuncCalls
import Derived.RangeFuncLeaves
import Derived.Shelf.Abstract
import Derived.Shelf.RegionOpen
import Derived.OwnWalkIn
import Derived.TacticsInMore
import Derived.LoopNIn
import Derived.LoopIn
import Derived.Maps.AppendAt
import Derived.Test.YtcfgemdpnbimoaaMB1
namespace Go.Proofs.Ytcfgemdpnbimoaa
section
variable {P : Program} {ops : Array Oper} {md : Region.Mode}

/-- 0: it looks at no memory and enters no function; 2: a store; 1: all others -/
def pureOp (o : Oper) : Bool :=
  match o.op with
  | .move _ | .assign _ | .binOp _ _ _ _ _ | .unOp _ _ _ | .convert _ _ _ | .slice _ _ _ _ _ | .fieldAddr _ _ _ | .indexAddr _ _ _ | .extract _ _ | .pick _ _ _ => true
  | .call c =>
    match c.callee with
    | .builtin .len | .builtin .cap | .builtin .min | .builtin .max => true
    | _ => false
  | _ => false
def kindOf (o : Oper) : Nat :=
  if pureOp o then 0 else match o.op with
    | .store _ _ _ => 2
    | _ => 1
theorem run_value (s : Sem Value) (w w' : World) (f : FuncId) (args : Array Value) : (do pure (Next.value (← s)) : Sem Next).run P w ≠ .ok (.enter f args) w' := by
  intro h
  rw [Sem.run_bind] at h
  cases hs : s.run P w with
  | ok x w1 => rw [hs] at h; simp [Result.andThen] at h
  | halt x w1 => rw [hs] at h; simp [Result.andThen] at h
theorem andThen_value (r : Result Value) (w' : World) (f : FuncId) (args : Array Value) : (r.andThen fun a w' => Result.ok (Next.value a) w') ≠ .ok (.enter f args) w' := by
  intro h
  cases r <;> simp [Result.andThen] at h
theorem pure_no_enter {o : Oper} (ho : pureOp o = true) (ρ : Operand → Value) (w w' : World) (f : FuncId) (args : Array Value) : (execOp ρ o).run P w ≠ .ok (.enter f args) w' := by
  unfold pureOp at ho
  unfold execOp
  cases hop : o.op <;> simp only [hop] at ho ⊢ <;> try contradiction
  all_goals first
    | exact run_value _ _ _ _ _
    | (intro h; simp at h; done)
    | skip
  case pick c x y =>
    intro h
    rw [Sem.run_bind] at h
    cases hs : (asBool (ρ c)).run P w with
    | ok x w1 => rw [hs] at h; simp [Result.andThen] at h
    | halt x w1 => rw [hs] at h; simp [Result.andThen] at h
  case call c =>
    obtain ⟨callee, cargs, cts⟩ := c
    cases callee with
    | builtin b =>
      cases b <;> simp at ho <;>
      · intro h
        simp [resolve, invoke, builtin] at h
        exact andThen_value _ _ _ _ h
    | _ => simp at ho

def stepUpon (C' : World → Prop) (v : Value) : Result Next → Prop
  | .ok (.value u) w' => u = v ∧ C' w'
  | .ok .skip w' => v = undef ∧ C' w'
  | _ => False
def StepsIn (P : Program) (ops : Array Oper) (C C' : World → Prop) (o : Oper) (v : Value) (a : Act) : Prop :=
  (Region.wanted o (yielded ops a.tmps) = true ∧ ∀ w, C w → stepUpon C' v ((execOp a.eval o).run P w)) ∨ (Region.wanted o (yielded ops a.tmps) = false ∧ v = undef ∧ C' = C)
/-- what an operation does to the class of worlds, and its value -/
def OpR (P : Program) (ops : Array Oper) (C C' : World → Prop) (o : Oper) (v : Value) (a : Act) : Prop :=
  (kindOf o = 0 ∧ C' = C ∧ YieldsIn P ops (fun _ => True) o v a) ∨ (kindOf o = 1 ∧ C' = C ∧ YieldsIn P ops C o v a) ∨ (kindOf o = 2 ∧ StepsIn P ops C C' o v a)
theorem kind_pure {o : Oper} (h : kindOf o = 0) : pureOp o = true := by
  unfold kindOf at h
  split at h
  · assumption
  · split at h <;> simp at h
theorem yields_pure {o : Oper} {v : Value} {a : Act} (hk : kindOf o = 0) (h : YieldsIn P ops (fun _ => True) o v a) (C : World → Prop) : YieldsIn P ops C o v a := by
  rcases h with ⟨hw, h⟩ | h
  · refine .inl ⟨hw, fun w _ => ?_⟩
    have h1 := h w trivial
    have h2 := pure_no_enter (P := P) (kind_pure hk) a.eval w
    unfold Oper.quietAt at h1 ⊢
    generalize (execOp a.eval o).run P w = r at h1 h2
    cases r with
    | ok n w' =>
      cases n with
      | enter f args => exact absurd rfl (h2 w' f args)
      | _ => exact h1
    | halt x w' => exact h1
  · exact .inr h
theorem OpR.of_same {C C' : World → Prop} {o : Oper} {v : Value} {a a' : Act} (h : OpR P ops C C' o v a) (he : execOp a'.eval o = execOp a.eval o) (hw : Region.wanted o (yielded ops a'.tmps) = Region.wanted o (yielded ops a.tmps)) : OpR P ops C C' o v a' := by
  rcases h with ⟨hk, hc, h⟩ | ⟨hk, hc, h⟩ | ⟨hk, h⟩
  · exact .inl ⟨hk, hc, h.of_same he hw⟩
  · exact .inr (.inl ⟨hk, hc, h.of_same he hw⟩)
  · refine .inr (.inr ⟨hk, ?_⟩)
    unfold StepsIn at *
    rw [he, hw]
    exact h
theorem OpR.wpOp {C C' : World → Prop} {i : Nat} {o : Oper} {v : Value} {a : Act} {K : Act → World → Prop} {Q' : Exit → Act → World → Prop} {w : World} (hi : ops[i]? = some o) (h : OpR P ops C C' o v a) (hC : C w) (hK : ∀ w', C' w' → K (a.put o.dst v) w') : wpOp P ops Q' i K a w := by
  have quiet : ∀ {D : World → Prop}, D w → (∀ w', D w' → K (a.put o.dst v) w') → YieldsIn P ops D o v a → Go.wpOp P ops Q' i K a w := fun {D} hD hK hy => by
    unfold Go.wpOp
    simp only [hi]
    rcases hy with ⟨hw, hv⟩ | ⟨hw, rfl⟩
    · simp only [hw, if_true]
      exact .inl (Oper.wp_of_quiet (C := D) (K := fun a' => a' = a.put o.dst v) hD (fun a' w' hw' e => by subst e; exact hK w' hw') ⟨v, hv, rfl⟩)
    · simp only [hw, Bool.false_eq_true, if_false]
      exact hK w hD
  rcases h with ⟨hk, rfl, h⟩ | ⟨hk, rfl, h⟩ | ⟨hk, h⟩
  · exact quiet hC hK (yields_pure hk h _)
  · exact quiet hC hK h
  · unfold Go.wpOp
    simp only [hi]
    rcases h with ⟨hw, hv⟩ | ⟨hw, rfl, rfl⟩
    · simp only [hw, if_true]
      left
      have h1 := hv w hC
      unfold Oper.wp
      generalize (execOp a.eval o).run P w = r at h1
      cases r with
      | ok n w' =>
        cases n <;> simp only [stepUpon] at h1 <;> simp only [Oper.upon]
        case value u => rw [h1.1]; exact hK w' h1.2
        case skip => rw [← h1.1]; exact hK w' h1.2
      | halt x w' => simp only [stepUpon] at h1
    · simp only [hw, Bool.false_eq_true, if_false]
      exact hK w hC

/-- whatever order is picked from here on -/
def wpAny2 (P : Program) (md : Region.Mode) (ops : Array Oper) (Q : (World → Prop) → Act → Prop) : Nat → Array Bool → (World → Prop) → Act → Prop
  | 0, listed, C, a => Region.ready md ops listed = [] ∧ Q C a
  | fuel + 1, listed, C, a =>
    (Region.ready md ops listed = [] → Q C a) ∧
    ∀ i ∈ Region.ready md ops listed, ∀ o, ops[i]? = some o → ∃ v C', OpR P ops C C' o v a ∧ wpAny2 P md ops Q fuel (listed.setIfInBounds i true) C' (a.put o.dst v)
theorem wpAny_of_2 {Q : (World → Prop) → Act → Prop} {Q' : Exit → Act → World → Prop} (hQ : ∀ (C : World → Prop) a w, C w → Q C a → Q' .normal a w) : ∀ (fuel : Nat) (listed : Array Bool) (C : World → Prop) (a : Act) (w : World), C w →
    wpAny2 P md ops Q fuel listed C a → wpAny P md ops Q' fuel listed a w
  | 0, _, _, _, _, hw, h => ⟨h.1, hQ _ _ _ hw h.2⟩
  | fuel + 1, _, _, _, _, hw, h => ⟨fun h0 => hQ _ _ _ hw (h.1 h0), fun i hi => by
      obtain ⟨_, o, ho, _⟩ := mem_ready.1 hi
      obtain ⟨v, C', hr, hn⟩ := h.2 i hi o ho
      exact hr.wpOp ho hw fun w' hw' => wpAny_of_2 hQ fuel _ C' _ w' hw' hn⟩

/-- nothing that may come up beside it stands in its way -/
def free2 (md : Region.Mode) (ops : Array Oper) (listed : Array Bool) (k : Nat) : Bool :=
  match ops[k]? with
  | none => false
  | some ok => (List.range ops.size).all fun j => j == k || listed.getD j true ||
    (match ops[j]? with
     | some oj => oj.after.any (fun e => Region.binds md e && e.on == k) || (ok.apart ops oj && (kindOf ok == 0 || (kindOf ok == 1 && kindOf oj != 2)))
     | none => true)
def Free (md : Region.Mode) (ops : Array Oper) (listed : Array Bool) (i : Nat) (oi : Oper) : Prop :=
  ∀ j oj, ops[j]? = some oj → j ≠ i → listed.getD j true = false → (∀ e ∈ oj.after, Region.binds md e = true → e.on ≠ i) → oi.apart ops oj = true ∧ (kindOf oi = 0 ∨ (kindOf oi = 1 ∧ kindOf oj ≠ 2))
theorem free2_spec {i : Nat} {oi : Oper} {listed : Array Bool} (hi : ops[i]? = some oi) (h : free2 md ops listed i = true) : Free md ops listed i oi := by
  intro j oj hj hne hun hno
  simp only [free2, hi, List.all_eq_true, List.mem_range] at h
  have h1 := h j (Array.getElem?_eq_some_iff.1 hj).1
  simp only [hj, Bool.or_eq_true, beq_iff_eq, hne, false_or, hun, Bool.false_eq_true, Bool.and_eq_true, bne_iff_ne, ne_eq] at h1
  rcases h1 with h1 | h1
  · obtain ⟨e, he, hb⟩ := Array.any_eq_true'.1 h1
    simp only [Bool.and_eq_true, beq_iff_eq] at hb
    exact absurd hb.2 (hno e he hb.1)
  · exact h1
/-- an operation that may come up now may be taken first -/
theorem wpAny2_first {Q : (World → Prop) → Act → Prop} {i : Nat} {oi : Oper} {v : Value} (hi : ops[i]? = some oi) (hsel : ∀ (j : Nat) (o : Oper) cs b, ops[j]? = some o → o.op ≠ .select cs b) :
    ∀ (fuel : Nat) (listed : Array Bool) (C C1 : World → Prop) (a : Act), Free md ops listed i oi → i ∈ Region.ready md ops listed → OpR P ops C C1 oi v a →
      wpAny2 P md ops Q fuel (listed.setIfInBounds i true) C1 (a.put oi.dst v) → wpAny2 P md ops Q (fuel + 1) listed C a := by
  intro fuel
  induction fuel with
  | zero =>
    intro listed C C1 a _ hr hy H
    refine ⟨fun h => (by rw [h] at hr; cases hr), fun j hj o ho => ?_⟩
    by_cases hji : j = i
    · subst hji
      have : o = oi := Option.some.inj (ho.symm.trans hi)
      subst this
      exact ⟨v, C1, hy, H⟩
    · have := ready_mono hj hji
      rw [H.1] at this
      cases this
  | succ fuel ih =>
    intro listed C C1 a hfree hr hy H
    refine ⟨fun h => (by rw [h] at hr; cases hr), fun j hj oj hoj => ?_⟩
    by_cases hji : j = i
    · subst hji
      have : oj = oi := Option.some.inj (hoj.symm.trans hi)
      subst this
      exact ⟨v, C1, hy, H⟩
    · obtain ⟨hjun, oj', hoj', hall⟩ := mem_ready.1 hj
      have : oj' = oj := Option.some.inj (hoj'.symm.trans hoj)
      subst this
      have hnot : ∀ e ∈ oj'.after, Region.binds md e = true → e.on ≠ i := fun e he hb heq => by
        have h1 := hall e he hb
        have h0 := (mem_ready.1 hr).1
        rw [heq] at h1
        rcases Nat.lt_or_ge i listed.size with h' | h'
        · simp [h'] at h0 h1; rw [h0] at h1; cases h1
        · simp [Array.getElem?_eq_none h'] at h1
      obtain ⟨hap, hkind⟩ := hfree j oj' hoj hji hjun hnot
      obtain ⟨p1, p2, p3⟩ := Oper.apart_spec hap
      have hC1 : C1 = C := by
        rcases hy with ⟨_, h, _⟩ | ⟨_, h, _⟩ | ⟨hk2, _⟩
        · exact h
        · exact h
        · rcases hkind with h | ⟨h, _⟩ <;> rw [h] at hk2 <;> simp at hk2
      subst hC1
      obtain ⟨u, C2, hR, hn⟩ := H.2 j (ready_mono hj hji) oj' hoj
      have hsi : ∀ cs b, oi.op ≠ .select cs b := fun cs b => hsel i oi cs b hi
      have hsj : ∀ cs b, oj'.op ≠ .select cs b := fun cs b => hsel j oj' cs b hoj
      have hRa : OpR P ops C1 C2 oj' u a := hR.of_same (execOp_put oj' hsj a oi.dst v p1).symm (wanted_put oj' a oi.dst v p1).symm
      have hyu : OpR P ops C2 C2 oi v (a.put oj'.dst u) := by
        have h0 := hy.of_same (a' := a.put oj'.dst u) (execOp_put oi hsi a oj'.dst u p3) (wanted_put oi a oj'.dst u p3)
        rcases h0 with ⟨hk, _, h⟩ | ⟨hk, _, h⟩ | ⟨hk, _⟩
        · exact .inl ⟨hk, rfl, h⟩
        · have hC2 : C2 = C1 := by
            rcases hkind with h' | ⟨_, h'⟩
            · rw [hk] at h'; simp at h'
            · rcases hR with ⟨_, h2, _⟩ | ⟨_, h2, _⟩ | ⟨h2, _⟩
              · exact h2
              · exact h2
              · exact absurd h2 h'
          subst hC2
          exact .inr (.inl ⟨hk, rfl, h⟩)
        · rcases hkind with h' | ⟨h', _⟩ <;> rw [hk] at h' <;> simp at h'
      refine ⟨u, C2, hRa, ih (listed.setIfInBounds j true) C2 C2 _ ?_ (ready_mono hr (Ne.symm hji)) hyu ?_⟩
      · intro k ok hk hki hun hno
        refine hfree k ok hk hki ?_ hno
        by_cases hjk : j = k
        · subst hjk; exact hjun
        · rw [getD_set_ne true hjk] at hun; exact hun
      · rw [Array.setIfInBounds_comm _ _ hji]
        rw [Act.put_comm a v u p2] at hn
        exact hn

def lexFrom2 (md : Region.Mode) (ops : Array Oper) : Nat → Nat → Array Bool → Bool
  | 0, _, listed => (Region.ready md ops listed).isEmpty
  | fuel + 1, k, listed => (Region.ready md ops listed).contains k && free2 md ops listed k && lexFrom2 md ops fuel (k + 1) (listed.setIfInBounds k true)
def lexB2 (md : Region.Mode) (ops : Array Oper) : Bool := Region.noSelect ops && lexFrom2 md ops ops.size 0 (Array.replicate ops.size false)
/-- the walk in the text's order -/
def wpQ2 (P : Program) (ops : Array Oper) (Q : (World → Prop) → Act → Prop) : List Oper → (World → Prop) → Act → Prop
  | [], C, a => Q C a
  | o :: rest, C, a => ∃ v C', OpR P ops C C' o v a ∧ wpQ2 P ops Q rest C' (a.put o.dst v)
theorem wpAny2_lex {Q : (World → Prop) → Act → Prop} (hs : Region.noSelect ops = true) : ∀ (l : List Oper) (k : Nat) (listed : Array Bool) (C : World → Prop) (a : Act), (∀ j, l[j]? = ops[k + j]?) →
    lexFrom2 md ops l.length k listed = true → wpQ2 P ops Q l C a → wpAny2 P md ops Q l.length listed C a
  | [], _, _, _, _, _, hB, h => ⟨by simpa [lexFrom2] using hB, h⟩
  | o :: l, k, listed, C, a, hl, hB, h => by
    have h0 : ops[k]? = some o := by simpa using (hl 0).symm
    simp only [List.length_cons, lexFrom2, Bool.and_eq_true] at hB
    obtain ⟨⟨hr, hf⟩, hB'⟩ := hB
    obtain ⟨v, C', hR, hn⟩ := h
    exact wpAny2_first h0 (Region.noSelect_spec hs) l.length listed C C' a (free2_spec h0 hf) (by simpa using hr) hR
      (wpAny2_lex hs l (k + 1) _ C' _ (fun j => by have := hl (j + 1); simpa [Nat.add_assoc, Nat.add_comm 1 j] using this) hB' hn)
/-- ONE WALK IN THE TEXT's ORDER SERVES EVERY ORDER -/
theorem wp_region_lex2 {id : Nat} {Q : Exit → Act → World → Prop} {a : Act} {w : World} {l : List Oper} {C : World → Prop} (hm : P.follows .mixedOrders = true) (hB : lexB2 .any l.toArray = true) (hC : C w.drew)
    (h : wpQ2 P l.toArray (fun C a' => ∀ w', C w' → Q .normal a' w') l C a) : (Code.region id l.toArray true).wp P Q a w := by
  simp only [lexB2, Bool.and_eq_true] at hB
  refine wp_region_any hm (wpAny_of_2 (Q := fun C a' => ∀ w', C w' → Q .normal a' w') (fun C a w' hw' h => h w' hw') _ _ C _ _ hC ?_)
  have := wpAny2_lex (md := .any) hB.1 l 0 (Array.replicate l.toArray.size false) C a (by simp) (by simpa using hB.2) h
  simpa using this
/-! one operation of the walk -/
theorem wpQ2_quiet {Q : (World → Prop) → Act → Prop} {o : Oper} {rest : List Oper} {C D : World → Prop} {a : Act} (hk : (kindOf o = 0 ∧ D = fun _ => True) ∨ (kindOf o = 1 ∧ D = C)) (h : wpQuiet P ops D (fun a' => wpQ2 P ops Q rest C a') [o] a) : wpQ2 P ops Q (o :: rest) C a := by
  have key : ∃ v, YieldsIn P ops D o v a ∧ wpQ2 P ops Q rest C (a.put o.dst v) := by
    unfold wpQuiet at h
    by_cases hw : Region.wanted o (yielded ops a.tmps) = true
    · simp only [hw, if_true] at h
      obtain ⟨v, h1, h2⟩ := h
      exact ⟨v, .inl ⟨hw, h1⟩, h2⟩
    · simp only [hw] at h
      exact ⟨undef, .inr ⟨by simpa using hw, rfl⟩, h⟩
  obtain ⟨v, hy, hn⟩ := key
  rcases hk with ⟨hk, rfl⟩ | ⟨hk, rfl⟩
  · exact ⟨v, C, .inl ⟨hk, rfl, hy⟩, hn⟩
  · exact ⟨v, D, .inr (.inl ⟨hk, rfl, hy⟩), hn⟩
theorem wpQ2_pure {Q : (World → Prop) → Act → Prop} {o : Oper} {rest : List Oper} {C : World → Prop} {a : Act} (hk : kindOf o = 0) (h : wpQuiet P ops (fun _ => True) (fun a' => wpQ2 P ops Q rest C a') [o] a) : wpQ2 P ops Q (o :: rest) C a := wpQ2_quiet (.inl ⟨hk, rfl⟩) h
theorem wpQ2_look {Q : (World → Prop) → Act → Prop} {o : Oper} {rest : List Oper} {C : World → Prop} {a : Act} (hk : kindOf o = 1) (h : wpQuiet P ops C (fun a' => wpQ2 P ops Q rest C a') [o] a) : wpQ2 P ops Q (o :: rest) C a := wpQ2_quiet (.inr ⟨hk, rfl⟩) h
/-- a store of one cell -/
theorem wpQ2_store {Q : (World → Prop) → Act → Prop} {o : Oper} {rest : List Oper} {C : World → Prop} {a : Act} (C' : World → Prop) {t : TypeId} {x y : Operand} (ho : o.op = .store t x y) (hd : o.dst = none) (hg : o.guard = none) (ad : Addr) (v : Value) (hx : a.eval x = .pointer (some ad)) (hy : a.eval y = v)
    (hrun : ∀ w, C w → ∃ w', (Instr.storeAt t (.pointer (some ad)) v).run P w = .ok () w' ∧ C' w') (h : wpQ2 P ops Q rest C' a) : wpQ2 P ops Q (o :: rest) C a := by
  refine ⟨undef, C', .inr (.inr ⟨?_, .inl ⟨by simp [Region.wanted, hg], fun w hw => ?_⟩⟩), ?_⟩
  · simp [kindOf, pureOp, ho]
  · obtain ⟨w', hr, hc⟩ := hrun w hw
    unfold execOp
    simp only [ho, hx, hy]
    rw [Sem.run_bind, hr]
    exact ⟨rfl, hc⟩
  · rw [hd]; exact h
end
end Go.Proofs.Ytcfgemdpnbimoaa

namespace Go.Proofs.Ytcfgemdpnbimoaa
open Go.RowKit Go.Shelf
set_option maxRecDepth 100000

theorem snew_any (w : World) : Calls Try.prog 8 #[] w fun e w' => e = .returned (.pointer (some ⟨w.heap.size, 0, none⟩)) ∧ ScanAt w' w.heap.size w.heap.size (.slice none 0 0) 0 [] ∧ Below w.heap.size w w' ∧ w'.heap.size = w.heap.size + 1 := by
  go_enter Try.func8, Try.ntmps8
  go_wp2
  go_ret
  exact ⟨rfl, ⟨World.alloc_heap_new _ _, World.ownsRow_nil _ _ _ _⟩, (Below.refl _ w).alloc (Nat.le_refl _) _, by simp⟩
section
variable {w : World} {b lo p : Nat} {v : Value} {now : List Int}
theorem held_any (h : ScanAt w b lo v p now) : Calls Try.prog 14 #[.pointer (some ⟨b, 0, none⟩)] w fun e w' => e = .returned (.int .i64 ((held now).length : Nat)) ∧ w' = w := by
  obtain ⟨c0, c1, c2⟩ := h.cells
  obtain ⟨A, c, rfl, hc⟩ := h.slice
  clear h
  go_enter Try.func14, Try.ntmps14
  go_wp2
  go_ret
  exact ⟨rfl, rfl⟩
theorem fed_any (h : ScanAt w b lo v p now) : Calls Try.prog 15 #[.pointer (some ⟨b, 0, none⟩)] w fun e w' => e = .returned (.int .u64 (p : Int)) ∧ w' = w := by
  obtain ⟨c0, c1, c2⟩ := h.cells
  clear h
  go_enter Try.func15, Try.ntmps15
  go_wp2
  go_ret
  exact ⟨rfl, rfl⟩
theorem sopen_any (h : ScanAt w b lo v p now) : Calls Try.prog 16 #[.pointer (some ⟨b, 0, none⟩)] w fun e w' => e = .returned (.bool (decide (now ≠ []))) ∧ w' = w := by
  obtain ⟨c0, c1, c2⟩ := h.cells
  clear h
  by_cases hn : now = []
  · subst hn
    rw [show ((([] : List Int).length : Nat) : Int) = 0 from rfl] at c1
    go_enter Try.func16, Try.ntmps16
    go_wp2
    go_ret
    exact ⟨rfl, rfl⟩
  · have h1 : (0 : Int) < (now.length : Int) := by
      have := List.length_pos_iff.2 hn
      omega
    have HN := Lib.hid hn
    clear hn
    go_enter Try.func16, Try.ntmps16
    go_wp2
    go_ret
    have h2 : decide (0 < now.length) = decide (now ≠ []) := by rw [decide_eq_true HN.out, decide_eq_true (by omega)]
    exact ⟨by rw [← h2]; rfl, rfl⟩
theorem long_cell {m : Nat} (c1 : w.cell? ⟨b, 1, none⟩ = some (.int .i64 (m : Int))) : Calls Try.prog 34 #[.pointer (some ⟨b, 1, none⟩)] w fun e w' => e = .returned (.bool (decide (255 < m))) ∧ w' = w := by
  by_cases hn : 255 < m
  · have h1 : (255 : Int) < (m : Int) := by omega
    have HN := Lib.hid hn
    clear hn
    go_enter Try.func34, Try.ntmps34
    go_wp2
    go_ret
    exact ⟨by rw [decide_eq_true HN.out]; rfl, rfl⟩
  · have h1 : ¬ (255 : Int) < (m : Int) := by omega
    have HN := Lib.hid hn
    clear hn
    go_enter Try.func34, Try.ntmps34
    go_wp2
    go_ret
    exact ⟨by rw [decide_eq_false HN.out]; rfl, rfl⟩
theorem reset_any (h : ScanAt w b lo v p now) : Calls Try.prog 19 #[.pointer (some ⟨b, 0, none⟩)] w fun e w' => (∃ x, e = .returned x) ∧ ScanAt w' b lo (.slice none 0 0) p [] ∧ Off (fun k => k = b) w w' ∧ w'.heap.size = w.heap.size := by
  have hb := h.blk
  obtain ⟨c0, c1, c2⟩ := h.cells
  have t1 := h.thaw 1
  have t2 := h.thaw 2
  clear h
  have HB := Lib.hid hb
  clear hb
  go_enter Try.func19, Try.ntmps19
  go_wp2
  go_end0
  have hb := HB.out
  have ho : Off (fun k => k = b) w ((w.setCell ⟨b, 1, none⟩ (.int .i64 0)).setCell ⟨b, 2, none⟩ (.slice none 0 0)) := ((Off.refl (fun k => k = b) w).setCell (p := ⟨b, 1, none⟩) rfl _).setCell (p := ⟨b, 2, none⟩) rfl _
  refine ⟨⟨_, rfl⟩, ⟨?_, World.ownsRow_nil _ _ _ _⟩, ho, by simp [World.setCell]⟩
  rw [setCell_at (setCell_at hb)]
  rfl
end
/-- behind the growing row -/
theorem put_facts {w w1 w2 : World} {b lo p n : Nat} {v v' : Value} {now zs : List Int} (h : ScanAt w b lo v p now) (hw1 : w1 = w.setCell ⟨b, 1, none⟩ (.int .i64 (((now ++ zs).length : Nat) : Int))) (hn : zs.length = n) (hs : (now ++ zs).length ≤ 255)
    (hown : w2.ownsRow lo 5 1 v' (now.length + n) (now.map (Value.int .u8) ++ zs.map (Value.int .u8))) (hg : w1.grownBy w2 v.ownBlock) (hat : v'.ownBlock = v.ownBlock ∨ v'.ownBlock = some w1.heap.size) :
    w2.cell? ⟨b, 2, none⟩ = some v ∧ w2.frozen? ⟨b, 2, none⟩ = false ∧ ScTo w (w2.setCell ⟨b, 2, none⟩ v') b lo v v' p (now ++ zs) := by
  subst hn
  have hblk := h.blk
  have hap := h.apart
  have hlt := h.lt
  have hb1 : w1.heap[b]? = some (.cells #[.int .u64 (p : Int), .int .i64 (((now ++ zs).length : Nat) : Int), v] 51 (0, 0)) := by rw [hw1, setCell_at hblk]; rfl
  have hsz : w1.heap.size = w.heap.size := by rw [hw1]; simp [World.setCell]
  have hb2 : w2.heap[b]? = some (.cells #[.int .u64 (p : Int), .int .i64 (((now ++ zs).length : Nat) : Int), v] 51 (0, 0)) := (hg.block b (by omega) (fun e => hap e.symm)).trans hb1
  have hap' : v'.ownBlock ≠ some b := fun e => by
    rcases hat with h1 | h1
    · exact hap (h1.symm.trans e)
    · rw [h1] at e; injection e with e; omega
  have ho1 : Off (ScB b v.ownBlock) w w1 := by rw [hw1]; exact scan_store _ hblk
  have ho2 : Off (ScB b v.ownBlock) w w2 := by
    have := hg.size
    refine ⟨hg.os.trans ho1.os, hg.tape.trans ho1.tape, hg.output.trans ho1.output, by omega, fun k hk hn => ?_⟩
    exact (hg.block k (by omega) (fun e => hn (.inr e.symm))).trans (ho1.block k hk hn)
  refine ⟨by simp [World.cell?, hb2], by simp [World.frozen?, hb2], ⟨?_, ?_⟩, ho2.setCell (p := ⟨b, 2, none⟩) (.inl rfl) _, ?_⟩
  · rw [setCell_at hb2]; rfl
  · rw [held_short hs, List.length_append, List.map_append]
    exact own_setCell hown hap'
  · rcases hat with h1 | h1
    · exact .inr (.inl h1)
    · exact .inr (.inr ⟨_, h1, by omega⟩)
set_option maxHeartbeats 1000000 in
theorem scput_any {w : World} {b lo p : Nat} {v : Value} {now : List Int} (h : ScanAt w b lo v p now) (hlo : lo ≤ w.heap.size) (a : Option Addr) (n c : Nat) (zs : List Int) (hn : zs.length = n) (hl : now.length + n ≤ 4000000000000) (h1 : NumsS .u8 w (fun k => k ≠ b) a zs) :
    Calls Try.prog 33 #[.pointer (some ⟨b, 1, none⟩), .slice a n c] w fun e w' => (∃ x, e = .returned x) ∧ ∃ v', ScTo w w' b lo v v' p (now ++ zs) := by
  obtain ⟨c0, c1, c2⟩ := h.cells
  have t1 := h.thaw 1
  have t2 := h.thaw 2
  have hlen : ((now ++ zs).length : Int) = (now.length : Int) + (n : Int) := by rw [List.length_append, hn]; omega
  have hlen2 : (now ++ zs).length = now.length + n := by rw [List.length_append, hn]
  obtain ⟨w1, hw1⟩ : ∃ w1, w.setCell ⟨b, 1, none⟩ (.int .i64 (((now ++ zs).length : Nat) : Int)) = w1 := ⟨_, rfl⟩
  have hb1 : w1.heap[b]? = some (.cells #[.int .u64 (p : Int), .int .i64 (((now ++ zs).length : Nat) : Int), v] 51 (0, 0)) := by rw [← hw1, setCell_at h.blk]; rfl
  have ho1 : Off (fun k => k = b) w w1 := by rw [← hw1]; exact (Off.refl (fun k => k = b) w).setCell (p := ⟨b, 1, none⟩) rfl _
  have b1 : w1.cell? ⟨b, 1, none⟩ = some (.int .i64 (((now ++ zs).length : Nat) : Int)) := by simp [World.cell?, hb1]
  have b2 : w1.cell? ⟨b, 2, none⟩ = some v := by simp [World.cell?, hb1]
  have f2 : w1.frozen? ⟨b, 2, none⟩ = false := by simp [World.frozen?, hb1]
  have L := long_cell b1
  have hz1 : NumsS .u8 w1 (fun k => k ≠ b) a zs := fun h0 => by
    obtain ⟨b9, off, e, h2, hc⟩ := h1 h0
    exact ⟨b9, off, e, h2, fun j x hx => by rw [← hw1]; exact (World.cell?_of_block (a := ⟨b9, off + j, none⟩) (Below.heap_setCell _ ⟨b, 1, none⟩ _ b9 h2)).trans (hc j x hx)⟩
  have hap := h.apart
  have hsz : w1.heap.size = w.heap.size := by rw [← hw1]; simp [World.setCell]
  have hfit : (now.length : Int) + (n : Int) ≤ 4000000000000 := by omega
  by_cases hL : 255 < (now ++ zs).length
  · have HF : Hid (ScTo w (w1.setCell ⟨b, 2, none⟩ (.slice none 0 0)) b lo v (.slice none 0 0) p (now ++ zs)) := by
      refine ⟨⟨by rw [setCell_at hb1]; rfl, ?_⟩, (ho1.mono fun k _ hk => Or.inl hk).setCell (p := ⟨b, 2, none⟩) (.inl rfl) _, .inl rfl⟩
      rw [held_long hL]
      exact World.ownsRow_nil _ _ _ _
    have HLN := Lib.hid hlen2
    rw [decide_eq_true hL] at L
    rw [hlen] at hw1
    clear h h1 hb1 ho1 hz1 hap hL hlen hlen2 hsz
    go_enter Try.func33, Try.ntmps33
    go_wp2_with (go_at_call 34; refine L.mono ?_; rintro e w2 ⟨rfl, rfl⟩)
    refine bodyPost_ret (results_none rfl _ _ _) rfl ?_
    exact ⟨⟨_, rfl⟩, _, HF.out⟩
  · have hs : (now ++ zs).length ≤ 255 := by omega
    have hown1 : w1.ownsRow lo 5 1 v now.length (now.map (Value.int .u8)) := by
      have := h.own
      rw [held_short (by omega)] at this
      rw [← hw1]
      exact own_setCell this hap
    obtain ⟨i0, hi, hz0, hz1', hz2⟩ := info_parts byteInfo
    obtain ⟨v', w2, hrun, hown, hg, hat⟩ := run_append_any_at (P := Try.prog) (w := w1) 25 25 lo 5 i0 (.int .u8 0) 1 Try.underlying25 hi hz0 hz1' hz2 rfl .u8 now.length _ zs v hown1 a n c w1.heap.size hn (fun h0 => by
      obtain ⟨b9, off, e, h2, hc⟩ := hz1 h0
      obtain ⟨z, hz⟩ : ∃ z, zs[0]? = some z := ⟨_, List.getElem?_eq_getElem (List.length_pos_iff.2 h0)⟩
      exact ⟨b9, off, e, block_of_cell (hc 0 z hz), hc⟩) (by unfold maxLen; omega) (by omega) (by omega)
    obtain ⟨c2', f2', hto⟩ := put_facts h hw1.symm hn hs hown hg hat
    have HF := Lib.hid hto
    rw [decide_eq_false hL] at L
    have HLN := Lib.hid hlen2
    rw [hlen] at hw1
    obtain ⟨Av, cv, rfl, hcv⟩ := own_slice_le hown1
    obtain ⟨Av', cv', rfl, hcv'⟩ := own_slice_le hown
    clear h h1 hb1 ho1 hz1 hap hL hlen hlen2 hsz hto hown hg hat hown1 hs hcv hcv'
    go_enter Try.func33, Try.ntmps33
    go_wp2_with (first | (go_at_call 34; refine L.mono ?_; rintro e w3 ⟨rfl, rfl⟩) | (at_builtin; refine Lib.wpList_append_run _ rfl (.tmp 22) (.tmp 23) 25 25 rfl _ _ rfl rfl _ _ hrun ?_))
    go_end0
    exact ⟨⟨_, rfl⟩, _, HF.out⟩
/-- the count goes up -/
theorem ScanAt.count {w : World} {b lo p : Nat} {v : Value} {now : List Int} (h : ScanAt w b lo v p now) (q : Nat) : ScanAt (w.setCell ⟨b, 0, none⟩ (.int .u64 (q : Int))) b lo v q now ∧ Off (fun k => k = b) w (w.setCell ⟨b, 0, none⟩ (.int .u64 (q : Int))) :=
  ⟨⟨by rw [setCell_at h.blk]; rfl, own_setCell h.own h.apart⟩, (Off.refl (fun k => k = b) w).setCell (p := ⟨b, 0, none⟩) rfl _⟩
theorem ScanAt.to {w w' : World} {b lo p q : Nat} {v : Value} {now n2 : List Int} (h : ScanAt w' b lo v q n2) (ho : Off (fun k => k = b) w w') (_ : ScanAt w b lo v p now) : ScTo w w' b lo v v q n2 := ⟨h, ho.mono fun _ _ hk => .inl hk, .inr (.inl rfl)⟩
theorem scadd_any {w : World} {b lo p : Nat} {v : Value} {now : List Int} (h : ScanAt w b lo v p now) (hlo : lo ≤ w.heap.size) (a : Option Addr) (n c : Nat) (zs : List Int) (hn : zs.length = n) (hl : now.length + n ≤ 4000000000000) (hp : p + n ≤ 4000000000000) (h1 : NumsS .u8 w (fun k => k ≠ b) a zs) :
    Calls Try.prog 30 #[.pointer (some ⟨b, 0, none⟩), .slice a n c] w fun e w' => (∃ x, e = .returned x) ∧ ∃ v', ScTo w w' b lo v v' (p + n) (now ++ zs) := by
  obtain ⟨c0, c1, c2⟩ := h.cells
  have t0 := h.thaw 0
  obtain ⟨h2, ho⟩ := h.count (p + n)
  have hto := h2.to ho h
  have hcast : ((p + n : Nat) : Int) = (p : Int) + (n : Int) := by omega
  obtain ⟨w1, hw1⟩ : ∃ w1, w.setCell ⟨b, 0, none⟩ (.int .u64 ((p + n : Nat) : Int)) = w1 := ⟨_, rfl⟩
  rw [hw1] at h2 ho hto
  have hs1 := ho.size
  have P := scput_any h2 (by omega) a n c zs hn hl (fun h0 => by
    obtain ⟨b9, off, e, h3, hc⟩ := h1 h0
    exact ⟨b9, off, e, h3, fun j x hx => by rw [← hw1]; exact (World.cell?_of_block (a := ⟨b9, off + j, none⟩) (Below.heap_setCell _ ⟨b, 0, none⟩ _ b9 h3)).trans (hc j x hx)⟩)
  have HT := Lib.hid hto
  rw [hcast] at hw1
  have hf : (p : Int) + (n : Int) ≤ 4000000000000 := by omega
  clear h h1 h2 ho hto hs1 c1 c2 hcast hn hl hp
  go_enter Try.func30, Try.ntmps30
  go_wp2_with (go_at_call 33; refine P.mono ?_; rintro e w2 ⟨⟨x, rfl⟩, v', hx⟩)
  go_end0
  exact ⟨⟨_, rfl⟩, _, HT.out.trans hx⟩
end Go.Proofs.Ytcfgemdpnbimoaa

namespace Go.Proofs.Ytcfgemdpnbimoaa
open Go.RowKit
section
variable {P : Program} {ops : Array Oper} {md : Region.Mode}

/-- it stands while memory grows -/
def Closed (I : World → Prop) : Prop := ∀ w w', I w → Below w.heap.size w w' → I w'
def calmUpon (P : Program) (w : World) (v : Value) : Result Next → Prop
  | .ok (.value u) w' => w' = w ∧ u = v
  | .ok .skip w' => w' = w ∧ v = undef
  | .ok (.enter f args) w' => w' = w ∧ Calls P f args w (fun e w'' => e = .returned v ∧ Below w.heap.size w w'')
  | _ => False
def srcUpon (P : Program) (F : Value → World → Prop) (w : World) : Result Next → Prop
  | .ok (.value u) w' => F u w' ∧ Below w.heap.size w w'
  | .ok (.enter f args) w' => w' = w ∧ Calls P f args w (fun e w'' => ∃ u, e = .returned u ∧ F u w'' ∧ Below w.heap.size w w'')
  | _ => False
/-- one value, in every world of the class -/
def CalmIn (P : Program) (ops : Array Oper) (I : World → Prop) (o : Oper) (v : Value) (a : Act) : Prop :=
  (Region.wanted o (yielded ops a.tmps) = true ∧ ∀ w, I w → calmUpon P w v ((execOp a.eval o).run P w)) ∨ (Region.wanted o (yielded ops a.tmps) = false ∧ v = undef)
theorem put_same {a : Act} {d : Tmp} (v : Value) (h : d < a.tmps.size) : (a.put (some d) v).tmps[d]? = some v := by simp [Act.put, h]
theorem put_other {a : Act} {x : Option Tmp} {d : Tmp} (v : Value) (h : x ≠ some d) : (a.put x v).tmps[d]? = a.tmps[d]? := by
  cases x with
  | none => rfl
  | some e =>
    have hne : e ≠ d := fun he => h (by rw [he])
    simp [Act.put, Array.getElem?_setIfInBounds_ne hne]
theorem put_size (a : Act) (x : Option Tmp) (v : Value) : (a.put x v).tmps.size = a.tmps.size := by cases x <;> simp [Act.put]
theorem put_defers (a : Act) (x : Option Tmp) (v : Value) : (a.put x v).defers = a.defers := by cases x <;> rfl
def fill : List Tmp → (Tmp → Value) → Act → Act
  | [], _, a => a
  | s :: r, xs, a => fill r xs (a.put (some s) (xs s))
theorem fill_size : ∀ (fs : List Tmp) (xs : Tmp → Value) (a : Act), (fill fs xs a).tmps.size = a.tmps.size ∧ (fill fs xs a).defers = a.defers
  | [], _, _ => ⟨rfl, rfl⟩
  | s :: r, xs, a => by
    obtain ⟨h1, h2⟩ := fill_size r xs (a.put (some s) (xs s))
    exact ⟨h1.trans (put_size ..), h2.trans (put_defers ..)⟩
theorem fill_out : ∀ (fs : List Tmp) (xs : Tmp → Value) (a : Act) (d : Tmp), d ∉ fs → (fill fs xs a).tmps[d]? = a.tmps[d]?
  | [], _, _, _, _ => rfl
  | s :: r, xs, a, d, h => by
    rw [List.mem_cons, not_or] at h
    exact (fill_out r xs _ d h.2).trans (put_other _ (by simpa using fun e => h.1 e.symm))
theorem fill_in : ∀ (fs : List Tmp) (xs : Tmp → Value) (a : Act) (d : Tmp), d ∈ fs → d < a.tmps.size → (fill fs xs a).tmps[d]? = some (xs d)
  | s :: r, xs, a, d, h, hlt => by
    by_cases hr : d ∈ r
    · exact fill_in r xs _ d hr (by rw [put_size]; exact hlt)
    · rcases List.mem_cons.1 h with rfl | h
      · exact (fill_out r xs _ d hr).trans (put_same _ hlt)
      · exact absurd h hr
/-- what is to be shown of one operation: it looks at no source; it is one; it looks at one; it is one and looks at others -/
def Ob (P : Program) (ops : Array Oper) (I : World → Prop) (fs : List Tmp) (FS : Tmp → Value → World → Prop) (o : Oper) (v : Value) (a : Act) : Prop :=
  ((∀ d ∈ o.looksAt ops, d ∉ fs) ∧ (∀ d, o.dst = some d → d ∉ fs) ∧ CalmIn P ops I o v a) ∨
  (∃ s, s ∈ fs ∧ o.dst = some s ∧ (∀ d ∈ o.looksAt ops, d ∉ fs) ∧ Region.wanted o (yielded ops a.tmps) = true ∧ ∀ w, I w → srcUpon P (FS s) w ((execOp a.eval o).run P w)) ∨
  (∃ s, s ∈ fs ∧ (∃ j, (ops[j]?).bind (·.dst) = some s ∧ o.after.any (fun e => Region.binds .any e && e.on == j) = true) ∧ (∀ d ∈ o.looksAt ops, d ∈ fs → d = s) ∧ (∀ d, o.dst = some d → d ∉ fs) ∧
    ∀ x w, I w → FS s x w → Region.wanted o (yielded ops (a.put (some s) x).tmps) = true ∧ calmUpon P w v ((execOp (a.put (some s) x).eval o).run P w)) ∨
  (∃ s R, s ∈ fs ∧ o.dst = some s ∧ (∀ r ∈ R, r ∈ fs ∧ ∃ j, (ops[j]?).bind (·.dst) = some r ∧ o.after.any (fun e => Region.binds .any e && e.on == j) = true) ∧ (∀ d ∈ o.looksAt ops, d ∈ fs → d ∈ R) ∧
    ∀ xs w, I w → (∀ r ∈ R, FS r (xs r) w) → Region.wanted o (yielded ops (fill R xs a).tmps) = true ∧ srcUpon P (FS s) w ((execOp (fill R xs a).eval o).run P w))
/-- the walk in the text's order -/
def wpF (P : Program) (ops : Array Oper) (I : World → Prop) (fs : List Tmp) (FS : Tmp → Value → World → Prop) (E : Act → Prop) : List Oper → Act → Prop
  | [], a => E a
  | o :: r, a => ∃ v, Ob P ops I fs FS o v a ∧ wpF P ops I fs FS E r (a.put o.dst v)
def lex : List Oper → List Value → Act → Nat → Act
  | o :: r, v :: vs, a, k + 1 => lex r vs (a.put o.dst v) k
  | _, _, a, _ => a
theorem lex_zero (l : List Oper) (vs : List Value) (a : Act) : lex l vs a 0 = a := by cases l <;> cases vs <;> rfl
section
variable {I : World → Prop} {fs : List Tmp} {FS : Tmp → Value → World → Prop} {E : Act → Prop}
theorem wpF_vals : ∀ (l : List Oper) (a : Act), wpF P ops I fs FS E l a → ∃ vs : List Value, vs.length = l.length ∧
    (∀ (k : Nat) o v, l[k]? = some o → vs[k]? = some v → Ob P ops I fs FS o v (lex l vs a k)) ∧ E (lex l vs a l.length)
  | [], a, h => ⟨[], rfl, by simp, h⟩
  | o :: r, a, ⟨v, hob, hr⟩ => by
    obtain ⟨vs, h1, h2, h3⟩ := wpF_vals r _ hr
    refine ⟨v :: vs, by simp [h1], fun k o' v' ho hv => ?_, h3⟩
    cases k with
    | zero =>
      simp only [List.getElem?_cons_zero, Option.some.injEq] at ho hv
      subst ho hv
      exact hob
    | succ k =>
      simp only [List.getElem?_cons_succ] at ho hv
      exact h2 k o' v' ho hv
end
theorem lex_size : ∀ (l : List Oper) (vs : List Value) (a : Act) (k : Nat), (lex l vs a k).tmps.size = a.tmps.size ∧ (lex l vs a k).defers = a.defers
  | o :: r, v :: vs, a, k + 1 => by
    obtain ⟨h1, h2⟩ := lex_size r vs (a.put o.dst v) k
    exact ⟨h1.trans (put_size ..), h2.trans (put_defers ..)⟩
  | [], _, _, _ => by simp [lex]
  | _ :: _, [], _, _ => by simp [lex]
  | _ :: _, _ :: _, _, 0 => by simp [lex]
theorem lex_out : ∀ (l : List Oper) (vs : List Value) (a : Act) (k : Nat) (d : Tmp), (∀ (j : Nat) o, l[j]? = some o → j < k → o.dst ≠ some d) → (lex l vs a k).tmps[d]? = a.tmps[d]?
  | o :: r, v :: vs, a, k + 1, d, h => by
    have h0 := h 0 o rfl (by omega)
    exact (lex_out r vs (a.put o.dst v) k d fun j o' hj hk => h (j + 1) o' (by simpa using hj) (by omega)).trans (put_other v h0)
  | [], _, _, _, _, _ => by simp [lex]
  | _ :: _, [], _, _, _, _ => by simp [lex]
  | _ :: _, _ :: _, _, 0, _, _ => by simp [lex]
theorem lex_in : ∀ (l : List Oper) (vs : List Value) (a : Act) (k j : Nat) (o : Oper) (d : Tmp) (v : Value), l[j]? = some o → j < k → vs[j]? = some v → o.dst = some d → d < a.tmps.size →
    (∀ (i : Nat) oi, l[i]? = some oi → i < k → i ≠ j → oi.dst ≠ some d) → (lex l vs a k).tmps[d]? = some v
  | o :: r, v :: vs, a, k + 1, 0, o', d, v', ho, _, hv, hd, hlt, hu => by
    simp only [List.getElem?_cons_zero, Option.some.injEq] at ho hv
    subst ho hv
    refine (lex_out r vs _ k d fun i oi hi hik => hu (i + 1) oi (by simpa using hi) (by omega) (by omega)).trans ?_
    rw [hd]
    exact put_same v hlt
  | o :: r, v :: vs, a, k + 1, j + 1, o', d, v', ho, hjk, hv, hd, hlt, hu => by
    simp only [List.getElem?_cons_succ] at ho hv
    exact lex_in r vs _ k j o' d v' ho (by omega) hv hd (by rw [put_size]; exact hlt) fun i oi hi hik hij => hu (i + 1) oi (by simpa using hi) (by omega) (by omega)
  | [], _, _, _, _, _, _, _, ho, _, _, _, _, _ => by simp at ho
  | _ :: _, [], _, _, _, _, _, _, _, _, hv, _, _, _ => by simp at hv
  | _ :: _, _ :: _, _, 0, _, _, _, _, _, hk, _, _, _, _ => by omega

/-- k waits for j -/
def seenB (md : Region.Mode) (ops : Array Oper) (k j : Nat) : Bool :=
  match ops[k]? with
  | some o => o.after.any fun e => Region.binds md e && e.on == j
  | none => false
/-- each operation waits for earlier ones alone; slots are written once; who looks at a slot waits for its writer, or the writer for him -/
def rgB (md : Region.Mode) (ops : Array Oper) (N : Nat) : Bool :=
  Region.noSelect ops && (List.range ops.size).all fun k =>
    match ops[k]? with
    | none => false
    | some o =>
      (match o.dst with | some d => decide (d < N) | none => true) && o.after.all (fun e => !Region.binds md e || decide (e.on < k)) &&
      (List.range ops.size).all fun j =>
        match ops[j]? with
        | none => false
        | some oj =>
          match oj.dst with
          | none => true
          | some d => (k == j || o.dst != some d) && (!(o.looksAt ops).contains d || (decide (j < k) && seenB md ops k j) || (decide (k < j) && seenB md ops j k))
structure RG (md : Region.Mode) (ops : Array Oper) (N : Nat) : Prop where
  sel : ∀ (j : Nat) (o : Oper) cs b, ops[j]? = some o → o.op ≠ .select cs b
  small : ∀ (k : Nat) o d, ops[k]? = some o → o.dst = some d → d < N
  back : ∀ (k : Nat) o, ops[k]? = some o → ∀ e ∈ o.after, Region.binds md e = true → e.on < k
  once : ∀ (k j : Nat) o oj d, ops[k]? = some o → ops[j]? = some oj → oj.dst = some d → k ≠ j → o.dst ≠ some d
  look : ∀ (k j : Nat) o oj d, ops[k]? = some o → ops[j]? = some oj → oj.dst = some d → d ∈ o.looksAt ops →
    (j < k ∧ ∃ e ∈ o.after, Region.binds md e = true ∧ e.on = j) ∨ (k < j ∧ ∃ e ∈ oj.after, Region.binds md e = true ∧ e.on = k)
theorem seenB_spec {k j : Nat} {o : Oper} (ho : ops[k]? = some o) (h : seenB md ops k j = true) : ∃ e ∈ o.after, Region.binds md e = true ∧ e.on = j := by
  simp only [seenB, ho] at h
  obtain ⟨e, he, hb⟩ := Array.any_eq_true'.1 h
  simp only [Bool.and_eq_true, beq_iff_eq] at hb
  exact ⟨e, he, hb.1, hb.2⟩
theorem rgB_spec {N : Nat} (h : rgB md ops N = true) : RG md ops N := by
  simp only [rgB, Bool.and_eq_true, List.all_eq_true, List.mem_range] at h
  obtain ⟨hs, h⟩ := h
  have at_ : ∀ (k : Nat) o, ops[k]? = some o → ((match o.dst with | some d => decide (d < N) | none => true) = true ∧ o.after.all (fun e => !Region.binds md e || decide (e.on < k)) = true) ∧
      ∀ (j : Nat) oj, ops[j]? = some oj → (match oj.dst with | none => true | some d => (k == j || o.dst != some d) && (!(o.looksAt ops).contains d || (decide (j < k) && seenB md ops k j) || (decide (k < j) && seenB md ops j k))) = true := fun k o ho => by
    have h1 := h k (Array.getElem?_eq_some_iff.1 ho).1
    simp only [ho, Bool.and_eq_true, List.all_eq_true, List.mem_range] at h1
    refine ⟨h1.1, fun j oj hj => ?_⟩
    have h2 := h1.2 j (Array.getElem?_eq_some_iff.1 hj).1
    simpa only [hj] using h2
  refine ⟨fun j o cs b hj => Region.noSelect_spec hs j o cs b hj, fun k o d ho hd => ?_, fun k o ho e he hb => ?_, fun k j o oj d ho hj hd hne => ?_, fun k j o oj d ho hj hd hl => ?_⟩
  · have := (at_ k o ho).1.1
    simpa [hd] using this
  · have := (at_ k o ho).1.2
    rw [Array.all_eq_true_iff_forall_mem] at this
    have := this e he
    simpa [hb] using this
  · have := (at_ k o ho).2 j oj hj
    simp only [hd, Bool.and_eq_true, Bool.or_eq_true, beq_iff_eq, hne, false_or, bne_iff_ne, ne_eq] at this
    exact this.1
  · have := (at_ k o ho).2 j oj hj
    simp only [hd, Bool.and_eq_true, Bool.or_eq_true, decide_eq_true_eq, Bool.not_eq_true'] at this
    rcases this.2 with (h1 | h1) | h1
    · have : (o.looksAt ops).contains d = true := by simpa using hl
      rw [this] at h1; cases h1
    · exact .inl ⟨h1.1, seenB_spec ho h1.2⟩
    · exact .inr ⟨h1.1, seenB_spec hj h1.2⟩

/-- two frames agree at the slots that an operation looks at -/
theorem exec_agree {o : Oper} {a b : Act} (hs : ∀ cs c, o.op ≠ .select cs c) (h : ∀ d ∈ o.looksAt ops, a.tmps[d]? = b.tmps[d]?) : execOp a.eval o = execOp b.eval o :=
  execOp_congr o hs fun x hx => by
    cases x with
    | tmp t =>
      have := h t (List.mem_append_left _ (List.mem_filterMap.2 ⟨.tmp t, by simpa using hx, rfl⟩))
      simp [Act.eval, this]
    | _ => rfl
theorem wanted_agree {o : Oper} {a b : Act} (h : ∀ d ∈ o.looksAt ops, a.tmps[d]? = b.tmps[d]?) : Region.wanted o (yielded ops a.tmps) = Region.wanted o (yielded ops b.tmps) := by
  unfold Region.wanted
  cases hg : o.guard with
  | none => rfl
  | some gw =>
    obtain ⟨g, want⟩ := gw
    have hy : yielded ops a.tmps g = yielded ops b.tmps g := by
      unfold yielded
      cases ht : (ops[g]?).bind (·.dst) with
      | none => rfl
      | some t =>
        have := h t (List.mem_append_right _ (by simp [hg, ht]))
        simp [this]
    simp only [hy]

/-! ### what an actual run has left so far -/
section
variable {l : List Oper} {vs : List Value} {fs : List Tmp} {FS : Tmp → Value → World → Prop} {I : World → Prop} {a0 : Act}
structure Inv (l : List Oper) (vs : List Value) (fs : List Tmp) (FS : Tmp → Value → World → Prop) (I : World → Prop) (a0 : Act) (listed : Array Bool) (b : Act) (w : World) : Prop where
  cls : I w
  size : b.tmps.size = a0.tmps.size
  defers : b.defers = a0.defers
  out : ∀ d, (∀ (j : Nat) o, l[j]? = some o → listed.getD j true = true → o.dst ≠ some d) → b.tmps[d]? = a0.tmps[d]?
  ins : ∀ (j : Nat) o d v, l[j]? = some o → listed.getD j true = true → o.dst = some d → vs[j]? = some v → (d ∈ fs → ∃ x, b.tmps[d]? = some x ∧ FS d x w) ∧ (d ∉ fs → b.tmps[d]? = some v)
  down : ∀ (j : Nat) o, l[j]? = some o → listed.getD j true = true → ∀ e ∈ o.after, Region.binds .any e = true → listed.getD e.on true = true
  lsize : listed.size = l.length
theorem getD_set_same (L : Array Bool) (i : Nat) : (L.setIfInBounds i true).getD i true = true := by
  rw [Array.getD_eq_getD_getElem?, Array.getElem?_setIfInBounds, if_pos rfl]
  split <;> rfl
theorem getD_set_far (L : Array Bool) {i j : Nat} (h : i ≠ j) : (L.setIfInBounds i true).getD j true = L.getD j true := by
  rw [Array.getD_eq_getD_getElem?, Array.getElem?_setIfInBounds, if_neg h, ← Array.getD_eq_getD_getElem?]
theorem getD_set_up (L : Array Bool) {i j : Nat} (h : L.getD j true = true) : (L.setIfInBounds i true).getD j true = true := by
  by_cases hij : i = j
  · subst hij; exact getD_set_same L i
  · rw [getD_set_far L hij]; exact h
theorem Inv.next {N : Nat} (hR : RG .any l.toArray N) (hN : N ≤ a0.tmps.size) (hI : Closed I) (hF : ∀ s x w w', FS s x w → Below w.heap.size w w' → FS s x w') {listed : Array Bool} {b : Act} {w w' : World} {i : Nat} {o : Oper} {u : Value}
    (h : Inv l vs fs FS I a0 listed b w) (ho : l[i]? = some o) (hp : ∀ e ∈ o.after, Region.binds .any e = true → listed.getD e.on true = true) (hb : Below w.heap.size w w')
    (hu : ∀ d, o.dst = some d → (d ∈ fs → FS d u w') ∧ (d ∉ fs → vs[i]? = some u)) : Inv l vs fs FS I a0 (listed.setIfInBounds i true) (b.put o.dst u) w' := by
  have ho' : l.toArray[i]? = some o := by simpa using ho
  refine ⟨hI w w' h.cls hb, (put_size ..).trans h.size, (put_defers ..).trans h.defers, fun d hd => ?_, fun j oj d v hj hlj hdj hv => ?_, fun j oj hj hlj e he hbe => ?_, by simpa using h.lsize⟩
  · rw [put_other u (hd i o ho (getD_set_same _ _))]
    exact h.out d fun j oj hj hlj => hd j oj hj (getD_set_up _ hlj)
  · by_cases hij : i = j
    · subst hij
      obtain rfl : o = oj := Option.some.inj (ho.symm.trans hj)
      obtain ⟨h1, h2⟩ := hu d hdj
      rw [hdj]
      have hlt : d < b.tmps.size := by rw [h.size]; exact Nat.lt_of_lt_of_le (hR.small i o d ho' hdj) hN
      refine ⟨fun hd => ⟨u, put_same u hlt, h1 hd⟩, fun hd => ?_⟩
      rw [put_same u hlt]
      exact (h2 hd).symm.trans hv
    · rw [getD_set_far _ hij] at hlj
      obtain ⟨h1, h2⟩ := h.ins j oj d v hj hlj hdj hv
      have hne : o.dst ≠ some d := hR.once i j o oj d ho' (by simpa using hj) hdj hij
      rw [put_other u hne]
      exact ⟨fun hd => let ⟨x, hx, hfx⟩ := h1 hd; ⟨x, hx, hF d x w w' hfx hb⟩, h2⟩
  · by_cases hij : i = j
    · subst hij
      obtain rfl : o = oj := Option.some.inj (ho.symm.trans hj)
      exact getD_set_up _ (hp e he hbe)
    · rw [getD_set_far _ hij] at hlj
      exact getD_set_up _ (h.down j oj hj hlj e he hbe)
/-- at what an operation looks at, the run and the walk agree -/
theorem Inv.agree {N : Nat} (hR : RG .any l.toArray N) (hN : N ≤ a0.tmps.size) (hlen : vs.length = l.length) {listed : Array Bool} {b : Act} {w : World} {k : Nat} {o : Oper}
    (h : Inv l vs fs FS I a0 listed b w) (ho : l[k]? = some o) (hun : listed.getD k true = false) (hp : ∀ e ∈ o.after, Region.binds .any e = true → listed.getD e.on true = true) {d : Tmp} (hd : d ∈ o.looksAt l.toArray) (hf : d ∉ fs) :
    (lex l vs a0 k).tmps[d]? = b.tmps[d]? := by
  have ho' : l.toArray[k]? = some o := by simpa using ho
  by_cases hw : ∃ (j : Nat) (oj : Oper), l[j]? = some oj ∧ oj.dst = some d
  · obtain ⟨j, oj, hj, hdj⟩ := hw
    have hj' : l.toArray[j]? = some oj := by simpa using hj
    rcases hR.look k j o oj d ho' hj' hdj hd with ⟨hjk, e, he, hbe, rfl⟩ | ⟨hkj, e, he, hbe, rfl⟩
    · obtain ⟨v, hv⟩ : ∃ v, vs[e.on]? = some v := ⟨_, List.getElem?_eq_getElem (by rw [hlen]; exact (List.getElem?_eq_some_iff.1 hj).1)⟩
      rw [lex_in l vs a0 k e.on oj d v hj hjk hv hdj (Nat.lt_of_lt_of_le (hR.small _ _ _ hj' hdj) hN) fun i oi hi _ hne => hR.once i e.on oi oj d (by simpa using hi) hj' hdj hne]
      exact ((h.ins e.on oj d v hj (hp e he hbe) hdj hv).2 hf).symm
    · have hjun : listed.getD j true = false := by
        cases hc : listed.getD j true with
        | false => rfl
        | true => rw [h.down j oj hj hc e he hbe] at hun; cases hun
      rw [lex_out l vs a0 _ d fun i oi hi hik hdi => hR.once i j oi oj d (by simpa using hi) hj' hdj (by omega) hdi]
      refine (h.out d fun i oi hi hli hdi => ?_).symm
      by_cases hij : i = j
      · subst hij; rw [hjun] at hli; cases hli
      · exact hR.once i j oi oj d (by simpa using hi) hj' hdj hij hdi
  · rw [lex_out l vs a0 k d fun i oi hi _ hdi => hw ⟨i, oi, hi, hdi⟩]
    exact (h.out d fun i oi hi _ hdi => hw ⟨i, oi, hi, hdi⟩).symm
theorem count_zero {L : Array Bool} (h : L.toList.count false = 0) (j : Nat) : L.getD j true = true := by
  rw [List.count_eq_zero] at h
  rw [Array.getD_eq_getD_getElem?]
  cases hc : L[j]? with
  | none => rfl
  | some x =>
    cases x with
    | true => rfl
    | false => exact absurd (Array.mem_toList_iff.2 (Array.mem_of_getElem? hc)) h
theorem count_set {L : Array Bool} {i : Nat} (h : L.getD i true = false) : (L.setIfInBounds i true).toList.count false + 1 = L.toList.count false := by
  have h1 : L.toList[i]? = some false := by
    rw [Array.getD_eq_getD_getElem?] at h
    cases hc : L[i]? with
    | none => rw [hc] at h; simp at h
    | some x => rw [hc] at h; simp at h; subst h; simpa using hc
  rw [Array.toList_setIfInBounds]
  generalize L.toList = M at h1
  clear h
  induction M generalizing i with
  | nil => simp at h1
  | cons y M ih =>
    cases i with
    | zero =>
      simp at h1
      subst h1
      simp
    | succ i =>
      have := ih (i := i) (by simpa using h1)
      rw [List.set_cons_succ, List.count_cons, List.count_cons, ← this]
      omega
theorem ready_all {N : Nat} (hR : RG .any l.toArray N) {listed : Array Bool} (hs : listed.size = l.length) (h : Region.ready .any l.toArray listed = []) : ∀ j, listed.getD j true = true := by
  intro j
  induction j using Nat.strongRecOn with
  | ind j ih =>
    cases hc : listed.getD j true with
    | true => rfl
    | false =>
      have hlt : j < l.length := by
        rcases Nat.lt_or_ge j l.length with h1 | h1
        · exact h1
        · rw [Array.getD_eq_getD_getElem?, Array.getElem?_eq_none (by omega)] at hc; simp at hc
      have ho : l.toArray[j]? = some l[j] := by simp [hlt]
      have : j ∈ Region.ready .any l.toArray listed := mem_ready.2 ⟨hc, l[j], ho, fun e he hb => by
        have hlt2 := hR.back j l[j] ho e he hb
        have := ih e.on hlt2
        rw [Array.getD_eq_getD_getElem?] at this ⊢
        rw [Array.getElem?_eq_getElem (show e.on < listed.size by omega)] at this ⊢
        simpa using this⟩
      rw [h] at this
      cases this

theorem any_of_F {N : Nat} {Q' : Exit → Act → World → Prop} (hR : RG .any l.toArray N) (hN : N ≤ a0.tmps.size) (hlen : vs.length = l.length) (hI : Closed I) (hF : ∀ s x w w', FS s x w → Below w.heap.size w w' → FS s x w')
    (hob : ∀ (k : Nat) o v, l[k]? = some o → vs[k]? = some v → Ob P l.toArray I fs FS o v (lex l vs a0 k))
    (hQ : ∀ (listed : Array Bool) b w, (∀ j, listed.getD j true = true) → Inv l vs fs FS I a0 listed b w → Q' .normal b w) :
    ∀ (fuel : Nat) (listed : Array Bool) (b : Act) (w : World), listed.toList.count false ≤ fuel → Inv l vs fs FS I a0 listed b w → wpAny P .any l.toArray Q' fuel listed b w
  | 0, listed, b, w, hc, h => by
    have hall := count_zero (L := listed) (by omega)
    refine ⟨?_, hQ listed b w hall h⟩
    rw [List.eq_nil_iff_forall_not_mem]
    intro i hi
    have := (mem_ready.1 hi).1
    rw [hall i] at this
    cases this
  | fuel + 1, listed, b, w, hc, h => by
    refine ⟨fun h0 => hQ listed b w (ready_all hR h.lsize h0) h, fun i hi => ?_⟩
    obtain ⟨hun, o, ho, hall⟩ := mem_ready.1 hi
    have ho2 : l[i]? = some o := by simpa using ho
    have hp : ∀ e ∈ o.after, Region.binds .any e = true → listed.getD e.on true = true := fun e he hb => by
      have h1 := hall e he hb
      rw [Array.getD_eq_getD_getElem?] at h1 ⊢
      cases hx : listed[e.on]? with
      | none => rfl
      | some y => rw [hx] at h1; simpa using h1
    obtain ⟨v, hv⟩ : ∃ v, vs[i]? = some v := ⟨_, List.getElem?_eq_getElem (by rw [hlen]; exact (List.getElem?_eq_some_iff.1 ho2).1)⟩
    have K : ∀ u w', Below w.heap.size w w' → (∀ d, o.dst = some d → (d ∈ fs → FS d u w') ∧ (d ∉ fs → vs[i]? = some u)) → wpAny P .any l.toArray Q' fuel (listed.setIfInBounds i true) (b.put o.dst u) w' := fun u w' hb hu =>
      any_of_F hR hN hlen hI hF hob hQ fuel _ _ _ (by have := count_set hun; omega) (h.next hR hN hI hF ho2 hp hb hu)
    have hsel : ∀ cs c, o.op ≠ .select cs c := fun cs c => hR.sel i o cs c ho
    have ag : ∀ d ∈ o.looksAt l.toArray, d ∉ fs → (lex l vs a0 i).tmps[d]? = b.tmps[d]? := fun d hd hf => h.agree hR hN hlen ho2 hun hp hd hf
    unfold Go.wpOp
    simp only [ho]
    rcases hob i o v ho2 hv with ⟨h1, h2, hcalm⟩ | ⟨s, hs, hds, h1, hwt, hsrc⟩ | ⟨s, hs, ⟨j, hj, hje⟩, h1, h2, huse⟩ | ⟨s, R, hs, hds, hRs, h1, hmix⟩
    · have he := exec_agree (ops := l.toArray) hsel fun d hd => ag d hd (h1 d hd)
      have hw := wanted_agree (ops := l.toArray) fun d hd => ag d hd (h1 d hd)
      have kv : ∀ w', Below w.heap.size w w' → wpAny P .any l.toArray Q' fuel (listed.setIfInBounds i true) (b.put o.dst v) w' := fun w' hb => K v w' hb fun d hd => ⟨fun hf => absurd hf (h2 d hd), fun _ => hv⟩
      rcases hcalm with ⟨hwt, hval⟩ | ⟨hwf, rfl⟩
      · rw [hw] at hwt
        rw [if_pos hwt]
        left
        have h3 := hval w h.cls
        rw [he] at h3
        unfold Oper.wp
        generalize (execOp b.eval o).run P w = r at h3
        cases r with
        | ok n w' =>
          cases n <;> simp only [calmUpon] at h3 <;> simp only [Oper.upon]
          case value u => obtain ⟨rfl, rfl⟩ := h3; exact kv _ (Below.refl _ _)
          case skip => obtain ⟨rfl, rfl⟩ := h3; exact kv _ (Below.refl _ _)
          case enter f args =>
            obtain ⟨rfl, hcc⟩ := h3
            exact hcc.mono fun e w'' ⟨he, hb⟩ => by subst he; exact kv _ hb
        | halt x w' => simp only [calmUpon] at h3
      · rw [hw] at hwf
        rw [hwf, if_neg (by simp)]
        exact kv w (Below.refl _ _)
    · have he := exec_agree (ops := l.toArray) hsel fun d hd => ag d hd (h1 d hd)
      have hw := wanted_agree (ops := l.toArray) fun d hd => ag d hd (h1 d hd)
      rw [hw] at hwt
      rw [if_pos hwt]
      left
      have h3 := hsrc w h.cls
      rw [he] at h3
      have kf : ∀ u w', FS s u w' → Below w.heap.size w w' → wpAny P .any l.toArray Q' fuel (listed.setIfInBounds i true) (b.put o.dst u) w' := fun u w' hf hb => K u w' hb fun d hd => by
        obtain rfl : d = s := Option.some.inj (hd.symm.trans hds)
        exact ⟨fun _ => hf, fun hnf => absurd hs hnf⟩
      unfold Oper.wp
      generalize (execOp b.eval o).run P w = r at h3
      cases r with
      | ok n w' =>
        cases n <;> simp only [srcUpon] at h3 <;> simp only [Oper.upon]
        case value u => exact kf u w' h3.1 h3.2
        case enter f args =>
          obtain ⟨rfl, hcc⟩ := h3
          exact hcc.mono fun e w'' ⟨u, he, hf, hb⟩ => by subst he; exact kf u w'' hf hb
      | halt x w' => simp only [srcUpon] at h3
    · obtain ⟨e, hee, heb⟩ := Array.any_eq_true'.1 hje
      simp only [Bool.and_eq_true, beq_iff_eq] at heb
      obtain ⟨hbe, rfl⟩ := heb
      obtain ⟨oj, hoj, hdj⟩ := Option.bind_eq_some_iff.1 hj
      have hoj2 : l[e.on]? = some oj := by simpa using hoj
      obtain ⟨vj, hvj⟩ : ∃ v, vs[e.on]? = some v := ⟨_, List.getElem?_eq_getElem (by rw [hlen]; exact (List.getElem?_eq_some_iff.1 hoj2).1)⟩
      obtain ⟨x, hbx, hfx⟩ := (h.ins e.on oj s vj hoj2 (hp e hee hbe) hdj hvj).1 hs
      have hslt : s < (lex l vs a0 i).tmps.size := by rw [(lex_size l vs a0 i).1]; exact Nat.lt_of_lt_of_le (hR.small _ _ _ hoj hdj) hN
      have ag2 : ∀ d ∈ o.looksAt l.toArray, ((lex l vs a0 i).put (some s) x).tmps[d]? = b.tmps[d]? := fun d hd => by
        by_cases hsd : s = d
        · subst hsd
          rw [put_same x hslt, hbx]
        · rw [put_other x (by simpa using hsd)]
          exact ag d hd fun hf => hsd (h1 d hd hf).symm
      obtain ⟨hwt, h3⟩ := huse x w h.cls hfx
      rw [wanted_agree (ops := l.toArray) ag2] at hwt
      rw [exec_agree (ops := l.toArray) hsel ag2] at h3
      have kv : ∀ w', Below w.heap.size w w' → wpAny P .any l.toArray Q' fuel (listed.setIfInBounds i true) (b.put o.dst v) w' := fun w' hb => K v w' hb fun d hd => ⟨fun hf => absurd hf (h2 d hd), fun _ => hv⟩
      rw [if_pos hwt]
      left
      unfold Oper.wp
      generalize (execOp b.eval o).run P w = r at h3
      cases r with
      | ok n w' =>
        cases n <;> simp only [calmUpon] at h3 <;> simp only [Oper.upon]
        case value u => obtain ⟨rfl, rfl⟩ := h3; exact kv _ (Below.refl _ _)
        case skip => obtain ⟨rfl, rfl⟩ := h3; exact kv _ (Below.refl _ _)
        case enter f args =>
          obtain ⟨rfl, hcc⟩ := h3
          exact hcc.mono fun e w'' ⟨he, hb⟩ => by subst he; exact kv _ hb
      | halt x w' => simp only [calmUpon] at h3

    · have got : ∀ r ∈ R, ∃ x, b.tmps[r]? = some x ∧ FS r x w ∧ r < (lex l vs a0 i).tmps.size := fun r hr => by
        obtain ⟨hrf, j, hj, hje⟩ := hRs r hr
        obtain ⟨e, hee, heb⟩ := Array.any_eq_true'.1 hje
        simp only [Bool.and_eq_true, beq_iff_eq] at heb
        obtain ⟨hbe, rfl⟩ := heb
        obtain ⟨oj, hoj, hdj⟩ := Option.bind_eq_some_iff.1 hj
        have hoj2 : l[e.on]? = some oj := by simpa using hoj
        obtain ⟨vj, hvj⟩ : ∃ v, vs[e.on]? = some v := ⟨_, List.getElem?_eq_getElem (by rw [hlen]; exact (List.getElem?_eq_some_iff.1 hoj2).1)⟩
        obtain ⟨x, hbx, hfx⟩ := (h.ins e.on oj r vj hoj2 (hp e hee hbe) hdj hvj).1 hrf
        exact ⟨x, hbx, hfx, by rw [(lex_size l vs a0 i).1]; exact Nat.lt_of_lt_of_le (hR.small _ _ _ hoj hdj) hN⟩
      have ag2 : ∀ d ∈ o.looksAt l.toArray, (fill R (fun s => b.tmps.getD s undef) (lex l vs a0 i)).tmps[d]? = b.tmps[d]? := fun d hd => by
        by_cases hdR : d ∈ R
        · obtain ⟨x, hbx, _, hlt⟩ := got d hdR
          rw [fill_in R _ _ d hdR hlt, hbx]
          simp [hbx]
        · rw [fill_out R _ _ d hdR]
          exact ag d hd fun hf => hdR (h1 d hd hf)
      obtain ⟨hwt, h3⟩ := hmix (fun s => b.tmps.getD s undef) w h.cls fun r hr => by
        obtain ⟨x, hbx, hfx, _⟩ := got r hr
        simpa [hbx] using hfx
      rw [wanted_agree (ops := l.toArray) ag2] at hwt
      rw [exec_agree (ops := l.toArray) hsel ag2] at h3
      rw [if_pos hwt]
      left
      have kf : ∀ u w', FS s u w' → Below w.heap.size w w' → wpAny P .any l.toArray Q' fuel (listed.setIfInBounds i true) (b.put o.dst u) w' := fun u w' hf hb => K u w' hb fun d hd => by
        obtain rfl : d = s := Option.some.inj (hd.symm.trans hds)
        exact ⟨fun _ => hf, fun hnf => absurd hs hnf⟩
      unfold Oper.wp
      generalize (execOp b.eval o).run P w = r at h3
      cases r with
      | ok n w' =>
        cases n <;> simp only [srcUpon] at h3 <;> simp only [Oper.upon]
        case value u => exact kf u w' h3.1 h3.2
        case enter f args =>
          obtain ⟨rfl, hcc⟩ := h3
          exact hcc.mono fun e w'' ⟨u, he, hf, hb⟩ => by subst he; exact kf u w'' hf hb
      | halt x w' => simp only [srcUpon] at h3

/-- ONE WALK IN THE TEXT's ORDER SERVES EVERY ORDER -/
theorem wp_region_F {id : Nat} {Q : Exit → Act → World → Prop} {a : Act} {w : World} {l : List Oper} (N : Nat) (fs : List Tmp) (FS : Tmp → Value → World → Prop) (I : World → Prop) (hm : P.follows .mixedOrders = true) (hB : rgB .any l.toArray N = true)
    (hfs : (fs.all fun s => l.any fun o => o.dst == some s) = true) (hN : N ≤ a.tmps.size) (hI : Closed I) (hF : ∀ s x w w', FS s x w → Below w.heap.size w w' → FS s x w') (hC : I w.drew)
    (h : wpF P l.toArray I fs FS (fun a' => ∀ xs w', I w' → (∀ s ∈ fs, FS s (xs s) w') → Q .normal (fill fs xs a') w') l a) : (Code.region id l.toArray true).wp P Q a w := by
  have hR := rgB_spec hB
  obtain ⟨vs, hlen, hob, hE⟩ := wpF_vals l a h
  refine wp_region_any hm ?_
  refine any_of_F (l := l) (vs := vs) (fs := fs) (FS := FS) (I := I) (a0 := a) hR hN hlen hI hF hob ?_ _ _ _ _ ?_ ?_
  · intro listed b w' hall hinv
    have hw : ∀ s ∈ fs, ∃ x, b.tmps[s]? = some x ∧ FS s x w' := fun s hs => by
      rw [List.all_eq_true] at hfs
      have h1 := hfs s hs
      rw [List.any_eq_true] at h1
      obtain ⟨o, ho, hd⟩ := h1
      obtain ⟨j, hj, rfl⟩ := List.getElem_of_mem ho
      have hd' : (l[j]).dst = some s := by simpa using hd
      obtain ⟨v, hv⟩ : ∃ v, vs[j]? = some v := ⟨_, List.getElem?_eq_getElem (by rw [hlen]; exact hj)⟩
      exact (hinv.ins j l[j] s v (List.getElem?_eq_getElem hj) (hall j) hd' hv).1 hs
    have hb : b = fill fs (fun s => b.tmps.getD s undef) (lex l vs a l.length) := by
      have ht : b.tmps = (fill fs (fun s => b.tmps.getD s undef) (lex l vs a l.length)).tmps := by
        apply Array.ext_getElem?
        intro d
        by_cases hd : d ∈ fs
        · obtain ⟨x, hx, _⟩ := hw d hd
          have hlt : d < (lex l vs a l.length).tmps.size := by
            rw [(lex_size l vs a l.length).1, ← hinv.size]
            exact (Array.getElem?_eq_some_iff.1 hx).1
          rw [fill_in fs _ _ d hd hlt, hx]
          simp [hx]
        · rw [fill_out fs _ _ d hd]
          by_cases hwr : ∃ (j : Nat) (oj : Oper), l[j]? = some oj ∧ oj.dst = some d
          · obtain ⟨j, oj, hj, hdj⟩ := hwr
            obtain ⟨v, hv⟩ : ∃ v, vs[j]? = some v := ⟨_, List.getElem?_eq_getElem (by rw [hlen]; exact (List.getElem?_eq_some_iff.1 hj).1)⟩
            have hj' : l.toArray[j]? = some oj := by simpa using hj
            rw [(hinv.ins j oj d v hj (hall j) hdj hv).2 hd]
            exact (lex_in l vs a l.length j oj d v hj (List.getElem?_eq_some_iff.1 hj).1 hv hdj (Nat.lt_of_lt_of_le (hR.small _ _ _ hj' hdj) hN) fun i oi hi _ hne => hR.once i j oi oj d (by simpa using hi) hj' hdj hne).symm
          · rw [lex_out l vs a l.length d fun i oi hi _ hdi => hwr ⟨i, oi, hi, hdi⟩]
            exact hinv.out d fun i oi hi _ hdi => hwr ⟨i, oi, hi, hdi⟩
      have hd : b.defers = (fill fs (fun s => b.tmps.getD s undef) (lex l vs a l.length)).defers := by
        rw [(fill_size ..).2, (lex_size ..).2]
        exact hinv.defers
      cases b
      simp only at ht hd
      rw [Act.mk.injEq]
      exact ⟨ht, hd⟩
    rw [hb]
    refine hE _ w' hinv.cls fun s hs => ?_
    obtain ⟨x, hx, hf⟩ := hw s hs
    simpa [hx] using hf
  · simp
  · refine ⟨hC, rfl, rfl, fun _ _ => rfl, fun j o d v hj hlj => ?_, fun j o hj hlj => ?_, by simp⟩
    all_goals
      have hlt := (List.getElem?_eq_some_iff.1 hj).1
      rw [Array.getD_eq_getD_getElem?] at hlj
      simp [hlt] at hlj
end
end
end Go.Proofs.Ytcfgemdpnbimoaa

namespace Go.Proofs.Ytcfgemdpnbimoaa
open Go.RowKit
section
variable {P : Program} {l : List Oper} {I : World → Prop} {fs : List Tmp} {FS : Tmp → Value → World → Prop} {E : Act → Prop} {o : Oper} {rest : List Oper} {a : Act}
def noB (ops : Array Oper) (fs : List Tmp) (o : Oper) : Bool := ((o.looksAt ops).all fun d => !fs.contains d) && (match o.dst with | some d => !fs.contains d | none => true)
theorem noB_spec (h : noB l.toArray fs o = true) : (∀ d ∈ o.looksAt l.toArray, d ∉ fs) ∧ (∀ d, o.dst = some d → d ∉ fs) := by
  simp only [noB, Bool.and_eq_true, List.all_eq_true, Bool.not_eq_true'] at h
  refine ⟨fun d hd hf => ?_, fun d hd hf => ?_⟩
  · have := h.1 d hd
    simp [hf] at this
  · have := h.2
    rw [hd] at this
    simp [hf] at this
/-- it looks at no memory and enters no function -/
theorem wpF_pure (hk : kindOf o = 0) (hn : noB l.toArray fs o = true) (h : wpQuiet P l.toArray (fun _ => True) (fun a' => wpF P l.toArray I fs FS E rest a') [o] a) : wpF P l.toArray I fs FS E (o :: rest) a := by
  obtain ⟨h1, h2⟩ := noB_spec hn
  unfold wpQuiet at h
  by_cases hw : Region.wanted o (yielded l.toArray a.tmps) = true
  · simp only [hw, if_true] at h
    obtain ⟨v, hv, hr⟩ := h
    refine ⟨v, .inl ⟨h1, h2, .inl ⟨hw, fun w _ => ?_⟩⟩, hr⟩
    have h3 := hv w trivial
    have h4 := pure_no_enter (P := P) (kind_pure hk) a.eval w
    unfold Oper.quietAt at h3
    generalize (execOp a.eval o).run P w = r at h3 h4
    cases r with
    | ok n w' =>
      cases n with
      | enter f args => exact absurd rfl (h4 w' f args)
      | value u => exact h3
      | skip => exact h3
      | _ => simp only [Oper.quietUpon] at h3
    | halt x w' => simp only [Oper.quietUpon] at h3
  · simp only [hw] at h
    exact ⟨undef, .inl ⟨h1, h2, .inr ⟨by simpa using hw, rfl⟩⟩, h⟩
/-- a call of one value -/
theorem wpF_call {f : FuncId} {args : Array Value} (v : Value) (hn : noB l.toArray fs o = true) (hw : Region.wanted o (yielded l.toArray a.tmps) = true) (hrun : ∀ w, (execOp a.eval o).run P w = .ok (.enter f args) w)
    (hc : ∀ w, I w → Calls P f args w fun e w'' => e = .returned v ∧ Below w.heap.size w w'') (h : wpF P l.toArray I fs FS E rest (a.put o.dst v)) : wpF P l.toArray I fs FS E (o :: rest) a := by
  obtain ⟨h1, h2⟩ := noB_spec hn
  refine ⟨v, .inl ⟨h1, h2, .inl ⟨hw, fun w hI => ?_⟩⟩, h⟩
  rw [hrun w]
  exact ⟨rfl, hc w hI⟩
/-- a load -/
theorem wpF_load {t : TypeId} {x : Operand} {ad : Addr} (v : Value) (hop : o.op = .load t x) (hn : noB l.toArray fs o = true) (hw : Region.wanted o (yielded l.toArray a.tmps) = true) (hx : a.eval x = .pointer (some ad))
    (hrun : ∀ w, I w → (Instr.loadAt t (.pointer (some ad))).run P w = .ok v w) (h : wpF P l.toArray I fs FS E rest (a.put o.dst v)) : wpF P l.toArray I fs FS E (o :: rest) a := by
  obtain ⟨h1, h2⟩ := noB_spec hn
  refine ⟨v, .inl ⟨h1, h2, .inl ⟨hw, fun w hI => ?_⟩⟩, h⟩
  unfold execOp
  simp only [hop, hx]
  rw [Sem.run_bind, hrun w hI]
  exact ⟨rfl, rfl⟩
/-- an operation that makes memory: its value is known by what it is good for -/
theorem wpF_src (s : Tmp) (hs : s ∈ fs) (hd : o.dst = some s) (hn : ((o.looksAt l.toArray).all fun d => !fs.contains d) = true) (hw : Region.wanted o (yielded l.toArray a.tmps) = true)
    (hrun : ∀ w, I w → ∃ u w', (execOp a.eval o).run P w = .ok (.value u) w' ∧ FS s u w' ∧ Below w.heap.size w w') (h : wpF P l.toArray I fs FS E rest (a.put o.dst undef)) : wpF P l.toArray I fs FS E (o :: rest) a := by
  refine ⟨undef, .inr (.inl ⟨s, hs, hd, fun d hd hf => ?_, hw, fun w hI => ?_⟩), h⟩
  · rw [List.all_eq_true] at hn
    have := hn d hd
    simp [hf] at this
  · obtain ⟨u, w', hr, h1, h2⟩ := hrun w hI
    rw [hr]
    exact ⟨h1, h2⟩
/-- a call that is handed such a value -/
theorem wpF_use (s : Tmp) (j : Nat) {f : FuncId} (args : Value → Array Value) (v : Value) (hs : s ∈ fs) (hj : (l[j]?).bind (·.dst) = some s) (hje : (o.after.any fun e => Region.binds .any e && e.on == j) = true)
    (hn : ((o.looksAt l.toArray).all fun d => !fs.contains d || d == s) = true) (hdst : (match o.dst with | some d => !fs.contains d | none => true) = true) (hw : ∀ x, Region.wanted o (yielded l.toArray (a.put (some s) x).tmps) = true)
    (hrun : ∀ x w, (execOp (a.put (some s) x).eval o).run P w = .ok (.enter f (args x)) w)
    (hc : ∀ x w, I w → FS s x w → Calls P f (args x) w fun e w'' => e = .returned v ∧ Below w.heap.size w w'') (h : wpF P l.toArray I fs FS E rest (a.put o.dst v)) : wpF P l.toArray I fs FS E (o :: rest) a := by
  refine ⟨v, .inr (.inr (.inl ⟨s, hs, ⟨j, by simpa using hj, hje⟩, fun d hd hf => ?_, fun d hd hf => ?_, fun x w hI hx => ⟨hw x, ?_⟩⟩)), h⟩
  · rw [List.all_eq_true] at hn
    have := hn d hd
    simpa [hf] using this
  · rw [hd] at hdst
    simp [hf] at hdst
  · rw [hrun x w]
    exact ⟨rfl, hc x w hI hx⟩
/-- a call that hands back a value that is known by what it is good for -/
theorem wpF_callsrc (s : Tmp) {f : FuncId} {args : Array Value} (hs : s ∈ fs) (hd : o.dst = some s) (hn : ((o.looksAt l.toArray).all fun d => !fs.contains d) = true) (hw : Region.wanted o (yielded l.toArray a.tmps) = true)
    (hrun : ∀ w, (execOp a.eval o).run P w = .ok (.enter f args) w) (hc : ∀ w, I w → Calls P f args w fun e w'' => ∃ u, e = .returned u ∧ FS s u w'' ∧ Below w.heap.size w w'') (h : wpF P l.toArray I fs FS E rest (a.put o.dst undef)) : wpF P l.toArray I fs FS E (o :: rest) a := by
  refine ⟨undef, .inr (.inl ⟨s, hs, hd, fun d hd hf => ?_, hw, fun w hI => ?_⟩), h⟩
  · rw [List.all_eq_true] at hn
    have := hn d hd
    simp [hf] at this
  · rw [hrun w]
    exact ⟨rfl, hc w hI⟩
/-- an operation that looks at such values (R) and yields such a value -/
theorem wpF_mix (s : Tmp) (R : List Tmp) (hs : s ∈ fs) (hd : o.dst = some s)
    (hR : (R.all fun r => fs.contains r && (List.range l.length).any fun j => (((l[j]?).bind (·.dst)) == some r) && o.after.any fun e => Region.binds .any e && e.on == j) = true)
    (hn : ((o.looksAt l.toArray).all fun d => !fs.contains d || R.contains d) = true) (hw : ∀ xs, Region.wanted o (yielded l.toArray (fill R xs a).tmps) = true)
    (hrun : ∀ xs w, I w → (∀ r ∈ R, FS r (xs r) w) → ∃ u w', (execOp (fill R xs a).eval o).run P w = .ok (.value u) w' ∧ FS s u w' ∧ Below w.heap.size w w') (h : wpF P l.toArray I fs FS E rest (a.put o.dst undef)) : wpF P l.toArray I fs FS E (o :: rest) a := by
  refine ⟨undef, .inr (.inr (.inr ⟨s, R, hs, hd, fun r hr => ?_, fun d hd hf => ?_, fun xs w hI hx => ⟨hw xs, ?_⟩⟩)), h⟩
  · rw [List.all_eq_true] at hR
    have := hR r hr
    simp only [Bool.and_eq_true, List.contains_iff_mem, List.any_eq_true, beq_iff_eq] at this
    obtain ⟨h1, j, _, h2, h3⟩ := this
    exact ⟨h1, j, by simpa using h2, h3⟩
  · rw [List.all_eq_true] at hn
    have := hn d hd
    simpa [hf] using this
  · obtain ⟨u, w', hr, h1, h2⟩ := hrun xs w hI hx
    rw [hr]
    exact ⟨h1, h2⟩
/-- a call that is handed such values (R) and hands back such a value -/
theorem wpF_mixcall (s : Tmp) (R : List Tmp) {f : FuncId} (args : (Tmp → Value) → Array Value) (hs : s ∈ fs) (hd : o.dst = some s)
    (hR : (R.all fun r => fs.contains r && (List.range l.length).any fun j => (((l[j]?).bind (·.dst)) == some r) && o.after.any fun e => Region.binds .any e && e.on == j) = true)
    (hn : ((o.looksAt l.toArray).all fun d => !fs.contains d || R.contains d) = true) (hw : ∀ xs, Region.wanted o (yielded l.toArray (fill R xs a).tmps) = true)
    (hrun : ∀ xs w, (execOp (fill R xs a).eval o).run P w = .ok (.enter f (args xs)) w)
    (hc : ∀ xs w, I w → (∀ r ∈ R, FS r (xs r) w) → Calls P f (args xs) w fun e w'' => ∃ u, e = .returned u ∧ FS s u w'' ∧ Below w.heap.size w w'') (h : wpF P l.toArray I fs FS E rest (a.put o.dst undef)) : wpF P l.toArray I fs FS E (o :: rest) a := by
  refine ⟨undef, .inr (.inr (.inr ⟨s, R, hs, hd, fun r hr => ?_, fun d hd hf => ?_, fun xs w hI hx => ⟨hw xs, ?_⟩⟩)), h⟩
  · rw [List.all_eq_true] at hR
    have := hR r hr
    simp only [Bool.and_eq_true, List.contains_iff_mem, List.any_eq_true, beq_iff_eq] at this
    obtain ⟨h1, j, _, h2, h3⟩ := this
    exact ⟨h1, j, by simpa using h2, h3⟩
  · rw [List.all_eq_true] at hn
    have := hn d hd
    simpa [hf] using this
  · rw [hrun xs w]
    exact ⟨rfl, hc xs w hI hx⟩
end
end Go.Proofs.Ytcfgemdpnbimoaa

namespace Go.Proofs.Ytcfgemdpnbimoaa
open Go.RowKit
section
variable {P : Program} {l : List Oper} {vs : List Value} {fs : List Tmp} {FS : Tmp → Value → World → Prop} {I : World → Prop} {a0 : Act}
/-- one operation of such a run -/
theorem op_of_F {N : Nat} {Q' : Exit → Act → World → Prop} {K : Act → World → Prop} (hR : RG .any l.toArray N) (hN : N ≤ a0.tmps.size) (hlen : vs.length = l.length) {listed : Array Bool} {b : Act} {w : World} {i : Nat} {o : Oper} {v : Value}
    (h : Inv l vs fs FS I a0 listed b w) (ho2 : l[i]? = some o) (hun : listed.getD i true = false) (hp : ∀ e ∈ o.after, Region.binds .any e = true → listed.getD e.on true = true) (hv : vs[i]? = some v) (hob : Ob P l.toArray I fs FS o v (lex l vs a0 i))
    (hK : ∀ u w', Below w.heap.size w w' → (∀ d, o.dst = some d → (d ∈ fs → FS d u w') ∧ (d ∉ fs → vs[i]? = some u)) → K (b.put o.dst u) w') : Go.wpOp P l.toArray Q' i K b w := by
  have ho : l.toArray[i]? = some o := by simpa using ho2
  have hsel : ∀ cs c, o.op ≠ .select cs c := fun cs c => hR.sel i o cs c ho
  have ag : ∀ d ∈ o.looksAt l.toArray, d ∉ fs → (lex l vs a0 i).tmps[d]? = b.tmps[d]? := fun d hd hf => h.agree hR hN hlen ho2 hun hp hd hf
  unfold Go.wpOp
  simp only [ho]
  rcases hob with ⟨h1, h2, hcalm⟩ | ⟨s, hs, hds, h1, hwt, hsrc⟩ | ⟨s, hs, ⟨j, hj, hje⟩, h1, h2, huse⟩ | ⟨s, R, hs, hds, hRs, h1, hmix⟩
  · have he := exec_agree (ops := l.toArray) hsel fun d hd => ag d hd (h1 d hd)
    have hw := wanted_agree (ops := l.toArray) fun d hd => ag d hd (h1 d hd)
    have kv : ∀ w', Below w.heap.size w w' → K (b.put o.dst v) w' := fun w' hb => hK v w' hb fun d hd => ⟨fun hf => absurd hf (h2 d hd), fun _ => hv⟩
    rcases hcalm with ⟨hwt, hval⟩ | ⟨hwf, rfl⟩
    · rw [hw] at hwt
      rw [if_pos hwt]
      left
      have h3 := hval w h.cls
      rw [he] at h3
      unfold Oper.wp
      generalize (execOp b.eval o).run P w = r at h3
      cases r with
      | ok n w' =>
        cases n <;> simp only [calmUpon] at h3 <;> simp only [Oper.upon]
        case value u => obtain ⟨rfl, rfl⟩ := h3; exact kv _ (Below.refl _ _)
        case skip => obtain ⟨rfl, rfl⟩ := h3; exact kv _ (Below.refl _ _)
        case enter f args =>
          obtain ⟨rfl, hcc⟩ := h3
          exact hcc.mono fun e w'' ⟨he, hb⟩ => by subst he; exact kv _ hb
      | halt x w' => simp only [calmUpon] at h3
    · rw [hw] at hwf
      rw [hwf, if_neg (by simp)]
      exact kv w (Below.refl _ _)
  · have he := exec_agree (ops := l.toArray) hsel fun d hd => ag d hd (h1 d hd)
    have hw := wanted_agree (ops := l.toArray) fun d hd => ag d hd (h1 d hd)
    rw [hw] at hwt
    rw [if_pos hwt]
    left
    have h3 := hsrc w h.cls
    rw [he] at h3
    have kf : ∀ u w', FS s u w' → Below w.heap.size w w' → K (b.put o.dst u) w' := fun u w' hf hb => hK u w' hb fun d hd => by
      obtain rfl : d = s := Option.some.inj (hd.symm.trans hds)
      exact ⟨fun _ => hf, fun hnf => absurd hs hnf⟩
    unfold Oper.wp
    generalize (execOp b.eval o).run P w = r at h3
    cases r with
    | ok n w' =>
      cases n <;> simp only [srcUpon] at h3 <;> simp only [Oper.upon]
      case value u => exact kf u w' h3.1 h3.2
      case enter f args =>
        obtain ⟨rfl, hcc⟩ := h3
        exact hcc.mono fun e w'' ⟨u, he, hf, hb⟩ => by subst he; exact kf u w'' hf hb
    | halt x w' => simp only [srcUpon] at h3
  · obtain ⟨e, hee, heb⟩ := Array.any_eq_true'.1 hje
    simp only [Bool.and_eq_true, beq_iff_eq] at heb
    obtain ⟨hbe, rfl⟩ := heb
    obtain ⟨oj, hoj, hdj⟩ := Option.bind_eq_some_iff.1 hj
    have hoj2 : l[e.on]? = some oj := by simpa using hoj
    obtain ⟨vj, hvj⟩ : ∃ v, vs[e.on]? = some v := ⟨_, List.getElem?_eq_getElem (by rw [hlen]; exact (List.getElem?_eq_some_iff.1 hoj2).1)⟩
    obtain ⟨x, hbx, hfx⟩ := (h.ins e.on oj s vj hoj2 (hp e hee hbe) hdj hvj).1 hs
    have hslt : s < (lex l vs a0 i).tmps.size := by rw [(lex_size l vs a0 i).1]; exact Nat.lt_of_lt_of_le (hR.small _ _ _ hoj hdj) hN
    have ag2 : ∀ d ∈ o.looksAt l.toArray, ((lex l vs a0 i).put (some s) x).tmps[d]? = b.tmps[d]? := fun d hd => by
      by_cases hsd : s = d
      · subst hsd
        rw [put_same x hslt, hbx]
      · rw [put_other x (by simpa using hsd)]
        exact ag d hd fun hf => hsd (h1 d hd hf).symm
    obtain ⟨hwt, h3⟩ := huse x w h.cls hfx
    rw [wanted_agree (ops := l.toArray) ag2] at hwt
    rw [exec_agree (ops := l.toArray) hsel ag2] at h3
    have kv : ∀ w', Below w.heap.size w w' → K (b.put o.dst v) w' := fun w' hb => hK v w' hb fun d hd => ⟨fun hf => absurd hf (h2 d hd), fun _ => hv⟩
    rw [if_pos hwt]
    left
    unfold Oper.wp
    generalize (execOp b.eval o).run P w = r at h3
    cases r with
    | ok n w' =>
      cases n <;> simp only [calmUpon] at h3 <;> simp only [Oper.upon]
      case value u => obtain ⟨rfl, rfl⟩ := h3; exact kv _ (Below.refl _ _)
      case skip => obtain ⟨rfl, rfl⟩ := h3; exact kv _ (Below.refl _ _)
      case enter f args =>
        obtain ⟨rfl, hcc⟩ := h3
        exact hcc.mono fun e w'' ⟨he, hb⟩ => by subst he; exact kv _ hb
    | halt x w' => simp only [calmUpon] at h3

  · have got : ∀ r ∈ R, ∃ x, b.tmps[r]? = some x ∧ FS r x w ∧ r < (lex l vs a0 i).tmps.size := fun r hr => by
      obtain ⟨hrf, j, hj, hje⟩ := hRs r hr
      obtain ⟨e, hee, heb⟩ := Array.any_eq_true'.1 hje
      simp only [Bool.and_eq_true, beq_iff_eq] at heb
      obtain ⟨hbe, rfl⟩ := heb
      obtain ⟨oj, hoj, hdj⟩ := Option.bind_eq_some_iff.1 hj
      have hoj2 : l[e.on]? = some oj := by simpa using hoj
      obtain ⟨vj, hvj⟩ : ∃ v, vs[e.on]? = some v := ⟨_, List.getElem?_eq_getElem (by rw [hlen]; exact (List.getElem?_eq_some_iff.1 hoj2).1)⟩
      obtain ⟨x, hbx, hfx⟩ := (h.ins e.on oj r vj hoj2 (hp e hee hbe) hdj hvj).1 hrf
      exact ⟨x, hbx, hfx, by rw [(lex_size l vs a0 i).1]; exact Nat.lt_of_lt_of_le (hR.small _ _ _ hoj hdj) hN⟩
    have ag2 : ∀ d ∈ o.looksAt l.toArray, (fill R (fun s => b.tmps.getD s undef) (lex l vs a0 i)).tmps[d]? = b.tmps[d]? := fun d hd => by
      by_cases hdR : d ∈ R
      · obtain ⟨x, hbx, _, hlt⟩ := got d hdR
        rw [fill_in R _ _ d hdR hlt, hbx]
        simp [hbx]
      · rw [fill_out R _ _ d hdR]
        exact ag d hd fun hf => hdR (h1 d hd hf)
    obtain ⟨hwt, h3⟩ := hmix (fun s => b.tmps.getD s undef) w h.cls fun r hr => by
      obtain ⟨x, hbx, hfx, _⟩ := got r hr
      simpa [hbx] using hfx
    rw [wanted_agree (ops := l.toArray) ag2] at hwt
    rw [exec_agree (ops := l.toArray) hsel ag2] at h3
    rw [if_pos hwt]
    left
    have kf : ∀ u w', FS s u w' → Below w.heap.size w w' → K (b.put o.dst u) w' := fun u w' hf hb => hK u w' hb fun d hd => by
      obtain rfl : d = s := Option.some.inj (hd.symm.trans hds)
      exact ⟨fun _ => hf, fun hnf => absurd hs hnf⟩
    unfold Oper.wp
    generalize (execOp b.eval o).run P w = r at h3
    cases r with
    | ok n w' =>
      cases n <;> simp only [srcUpon] at h3 <;> simp only [Oper.upon]
      case value u => exact kf u w' h3.1 h3.2
      case enter f args =>
        obtain ⟨rfl, hcc⟩ := h3
        exact hcc.mono fun e w'' ⟨u, he, hf, hb⟩ => by subst he; exact kf u w'' hf hb
    | halt x w' => simp only [srcUpon] at h3

/-- an operation that looks at no memory, in whatever world -/
def purUpon (w : World) (v : Value) : Result Next → Prop
  | .ok (.value u) w' => w' = w ∧ u = v
  | .ok .skip w' => w' = w ∧ v = undef
  | _ => False
def PureOb (P : Program) (ops : Array Oper) (fs : List Tmp) (o : Oper) (v : Value) (a : Act) : Prop :=
  (∀ d ∈ o.looksAt ops, d ∉ fs) ∧ (∀ d, o.dst = some d → d ∉ fs) ∧
  ((Region.wanted o (yielded ops a.tmps) = true ∧ ∀ w, purUpon w v ((execOp a.eval o).run P w)) ∨ (Region.wanted o (yielded ops a.tmps) = false ∧ v = undef))
theorem PureOb.ob {ops : Array Oper} {o : Oper} {v : Value} {a : Act} (h : PureOb P ops fs o v a) : Ob P ops I fs FS o v a := by
  obtain ⟨h1, h2, h3⟩ := h
  refine .inl ⟨h1, h2, h3.imp (fun h => ⟨h.1, fun w _ => ?_⟩) id⟩
  have h4 := h.2 w
  generalize (execOp a.eval o).run P w = r at h4
  cases r with
  | ok n w' =>
    cases n <;> simp only [purUpon] at h4
    case value u => exact h4
    case skip => exact h4
  | halt x w' => simp only [purUpon] at h4
def stUpon (S : World → Prop) : Result Next → Prop
  | .ok (.value _) w' => S w'
  | .ok .skip w' => S w'
  | _ => False
/-- the store -/
def StOb (P : Program) (ops : Array Oper) (I : World → Prop) (fs : List Tmp) (FS : Tmp → Value → World → Prop) (St : (Tmp → Value) → World → World → Prop) (o : Oper) (a : Act) : Prop :=
  o.dst = none ∧ ∀ xs w, I w → (∀ s ∈ fs, FS s (xs s) w) → Region.wanted o (yielded ops (fill fs xs a).tmps) = true ∧ stUpon (St xs w) ((execOp (fill fs xs a).eval o).run P w)
/-- the walk in the text's order: so many operations, the store, the rest -/
def wpFS (P : Program) (ops : Array Oper) (I : World → Prop) (fs : List Tmp) (FS : Tmp → Value → World → Prop) (St : (Tmp → Value) → World → World → Prop) (E : Act → Prop) : Option Nat → List Oper → Act → Prop
  | _, [], a => E a
  | some 0, o :: r, a => StOb P ops I fs FS St o a ∧ wpFS P ops I fs FS St E none r a
  | some (c + 1), o :: r, a => ∃ v, Ob P ops I fs FS o v a ∧ wpFS P ops I fs FS St E (some c) r (a.put o.dst v)
  | none, o :: r, a => ∃ v, PureOb P ops fs o v a ∧ wpFS P ops I fs FS St E none r (a.put o.dst v)
section
variable {ops : Array Oper} {St : (Tmp → Value) → World → World → Prop} {E : Act → Prop}
theorem wpFS_vals0 : ∀ (l : List Oper) (a : Act), wpFS P ops I fs FS St E none l a → ∃ vs : List Value, vs.length = l.length ∧
    (∀ (j : Nat) o v, l[j]? = some o → vs[j]? = some v → PureOb P ops fs o v (lex l vs a j)) ∧ E (lex l vs a l.length)
  | [], a, h => ⟨[], rfl, by simp, h⟩
  | o :: r, a, ⟨v, hob, hr⟩ => by
    obtain ⟨vs, h1, h2, h3⟩ := wpFS_vals0 r _ hr
    refine ⟨v :: vs, by simp [h1], fun j o' v' ho hv => ?_, h3⟩
    cases j with
    | zero =>
      simp only [List.getElem?_cons_zero, Option.some.injEq] at ho hv
      subst ho hv
      exact hob
    | succ j =>
      simp only [List.getElem?_cons_succ] at ho hv
      exact h2 j o' v' ho hv
theorem wpFS_vals : ∀ (k : Nat) (l : List Oper) (a : Act), wpFS P ops I fs FS St E (some k) l a → ∃ vs : List Value, vs.length = l.length ∧
    (∀ (j : Nat) o v, l[j]? = some o → vs[j]? = some v → (j < k → Ob P ops I fs FS o v (lex l vs a j)) ∧ (j = k → StOb P ops I fs FS St o (lex l vs a j)) ∧ (k < j → PureOb P ops fs o v (lex l vs a j))) ∧ E (lex l vs a l.length)
  | _, [], a, h => ⟨[], rfl, by simp, h⟩
  | 0, o :: r, a, ⟨hob, hr⟩ => by
    obtain ⟨vs, h1, h2, h3⟩ := wpFS_vals0 r _ hr
    have hput : a.put o.dst undef = a := by rw [hob.1]; rfl
    refine ⟨undef :: vs, by simp [h1], fun j o' v' ho hv => ?_, ?_⟩
    · cases j with
      | zero =>
        simp only [List.getElem?_cons_zero, Option.some.injEq] at ho hv
        subst ho hv
        exact ⟨by omega, fun _ => hob, by omega⟩
      | succ j =>
        simp only [List.getElem?_cons_succ] at ho hv
        refine ⟨by omega, by omega, fun _ => ?_⟩
        show PureOb P ops fs o' v' (lex r vs (a.put o.dst undef) j)
        rw [hput]
        exact h2 j o' v' ho hv
    · show E (lex r vs (a.put o.dst undef) r.length)
      rw [hput]
      exact h3
  | k + 1, o :: r, a, ⟨v, hob, hr⟩ => by
    obtain ⟨vs, h1, h2, h3⟩ := wpFS_vals k r _ hr
    refine ⟨v :: vs, by simp [h1], fun j o' v' ho hv => ?_, h3⟩
    cases j with
    | zero =>
      simp only [List.getElem?_cons_zero, Option.some.injEq] at ho hv
      subst ho hv
      exact ⟨fun _ => hob, by omega, by omega⟩
    | succ j =>
      simp only [List.getElem?_cons_succ] at ho hv
      obtain ⟨q1, q2, q3⟩ := h2 j o' v' ho hv
      exact ⟨fun h => q1 (by omega), fun h => q2 (by omega), fun h => q3 (by omega)⟩
end
/-- k waits for j, by way of others -/
def reachB (md : Region.Mode) (ops : Array Oper) : Nat → Nat → Nat → Bool
  | 0, _, _ => false
  | f + 1, k, j => match ops[k]? with
    | none => false
    | some o => o.after.any fun e => Region.binds md e && (e.on == j || reachB md ops f e.on j)
theorem reach_listed {listed : Array Bool} {b : Act} {w : World} (h : Inv l vs fs FS I a0 listed b w) : ∀ (f m j : Nat), listed.getD m true = true → reachB .any l.toArray f m j = true → listed.getD j true = true
  | 0, _, _, _, hr => by simp [reachB] at hr
  | f + 1, m, j, hm, hr => by
    unfold reachB at hr
    cases ho : l.toArray[m]? with
    | none => rw [ho] at hr; cases hr
    | some o =>
      rw [ho] at hr
      obtain ⟨e, he, hb⟩ := Array.any_eq_true'.1 hr
      simp only [Bool.and_eq_true, Bool.or_eq_true, beq_iff_eq] at hb
      have h1 := h.down m o (by simpa using ho) hm e he hb.1
      rcases hb.2 with rfl | h2
      · exact h1
      · exact reach_listed h f e.on j h1 h2
theorem reach_ready {listed : Array Bool} {b : Act} {w : World} (h : Inv l vs fs FS I a0 listed b w) {k : Nat} {o : Oper} (ho : l[k]? = some o) (hp : ∀ e ∈ o.after, Region.binds .any e = true → listed.getD e.on true = true) (f j : Nat) (hr : reachB .any l.toArray f k j = true) : listed.getD j true = true := by
  cases f with
  | zero => simp [reachB] at hr
  | succ f =>
    unfold reachB at hr
    have ho' : l.toArray[k]? = some o := by simpa using ho
    rw [ho'] at hr
    obtain ⟨e, he, hb⟩ := Array.any_eq_true'.1 hr
    simp only [Bool.and_eq_true, Bool.or_eq_true, beq_iff_eq] at hb
    have h1 := hp e he hb.1
    rcases hb.2 with rfl | h2
    · exact h1
    · exact reach_listed h f e.on j h1 h2

theorem any_of_FS {N k f : Nat} {Q' : Exit → Act → World → Prop} {St : (Tmp → Value) → World → World → Prop} (hR : RG .any l.toArray N) (hN : N ≤ a0.tmps.size) (hlen : vs.length = l.length) (hI : Closed I) (hF : ∀ s x w w', FS s x w → Below w.heap.size w w' → FS s x w')
    (hob : ∀ (j : Nat) o v, l[j]? = some o → vs[j]? = some v → (j < k → Ob P l.toArray I fs FS o v (lex l vs a0 j)) ∧ (j = k → StOb P l.toArray I fs FS St o (lex l vs a0 j)) ∧ (k < j → PureOb P l.toArray fs o v (lex l vs a0 j)))
    (hk : k < l.length) (hreach : ∀ j, j < k → reachB .any l.toArray f k j = true) (hfs : ∀ s ∈ fs, ∃ (j : Nat) (o : Oper), j < k ∧ l[j]? = some o ∧ o.dst = some s)
    (hQ : ∀ (listed : Array Bool) b W w xs, (∀ j, listed.getD j true = true) → Inv l vs fs FS I a0 listed b W → (∀ s ∈ fs, b.tmps[s]? = some (xs s) ∧ FS s (xs s) W) → St xs W w → Q' .normal b w) :
    ∀ (fuel : Nat) (listed : Array Bool) (b : Act) (W w : World), listed.toList.count false ≤ fuel → Inv l vs fs FS I a0 listed b W →
      ((listed.getD k true = false ∧ w = W) ∨ (listed.getD k true = true ∧ ∃ xs, (∀ s ∈ fs, b.tmps[s]? = some (xs s) ∧ FS s (xs s) W) ∧ St xs W w)) → wpAny P .any l.toArray Q' fuel listed b w
  | 0, listed, b, W, w, hc, h, hp => by
    have hall := count_zero (L := listed) (by omega)
    rcases hp with ⟨h0, _⟩ | ⟨_, xs, hx, hst⟩
    · rw [hall k] at h0; cases h0
    refine ⟨?_, hQ listed b W w xs hall h hx hst⟩
    rw [List.eq_nil_iff_forall_not_mem]
    intro i hi
    have := (mem_ready.1 hi).1
    rw [hall i] at this
    cases this
  | fuel + 1, listed, b, W, w, hc, h, hph => by
    refine ⟨fun h0 => ?_, fun i hi => ?_⟩
    · have hall := ready_all hR h.lsize h0
      rcases hph with ⟨h0, _⟩ | ⟨_, xs, hx, hst⟩
      · rw [hall k] at h0; cases h0
      · exact hQ listed b W w xs hall h hx hst
    obtain ⟨hun, o, ho, hall⟩ := mem_ready.1 hi
    have ho2 : l[i]? = some o := by simpa using ho
    have hp : ∀ e ∈ o.after, Region.binds .any e = true → listed.getD e.on true = true := fun e he hb => by
      have h1 := hall e he hb
      rw [Array.getD_eq_getD_getElem?] at h1 ⊢
      cases hx : listed[e.on]? with
      | none => rfl
      | some y => rw [hx] at h1; simpa using h1
    obtain ⟨v, hv⟩ : ∃ v, vs[i]? = some v := ⟨_, List.getElem?_eq_getElem (by rw [hlen]; exact (List.getElem?_eq_some_iff.1 ho2).1)⟩
    obtain ⟨q1, q2, q3⟩ := hob i o v ho2 hv
    have hcnt := count_set hun
    have hsel : ∀ cs c, o.op ≠ .select cs c := fun cs c => hR.sel i o cs c ho
    have ag : ∀ d ∈ o.looksAt l.toArray, d ∉ fs → (lex l vs a0 i).tmps[d]? = b.tmps[d]? := fun d hd hf => h.agree hR hN hlen ho2 hun hp hd hf
    rcases hph with ⟨hk0, rfl⟩ | ⟨hk1, xs, hx, hst⟩
    · by_cases hik : i = k
      · subst hik
        obtain ⟨hdst, hstore⟩ := q2 rfl
        have got : ∀ s ∈ fs, ∃ x, b.tmps[s]? = some x ∧ FS s x w ∧ s < (lex l vs a0 i).tmps.size := fun s hs => by
          obtain ⟨j, oj, hji, hoj, hdj⟩ := hfs s hs
          obtain ⟨vj, hvj⟩ : ∃ v, vs[j]? = some v := ⟨_, List.getElem?_eq_getElem (by rw [hlen]; exact (List.getElem?_eq_some_iff.1 hoj).1)⟩
          obtain ⟨x, hbx, hfx⟩ := (h.ins j oj s vj hoj (reach_ready h ho2 hp f j (hreach j hji)) hdj hvj).1 hs
          exact ⟨x, hbx, hfx, by rw [(lex_size l vs a0 i).1]; exact Nat.lt_of_lt_of_le (hR.small j oj s (by simpa using hoj) hdj) hN⟩
        have hxs : ∀ s ∈ fs, b.tmps[s]? = some (b.tmps.getD s undef) ∧ FS s (b.tmps.getD s undef) w := fun s hs => by
          obtain ⟨x, hbx, hfx, _⟩ := got s hs
          simpa [hbx] using hfx
        have ag2 : ∀ d ∈ o.looksAt l.toArray, (fill fs (fun s => b.tmps.getD s undef) (lex l vs a0 i)).tmps[d]? = b.tmps[d]? := fun d hd => by
          by_cases hdf : d ∈ fs
          · obtain ⟨x, hbx, _, hlt⟩ := got d hdf
            rw [fill_in fs _ _ d hdf hlt, hbx]
            simp [hbx]
          · rw [fill_out fs _ _ d hdf]
            exact ag d hd hdf
        obtain ⟨hwt, h3⟩ := hstore (fun s => b.tmps.getD s undef) w h.cls fun s hs => (hxs s hs).2
        rw [wanted_agree (ops := l.toArray) ag2] at hwt
        rw [exec_agree (ops := l.toArray) hsel ag2] at h3
        have hin : ∀ u, Inv l vs fs FS I a0 (listed.setIfInBounds i true) (b.put o.dst u) w := fun u => h.next hR hN hI hF ho2 hp (Below.refl _ _) fun d hd => by rw [hdst] at hd; cases hd
        have hput : ∀ u, b.put o.dst u = b := fun u => by rw [hdst]; rfl
        have kk : ∀ u w', St (fun s => b.tmps.getD s undef) w w' → wpAny P .any l.toArray Q' fuel (listed.setIfInBounds i true) (b.put o.dst u) w' := fun u w' hs =>
          any_of_FS hR hN hlen hI hF hob hk hreach hfs hQ fuel _ _ w w' (by omega) (hin u) (.inr ⟨getD_set_same _ _, _, by rw [hput u]; exact hxs, hs⟩)
        unfold Go.wpOp
        simp only [ho]
        rw [if_pos hwt]
        left
        unfold Oper.wp
        generalize (execOp b.eval o).run P w = r at h3
        cases r with
        | ok n w' =>
          cases n <;> simp only [stUpon] at h3 <;> simp only [Oper.upon]
          case value u => exact kk _ _ h3
          case skip => exact kk _ _ h3
        | halt x w' => simp only [stUpon] at h3
      · have hob' : Ob P l.toArray I fs FS o v (lex l vs a0 i) := by
          rcases Nat.lt_or_gt_of_ne hik with hlt | hgt
          · exact q1 hlt
          · exact (q3 hgt).ob
        exact op_of_F hR hN hlen h ho2 hun hp hv hob' fun u w' hb hu =>
          any_of_FS hR hN hlen hI hF hob hk hreach hfs hQ fuel _ _ w' w' (by omega) (h.next hR hN hI hF ho2 hp hb hu) (.inl ⟨by rw [getD_set_far _ hik]; exact hk0, rfl⟩)
    · have hki : k < i := by
        rcases Nat.lt_trichotomy i k with hlt | rfl | hgt
        · rw [reach_listed h f k i hk1 (hreach i hlt)] at hun; cases hun
        · rw [hk1] at hun; cases hun
        · exact hgt
      obtain ⟨h1, h2, h3⟩ := q3 hki
      have he := exec_agree (ops := l.toArray) hsel fun d hd => ag d hd (h1 d hd)
      have hw := wanted_agree (ops := l.toArray) fun d hd => ag d hd (h1 d hd)
      have kv : wpAny P .any l.toArray Q' fuel (listed.setIfInBounds i true) (b.put o.dst v) w :=
        any_of_FS hR hN hlen hI hF hob hk hreach hfs hQ fuel _ _ W w (by omega) (h.next hR hN hI hF ho2 hp (Below.refl _ _) fun d hd => ⟨fun hf => absurd hf (h2 d hd), fun _ => hv⟩)
          (.inr ⟨getD_set_up _ hk1, xs, fun s hs => ⟨by rw [put_other v (fun e => h2 s e hs)]; exact (hx s hs).1, (hx s hs).2⟩, hst⟩)
      unfold Go.wpOp
      simp only [ho]
      rcases h3 with ⟨hwt, hval⟩ | ⟨hwf, rfl⟩
      · rw [hw] at hwt
        rw [if_pos hwt]
        left
        have h4 := hval w
        rw [he] at h4
        unfold Oper.wp
        generalize (execOp b.eval o).run P w = r at h4
        cases r with
        | ok n w' =>
          cases n <;> simp only [purUpon] at h4 <;> simp only [Oper.upon]
          case value u => obtain ⟨rfl, rfl⟩ := h4; exact kv
          case skip => obtain ⟨rfl, rfl⟩ := h4; exact kv
        | halt x w' => simp only [purUpon] at h4
      · rw [hw] at hwf
        rw [hwf, if_neg (by simp)]
        exact kv

/-- ONE WALK IN THE TEXT's ORDER SERVES EVERY ORDER, the store at place k -/
theorem wp_region_FS {id : Nat} {Q : Exit → Act → World → Prop} {a : Act} {w : World} {l : List Oper} (N k f : Nat) (fs : List Tmp) (FS : Tmp → Value → World → Prop) (I : World → Prop) (St : (Tmp → Value) → World → World → Prop) (hm : P.follows .mixedOrders = true) (hB : rgB .any l.toArray N = true)
    (hk : decide (k < l.length) = true) (hreach : ((List.range k).all fun j => reachB .any l.toArray f k j) = true) (hfs : (fs.all fun s => (l.take k).any fun o => o.dst == some s) = true) (hN : N ≤ a.tmps.size) (hI : Closed I) (hF : ∀ s x w w', FS s x w → Below w.heap.size w w' → FS s x w') (hC : I w.drew)
    (h : wpFS P l.toArray I fs FS St (fun a' => ∀ xs W w', I W → (∀ s ∈ fs, FS s (xs s) W) → St xs W w' → Q .normal (fill fs xs a') w') (some k) l a) : (Code.region id l.toArray true).wp P Q a w := by
  have hR := rgB_spec hB
  have hk' : k < l.length := by simpa using hk
  obtain ⟨vs, hlen, hob, hE⟩ := wpFS_vals k l a h
  have hfs' : ∀ s ∈ fs, ∃ (j : Nat) (o : Oper), j < k ∧ l[j]? = some o ∧ o.dst = some s := fun s hs => by
    rw [List.all_eq_true] at hfs
    have h1 := hfs s hs
    rw [List.any_eq_true] at h1
    obtain ⟨o, ho, hd⟩ := h1
    obtain ⟨j, hj, rfl⟩ := List.getElem_of_mem ho
    have hj1 : j < k := by rw [List.length_take] at hj; omega
    have hj2 : j < l.length := by rw [List.length_take] at hj; omega
    exact ⟨j, l[j], hj1, List.getElem?_eq_getElem hj2, by simpa using hd⟩
  refine wp_region_any hm ?_
  refine any_of_FS (l := l) (vs := vs) (fs := fs) (FS := FS) (I := I) (a0 := a) (St := St) (k := k) (f := f) hR hN hlen hI hF hob hk' (fun j hj => by rw [List.all_eq_true] at hreach; exact hreach j (List.mem_range.2 hj)) hfs' ?_ _ _ _ w.drew _ ?_ ?_ ?_
  · intro listed b W w' xs hall hinv hx hst
    have hb : b = fill fs xs (lex l vs a l.length) := by
      have ht : b.tmps = (fill fs xs (lex l vs a l.length)).tmps := by
        apply Array.ext_getElem?
        intro d
        by_cases hd : d ∈ fs
        · have hlt : d < (lex l vs a l.length).tmps.size := by
            rw [(lex_size l vs a l.length).1, ← hinv.size]
            exact (Array.getElem?_eq_some_iff.1 (hx d hd).1).1
          rw [fill_in fs _ _ d hd hlt, (hx d hd).1]
        · rw [fill_out fs _ _ d hd]
          by_cases hwr : ∃ (j : Nat) (oj : Oper), l[j]? = some oj ∧ oj.dst = some d
          · obtain ⟨j, oj, hj, hdj⟩ := hwr
            obtain ⟨v, hv⟩ : ∃ v, vs[j]? = some v := ⟨_, List.getElem?_eq_getElem (by rw [hlen]; exact (List.getElem?_eq_some_iff.1 hj).1)⟩
            have hj' : l.toArray[j]? = some oj := by simpa using hj
            rw [(hinv.ins j oj d v hj (hall j) hdj hv).2 hd]
            exact (lex_in l vs a l.length j oj d v hj (List.getElem?_eq_some_iff.1 hj).1 hv hdj (Nat.lt_of_lt_of_le (hR.small _ _ _ hj' hdj) hN) fun i oi hi _ hne => hR.once i j oi oj d (by simpa using hi) hj' hdj hne).symm
          · rw [lex_out l vs a l.length d fun i oi hi _ hdi => hwr ⟨i, oi, hi, hdi⟩]
            exact hinv.out d fun i oi hi _ hdi => hwr ⟨i, oi, hi, hdi⟩
      have hd : b.defers = (fill fs xs (lex l vs a l.length)).defers := by
        rw [(fill_size ..).2, (lex_size ..).2]
        exact hinv.defers
      cases b
      simp only at ht hd
      rw [Act.mk.injEq]
      exact ⟨ht, hd⟩
    rw [hb]
    exact hE xs W w' hinv.cls (fun s hs => (hx s hs).2) hst
  · simp
  · refine ⟨hC, rfl, rfl, fun _ _ => rfl, fun j o d v hj hlj => ?_, fun j o hj hlj => ?_, by simp⟩
    all_goals
      have hlt := (List.getElem?_eq_some_iff.1 hj).1
      rw [Array.getD_eq_getD_getElem?] at hlj
      simp [hlt] at hlj
  · refine .inl ⟨?_, rfl⟩
    rw [Array.getD_eq_getD_getElem?]
    simp [hk']

/-! ### its steps -/
section
variable {St : (Tmp → Value) → World → World → Prop} {E : Act → Prop} {o : Oper} {rest : List Oper} {a : Act}
/-- any of XQ6's steps: shown of the operation alone, with what follows taken as it comes -/
theorem wpFS_step {k : Nat} (h : wpF P l.toArray I fs FS (fun a' => wpFS P l.toArray I fs FS St E (some k) rest a') [o] a) : wpFS P l.toArray I fs FS St E (some (k + 1)) (o :: rest) a := by
  obtain ⟨v, hob, hr⟩ := h
  exact ⟨v, hob, hr⟩
/-- the store -/
theorem wpFS_store {t : TypeId} {x y : Operand} (ho : o.op = .store t x y) (hd : o.dst = none) (hg : o.guard = none) (ad : Addr) (v : (Tmp → Value) → Value) (hx : ∀ xs, (fill fs xs a).eval x = .pointer (some ad)) (hy : ∀ xs, (fill fs xs a).eval y = v xs)
    (hrun : ∀ xs w, I w → (∀ s ∈ fs, FS s (xs s) w) → ∃ w', (Instr.storeAt t (.pointer (some ad)) (v xs)).run P w = .ok () w' ∧ St xs w w') (h : wpFS P l.toArray I fs FS St E none rest a) : wpFS P l.toArray I fs FS St E (some 0) (o :: rest) a := by
  refine ⟨⟨hd, fun xs w hI hs => ⟨by simp [Region.wanted, hg], ?_⟩⟩, h⟩
  obtain ⟨w', hr, hst⟩ := hrun xs w hI hs
  unfold execOp
  simp only [ho, hx xs, hy xs]
  rw [Sem.run_bind, hr]
  exact hst
/-- behind the store -/
theorem wpFS_pure (hk : kindOf o = 0) (hn : noB l.toArray fs o = true) (h : wpQuiet P l.toArray (fun _ => True) (fun a' => wpFS P l.toArray I fs FS St E none rest a') [o] a) : wpFS P l.toArray I fs FS St E none (o :: rest) a := by
  obtain ⟨h1, h2⟩ := noB_spec hn
  unfold wpQuiet at h
  by_cases hw : Region.wanted o (yielded l.toArray a.tmps) = true
  · simp only [hw, if_true] at h
    obtain ⟨v, hv, hr⟩ := h
    refine ⟨v, ⟨h1, h2, .inl ⟨hw, fun w => ?_⟩⟩, hr⟩
    have h3 := hv w trivial
    have h4 := pure_no_enter (P := P) (kind_pure hk) a.eval w
    unfold Oper.quietAt at h3
    generalize (execOp a.eval o).run P w = r at h3 h4
    cases r with
    | ok n w' =>
      cases n with
      | enter f args => exact absurd rfl (h4 w' f args)
      | value u => exact h3
      | skip => exact h3
      | _ => simp only [Oper.quietUpon] at h3
    | halt x w' => simp only [Oper.quietUpon] at h3
  · simp only [hw] at h
    exact ⟨undef, ⟨h1, h2, .inr ⟨by simpa using hw, rfl⟩⟩, h⟩
end
end
end Go.Proofs.Ytcfgemdpnbimoaa

namespace Go.Proofs.Ytcfgemdpnbimoaa
open Go.RowKit
section
variable {P : Program} {l : List Oper} {fs : List Tmp} {FS : Tmp → Value → World → Prop} {I : World → Prop} {E : Act → Prop} {o : Oper} {rest : List Oper} {a : Act}
/-- an operation whose value is the same in every world of the class, and which leaves the world -/
theorem wpF_val (v : Value) (hn : noB l.toArray fs o = true) (hw : Region.wanted o (yielded l.toArray a.tmps) = true)
    (hrun : ∀ w, I w → (execOp a.eval o).run P w = .ok (.value v) w) (h : wpF P l.toArray I fs FS E rest (a.put o.dst v)) : wpF P l.toArray I fs FS E (o :: rest) a := by
  obtain ⟨h1, h2⟩ := noB_spec hn
  refine ⟨v, .inl ⟨h1, h2, .inl ⟨hw, fun w hI => ?_⟩⟩, h⟩
  rw [hrun w hI]
  exact ⟨rfl, rfl⟩
theorem wpF_nil {x : Operand} {ad : Addr} (hop : o.op = .nilCheck x) (hn : noB l.toArray fs o = true) (hw : Region.wanted o (yielded l.toArray a.tmps) = true) (hx : a.eval x = .pointer (some ad))
    (h : wpF P l.toArray I fs FS E rest (a.put o.dst (.pointer (some ad)))) : wpF P l.toArray I fs FS E (o :: rest) a :=
  wpF_val _ hn hw (fun w _ => by simp only [execOp, hop, hx]; rfl) h
/-- the store of XQ7's law, to an address that a source has given -/
theorem wpFS_storeX {St : (Tmp → Value) → World → World → Prop} {t : TypeId} {x y : Operand} (ho : o.op = .store t x y) (hd : o.dst = none) (hg : o.guard = none)
    (hrun : ∀ xs w, I w → (∀ s ∈ fs, FS s (xs s) w) → ∃ w', (Instr.storeAt t ((fill fs xs a).eval x) ((fill fs xs a).eval y)).run P w = .ok () w' ∧ St xs w w') (h : wpFS P l.toArray I fs FS St E none rest a) : wpFS P l.toArray I fs FS St E (some 0) (o :: rest) a := by
  refine ⟨⟨hd, fun xs w hI hs => ⟨by simp [Region.wanted, hg], ?_⟩⟩, h⟩
  obtain ⟨w', hr, hst⟩ := hrun xs w hI hs
  unfold execOp
  simp only [ho]
  rw [Sem.run_bind, hr]
  exact hst
end
end Go.Proofs.Ytcfgemdpnbimoaa

namespace Go.Proofs.Ytcfgemdpnbimoaa
open Go.RowKit Go.Shelf
set_option maxRecDepth 100000

/-- a segment's cells -/
def sgC (v : Value) (l : Bool) (n p : Int) : Array Value := #[v, .bool l, .int .i64 n, .int .u64 p]
theorem sg_block {W : World} {b : Nat} {v : Value} {l : Bool} {n p : Int} {t : TypeId} (h : W.heap[b]? = some (.cells (sgC v l n p) t (0, 0))) :
    W.cell? ⟨b, 0, none⟩ = some v ∧ W.cell? ⟨b, 1, none⟩ = some (.bool l) ∧ W.cell? ⟨b, 2, none⟩ = some (.int .i64 n) ∧ W.cell? ⟨b, 3, none⟩ = some (.int .u64 p) := by
  simp [World.cell?, h, sgC]
theorem sgInfo : (Try.prog.info? 44).map (·.size) = some 4 := by kernel_rfl
theorem sg_store (w : World) (R : Nat) (old cs : Array Value) (h : w.heap[R]? = some (.cells old 44 (0, 0))) (ho : old.size = 4) (hc : cs.size = 4) (h1 : cs.all (·.oneCell') = true) :
    (Instr.storeAt 44 (.pointer (some ⟨R, 0, none⟩)) (.agg cs)).run Try.prog w = .ok () (w.setRow R cs) := by
  simp only [Instr.storeAt, Instr.sureAddr, Sem.run_bind, Sem.run_pure, Result.andThen]
  exact run_storeVar_row w R 44 44 old cs h (by rw [hc]; exact sgInfo) (by omega) h1
theorem sg_one (A : Option Addr) (n c : Nat) (l : Bool) (m p : Int) : (sgC (.slice A n c) l m p).all (·.oneCell') = true := by simp [sgC, Value.oneCell']
/-- a new variable of that type -/
def FSg (H : Nat) (q : Tmp) (x : Value) (W : World) : Prop := q = 4 ∧ ∃ g, x = .pointer (some ⟨g, 0, none⟩) ∧ H ≤ g ∧ W.heap[g]? = some (.cells (sgC (.slice none 0 0) false 0 0) 44 (0, 0))
theorem FSg.later {H : Nat} {q : Tmp} {x : Value} {W W' : World} (hh : FSg H q x W) (hb : Below W.heap.size W W') : FSg H q x W' := by
  obtain ⟨h, g, e, hg, hc⟩ := hh
  exact ⟨h, g, e, hg, (hb.block g (Array.getElem?_eq_some_iff.1 hc).1).trans hc⟩
/-- what end leaves: a segment, if something was open -/
def EndR (b lo p : Nat) (v : Value) (now : List Int) (w : World) (e : Ending) (w' : World) : Prop :=
  if now = [] then e = .returned (.tuple #[.agg (sgC (.slice none 0 0) false 0 0), .bool false]) ∧ ScanAt w' b lo v (p + 1) [] ∧ Off (fun k => k = b) w w'
  else e = .returned (.tuple #[.agg (sgC v (decide (255 < now.length)) now.length ((p - now.length : Nat) : Int)), .bool true]) ∧ ScanAt w' b lo (.slice none 0 0) (p + 1) [] ∧ Off (fun k => k = b) w w'

set_option maxHeartbeats 2000000 in
theorem end_none {w : World} {b lo p : Nat} {v : Value} (h : ScanAt w b lo v p []) (hp : p ≤ 4000000000000) :
    Calls Try.prog 31 #[.pointer (some ⟨b, 0, none⟩)] w fun e w' => EndR b lo p v [] w e w' := by
  obtain ⟨w0, hw0⟩ : ∃ w0, w.alloc (.cells (sgC (.slice none 0 0) false 0 0) 44) = w0 := ⟨_, rfl⟩
  have hb0 : Below w.heap.size w w0 := by rw [← hw0]; exact (Below.refl _ w).alloc (Nat.le_refl _) _
  have hR0 : w0.heap[w.heap.size]? = some (.cells (sgC (.slice none 0 0) false 0 0) 44 (0, 0)) := by rw [← hw0]; exact World.alloc_heap_new _ _
  have h0 := h.below hb0
  obtain ⟨c0, c1, c2⟩ := h0.cells
  have t0 := h0.thaw 0
  have O := sopen_any h0
  obtain ⟨h2, ho⟩ := h0.count (p + 1)
  rw [show ((p + 1 : Nat) : Int) = (p : Int) + 1 by omega] at h2 ho
  obtain ⟨w1, hw1⟩ : ∃ w1, w0.setCell ⟨b, 0, none⟩ (.int .u64 ((p : Int) + 1)) = w1 := ⟨_, rfl⟩
  rw [hw1] at h2 ho
  have hR1 : w1.heap[w.heap.size]? = some (.cells (sgC (.slice none 0 0) false 0 0) 44 (0, 0)) := (ho.block _ (by have := (Array.getElem?_eq_some_iff.1 hR0).1; exact this) (by have := h.lt; omega)).trans hR0
  have hR2 := setRow_heap w1 w.heap.size _ (sgC (.slice none 0 0) false 0 0) _ _ hR1
  have hbl : Below w1.heap.size w1 w1 := Below.refl _ _
  have hoF : Off (fun k => k = w.heap.size) w1 (w1.setRow w.heap.size (sgC (.slice none 0 0) false 0 0)) := Off.setRow (S := fun k => k = w.heap.size) (Off.refl _ w1) rfl _
  have hblt := h.lt
  have hfin : EndR b lo p v [] w (.returned (.tuple #[.agg (sgC (.slice none 0 0) false 0 0), .bool false])) (w1.setRow w.heap.size (sgC (.slice none 0 0) false 0 0)) := by
    unfold EndR
    rw [if_pos rfl]
    refine ⟨rfl, h2.off hoF (by omega) (fun g hg => ?_), ?_⟩
    · have h3 := h.own.lt g hg
      omega
    · refine ((Off.of_below hb0 : Off (fun k => k = b) w w0).trans ho (fun _ _ hk => hk)).trans (hoF) (fun j hj hk => by omega)
  rw [show decide (([] : List Int) ≠ []) = false from rfl] at O
  have HF := Lib.hid hfin
  have HR2 := Lib.hid hR2
  have HW0 := Lib.hid hw0
  have HR1 := Lib.hid hR1
  unfold sgC at HW0
  have hp1 : (p : Int) ≤ 4000000000000 := by omega
  clear h hw0 hb0 hR0 h0 c1 c2 h2 ho hR1 hR2 hbl hoF hfin hblt hp
  go_enter Try.func31, Try.ntmps31
  go_wp2_with (first
    | (go_at_call 16; rw [HW0.out]; refine O.mono ?_; rintro e w2 ⟨rfl, rfl⟩)
    | (refine wpList_store_row rfl 44 (.tmp 2) (.tmp 15) rfl w.heap.size (sgC (.slice none 0 0) false 0 0) rfl rfl 44 _ HR1.out sgInfo rfl (sg_one _ _ _ _ _ _) ?_))
  have hF := HF.out
  have hR2 := HR2.out
  clear HF HR2 HR1 O
  generalize w1.setRow w.heap.size (sgC (.slice none 0 0) false 0 0) = Wf at *
  obtain ⟨d0, d1, d2, d3⟩ := sg_block hR2
  refine bodyPost_ret (v := .tuple #[.agg (sgC (.slice none 0 0) false 0 0), .bool false]) (by simp [results, Try.results31, go_sem, sgC, d0, d1, d2, d3]) rfl hF

/-- what is so behind the segment's making -/
theorem end_facts {w w0 V Wf : World} {b lo p g : Nat} {v : Value} {now : List Int} {cs zc : Array Value} (h : ScanAt w b lo v p now) (hw0 : w.alloc (.cells zc 44) = w0) (hV : Below w0.heap.size w0 V) (hg : w0.heap.size ≤ g) (hc : V.heap[g]? = some (.cells zc 44 (0, 0)))
    (hWf : V.setRow g cs = Wf) :
    ScanAt Wf b lo v p now ∧ Off (fun k => k = b) w Wf ∧ Wf.heap[g]? = some (.cells cs 44 (0, 0)) ∧ Wf.heap[w.heap.size]? = some (.cells zc 44 (0, 0)) ∧ w.heap.size < g := by
  have hb0 : Below w.heap.size w w0 := by rw [← hw0]; exact (Below.refl _ w).alloc (Nat.le_refl _) _
  have hs0 : w0.heap.size = w.heap.size + 1 := by rw [← hw0]; simp
  have hR0 : w0.heap[w.heap.size]? = some (.cells zc 44 (0, 0)) := by rw [← hw0]; exact World.alloc_heap_new _ _
  have hoF : Off (fun k => k = g) V Wf := by rw [← hWf]; exact Off.setRow (S := fun k => k = g) (Off.refl _ V) rfl _
  have hbV := hb0.trans (hV.mono (by omega))
  have h1 := h.below hbV
  have hlt := h.lt
  have hs := hV.size
  refine ⟨h1.off hoF (by omega) (fun q hq => by have := h.own.lt q hq; omega), (Off.of_below hbV : Off (fun k => k = b) w V).trans hoF (fun j hj hk => by omega), ?_, ?_, by omega⟩
  · rw [← hWf]; exact setRow_heap V g _ cs _ _ hc
  · exact (hoF.block w.heap.size (by omega) (by omega)).trans ((hV.block w.heap.size (by omega)).trans hR0)
theorem end_last {w Wf W1 W2 W3 : World} {b lo p g R : Nat} {v : Value} {now : List Int} {cs zc : Array Value} (hat : ScanAt Wf b lo v p now) (hoW : Off (fun k => k = b) w Wf) (hg : Wf.heap[g]? = some (.cells cs 44 (0, 0))) (hR : Wf.heap[R]? = some (.cells zc 44 (0, 0))) (hRg : R < g) (hRw : w.heap.size = R) (hbw : b < w.heap.size)
    (hW1 : Wf.setCell ⟨b, 0, none⟩ (.int .u64 ((p + 1 : Nat) : Int)) = W1) (h2 : ScanAt W2 b lo (.slice none 0 0) (p + 1) []) (ho2 : Off (fun k => k = b) W1 W2) (hW3 : W2.setRow R cs = W3) :
    W2.heap[g]? = some (.cells cs 44 (0, 0)) ∧ W2.heap[R]? = some (.cells zc 44 (0, 0)) ∧ W3.heap[R]? = some (.cells cs 44 (0, 0)) ∧ ScanAt W3 b lo (.slice none 0 0) (p + 1) [] ∧ Off (fun k => k = b) w W3 := by
  have hgl := (Array.getElem?_eq_some_iff.1 hg).1
  have ho1 : Off (fun k => k = b) Wf W1 := by rw [← hW1]; exact (hat.count (p + 1)).2
  have ho12 := ho1.trans ho2 (fun _ _ hk => hk)
  have hR2 : W2.heap[R]? = some (.cells zc 44 (0, 0)) := (ho12.block R (by omega) (by omega)).trans hR
  have hoF : Off (fun k => k = R) W2 W3 := by rw [← hW3]; exact Off.setRow (S := fun k => k = R) (Off.refl _ W2) rfl _
  refine ⟨(ho12.block g hgl (by omega)).trans hg, hR2, ?_, h2.off hoF (by omega) (fun q hq => by simp [Value.ownBlock] at hq), (hoW.trans ho12 (fun _ _ hk => hk)).trans hoF (fun j hj hk => by omega)⟩
  rw [← hW3]; exact setRow_heap W2 R _ cs _ _ hR2
set_option maxHeartbeats 4000000 in
theorem end_some {w : World} {b lo p : Nat} {v : Value} {now : List Int} (h : ScanAt w b lo v p now) (hn : now ≠ []) (hnp : now.length ≤ p) (hp : p ≤ 4000000000000) :
    Calls Try.prog 31 #[.pointer (some ⟨b, 0, none⟩)] w fun e w' => EndR b lo p v now w e w' := by
  obtain ⟨w0, hw0⟩ : ∃ w0, w.alloc (.cells (sgC (.slice none 0 0) false 0 0) 44) = w0 := ⟨_, rfl⟩
  have hb0 : Below w.heap.size w w0 := by rw [← hw0]; exact (Below.refl _ w).alloc (Nat.le_refl _) _
  have h0 := h.below hb0
  obtain ⟨A, c, rfl, hcl⟩ := h.slice
  have hcell : ∀ V, Below w0.heap.size w0 V → V.cell? ⟨b, 0, none⟩ = some (.int .u64 (p : Int)) ∧ V.cell? ⟨b, 1, none⟩ = some (.int .i64 (now.length : Int)) ∧ V.cell? ⟨b, 2, none⟩ = some (.slice A (held now).length c) := fun V hV => (h0.below hV).cells
  have O := sopen_any h0
  rw [decide_eq_true hn] at O
  have hd1 : (now.length : Int) ≤ (p : Int) := by omega
  have hp1 : (p : Int) ≤ 4000000000000 := by omega
  have hsub : ((p - now.length : Nat) : Int) = (p : Int) - (now.length : Int) := by omega
  have hsub2 : IntKind.u64.wrap ((p : Int) - (now.length : Int)) = (p : Int) - (now.length : Int) := by rw [IntKind.wrap_u64]; omega
  obtain ⟨SC, hSC⟩ : ∃ SC, sgC (.slice A (held now).length c) (decide (255 < now.length)) now.length ((p : Int) - (now.length : Int)) = SC := ⟨_, rfl⟩
  have hSz : SC.size = 4 := by rw [← hSC]; rfl
  have hS1 : SC.all (·.oneCell') = true := by rw [← hSC]; exact sg_one _ _ _ _ _ _
  have HW0 := Lib.hid hw0
  have HH := Lib.hid h
  have HNP := Lib.hid hnp
  have HP := Lib.hid hp
  have HN := Lib.hid hn
  have HS := Lib.hid hsub
  unfold sgC at HW0
  clear h hw0 hb0 h0 hnp hp hn hsub
  go_enter Try.func31, Try.ntmps31
  go_wp2_with (go_at_call 16; rw [HW0.out]; refine O.mono ?_; rintro e w2 ⟨rfl, rfl⟩)
  clear O
  have hL : ∀ V, Below w2.heap.size w2 V → Calls Try.prog 34 #[.pointer (some ⟨b, 1, none⟩)] V fun e w'' => e = .returned (.bool (decide (255 < now.length))) ∧ Below V.heap.size V w'' := fun V hV => (long_cell (hcell V hV).2.1).mono fun e w' ⟨he, hw⟩ => ⟨he, hw ▸ Below.refl _ _⟩
  have hl0 : ∀ V, Below w2.heap.size w2 V → (Instr.loadAt 34 (.pointer (some ⟨b, 0, none⟩))).run Try.prog V = .ok (.int .u64 (p : Int)) V := fun V hV => by simp [Instr.loadAt, go_sem, (hcell V hV).1]
  have hl1 : ∀ V, Below w2.heap.size w2 V → (Instr.loadAt 3 (.pointer (some ⟨b, 1, none⟩))).run Try.prog V = .ok (.int .i64 (now.length : Int)) V := fun V hV => by simp [Instr.loadAt, go_sem, (hcell V hV).2.1]
  have hl2 : ∀ V, Below w2.heap.size w2 V → (Instr.loadAt 25 (.pointer (some ⟨b, 2, none⟩))).run Try.prog V = .ok (.slice A (held now).length c) V := fun V hV => by simp [Instr.loadAt, go_sem, (hcell V hV).2.2]
  refine wp_region_FS 52 27 6 [4] (FSg w2.heap.size) (fun V => Below w2.heap.size w2 V) (fun xs V V' => ∃ g, xs 4 = .pointer (some ⟨g, 0, none⟩) ∧ V' = V.setRow g SC) (by kernel_rfl) (by kernel_rfl) (by rfl) (by kernel_rfl) (by rfl) (by simp) (fun W W' h hb => h.trans (hb.mono h.size)) (fun q x W W' h hb => h.later hb) (Below.refl _ _).drew ?_
  repeat (first | (refine wpFS_step (wpF_nil rfl rfl rfl rfl ?_); simp only [wpF, Act.put, List.setIfInBounds_toArray, List.set_cons_succ, List.set_cons_zero]) | (refine wpFS_step (wpF_pure rfl rfl ?_); go_big_quiet_step (fail); refine wpQuiet_nil ?_; simp only [wpF]))
  refine wpFS_step (wpF_load (.slice A (held now).length c) rfl (by rfl) (by rfl) (by rfl) hl2 ?_)
  simp only [wpF, Act.put, List.setIfInBounds_toArray, List.set_cons_succ, List.set_cons_zero]
  repeat (first | (refine wpFS_step (wpF_nil rfl rfl rfl rfl ?_); simp only [wpF, Act.put, List.setIfInBounds_toArray, List.set_cons_succ, List.set_cons_zero]) | (refine wpFS_step (wpF_pure rfl rfl ?_); go_big_quiet_step (fail); refine wpQuiet_nil ?_; simp only [wpF]))
  refine wpFS_step (wpF_call (f := 34) (args := #[.pointer (some ⟨b, 1, none⟩)]) (.bool (decide (255 < now.length))) rfl rfl (fun x => by first | rfl | (simp [go_sem]; done)) hL ?_)
  simp only [wpF, Act.put, List.setIfInBounds_toArray, List.set_cons_succ, List.set_cons_zero]
  repeat (first | (refine wpFS_step (wpF_nil rfl rfl rfl rfl ?_); simp only [wpF, Act.put, List.setIfInBounds_toArray, List.set_cons_succ, List.set_cons_zero]) | (refine wpFS_step (wpF_pure rfl rfl ?_); go_big_quiet_step (fail); refine wpQuiet_nil ?_; simp only [wpF]))
  refine wpFS_step (wpF_load (.int .i64 (now.length : Int)) rfl (by rfl) (by rfl) (by rfl) hl1 ?_)
  simp only [wpF, Act.put, List.setIfInBounds_toArray, List.set_cons_succ, List.set_cons_zero]
  repeat (first | (refine wpFS_step (wpF_nil rfl rfl rfl rfl ?_); simp only [wpF, Act.put, List.setIfInBounds_toArray, List.set_cons_succ, List.set_cons_zero]) | (refine wpFS_step (wpF_pure rfl rfl ?_); go_big_quiet_step (fail); refine wpQuiet_nil ?_; simp only [wpF]))
  refine wpFS_step (wpF_load (.int .u64 (p : Int)) rfl (by rfl) (by rfl) (by rfl) hl0 ?_)
  simp only [wpF, Act.put, List.setIfInBounds_toArray, List.set_cons_succ, List.set_cons_zero]
  repeat (first | (refine wpFS_step (wpF_nil rfl rfl rfl rfl ?_); simp only [wpF, Act.put, List.setIfInBounds_toArray, List.set_cons_succ, List.set_cons_zero]) | (refine wpFS_step (wpF_pure rfl rfl ?_); go_big_quiet_step (fail); refine wpQuiet_nil ?_; simp only [wpF]))
  refine wpFS_step (wpF_load (.int .i64 (now.length : Int)) rfl (by rfl) (by rfl) (by rfl) hl1 ?_)
  simp only [wpF, Act.put, List.setIfInBounds_toArray, List.set_cons_succ, List.set_cons_zero]
  repeat (first | (refine wpFS_step (wpF_nil rfl rfl rfl rfl ?_); simp only [wpF, Act.put, List.setIfInBounds_toArray, List.set_cons_succ, List.set_cons_zero]) | (refine wpFS_step (wpF_pure rfl rfl ?_); go_big_quiet_step (fail); refine wpQuiet_nil ?_; simp only [wpF]))
  refine wpFS_step (wpF_val (.agg SC) rfl rfl (fun V hV => by rw [← hSC]; simp [go_sem, sgC]) ?_)
  simp only [wpF, Act.put, List.setIfInBounds_toArray, List.set_cons_succ, List.set_cons_zero]
  refine wpFS_step (wpF_src 4 (by simp) rfl (by kernel_rfl) (by kernel_rfl) (fun V hV => ⟨.pointer (some ⟨V.heap.size, 0, none⟩), V.alloc (.cells (sgC (.slice none 0 0) false 0 0) 44), ?_, ⟨rfl, _, rfl, hV.size, World.alloc_heap_new _ _⟩, (Below.refl _ _).alloc (Nat.le_refl _) _⟩) ?_)
  · simp [go_sem, sgC]
  simp only [wpF, Act.put, List.setIfInBounds_toArray, List.set_cons_succ, List.set_cons_zero]
  refine wpFS_storeX rfl rfl rfl (fun xs V hV hx => ?_) ?_
  · obtain ⟨_, g, e4, hg, hcg⟩ := hx 4 (by simp)
    refine ⟨_, ?_, g, e4, rfl⟩
    simp only [fill, Act.put, List.setIfInBounds_toArray, List.set_cons_succ, List.set_cons_zero, e4]
    exact sg_store V g _ SC hcg rfl hSz hS1
  simp only [wpFS]
  rintro xs V V' hV hx ⟨g, e4, rfl⟩
  obtain ⟨_, g', e4', hg, hcg⟩ := hx 4 (by simp)
  obtain rfl : g = g' := by rw [e4] at e4'; injection e4' with e4'; injection e4' with e4'; injection e4'
  simp only [fill, Act.put, List.setIfInBounds_toArray, List.set_cons_succ, List.set_cons_zero, e4]
  clear hx hL hl0 hl1 hl2 hcell e4 e4'
  obtain ⟨Wf, hWf⟩ : ∃ Wf, V.setRow g SC = Wf := ⟨_, rfl⟩
  obtain ⟨f1, f2, f3, f4, f5⟩ := end_facts (p := p) HH.out (by unfold sgC; exact HW0.out) hV hg hcg hWf
  rw [hWf]
  obtain ⟨c0, c1, c2⟩ := f1.cells
  have t0 := f1.thaw 0
  obtain ⟨W1, hW1⟩ : ∃ W1, Wf.setCell ⟨b, 0, none⟩ (.int .u64 ((p + 1 : Nat) : Int)) = W1 := ⟨_, rfl⟩
  have r1 := (f1.count (p + 1)).1
  rw [hW1] at r1
  have R := reset_any r1
  have HL : ∀ W2, ScanAt W2 b lo (.slice none 0 0) (p + 1) [] → Off (fun k => k = b) W1 W2 → _ := fun W2 h2 ho2 => end_last f1 f2 f3 f4 f5 rfl HH.out.lt hW1 h2 ho2 rfl
  have HLL := Lib.hid HL
  rw [show ((p + 1 : Nat) : Int) = (p : Int) + 1 by omega] at hW1
  clear HL f1 f2 f3 f4 f5 r1 hV hg hcg hWf
  have HSC := Lib.hid hSC
  have HSz := Lib.hid hSz
  have HS1 := Lib.hid hS1
  clear hSC hSz hS1
  have HIF : Hid ((Try.prog.info? 44).map (·.size) = some SC.size) := by show _ = _; rw [HSz.out]; exact sgInfo
  go_wp2_with (first
    | (go_at_call 19; refine R.mono ?_; rintro e W2 ⟨⟨x, rfl⟩, h2, ho2, hs2⟩; obtain ⟨k1, k2, k3, k4, k5⟩ := HLL.out W2 h2 ho2; have K1 := Lib.hid k1; have K2 := Lib.hid k2; have K3 := Lib.hid k3; have K4 := Lib.hid (And.intro k4 k5); clear k1 k2 k3 k4 k5 h2 ho2 hs2)
    | (refine wpList_load_row rfl 44 (.tmp 4) rfl g rfl 44 SC (0, 0) _ K1.out Try.underlying44 rfl HIF.out ?_)
    | (refine wpList_store_row rfl 44 (.tmp 2) (.tmp 51) rfl w.heap.size SC rfl rfl 44 _ K2.out HIF.out (by rw [HSz.out]; rfl) HS1.out ?_))
  have hF : EndR b lo p (.slice A (held now).length c) now w (.returned (.tuple #[.agg SC, .bool true])) (W2.setRow w.heap.size SC) := by
    unfold EndR
    rw [if_neg HN.out, HS.out, HSC.out]
    exact ⟨rfl, K4.out⟩
  have hk3 := K3.out
  clear K1 K2 K3 K4 HLL R
  generalize W2.setRow w.heap.size SC = Wr at *
  have hSC := HSC.out
  rw [← hSC] at hk3
  obtain ⟨d0, d1, d2, d3⟩ := sg_block hk3
  refine bodyPost_ret (v := .tuple #[.agg SC, .bool true]) (by rw [← hSC]; simp [results, Try.results31, go_sem, sgC, d0, d1, d2, d3]) rfl hF
theorem scend_any {w : World} {b lo p : Nat} {v : Value} {now : List Int} (h : ScanAt w b lo v p now) (hnp : now.length ≤ p) (hp : p ≤ 4000000000000) :
    Calls Try.prog 31 #[.pointer (some ⟨b, 0, none⟩)] w fun e w' => EndR b lo p v now w e w' := by
  by_cases hn : now = []
  · subst hn; exact end_none h hp
  · exact end_some h hn hnp hp
end Go.Proofs.Ytcfgemdpnbimoaa

namespace Go.Proofs.Ytcfgemdpnbimoaa
open Go.RowKit
section
variable {P : Program} {l : List Oper} {vs : List Value} {fs : List Tmp} {FS : Tmp → Value → World → Prop} {I : World → Prop} {a0 : Act}
theorem lex_take : ∀ (l : List Oper) (vs us : List Value) (a : Act) (n j : Nat), j ≤ n → vs.length = (l.take n).length → lex (l.take n) vs a j = lex l (vs ++ us) a j
  | _, _, _, _, _, 0, _, _ => by rw [lex_zero, lex_zero]
  | [], vs, us, a, n, j + 1, _, _ => by simp [lex]
  | o :: r, [], us, a, n + 1, j + 1, _, h2 => by simp at h2
  | o :: r, v :: vs, us, a, n + 1, j + 1, h1, h2 => by
    rw [List.take_succ_cons, List.cons_append, lex, lex]
    exact lex_take r vs us _ n j (by omega) (by simpa using h2)
theorem count_take {L : Array Bool} {n i : Nat} (hi : i < n) (h : L.getD i true = false) : ((L.setIfInBounds i true).toList.take n).count false + 1 = (L.toList.take n).count false := by
  have hL : (L.setIfInBounds i true).toList.take n = (((L.toList.take n).toArray).setIfInBounds i true).toList := by
    simp [List.take_set]
  rw [hL]
  refine count_set (L := (L.toList.take n).toArray) ?_
  rw [Array.getD_eq_getD_getElem?] at h ⊢
  simpa [List.getElem?_take, hi] using h
theorem count_take_zero {L : Array Bool} {n : Nat} (h : (L.toList.take n).count false = 0) (j : Nat) (hj : j < n) : L.getD j true = true := by
  have := count_zero (L := (L.toList.take n).toArray) (by simpa using h) j
  rw [Array.getD_eq_getD_getElem?] at this ⊢
  simpa [List.getElem?_take, hj] using this
theorem count_take_pos {L : Array Bool} {n f : Nat} (h : (L.toList.take n).count false = f + 1) : ∃ i, i < n ∧ L.getD i true = false := by
  have : 0 < (L.toList.take n).count false := by omega
  rw [List.count_pos_iff] at this
  obtain ⟨i, hi, hv⟩ := List.getElem_of_mem this
  rw [List.length_take] at hi
  refine ⟨i, by omega, ?_⟩
  rw [Array.getD_eq_getD_getElem?]
  have h2 : i < L.size := by have : L.toList.length = L.size := by simp
                             omega
  rw [List.getElem_take] at hv
  simp [h2]
  simpa using hv

theorem any_of_FT {N n : Nat} {Q' : Exit → Act → World → Prop} (hR : RG .any l.toArray N) (hN : N ≤ a0.tmps.size) (hlen : vs.length = l.length) (hI : Closed I) (hF : ∀ s x w w', FS s x w → Below w.heap.size w w' → FS s x w')
    (hob : ∀ (j : Nat) o v, j < n → l[j]? = some o → vs[j]? = some v → Ob P l.toArray I fs FS o v (lex l vs a0 j)) (hn : n < l.length) (hs : Region.sinkB .any l.toArray n = true) (hc : Region.chainB .any l.toArray n = true)
    (hQ : ∀ (listed : Array Bool) b w, (∀ j, j < n → listed.getD j true = true) → (∀ t, n ≤ t → t < l.length → listed.getD t true = false) → Inv l vs fs FS I a0 listed b w → wpAny P .any l.toArray Q' (l.length - n) listed b w) :
    ∀ (f : Nat) (listed : Array Bool) (b : Act) (w : World), (listed.toList.take n).count false = f → HeadInv .any l.toArray n listed → Inv l vs fs FS I a0 listed b w → wpAny P .any l.toArray Q' (f + (l.length - n)) listed b w
  | 0, listed, b, w, hcn, hh, h => by
    rw [Nat.zero_add]
    exact hQ listed b w (fun j hj => count_take_zero hcn j hj) (fun t h1 h2 => hh.tail t h1 (by simpa using h2)) h
  | f + 1, listed, b, w, hcn, hh, h => by
    obtain ⟨i0, hi0, hu0⟩ := count_take_pos hcn
    rw [show f + 1 + (l.length - n) = (f + (l.length - n)) + 1 by omega]
    refine ⟨fun h0 => ?_, fun i hi => ?_⟩
    · have hall := ready_all hR h.lsize h0
      rw [hall i0] at hu0
      cases hu0
    have hin : i < n := by
      rcases Nat.lt_or_ge i n with h1 | h1
      · exact h1
      · exact absurd hi (tail_waits hs hc (by simpa using hn) hh _ i0 rfl hi0 hu0 i h1)
    obtain ⟨hun, o, ho, hall⟩ := mem_ready.1 hi
    have ho2 : l[i]? = some o := by simpa using ho
    have hp : ∀ e ∈ o.after, Region.binds .any e = true → listed.getD e.on true = true := fun e he hb => by
      have h1 := hall e he hb
      rw [Array.getD_eq_getD_getElem?] at h1 ⊢
      cases hx : listed[e.on]? with
      | none => rfl
      | some y => rw [hx] at h1; simpa using h1
    obtain ⟨v, hv⟩ : ∃ v, vs[i]? = some v := ⟨_, List.getElem?_eq_getElem (by rw [hlen]; exact (List.getElem?_eq_some_iff.1 ho2).1)⟩
    have hcnt := count_take hin hun
    exact op_of_F hR hN hlen h ho2 hun hp hv (hob i o v hin ho2 hv) fun u w' hb hu =>
      any_of_FT hR hN hlen hI hF hob hn hs hc hQ f _ _ w' (by omega) (hh.set hi hin) (h.next hR hN hI hF ho2 hp hb hu)

/-- ONE WALK IN THE TEXT's ORDER SERVES EVERY ORDER; the tail, behind place n, as it stands -/
theorem wp_region_FT {id : Nat} {Q : Exit → Act → World → Prop} {a : Act} {w : World} {l : List Oper} (N n : Nat) (fs : List Tmp) (FS : Tmp → Value → World → Prop) (I : World → Prop) (hm : P.follows .mixedOrders = true) (hB : rgB .any l.toArray N = true)
    (hn : decide (n < l.length) = true) (hs : Region.sinkB .any l.toArray n = true) (hc : Region.chainB .any l.toArray n = true)
    (hq : Region.seqB .any l.toArray (l.length - n) n (List.replicate n true ++ List.replicate (l.length - n) false).toArray = true)
    (hfs : (fs.all fun s => (l.take n).any fun o => o.dst == some s) = true) (hN : N ≤ a.tmps.size) (hI : Closed I) (hF : ∀ s x w w', FS s x w → Below w.heap.size w w' → FS s x w') (hC : I w.drew)
    (h : wpF P l.toArray I fs FS (fun a' => ∀ xs w', I w' → (∀ s ∈ fs, FS s (xs s) w') → wpList P l.toArray Q (l.drop n) (fill fs xs a') w') (l.take n) a) : (Code.region id l.toArray true).wp P Q a w := by
  have hR := rgB_spec hB
  have hn' : n < l.length := by simpa using hn
  obtain ⟨vs0, hlen0, hob0, hE0⟩ := wpF_vals (l.take n) a h
  have htl : (l.take n).length = n := by rw [List.length_take]; omega
  rw [htl] at hlen0 hE0
  obtain ⟨vs, hvs⟩ : ∃ vs, vs0 ++ List.replicate (l.length - n) undef = vs := ⟨_, rfl⟩
  have hlen : vs.length = l.length := by rw [← hvs, List.length_append, List.length_replicate]; omega
  have hlex : ∀ j, j ≤ n → lex (l.take n) vs0 a j = lex l vs a j := fun j hj => by rw [← hvs]; exact lex_take l vs0 _ a n j hj (by rw [hlen0, htl])
  have hob : ∀ (j : Nat) o v, j < n → l[j]? = some o → vs[j]? = some v → Ob P l.toArray I fs FS o v (lex l vs a j) := fun j o v hj ho hv => by
    rw [← hlex j (by omega)]
    refine hob0 j o v (by rw [List.getElem?_take, if_pos hj]; exact ho) ?_
    rw [← hvs, List.getElem?_append_left (by omega)] at hv
    exact hv
  rw [hlex n (Nat.le_refl _)] at hE0
  have inv0 : HeadInv .any l.toArray n (Array.replicate l.toArray.size false) :=
    ⟨by simp, fun j oj _ hl => (by rw [getD_replicate_false] at hl; cases hl), fun t _ ht => getD_in (by simpa using ht) (getD_replicate_false _ _)⟩
  refine wp_region_any hm ?_
  have key := any_of_FT (Q' := Q) (l := l) (vs := vs) (fs := fs) (FS := FS) (I := I) (a0 := a) (n := n) hR hN hlen hI hF hob hn' hs hc ?_ n (Array.replicate l.toArray.size false) a w.drew (by
      simp only [List.size_toArray, Array.toList_replicate, List.take_replicate, List.count_replicate_self]; omega) inv0 ?_
  · rw [show n + (l.length - n) = l.toArray.size by simp; omega] at key
    exact key
  · intro listed b W hall hno hinv
    have hw : ∀ s ∈ fs, ∃ x, b.tmps[s]? = some x ∧ FS s x W := fun s hs => by
      rw [List.all_eq_true] at hfs
      have h1 := hfs s hs
      rw [List.any_eq_true] at h1
      obtain ⟨o, ho, hd⟩ := h1
      obtain ⟨j, hj, rfl⟩ := List.getElem_of_mem ho
      have hj1 : j < n := by rw [List.length_take] at hj; omega
      have hj2 : j < l.length := by omega
      have hd' : (l[j]).dst = some s := by simpa using hd
      obtain ⟨v, hv⟩ : ∃ v, vs[j]? = some v := ⟨_, List.getElem?_eq_getElem (by rw [hlen]; exact hj2)⟩
      exact (hinv.ins j l[j] s v (List.getElem?_eq_getElem hj2) (hall j hj1) hd' hv).1 hs
    have hb : b = fill fs (fun s => b.tmps.getD s undef) (lex l vs a n) := by
      have ht : b.tmps = (fill fs (fun s => b.tmps.getD s undef) (lex l vs a n)).tmps := by
        apply Array.ext_getElem?
        intro d
        by_cases hd : d ∈ fs
        · obtain ⟨x, hx, _⟩ := hw d hd
          have hlt : d < (lex l vs a n).tmps.size := by
            rw [(lex_size l vs a n).1, ← hinv.size]
            exact (Array.getElem?_eq_some_iff.1 hx).1
          rw [fill_in fs _ _ d hd hlt, hx]
          simp [hx]
        · rw [fill_out fs _ _ d hd]
          by_cases hwr : ∃ (j : Nat) (oj : Oper), j < n ∧ l[j]? = some oj ∧ oj.dst = some d
          · obtain ⟨j, oj, hjn, hj, hdj⟩ := hwr
            obtain ⟨v, hv⟩ : ∃ v, vs[j]? = some v := ⟨_, List.getElem?_eq_getElem (by rw [hlen]; exact (List.getElem?_eq_some_iff.1 hj).1)⟩
            have hj' : l.toArray[j]? = some oj := by simpa using hj
            rw [(hinv.ins j oj d v hj (hall j hjn) hdj hv).2 hd]
            exact (lex_in l vs a n j oj d v hj hjn hv hdj (Nat.lt_of_lt_of_le (hR.small _ _ _ hj' hdj) hN) fun i oi hi _ hne => hR.once i j oi oj d (by simpa using hi) hj' hdj hne).symm
          · rw [lex_out l vs a n d fun i oi hi hin hdi => hwr ⟨i, oi, hin, hi, hdi⟩]
            refine hinv.out d fun i oi hi hli hdi => hwr ⟨i, oi, ?_, hi, hdi⟩
            rcases Nat.lt_or_ge i n with h1 | h1
            · exact h1
            · rw [hno i h1 (List.getElem?_eq_some_iff.1 hi).1] at hli; cases hli
      have hd : b.defers = (fill fs (fun s => b.tmps.getD s undef) (lex l vs a n)).defers := by
        rw [(fill_size ..).2, (lex_size ..).2]
        exact hinv.defers
      cases b
      simp only at ht hd
      rw [Act.mk.injEq]
      exact ⟨ht, hd⟩
    have hL : listed = (List.replicate n true ++ List.replicate (l.length - n) false).toArray := by
      apply Array.ext
      · simp [hinv.lsize]; omega
      · intro j h1 h2
        have hj : j < l.length := by rw [← hinv.lsize]; exact h1
        by_cases hjn : j < n
        · have h3 := hall j hjn
          rw [Array.getD_eq_getD_getElem?, Array.getElem?_eq_getElem h1] at h3
          simp only [List.getElem_toArray]
          rw [List.getElem_append_left (by simpa using hjn)]
          simpa using h3
        · have h3 := hno j (by omega) hj
          rw [Array.getD_eq_getD_getElem?, Array.getElem?_eq_getElem h1] at h3
          simp only [List.getElem_toArray]
          rw [List.getElem_append_right (by simpa using Nat.le_of_not_lt hjn)]
          simpa using h3
    have hE := hE0 (fun s => b.tmps.getD s undef) W hinv.cls fun s hs => by
      obtain ⟨x, hx, hf⟩ := hw s hs
      simpa [hx] using hf
    rw [← hb] at hE
    have := wpAny_of_seq (md := .any) (Q' := Q) (l.drop n) n listed b W (fun j => by simp [List.getElem?_drop]) (by rw [List.length_drop, hL]; exact hq) hE
    rwa [List.length_drop] at this
  · refine ⟨hC, rfl, rfl, fun _ _ => rfl, fun j o d v hj hlj => ?_, fun j o hj hlj => ?_, by simp⟩
    all_goals
      have hlt := (List.getElem?_eq_some_iff.1 hj).1
      rw [Array.getD_eq_getD_getElem?] at hlj
      simp [hlt] at hlj
end
end Go.Proofs.Ytcfgemdpnbimoaa

namespace Go.Proofs.Ytcfgemdpnbimoaa
open Go.RowKit Go.Shelf
set_option maxRecDepth 100000
attribute [local go_sem] Oper.semAt_some

/-- the block of the row that the scanner holds now -/
def ownS (b : Nat) (W : World) : Option Nat := (W.cell? ⟨b, 2, none⟩).bind Value.ownBlock
theorem ScanAt.ownS {w : World} {b lo p : Nat} {v : Value} {now : List Int} (h : ScanAt w b lo v p now) : ownS b w = v.ownBlock := by
  unfold Go.Proofs.Ytcfgemdpnbimoaa.ownS
  rw [h.cells.2.2]; rfl
/-- what the iterator changes behind its j-th round: the scanner; ahead of the first one its first row too -/
structure Tn (b : Nat) (own0 : Option Nat) (j : Nat) (W W' : World) : Prop where
  off : Off (fun k => k = b ∨ (j = 0 ∧ own0 = some k)) W W'
  own : ∀ g, ownS b W' = some g → W.heap.size ≤ g ∨ (j = 0 ∧ own0 = some g)
  sc : ∃ cs, W'.heap[b]? = some (.cells cs 51 (0, 0))
section
variable {b lo p j : Nat} {own0 : Option Nat} {W W1 W2 : World} {v v1 : Value} {now : List Int}
theorem Tn.step {p1 : Nat} {n1 : List Int} (h : Tn b own0 j W W1) (hat : ScanAt W1 b lo v p now) (h1 : ScTo W1 W2 b lo v v1 p1 n1) : Tn b own0 j W W2 := by
  have hs := h.off.size
  have key : ∀ g, v.ownBlock = some g → W.heap.size ≤ g ∨ (j = 0 ∧ own0 = some g) := fun g hg => h.own g (hat.ownS.trans hg)
  refine ⟨h.off.trans h1.off (fun k hk hS => ?_), fun g hg => ?_, _, h1.at'.blk⟩
  · rcases hS with h2 | h2
    · exact .inl h2
    · rcases key k h2 with h3 | h3
      · omega
      · exact .inr h3
  · rw [h1.at'.ownS] at hg
    rcases h1.row with h2 | h2 | ⟨q, h2, h3⟩
    · rw [h2] at hg; cases hg
    · exact key g (h2.symm.trans hg)
    · rw [h2] at hg; injection hg with hg; omega
theorem Tn.below (h : Tn b own0 j W W1) (hat : ScanAt W1 b lo v p now) (hb : Below W1.heap.size W1 W2) : Tn b own0 j W W2 :=
  h.step hat ⟨hat.below hb, (Off.of_below hb), .inr (.inl rfl)⟩
theorem Tn.refl (hat : ScanAt W b lo v p now) (h0 : ∀ g, v.ownBlock = some g → j = 0 ∧ own0 = some g) : Tn b own0 j W W :=
  ⟨Off.refl _ _, fun g hg => .inr (h0 g (hat.ownS.symm.trans hg)), _, hat.blk⟩
theorem Tn.keepS {S : Nat → Prop} {w : World} (h : Tn b own0 j W W1) (hS : ∀ k, S k → k < w.heap.size ∧ k ≠ b ∧ own0 ≠ some k) (hk : KeepS S w W) : KeepS S w W1 := by
  have hs := h.off.size
  refine ⟨Nat.le_trans hk.1 hs, fun k hSk => ?_⟩
  obtain ⟨h1, h2, h3⟩ := hS k hSk
  have := hk.1
  exact (h.off.block k (by omega) (fun e => by rcases e with e | e; exact h2 e; exact h3 e.2)).trans (hk.2 k hSk)
end
/-- the row that end leaves in the segment -/
theorem ScanAt.el1 {w w' : World} {b lo p : Nat} {v : Value} {now : List Int} (h : ScanAt w b lo v p now) (ho : Off (fun k => k = b) w w') : El1 5 .u8 lo w' v (held now) := by
  have hown : w'.ownsRow lo 5 1 v (held now).length ((held now).map (Value.int .u8)) := by
    refine ⟨h.own.1, ?_⟩
    rcases h.own.2 with h1 | ⟨g, cap, cur, e, hg, hh, r⟩
    · exact .inl h1
    · refine .inr ⟨g, cap, cur, e, hg, (ho.block g (Array.getElem?_eq_some_iff.1 hh).1 (fun e2 => ?_)).trans hh, r⟩
      subst e2
      exact h.apart (by rw [e]; rfl)
  rcases hown.2 with ⟨rfl, h0⟩ | ⟨g, cap, cur, rfl, hg, hh, hle, hlen, hcells⟩
  · exact ⟨none, 0, by rw [h0], by omega, fun hn => absurd (List.eq_nil_of_length_eq_zero h0) hn⟩
  · refine ⟨_, cap, rfl, hle, fun _ => ⟨g, cur, rfl, hg, hh, fun j z hj => ?_⟩⟩
    have h1 : (cur.toList.take ((held now).length * 1))[j]? = some (.int .u8 z) := by rw [hcells.2]; simp [hj]
    rw [List.getElem?_take] at h1
    split at h1
    · simpa using h1
    · cases h1

set_option maxHeartbeats 4000000 in
/-- the closure: it hands each segment to the loop's body, till the body says no more, or the part is at its end -/
theorem ended_in (n : Nat) (hn : 1 ≤ n) (m' l Bs Bb bs lo m c p0 : Nat) (S : Nat → Prop) (w : World) (A : Option Addr) (zs now0 : List Int) (v0 : Value) (hm : zs.length = m) (hl : m ≤ 1000000) (hz : Bytes zs) (hc : m ≤ c) (hnp : now0.length ≤ p0) (hp : p0 ≤ 1000000000000)
    (hat : ScanAt w bs lo v0 p0 now0) (hlo : lo ≤ w.heap.size) (hS : ∀ k, S k → k < w.heap.size ∧ k ≠ bs ∧ v0.ownBlock ≠ some k) (hBs : w.cell? ⟨Bs, 0, none⟩ = some (.pointer (some ⟨bs, 0, none⟩))) (hBb : w.cell? ⟨Bb, 0, none⟩ = some (.slice A m c)) (hSs : S Bs) (hN : NumsS .u8 w S A zs)
    (J : Nat → World → Prop) (Jx : World → Prop) (hJ : ∀ j W W', J j W → Tn bs v0.ownBlock j W W' → J j W')
    (hY : ∀ (j : Nat) (x : Nat × List Int) (v : Value) (W : World), J j W → KeepS S w W → (Fc.scan p0 now0 zs)[j]? = some x → ScanAt W bs lo (.slice none 0 0) (x.1 + x.2.length + 1) [] → El1 5 .u8 lo W v (held x.2) → (∀ g, v.ownBlock = some g → w.heap.size ≤ g ∨ v0.ownBlock = some g) →
      YieldAt Fence.wide m' Try.prog l #[.agg (sgC v (decide (255 < x.2.length)) x.2.length (x.1 : Int))] W fun e W' => (e = .returned (.bool true) ∧ J (j + 1) W' ∧ KeepS (fun k => S k ∨ k = bs) W W') ∨ (e = .returned (.bool false) ∧ Jx W'))
    (h0 : J 0 w) :
    CallsIn Fence.wide n Try.prog 28 #[.func (.yield l) #[] #[], .pointer (some ⟨Bs, 0, none⟩), .pointer (some ⟨Bb, 0, none⟩)] w fun e W' => (∃ v, e = .returned v) ∧ ((∃ v, ScanAt W' bs lo v (p0 + m) (Fc.opn now0 zs) ∧ J (Fc.scan p0 now0 zs).length W' ∧ KeepS S w W') ∨ Jx W') := by
  have HM := Lib.hid hm
  clear hm
  refine callsIn_of_wp Try.func28 rfl trivial ?_ rfl
  simp only [Try.ntmps28, List.size_toArray, List.length_cons, List.length_nil, Nat.reduceAdd, Nat.reduceSub, Array.replicate_succ, Array.replicate_zero, List.push_toArray, List.append_toArray, List.nil_append, List.cons_append]
  gi_wp2
  refine wpIn_wide.2 (wp_scope_straight ((wpIn_wide (n := n)).1 ?_))
  gi_wp2
  apply wpIn_label
  gi_wp2
  gi_loopw [4] (fun v wr => ∃ (k : Nat) (pre : List (Nat × List Int)) (now : List Int) (u : Value) (A' : Option Addr) (Wb : World), k ≤ m ∧ v = .slice A' (m - k) (c - k) ∧ NumsS .u8 w S A' (zs.drop k) ∧ now.length ≤ p0 + k ∧ Hid (Fc.scan p0 now0 zs = pre ++ Fc.scan (p0 + k) now (zs.drop k)) ∧ Hid (Fc.opn now0 zs = Fc.opn now (zs.drop k)) ∧
      Hid (J pre.length Wb) ∧ Hid (KeepS S w Wb) ∧ Tn bs v0.ownBlock pre.length Wb wr ∧ ScanAt wr bs lo u (p0 + k) now)
    (fun v _ => match v with | .slice _ q _ => q | _ => 0)
  case atStart => exact ⟨0, [], now0, v0, A, w, by omega, rfl, by rw [List.drop_zero]; exact hN, by omega, by show _ = _; rw [List.nil_append, Nat.add_zero, List.drop_zero], by show _ = _; rw [List.drop_zero], h0, KeepS.refl S w, Tn.refl hat (fun g hg => ⟨rfl, hg⟩), hat⟩
  case round =>
    obtain ⟨k, pre, now, u, A', Wb, hkm, rfl, hNk, hnl, HP, HO, HJ, HK, hT, hA⟩ := hrel
    have hkS := hT.keepS hS HK.out
    have bx1 : wr.cell? ⟨Bs, 0, none⟩ = some (.pointer (some ⟨bs, 0, none⟩)) := (hkS.cell (p := ⟨Bs, 0, none⟩) hSs).trans hBs
    obtain ⟨D, hD⟩ : ∃ D, zs.drop k = D := ⟨_, rfl⟩
    obtain ⟨q, hq⟩ : ∃ q, m - k = q := ⟨_, rfl⟩
    obtain ⟨r, hr⟩ : ∃ r, c - k = r := ⟨_, rfl⟩
    have hdl : D.length = q := by rw [← hD, List.length_drop, HM.out, hq]
    have hzD : Bytes D := by rw [← hD]; exact hz.drop k
    rw [hD] at hNk HP HO
    rw [hq, hr]
    have hqr : q ≤ r := by omega
    have hql : q ≤ 1000000 := by omega
    have hNr := hNk.keeps hkS
    have hNb : NumsS .u8 wr (fun k => k ≠ bs) A' D := hNr.more fun j hj => (hS j hj).2.1
    have hlow : lo ≤ wr.heap.size := by have := hkS.1; omega
    have I := index_any wr.heap.size A' q r D wr hdl hzD (hNr.nums fun j hj => by have := (hS j hj).1; have := hkS.1; omega)
    have hle := Cb.nz_le D
    rcases Nat.lt_or_ge (Cb.nz D) q with h4 | h4
    · have e1 : idx D = (Cb.nz D : Int) := by unfold idx; rw [if_pos (by rw [hdl]; exact h4)]
      rw [e1] at I
      obtain ⟨i, hi⟩ : ∃ i, Cb.nz D = i := ⟨_, rfl⟩
      rw [hi] at I h4 hle
      have htl : (D.take i).length = i := by rw [List.length_take]; omega
      have hi0 : ¬ (i : Int) < 0 := by omega
      have hiq : (i : Int) ≤ (q : Int) := by omega
      have hir : (i : Int) ≤ (r : Int) := by omega
      have hiq1 : (i : Int) + 1 ≤ (q : Int) := by omega
      have hqr' : (q : Int) ≤ (r : Int) := by omega
      have HS1 := Fc.scan_stepn (L := D) (by rw [hi, hdl]; exact h4) (p0 + k) now
      have HS2 := Fc.opn_stepn (L := D) (by rw [hi, hdl]; exact h4) now
      rw [hi] at HS1 HS2
      have HS1 := Lib.hid HS1
      have HS2 := Lib.hid HS2
      have HT := Lib.hid hT
      have HA := Lib.hid hA
      have HN := Lib.hid hNk
      have HNb := Lib.hid hNb
      have HDL := Lib.hid hdl
      have HQ := Lib.hid hq
      have HR := Lib.hid hr
      have HTL := Lib.hid htl
      have HD := Lib.hid hD
      have HD1 : Hid (r = i + 1 → D.drop (i + 1) = []) := fun h => List.drop_eq_nil_of_le (by omega)
      have HD2 : Hid (NumsS .u8 w S (Option.map (fun x : Addr => ({ block := x.block, off := x.off + (i + 1) } : Addr)) A') (D.drop (i + 1))) := by
        have := hNk.drop2 (a' := Option.map (fun x : Addr => ({ block := x.block, off := x.off + (i + 1) } : Addr)) A') (i := 0) (j := i + 1) (fun _ b o e => by subst e; simp)
        rwa [Nat.zero_add] at this
      clear hD hq hr hdl hle e1 hT hA hNb hNk hNr hi htl
      gi_wp2_with fail
      refine ⟨trivial, ?_⟩
      refine (callsIn_wide.2 I).mono ?_
      rintro e w1 ⟨rfl, rfl⟩
      clear I
      gi_wp2_with fail
      refine wpIn_wide.2 ?_
      refine wp_region_FT 40 5 [] (fun _ _ _ => True) (fun W => Below w1.heap.size w1 W) (by kernel_rfl) (by kernel_rfl) (by kernel_rfl) (by kernel_rfl) (by kernel_rfl) (by kernel_rfl) (by rfl) (by simp) (fun W W' h hb => h.trans (hb.mono h.size)) (fun _ _ _ _ _ _ => trivial) (Below.refl _ _).drew ?_
      simp only [List.take_succ_cons, List.take_zero, List.drop_succ_cons, List.drop_zero]
      refine wpF_load (.pointer (some ⟨bs, 0, none⟩)) rfl (by rfl) (by rfl) (by rfl) (fun W hW => by have := (hW.cell (p := ⟨Bs, 0, none⟩) (block_of_cell bx1)).trans bx1; simp [Instr.loadAt, go_sem, this]) ?_
      simp only [Act.put, List.setIfInBounds_toArray, List.set_cons_succ, List.set_cons_zero]
      repeat (refine wpF_pure rfl rfl ?_; go_big_quiet_step (fail); refine wpQuiet_nil ?_)
      intro xs W hW _
      simp only [fill]
      have hkW : KeepS S w W := hkS.trans (KeepS.of_below hW fun j hj => by have := (hS j hj).1; have := hkS.1; omega)
      have hAW := HA.out.below hW
      have hTW := HT.out.below HA.out hW
      have hNi := (HN.out.take i).keeps hkW
      have Ad := scadd_any hAW (Nat.le_trans hlow hW.size) A' i i (D.take i) HTL.out (by omega) (by omega) (hNi.more fun j hj => (hS j hj).2.1)
      have HKW := Lib.hid hkW
      have HAW := Lib.hid hAW
      have HTW := Lib.hid hTW
      clear hkW hAW hTW hNi hW bx1 HT HA HNb hkS hlow
      go_wp2_with (go_at_call 30; refine Ad.mono ?_; rintro e w2 ⟨⟨x, rfl⟩, v', hto⟩)
      clear Ad
      have hT2 := HTW.out.step HAW.out hto
      have hk2 := hT2.keepS hS HK.out
      have bx2 : w2.cell? ⟨Bs, 0, none⟩ = some (.pointer (some ⟨bs, 0, none⟩)) := (hk2.cell (p := ⟨Bs, 0, none⟩) hSs).trans hBs
      have hlen : (now ++ D.take i).length = now.length + i := by rw [List.length_append, HTL.out]
      have En := scend_any hto.at' (by omega) (by omega)
      have HT2 := Lib.hid hT2
      have HA2 := Lib.hid hto.at'
      have HK2 := Lib.hid hk2
      have HLN := Lib.hid hlen
      clear hto hT2 hk2 hlen
      gi_wp2_with fail
      all_goals
        refine ⟨trivial, ?_⟩
        refine (callsIn_wide.2 En).mono ?_
        intro e w3 hE
        unfold EndR at hE
        by_cases hem : now ++ D.take i = []
        · rw [if_pos hem] at hE
          obtain ⟨rfl, hA3, ho3⟩ := hE
          have hT3 := HT2.out.step HA2.out (hA3.to ho3 HA2.out)
          have HP3 : Hid (Fc.scan p0 now0 zs = pre ++ Fc.scan (p0 + (k + i + 1)) [] (zs.drop (k + i + 1))) := by
            show _ = _
            rw [HP.out, HS1.out, if_pos hem, List.nil_append, ← HD.out, List.drop_drop, show p0 + (k + i + 1) = p0 + k + i + 1 by omega]
            all_goals rfl
          have HO3 : Hid (Fc.opn now0 zs = Fc.opn [] (zs.drop (k + i + 1))) := by
            show _ = _
            rw [HO.out, HS2.out, ← HD.out, List.drop_drop]
            all_goals rfl
          have HT3 := Lib.hid hT3
          have HA3 := Lib.hid hA3
          clear hA3 ho3 hT3 En hem
          unfold sgC
          gi_wp2_with fail
          refine ⟨fun f hf => (by cases hf), ?_⟩
          gi_wp2
          go_roundw
          case rel =>
            have hq := HQ.out
            have hr := HR.out
            refine ⟨k + i + 1, pre, [], v', _, Wb, by omega, by congr 1 <;> omega, ?_, by simp, HP3, HO3, HJ, HK, HT3.out.below HA3.out ((Below.refl _ _).alloc (Nat.le_refl _) _), ?_⟩
            rotate_left
            · rw [show p0 + (k + i + 1) = p0 + k + i + 1 by omega]
              exact HA3.out.below ((Below.refl _ _).alloc (Nat.le_refl _) _)
            rw [show k + i + 1 = k + (i + 1) by omega, ← List.drop_drop, HD.out]
            first | exact HD2.out | (rw [HD1.out (by assumption)]; exact NumsS.nil)
          case measure => simp; omega
        · rw [if_neg hem] at hE
          have hS1 := HS1.out
          rw [if_neg hem] at hS1
          have hA2 := HA2.out
          have hT2 := HT2.out
          have hlN := HLN.out
          clear HA2 HT2 HLN HS1 En
          obtain ⟨NN, hNN⟩ : ∃ NN, now ++ D.take i = NN := ⟨_, rfl⟩
          rw [hNN] at hE hS1 hA2 hlN
          obtain ⟨Av, cv, rfl, hcv⟩ := hA2.slice
          obtain ⟨rfl, hA3, ho3⟩ := hE
          obtain ⟨pp, hpp⟩ : ∃ pp, p0 + k + i - NN.length = pp := ⟨_, rfl⟩
          obtain ⟨bl, hbl⟩ : ∃ bl, decide (255 < NN.length) = bl := ⟨_, rfl⟩
          rw [hpp] at hS1 ⊢
          have hel0 := hA2.el1 ho3
          have hT3 := hT2.step hA2 ⟨hA3, ho3.mono fun _ _ hk => .inl hk, .inl rfl⟩
          have HP3 : Hid (Fc.scan p0 now0 zs = (pre ++ [(pp, NN)]) ++ Fc.scan (p0 + (k + i + 1)) [] (zs.drop (k + i + 1))) := by
            show _ = _
            rw [HP.out, hS1, ← HD.out, List.drop_drop, List.append_assoc, show p0 + (k + i + 1) = p0 + k + i + 1 by omega]
            all_goals rfl
          have HO3 : Hid (Fc.opn now0 zs = Fc.opn [] (zs.drop (k + i + 1))) := by
            show _ = _
            rw [HO.out, HS2.out, ← HD.out, List.drop_drop]
            all_goals rfl
          have hget : (Fc.scan p0 now0 zs)[pre.length]? = some (pp, NN) := by
            rw [HP3.out, List.append_assoc, List.getElem?_append_right (Nat.le_refl _), Nat.sub_self]; rfl
          have hppe : pp + NN.length + 1 = p0 + k + i + 1 := by omega
          have hfr : ∀ g, (Value.slice Av (held NN).length cv).ownBlock = some g → w.heap.size ≤ g ∨ v0.ownBlock = some g := fun g hg => by
            have h1 := HK.out.1
            rcases hT2.own g (hA2.ownS.trans hg) with h2 | ⟨_, h2⟩
            · exact .inl (by omega)
            · exact .inr h2
          have hyr0 := fun W h1 h2 h3 h4 => hY pre.length (pp, NN) (.slice Av (held NN).length cv) W h1 h2 hget h3 h4 hfr
          simp only [hbl] at hyr0 ⊢
          rw [hppe] at hyr0
          obtain ⟨L, hL⟩ : ∃ L, NN.length = L := ⟨_, rfl⟩
          obtain ⟨H, hH⟩ : ∃ H, (held NN).length = H := ⟨_, rfl⟩
          rw [hL, hH] at hyr0
          rw [hH] at hel0
          rw [hL, hH]
          obtain ⟨w4, hw4⟩ : ∃ w4, w3.alloc (.cells (sgC (.slice Av H cv) bl (L : Nat) (pp : Int)) 44) = w4 := ⟨_, rfl⟩
          have hb4 : Below w3.heap.size w3 w4 := by rw [← hw4]; exact (Below.refl _ _).alloc (Nat.le_refl _) _
          have hT4 := hT3.below hA3 hb4
          have hA4 := hA3.below hb4
          have hk4 := hT4.keepS hS HK.out
          have hyr := hyr0 w4 (hJ _ _ _ HJ.out hT4) hk4 hA4 (hel0.below hb4)
          obtain ⟨fn, tmps, assign, body, hy, hR⟩ := yield_any (n - 1) hyr
          have HRr := Lib.hid hR
          have HA4 := Lib.hid hA4
          have HK4 := Lib.hid hk4
          have HHH := Lib.hid hH
          clear hA3 ho3 hT3 hget hb4 hT4 hA4 hk4 hel0 hyr hyr0 hfr hR hL hbl hpp hNN hS1 hA2 hT2 hlN hcv hem hppe hH
          subst hw4
          unfold sgC at HRr hy ⊢
          gi_wp2_with fail
          refine HRr.out.mono ?_
          rintro e W3 (⟨rfl, hJ3, hk3⟩ | ⟨rfl, hJx3⟩)
          · have hA5 : ScanAt W3 bs lo (.slice none 0 0) (p0 + k + i + 1) [] := ⟨(hk3.2 bs (.inr rfl)).trans HA4.out.blk, World.ownsRow_nil _ _ _ _⟩
            have HA5 := Lib.hid hA5
            have HJ3 := Lib.hid hJ3
            have HK5 := Lib.hid (HK4.out.trans (hk3.less fun _ h => .inl h))
            clear hA5 hJ3 hk3 HRr
            gi_wp2
            go_roundw
            case rel =>
              have hq := HQ.out
              have hr := HR.out
              refine ⟨k + i + 1, pre ++ [(pp, NN)], [], .slice none 0 0, _, W3, by omega, by congr 1 <;> omega, ?_, by simp, HP3, HO3, by show J _ _; rw [List.length_append, List.length_singleton]; exact HJ3.out, HK5.out, ?_, ?_⟩
              · rw [show k + i + 1 = k + (i + 1) by omega, ← List.drop_drop, HD.out]
                first | exact HD2.out | (rw [HD1.out (by assumption)]; exact NumsS.nil)
              · exact Tn.refl HA5.out (fun g hg => by simp [Value.ownBlock] at hg)
              · rw [show p0 + (k + i + 1) = p0 + k + i + 1 by omega]
                exact HA5.out
            case measure => simp; omega
          · clear HRr
            gi_wp2
            first | go_end0 | (rw [Exit.noGoto_normal]; go_end0)
            exact ⟨⟨_, rfl⟩, .inr hJx3⟩
    · have e1 : idx D = -1 := by unfold idx; rw [if_neg (by rw [hdl]; omega)]
      rw [e1] at I
      have Ad := scadd_any hA hlow A' q r D hdl (by omega) (by omega) hNb
      have HS1 : Hid (Fc.scan p0 now0 zs = pre) := by show _ = _; rw [HP.out, Fc.scan_lastn (by rw [hdl]; exact h4), List.append_nil]
      have HS2 : Hid (Fc.opn now0 zs = now ++ D) := by show _ = _; rw [HO.out, Fc.opn_lastn (by rw [hdl]; exact h4)]
      have HE : Hid (p0 + k + q = p0 + m) := by show _ = _; omega
      have HT := Lib.hid hT
      have HA := Lib.hid hA
      clear hD hq hr hdl hle h4 e1 hT hA hNb hNk hNr
      gi_wp2_with fail
      refine ⟨trivial, ?_⟩
      refine (callsIn_wide.2 I).mono ?_
      rintro e w1 ⟨rfl, rfl⟩
      clear I
      gi_wp2_with fail
      refine ⟨trivial, ?_⟩
      refine (callsIn_wide.2 Ad).mono ?_
      rintro e w2 ⟨⟨x, rfl⟩, v', hto⟩
      clear Ad
      have hfin : (∃ v, ScanAt w2 bs lo v (p0 + m) (Fc.opn now0 zs) ∧ J (Fc.scan p0 now0 zs).length w2 ∧ KeepS S w w2) := by
        have hT2 := HT.out.step HA.out hto
        refine ⟨v', ?_, ?_, hT2.keepS hS HK.out⟩
        · rw [HS2.out, ← HE.out]; exact hto.at'
        · rw [HS1.out]; exact hJ _ _ _ HJ.out hT2
      have HF := Lib.hid hfin
      clear hto hfin
      gi_wp2
      first | go_end0 | (rw [Exit.noGoto_normal]; go_end0)
      exact ⟨⟨_, rfl⟩, .inl HF.out⟩
end Go.Proofs.Ytcfgemdpnbimoaa

namespace Go.Proofs.Ytcfgemdpnbimoaa
open Go.RowKit Go.Shelf
set_option maxRecDepth 100000

theorem own_off {S : Nat → Prop} {w w' : World} {lo e size n : Nat} {v : Value} {xs : List Value} (h : w.ownsRow lo e size v n xs) (hf : Off S w w') (hn : ∀ g, v.ownBlock = some g → ¬ S g) : w'.ownsRow lo e size v n xs :=
  ⟨h.1, h.2.imp id fun ⟨g, cap, cur, hv, hg, hh, r⟩ => ⟨g, cap, cur, hv, hg, (hf.block g (Array.getElem?_eq_some_iff.1 hh).1 (hn g (by rw [hv]; rfl))).trans hh, r⟩⟩
theorem own_same {w w' : World} {lo e size n : Nat} {v : Value} {xs : List Value} (h : w.ownsRow lo e size v n xs) (hk : ∀ (k : Nat) (o : Obj), w.heap[k]? = some o → o.isCells = true → w'.heap[k]? = some o) : w'.ownsRow lo e size v n xs :=
  ⟨h.1, h.2.imp id fun ⟨g, cap, cur, hv, hg, hh, r⟩ => ⟨g, cap, cur, hv, hg, hk g _ hh rfl, r⟩⟩
/-- a segment's bytes lie in a block of Q that the scanner doesn't hold -/
def SgP (b : Nat) (Q : Nat → Prop) (W : World) (x : Sg) : Prop :=
  (held x.b).length ≤ x.cp ∧ (held x.b ≠ [] → ∃ g cur, x.a = some ⟨g, 0, none⟩ ∧ Q g ∧ W.heap[g]? = some (.cells cur 5 (0, 0)) ∧ ownS b W ≠ some g ∧ ∀ (j : Nat) (z : Int), (held x.b)[j]? = some z → cur[j]? = some (.int .u8 z))
/-- behind j rounds -/
structure Fd (w1 : World) (b Bo : Nat) (Q : Nat → Prop) (own0 : Option Nat) (full : List (Nat × List Int)) (j : Nat) (V : World) : Prop where
  box : ∃ vl xs, Boxed V Bo 29 vl ∧ V.ownsRow w1.heap.size 44 4 vl xs.length (flatS xs) ∧ xs.length = j ∧ xs.map Sg.pb = full.take j ∧ ∀ x ∈ xs, SgP b Q V x
  off : Off (fun k => k = b ∨ k = Bo ∨ own0 = some k) w1 V
  sc : ∃ cs, V.heap[b]? = some (.cells cs 51 (0, 0))
  own : ∀ g, ownS b V = some g → w1.heap.size ≤ g ∨ own0 = some g
theorem ownS_of_block {b : Nat} {V V' : World} (h : V'.heap[b]? = V.heap[b]?) : ownS b V' = ownS b V := by
  unfold ownS; rw [World.cell?_of_block (a := ⟨b, 2, none⟩) h]
section
variable {w1 V V' : World} {b Bo j : Nat} {Q : Nat → Prop} {own0 : Option Nat} {full : List (Nat × List Int)}
theorem Fd.tn (h : Fd w1 b Bo Q own0 full j V) (hb : b < w1.heap.size) (hne : b ≠ Bo) (h0 : ∀ g, own0 = some g → g < w1.heap.size ∧ g ≠ Bo) (ht : Tn b own0 j V V') : Fd w1 b Bo Q own0 full j V' := by
  obtain ⟨vl, xs, h1, h2, h3, h4, h5⟩ := h.box
  obtain ⟨cs, hcs⟩ := h.sc
  have hs1 := h.off.size
  have hs2 := ht.off.size
  refine ⟨⟨vl, xs, ?_, ?_, h3, h4, fun x hx => ?_⟩, h.off.trans ht.off (fun k hk hS => ?_), ht.sc, fun g hg => ?_⟩
  · exact (ht.off.block Bo h1.lt (fun e => by
      rcases e with e | ⟨_, e⟩
      · exact hne e.symm
      · exact (h0 Bo e).2 rfl)).trans h1
  · refine own_off h2 ht.off (fun g hg hS => ?_)
    have := (h2.lt g hg).1
    rcases hS with e | ⟨_, e⟩
    · omega
    · have := (h0 g e).1; omega
  · obtain ⟨p1, p2⟩ := h5 x hx
    refine ⟨p1, fun hn => ?_⟩
    obtain ⟨g, cur, e1, e2, e3, e4, e5⟩ := p2 hn
    have hgl := (Array.getElem?_eq_some_iff.1 e3).1
    have hj : j ≠ 0 := fun e => by
      rw [e] at h3
      rw [List.eq_nil_of_length_eq_zero h3] at hx
      cases hx
    have hgb : g ≠ b := fun e => by
      subst e
      rw [e3] at hcs
      injection hcs with hcs
      injection hcs with _ ht
      exact absurd ht (by decide)
    refine ⟨g, cur, e1, e2, (ht.off.block g hgl (fun e => ?_)).trans e3, fun e => ?_, e5⟩
    · rcases e with e | ⟨e, _⟩
      · exact hgb e
      · exact hj e
    · rcases ht.own g e with e | ⟨e, _⟩
      · omega
      · exact hj e
  · rcases hS with e | ⟨_, e⟩
    · exact .inl e
    · exact .inr (.inr e)
  · rcases ht.own g hg with e | ⟨_, e⟩
    · exact .inl (by omega)
    · exact .inr e
theorem Fd.same (h : Fd w1 b Bo Q own0 full j V) (hB : Below w1.heap.size V V') (hk : ∀ (k : Nat) (o : Obj), V.heap[k]? = some o → o.isCells = true → V'.heap[k]? = some o) (hb : b < w1.heap.size) : Fd w1 b Bo Q own0 full j V' := by
  obtain ⟨vl, xs, h1, h2, h3, h4, h5⟩ := h.box
  obtain ⟨cs, hcs⟩ := h.sc
  have ho : ownS b V' = ownS b V := ownS_of_block (hB.block b hb)
  refine ⟨⟨vl, xs, hk _ _ h1 rfl, own_same h2 hk, h3, h4, fun x hx => ?_⟩, ?_, ⟨cs, hk _ _ hcs rfl⟩, fun g hg => h.own g (ho ▸ hg)⟩
  · obtain ⟨p1, p2⟩ := h5 x hx
    refine ⟨p1, fun hn => ?_⟩
    obtain ⟨g, cur, e1, e2, e3, e4, e5⟩ := p2 hn
    exact ⟨g, cur, e1, e2, hk _ _ e3 rfl, by rw [ho]; exact e4, e5⟩
  · exact ⟨hB.os.trans h.off.os, hB.tape.trans h.off.tape, hB.output.trans h.off.output, Nat.le_trans h.off.size hB.size, fun k hk hn => (hB.block k hk).trans (h.off.block k hk hn)⟩
theorem Fd.putObj {l : Nat} {o o' : Obj} (h : Fd w1 b Bo Q own0 full j V) (hb : b < w1.heap.size) (hl : w1.heap.size ≤ l) (ho : V.heap[l]? = some o) (hc : o.isCells = false) : Fd w1 b Bo Q own0 full j (V.putObj l o') :=
  h.same (below_put V o' hl) (fun k p hp hpc => (World.putObj_heap_other (fun e => by
    subst e
    rw [hp] at ho
    injection ho with ho
    subst ho
    rw [hpc] at hc; cases hc)).trans hp) hb
theorem Fd.below (h : Fd w1 b Bo Q own0 full j V) (hb : b < w1.heap.size) (hB : Below V.heap.size V V') : Fd w1 b Bo Q own0 full j V' :=
  h.same (hB.mono h.off.size) (fun k _ hp _ => (hB.block k (Array.getElem?_eq_some_iff.1 hp).1).trans hp) hb
/-- a round: the list grows -/
theorem Fd.push {V1 V4 : World} {vl vl' : Value} {xs : List Sg} {x : Sg} (h : Fd w1 b Bo Q own0 full j V) (hb : b < w1.heap.size) (hBo : Bo < w1.heap.size) (hne : b ≠ Bo) (h1 : Boxed V Bo 29 vl) (h2 : V.ownsRow w1.heap.size 44 4 vl xs.length (flatS xs)) (h3 : xs.length = j) (h4 : xs.map Sg.pb = full.take j) (h5 : ∀ x ∈ xs, SgP b Q V x)
    (hx : SgP b Q V x) (hf : full[j]? = some x.pb) (hB : Below V.heap.size V V1) (hown : V4.ownsRow w1.heap.size 44 4 vl' (xs.length + 1) (flatS xs ++ x.cs.toList)) (hg : V1.grownBy V4 vl.ownBlock) :
    Boxed V4 Bo 29 vl ∧ Fd w1 b Bo Q own0 full (j + 1) (V4.setCell ⟨Bo, 0, none⟩ vl') ∧ KeepsFrom w1.heap.size V (V4.setCell ⟨Bo, 0, none⟩ vl') ∧
      (∀ S : Nat → Prop, (∀ k, S k → k < w1.heap.size ∧ k ≠ Bo) → KeepS S V (V4.setCell ⟨Bo, 0, none⟩ vl')) := by
  have hs0 := h.off.size
  have hs1 := hB.size
  have hs4 := hg.size
  have hlt := h2.lt
  -- what isn't the list's row or its box
  have key : ∀ (k : Nat), k < V.heap.size → k ≠ Bo → vl.ownBlock ≠ some k → (V4.setCell ⟨Bo, 0, none⟩ vl').heap[k]? = V.heap[k]? := fun k hk h6 h7 =>
    (Below.heap_setCell V4 ⟨Bo, 0, none⟩ vl' k h6).trans ((hg.block k (by omega) (fun e => h7 e.symm)).trans (hB.block k hk))
  have hlo : ∀ k, k < w1.heap.size → vl.ownBlock ≠ some k := fun k hk e => by have := (hlt k e).1; omega
  have hb4 : Boxed V4 Bo 29 vl := (hg.block Bo (by omega) (fun e => hlo Bo hBo e.symm)).trans ((hB.block Bo (by omega)).trans h1)
  have hbk := key b (by omega) hne (hlo b hb)
  have hoS : ownS b (V4.setCell ⟨Bo, 0, none⟩ vl') = ownS b V := ownS_of_block hbk
  have hsz : V.heap.size ≤ (V4.setCell ⟨Bo, 0, none⟩ vl').heap.size := by simp only [World.setCell, Array.size_modify]; omega
  obtain ⟨cs, hcs⟩ := h.sc
  have hpay : ∀ y, SgP b Q V y → SgP b Q (V4.setCell ⟨Bo, 0, none⟩ vl') y := fun y ⟨p1, p2⟩ => by
    refine ⟨p1, fun hn => ?_⟩
    obtain ⟨g, cur, e1, e2, e3, e4, e5⟩ := p2 hn
    have hgl := (Array.getElem?_eq_some_iff.1 e3).1
    refine ⟨g, cur, e1, e2, (key g hgl (fun e => ?_) (fun e => ?_)).trans e3, by rw [hoS]; exact e4, e5⟩
    · subst e
      have h9 : V.heap[g]? = some (.cells #[vl] 29 (0, 0)) := h1
      rw [e3] at h9
      injection h9 with h9
      injection h9 with _ ht
      exact absurd ht (by decide)
    · rcases h2.2 with ⟨rfl, _⟩ | ⟨q, cap, cu, rfl, _, hh, _⟩
      · simp [Value.ownBlock] at e
      · simp only [Value.ownBlock, Option.some.injEq] at e
        subst e
        rw [hh] at e3
        injection e3 with e3
        injection e3 with _ ht
        exact absurd ht (by decide)
  refine ⟨hb4, ⟨⟨vl', xs ++ [x], hb4.set vl', ?_, by simp [h3], ?_, fun y hy => ?_⟩, ?_, ⟨cs, hbk.trans hcs⟩, fun g hg' => h.own g (hoS ▸ hg')⟩, ⟨hsz, fun k o hk ho hc => ?_⟩, fun S hS => ⟨hsz, fun k hk => ?_⟩⟩
  · rw [List.length_append, List.length_singleton, flatS_push]
    refine ⟨hown.1, hown.2.imp id fun ⟨g, cap, cur, hv, hg', hh, r⟩ => ⟨g, cap, cur, hv, hg', (Below.heap_setCell V4 ⟨Bo, 0, none⟩ _ g (by simp only; omega)).trans hh, r⟩⟩
  · rw [List.map_append, h4, List.take_add_one, hf]; rfl
  · rcases List.mem_append.1 hy with hy | hy
    · exact hpay y (h5 y hy)
    · obtain rfl : y = x := by simpa using hy
      exact hpay y hx
  · refine ⟨hg.os.trans (hB.os.trans h.off.os), hg.tape.trans (hB.tape.trans h.off.tape), hg.output.trans (hB.output.trans h.off.output), by omega, fun k hk hn => ?_⟩
    exact (key k (by omega) (fun e => hn (.inr (.inl e))) (hlo k hk)).trans (h.off.block k hk hn)
  · have hkl := (Array.getElem?_eq_some_iff.1 ho).1
    refine (key k hkl (by omega) (fun e => ?_)).trans ho
    rcases h2.2 with ⟨rfl, _⟩ | ⟨q, cap, cu, rfl, _, hh, _⟩
    · simp [Value.ownBlock] at e
    · simp only [Value.ownBlock, Option.some.injEq] at e
      subst e
      rw [hh] at ho
      injection ho with ho
      subst ho
      cases hc
  · obtain ⟨e1, e2⟩ := hS k hk
    exact key k (by omega) e2 (hlo k e1)
end
/-- append of structs onto a row of the call's own, inside a fence -/
theorem wpListIn_append_own_at {F : Fence} {nF : Nat} {P : Program} {w : World} {ops : Array Oper} {rest : List Oper} {o : Oper} {a : Act} {Q : Exit → Act → World → Prop} (hg : o.guard = none) (s x : Operand) (t : TypeId)
    (hop : o.op = Op.call { callee := Callee.builtin Builtin.append, args := #[s, x], argTypes := #[t, t] })
    (base : Nat) (e : TypeId) (i : TypeInfo) (z : Value) (size bytes : Nat) (ht : P.underlying t = some (.slice e)) (hi : P.info? e = some i) (hz : i.zero = some z) (hsize : i.size = size) (hby : i.bytes = bytes) (hzs : z.cells.size = size) (hsz : 0 < size)
    (v : Value) (n : Nat) (xs : List Value) (hs : a.eval s = v) (hown : w.ownsRow base e size v n xs) (ad : Addr) (m c : Nat) (news : List Value) (hx : a.eval x = .slice (some ad) m c) (hl : news.length = m * size) (hnews : ∀ j u, news[j]? = some u → w.cell? (ad.add j) = some u) (h1 : ∀ u ∈ news, u.oneCell' = true)
    (h63 : n + m ≤ maxLen) (hbytes : (n + m) * bytes ≤ 140737488355328) (hbase : base ≤ w.heap.size)
    (hK : ∀ v' w', w'.ownsRow base e size v' (n + m) (xs ++ news) → w.grownBy w' v.ownBlock → (v'.ownBlock = v.ownBlock ∨ v'.ownBlock = some w.heap.size) → wpListIn F nF P ops Q rest (a.put o.dst v') w') :
    wpListIn F nF P ops Q (o :: rest) a w := by
  refine wpListIn_plain hg fun K hK' => ?_
  obtain ⟨v', w', hrun, r1, r2, _, r4⟩ := run_append_own_at (P := P) (w := w) base t o.type e i z size bytes ht hi hz hsize hby hzs hsz v n xs hown ad m c news hl hnews h1 h63 hbytes hbase
  unfold Oper.wpIn
  refine ⟨?_, ?_⟩
  · simp [Oper.about, hop, resolve, Target.leads, Sem.run_pure]
  · rw [Oper.semAt_plain F _ _ (by rw [hop]; intro c hc'; cases hc')]
    simp [execOp, hop, resolve, invoke, builtin, hs, hx, hrun, Result.andThen]
    exact hK' _ _ (hK v' w' r1 r2 r4)
end Go.Proofs.Ytcfgemdpnbimoaa

namespace Go.Proofs.Ytcfgemdpnbimoaa
open Go.RowKit

section
variable {F : Fence} {n : Nat} {P : Program} {g : Operand} {ps : Array Tmp} {assign body : Code} {Q : Exit → Act → World → Prop} {a : Act} {w : World}
theorem range_stopa {α : Type} (hro : F.round = none) (h1 : 1 ≤ n) {gf : Nat} {lb : Array Value} (hg : a.eval g = .func (.func gf) #[] lb) (hFg : F.fn gf) (eg : ∀ args w, (callFunc gf args).run P w = .ok (.enter gf args) w)
    (enc : α → Array Value) (hps : ∀ x, (enc x).size = ps.size) (Rd : Nat → α → World → Prop) (Ra : Nat → α → Act → World → Prop) (Dn : Nat → World → Prop) (Sx : Code → World → Prop) (Kp : World → World → Prop) (N : Nat)
    (hRp : ∀ j x b W l o o', Ra j x b W → w.heap.size ≤ l → W.heap[l]? = some o → o.isCells = false → Ra j x b (W.putObj l o'))
    (hDp : ∀ j W l o o', Dn j W → w.heap.size ≤ l → W.heap[l]? = some o → o.isCells = false → Dn j (W.putObj l o'))
    (hSp : ∀ c W l o o', Sx c W → w.heap.size ≤ l → W.heap[l]? = some o → o.isCells = false → Sx c (W.putObj l o'))
    (hKt : ∀ A B C, Kp A B → Kp B C → Kp A C)
    (hKp : ∀ W l o o', w.heap.size ≤ l → W.heap[l]? = some o → o.isCells = false → Kp W (W.putObj l o'))
    (hD0 : ∀ o, Dn 0 ((w.alloc (.deferred (some []))).alloc o))
    (hassign : ∀ (l j : Nat) (x : α) (W : World) (K : Act → World → Prop), Rd j x W → j < N → (∀ b W', Ra j x b W' → KeepsFrom w.heap.size W W' → Kp W W' → K b W') →
      assign.wpIn (F.inRound l) (n - 1 - 1) P (Exit.then K (fun _ _ _ => False)) { tmps := (ps.zip (enc x)).foldl (fun t (p, v) => t.setIfInBounds p v) a.tmps, defers := [] } W)
    (hbody : ∀ (l j : Nat) (x : α) (b : Act) (W : World), w.heap.size ≤ l → Ra j x b W → j < N → body.wpIn (F.inRound l) (n - 1 - 1) P (stopPost w.heap.size Kp (Dn (j + 1)) Sx W) b W)
    (hiter : ∀ (Bk : World → Prop) (X : World → Prop) (l : Nat) (W : World), (∀ A B, Bk A → A.heap.size ≤ B.heap.size → (∀ k, w.heap.size ≤ k → k < w.heap.size + 2 → B.heap[k]? = A.heap[k]?) → Bk B) → (∀ A, Bk A → w.heap.size + 2 ≤ A.heap.size) →
      (∀ A l' o o', X A → w.heap.size + 2 ≤ l' → A.heap[l']? = some o → o.isCells = false → X (A.putObj l' o')) → l < w.heap.size + 2 → Dn 0 W → Bk W →
      (∀ j x W1, Rd j x W1 → Bk W1 → j < N → YieldAt F (n - 1 - 1) P l (enc x) W1 (YPost w.heap.size l Kp (fun W2 => Dn (j + 1) W2 ∧ Bk W2) X W1)) →
      CallsIn F (n - 1) P gf (#[.func (.yield l) #[] #[]] ++ lb) W fun e W' => (∃ v, e = .returned v) ∧ ((Dn N W' ∧ Bk W') ∨ X W'))
    (hdone : ∀ (D : Nat) (W : World), w.heap.size ≤ D → Dn N W → W.heap[D]? = some (.deferred (some [])) → Q .normal { a with defers := { target := .collected D, args := #[] } :: a.defers } W)
    (hstop : ∀ (D : Nat) (c : Code) (W : World), w.heap.size ≤ D → Sx c W → W.heap[D]? = some (.deferred (some [])) → c.wpIn F n P Q { a with defers := { target := .collected D, args := #[] } :: a.defers } W) :
    (Code.rangeFunc g ps assign body).wpIn F n P Q a w := by
  apply wpIn_rangeFunc
  intro fn hfn
  rw [hro]
  have hent := run_enterLoop_outer (P := P) (w := w) fn a.tmps ps assign body
  obtain ⟨lp, hlp⟩ : ∃ lp : LoopState → Option Code → Loop, lp = fun st pe => { state := st, pending := pe, fn := fn, tmps := a.tmps, params := ps, assign := assign, body := body, defers := w.heap.size } := ⟨_, rfl⟩
  have hlp0 : ({ state := .ready, pending := none, fn, tmps := a.tmps, params := ps, assign, body, defers := w.heap.size } : Loop) = lp .ready none := by rw [hlp]
  rw [hlp0] at hent
  have hD0' := hD0 (.loop (lp .ready none))
  have hl0 : ((w.alloc (.deferred (some []))).alloc (.loop (lp .ready none))).heap[w.heap.size + 1]? = some (.loop (lp .ready none)) := by
    have h := World.alloc_heap_new (w.alloc (.deferred (some []))) (.loop (lp .ready none))
    rwa [World.size_alloc] at h
  have hd0 : ((w.alloc (.deferred (some []))).alloc (.loop (lp .ready none))).heap[w.heap.size]? = some (.deferred (some [])) := (Below.heap_alloc _ _ _ (by simp)).trans (World.alloc_heap_new w _)
  generalize (w.alloc (.deferred (some []))).alloc (.loop (lp .ready none)) = W0 at *
  refine ⟨_, _, _, { target := .fn (.func gf) lb, args := #[.func (.yield (w.heap.size + 1)) #[] #[]] }, W0, gf, #[.func (.yield (w.heap.size + 1)) #[] #[]] ++ lb, W0, hent, ?_, ?_, ?_, fun _ => h1, ?_⟩
  · simp only [resolve, hg]
    simp [go_sem]
  · intro f' hf'
    simp [Target.leads] at hf'
    subst hf'
    exact hFg
  · simp [invoke, go_sem, eg]
  let Bk : World → Prop := fun W => W.heap[w.heap.size + 1]? = some (.loop (lp .ready none)) ∧ W.heap[w.heap.size]? = some (.deferred (some []))
  let X : World → Prop := fun W => ∃ c, Sx c W ∧ W.heap[w.heap.size + 1]? = some (.loop (lp .done (some c))) ∧ W.heap[w.heap.size]? = some (.deferred (some []))
  have hBlt : ∀ A, Bk A → w.heap.size + 2 ≤ A.heap.size := fun A h => (Array.getElem?_eq_some_iff.1 h.1).1
  refine (hiter Bk X (w.heap.size + 1) W0 (fun A B hA _ hAB => ⟨(hAB _ (by omega) (by omega)).trans hA.1, (hAB _ (by omega) (by omega)).trans hA.2⟩) hBlt
    (fun A l' o o' hA hl' ho hc => by
      obtain ⟨c, h1, h2, h3⟩ := hA
      exact ⟨c, hSp c A l' o o' h1 (by omega) ho hc, (World.putObj_heap_other (by omega)).trans h2, (World.putObj_heap_other (by omega)).trans h3⟩) (by omega) hD0' ⟨hl0, hd0⟩ ?_).mono ?_
  · rintro j x W1 hR hB hj
    have hsz := hBlt W1 hB
    have hy := run_yield (P := P) (args := enc x) hB.1 (by rw [hlp]; exact hps x)
    rw [hlp] at hy
    refine ⟨fn, _, assign, body, hy, roundIn_of_wpIn hfn (hassign _ j x W1 _ hR hj (fun b2 W2 hR2 hkf hKp2 => ?_))⟩
    have hB2 : Bk W2 := ⟨hkf.same _ _ (by omega) hB.1 rfl, hkf.same _ _ (Nat.le_refl _) hB.2 rfl⟩
    have hsz2 := hBlt W2 hB2
    have hbeg := run_beginRound (P := P) hB2.1 (by rw [hlp])
    rw [hlp] at hbeg
    refine ⟨_, hbeg, ?_⟩
    refine wpIn_mono (hbody _ j x b2 _ (by omega) (hRp j x b2 W2 _ _ _ hR2 (by omega) hB2.1 rfl) hj) ?_
    have b1 : (W2.putObj (w.heap.size + 1) (.loop { lp .ready none with state := .busy })).heap[w.heap.size + 1]? = some (.loop { lp .ready none with state := .busy }) := World.putObj_heap_same (by omega)
    have b2 : (W2.putObj (w.heap.size + 1) (.loop { lp .ready none with state := .busy })).heap[w.heap.size]? = some (.deferred (some [])) := (World.putObj_heap_other (by omega)).trans hB2.2
    have hK1 := hKp W2 (w.heap.size + 1) _ (.loop { lp .ready none with state := .busy }) (by omega) hB2.1 rfl
    rw [hlp] at b1 b2 hK1
    have fin : ∀ (jump : Option Code) (W3 : World), KeepsFrom w.heap.size (W2.putObj (w.heap.size + 1) (.loop { lp .ready none with state := .busy })) W3 →
        (Instr.endRound (w.heap.size + 1) jump).run P W3 = .ok (.bool jump.isNone) (W3.putObj (w.heap.size + 1) (.loop (lp (if jump.isNone then .ready else .done) jump))) ∧
        W3.heap[w.heap.size + 1]? = some (.loop { lp .ready none with state := .busy }) ∧
        (W3.putObj (w.heap.size + 1) (.loop (lp (if jump.isNone then .ready else .done) jump))).heap[w.heap.size + 1]? = some (.loop (lp (if jump.isNone then .ready else .done) jump)) ∧
        (W3.putObj (w.heap.size + 1) (.loop (lp (if jump.isNone then .ready else .done) jump))).heap[w.heap.size]? = some (.deferred (some [])) ∧
        KeepsBut w.heap.size (w.heap.size + 1) W1 (W3.putObj (w.heap.size + 1) (.loop (lp (if jump.isNone then .ready else .done) jump))) := fun jump W3 hk => by
      rw [hlp] at hk ⊢
      have c1 := hk.same _ _ (by omega) b1 rfl
      have c2 := hk.same _ _ (Nat.le_refl _) b2 rfl
      have hend := run_endRound (P := P) jump c1
      refine ⟨hend, c1, World.putObj_heap_same (Array.getElem?_eq_some_iff.1 c1).1, (World.putObj_heap_other (by omega)).trans c2, ?_, ?_⟩
      · have h1 := hk.size
        have h2 := hkf.size
        simp only [World.putObj, Array.size_setIfInBounds] at h1 ⊢
        omega
      · intro k o hkl hk2 ho hc
        exact (World.putObj_heap_other (by omega)).trans (hk.same k o hk2 ((World.putObj_heap_other (by omega)).trans (hkf.same k o hk2 ho hc)) hc)
    rintro e a3 W3 hp
    rw [hlp] at fin
    cases e with
    | normal =>
      obtain ⟨hk, hDn, hKp3⟩ := hp
      obtain ⟨hend, c1, d1, d2, hkb⟩ := fin none W3 hk
      exact ⟨_, _, hend, .inl ⟨rfl, ⟨hDp _ _ _ _ _ hDn (by omega) c1 rfl, by rw [hlp]; exact d1, d2⟩, hKt _ _ _ hKp2 (hKt _ _ _ hK1 (hKt _ _ _ hKp3 (hKp W3 _ _ _ (by omega) c1 rfl))), hkb⟩⟩
    | ret =>
      obtain ⟨hk, hx⟩ := hp
      obtain ⟨hend, c1, d1, d2, hkb⟩ := fin (some .ret) W3 hk
      exact ⟨_, _, hend, .inr ⟨rfl, ⟨.ret, hSp _ _ _ _ _ hx (by omega) c1 rfl, by rw [hlp]; exact d1, d2⟩, hkb⟩⟩
    | exit id =>
      obtain ⟨hk, hx⟩ := hp
      obtain ⟨hend, c1, d1, d2, hkb⟩ := fin (some (.exit id)) W3 hk
      exact ⟨_, _, hend, .inr ⟨rfl, ⟨.exit id, hSp _ _ _ _ _ hx (by omega) c1 rfl, by rw [hlp]; exact d1, d2⟩, hkb⟩⟩
    | goto t => exact hp.elim
    | panic ch => exact hp.elim
    | outgrown => exact hp.elim
  · rintro e W2 ⟨⟨v, rfl⟩, ⟨hDN, hB⟩ | ⟨c, hc, hl, hd⟩⟩
    · have hend := run_endLoop (P := P) hB.1 (by rw [hlp]; simp)
      rw [hlp] at hend
      exact ⟨none, _, hend, hdone _ _ (Nat.le_refl _) (hDp _ _ _ _ _ hDN (by omega) hB.1 rfl) ((World.putObj_heap_other (by omega)).trans hB.2)⟩
    · have hend := run_endLoop (P := P) hl (by rw [hlp]; simp)
      rw [hlp] at hend
      exact ⟨some c, _, hend, hstop _ c _ (Nat.le_refl _) (hSp _ _ _ _ _ hc (by omega) hl rfl) ((World.putObj_heap_other (by omega)).trans hd)⟩
end
end Go.Proofs.Ytcfgemdpnbimoaa

namespace Go.Proofs.Ytcfgemdpnbimoaa
open Go.RowKit

section
variable {F : Fence} {n : Nat} {P : Program} {g : Operand} {ps : Array Tmp} {assign body : Code} {Q : Exit → Act → World → Prop} {a : Act} {w : World}
theorem range_stopb {α : Type} (hro : F.round = none) (h1 : 1 ≤ n) {gf : Nat} {lb : Array Value} (hg : a.eval g = .func (.func gf) #[] lb) (hFg : F.fn gf) (eg : ∀ args w, (callFunc gf args).run P w = .ok (.enter gf args) w)
    (enc : α → Array Value) (hps : ∀ x, (enc x).size = ps.size) (Rd : Nat → α → World → Prop) (Fx : Nat → α → Nat → World → Prop) (Dn : Nat → World → Prop) (Sx : Code → World → Prop) (Kp : World → World → Prop) (N : Nat)
    (hFp : ∀ j x q W l o o', Fx j x q W → w.heap.size ≤ l → W.heap[l]? = some o → o.isCells = false → Fx j x q (W.putObj l o'))
    (hDp : ∀ j W l o o', Dn j W → w.heap.size ≤ l → W.heap[l]? = some o → o.isCells = false → Dn j (W.putObj l o'))
    (hSp : ∀ c W l o o', Sx c W → w.heap.size ≤ l → W.heap[l]? = some o → o.isCells = false → Sx c (W.putObj l o'))
    (hKt : ∀ A B C, Kp A B → Kp B C → Kp A C)
    (hKp : ∀ W l o o', w.heap.size ≤ l → W.heap[l]? = some o → o.isCells = false → Kp W (W.putObj l o'))
    (hD0 : ∀ o, Dn 0 ((w.alloc (.deferred (some []))).alloc o))
    (hround : ∀ (l j : Nat) (x : α) (W : World) (K : Act → World → Prop), Rd j x W → j < N →
      (∀ b q W', Fx j x q W' → KeepsFrom w.heap.size W W' → Kp W W' → (∀ l V, w.heap.size ≤ l → Fx j x q V → body.wpIn (F.inRound l) (n - 1 - 1) P (stopPost w.heap.size Kp (Dn (j + 1)) Sx V) b V) → K b W') →
      assign.wpIn (F.inRound l) (n - 1 - 1) P (Exit.then K (fun _ _ _ => False)) { tmps := (ps.zip (enc x)).foldl (fun t (p, v) => t.setIfInBounds p v) a.tmps, defers := [] } W)
    (hiter : ∀ (Bk : World → Prop) (X : World → Prop) (l : Nat) (W : World), (∀ A B, Bk A → A.heap.size ≤ B.heap.size → (∀ k, w.heap.size ≤ k → k < w.heap.size + 2 → B.heap[k]? = A.heap[k]?) → Bk B) → (∀ A, Bk A → w.heap.size + 2 ≤ A.heap.size) →
      (∀ A l' o o', X A → w.heap.size + 2 ≤ l' → A.heap[l']? = some o → o.isCells = false → X (A.putObj l' o')) → l < w.heap.size + 2 → Dn 0 W → Bk W →
      (∀ j x W1, Rd j x W1 → Bk W1 → j < N → YieldAt F (n - 1 - 1) P l (enc x) W1 (YPost w.heap.size l Kp (fun W2 => Dn (j + 1) W2 ∧ Bk W2) X W1)) →
      CallsIn F (n - 1) P gf (#[.func (.yield l) #[] #[]] ++ lb) W fun e W' => (∃ v, e = .returned v) ∧ ((Dn N W' ∧ Bk W') ∨ X W'))
    (hdone : ∀ (D : Nat) (W : World), w.heap.size ≤ D → Dn N W → W.heap[D]? = some (.deferred (some [])) → Q .normal { a with defers := { target := .collected D, args := #[] } :: a.defers } W)
    (hstop : ∀ (D : Nat) (c : Code) (W : World), w.heap.size ≤ D → Sx c W → W.heap[D]? = some (.deferred (some [])) → c.wpIn F n P Q { a with defers := { target := .collected D, args := #[] } :: a.defers } W) :
    (Code.rangeFunc g ps assign body).wpIn F n P Q a w :=
  range_stopa hro h1 hg hFg eg enc hps Rd
    (fun j x b W => ∃ q, Fx j x q W ∧ ∀ l V, w.heap.size ≤ l → Fx j x q V → body.wpIn (F.inRound l) (n - 1 - 1) P (stopPost w.heap.size Kp (Dn (j + 1)) Sx V) b V) Dn Sx Kp N
    (fun j x _ W l o o' h hl ho hc => by
      obtain ⟨q, h1, h2⟩ := h
      exact ⟨q, hFp j x q W l o o' h1 hl ho hc, h2⟩)
    hDp hSp hKt hKp hD0
    (fun l j x W K hr hj hK => hround l j x W K hr hj fun b q W' h1 h2 h3 h4 => hK b W' ⟨q, h1, h4⟩ h2 h3)
    (fun l _ _ _ W hl h _ => by
      obtain ⟨q, h1, h2⟩ := h
      exact h2 l W hl h1)
    hiter hdone hstop
end
end Go.Proofs.Ytcfgemdpnbimoaa
