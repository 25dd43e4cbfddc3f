/-
  A part of the texts of one proof, put together: Q5, Q6, FrG, FenN, FenC, FenK, LBox, Clone, FenS, Ls1, FenW, FrF, CutN, CutC, IInfo, FrV, FrM, CutD, CutG, CutP, ScN, KpA, FenR, ScM, ScP, Q7, Q10, ScE.
-/
import Derived.Below
import Derived.WalkSpells
import Derived.RangeFuncBound
import Derived.RangeFuncCalls
import Derived.RangeFuncLeaves
import Derived.Shelf.Abstract
import Derived.Shelf.RegionOpen
import Derived.OwnWalkIn
import Derived.TacticsInMore
import Derived.LoopNIn
import Derived.LoopIn
import Derived.OpenShut
import Derived.Maps.AppendAt
import Derived.WalkLawsBesides
import Derived.BigQuiet
import Derived.Deep.QuietTactic
import Derived.Deep.LoopGhost
import Derived.Lib.SliceRun
import Derived.Lib.Hide
import Derived.WalkMore
import Derived.Test.YtmdjgidbfcfdnaaRows
import Derived.Test.YtmdjgidbfcfdnaaMB1
namespace Go.Proofs.Ytmdjgidbfcfdnaa
open Go.RowKit
section
variable {P : Program} {ops : Array Oper} {md : Region.Mode}

/-- it stands while memory grows -/
def Closed (I : World → Prop) : Prop := ∀ w w', I w → Below w.heap.size w w' → I w'
def calmUpon (P : Program) (w : World) (v : Value) : Result Next → Prop
  | .ok (.value u) w' => w' = w ∧ u = v
  | .ok .skip w' => w' = w ∧ v = undef
  | .ok (.enter f args) w' => w' = w ∧ Calls P f args w (fun e w'' => e = .returned v ∧ Below w.heap.size w w'')
  | _ => False
def srcUpon (P : Program) (F : Value → World → Prop) (w : World) : Result Next → Prop
  | .ok (.value u) w' => F u w' ∧ Below w.heap.size w w'
  | .ok (.enter f args) w' => w' = w ∧ Calls P f args w (fun e w'' => ∃ u, e = .returned u ∧ F u w'' ∧ Below w.heap.size w w'')
  | _ => False
/-- one value, in every world of the class -/
def CalmIn (P : Program) (ops : Array Oper) (I : World → Prop) (o : Oper) (v : Value) (a : Act) : Prop :=
  (Region.wanted o (yielded ops a.tmps) = true ∧ ∀ w, I w → calmUpon P w v ((execOp a.eval o).run P w)) ∨ (Region.wanted o (yielded ops a.tmps) = false ∧ v = undef)
theorem put_same {a : Act} {d : Tmp} (v : Value) (h : d < a.tmps.size) : (a.put (some d) v).tmps[d]? = some v := by simp [Act.put, h]
theorem put_other {a : Act} {x : Option Tmp} {d : Tmp} (v : Value) (h : x ≠ some d) : (a.put x v).tmps[d]? = a.tmps[d]? := by
  cases x with
  | none => rfl
  | some e =>
    have hne : e ≠ d := fun he => h (by rw [he])
    simp [Act.put, Array.getElem?_setIfInBounds_ne hne]
theorem put_size (a : Act) (x : Option Tmp) (v : Value) : (a.put x v).tmps.size = a.tmps.size := by cases x <;> simp [Act.put]
theorem put_defers (a : Act) (x : Option Tmp) (v : Value) : (a.put x v).defers = a.defers := by cases x <;> rfl
def fill : List Tmp → (Tmp → Value) → Act → Act
  | [], _, a => a
  | s :: r, xs, a => fill r xs (a.put (some s) (xs s))
theorem fill_size : ∀ (fs : List Tmp) (xs : Tmp → Value) (a : Act), (fill fs xs a).tmps.size = a.tmps.size ∧ (fill fs xs a).defers = a.defers
  | [], _, _ => ⟨rfl, rfl⟩
  | s :: r, xs, a => by
    obtain ⟨h1, h2⟩ := fill_size r xs (a.put (some s) (xs s))
    exact ⟨h1.trans (put_size ..), h2.trans (put_defers ..)⟩
theorem fill_out : ∀ (fs : List Tmp) (xs : Tmp → Value) (a : Act) (d : Tmp), d ∉ fs → (fill fs xs a).tmps[d]? = a.tmps[d]?
  | [], _, _, _, _ => rfl
  | s :: r, xs, a, d, h => by
    rw [List.mem_cons, not_or] at h
    exact (fill_out r xs _ d h.2).trans (put_other _ (by simpa using fun e => h.1 e.symm))
theorem fill_in : ∀ (fs : List Tmp) (xs : Tmp → Value) (a : Act) (d : Tmp), d ∈ fs → d < a.tmps.size → (fill fs xs a).tmps[d]? = some (xs d)
  | s :: r, xs, a, d, h, hlt => by
    by_cases hr : d ∈ r
    · exact fill_in r xs _ d hr (by rw [put_size]; exact hlt)
    · rcases List.mem_cons.1 h with rfl | h
      · exact (fill_out r xs _ d hr).trans (put_same _ hlt)
      · exact absurd h hr
/-- what is to be shown of one operation: it looks at no source; it is one; it looks at one; it is one and looks at others -/
def Ob (P : Program) (ops : Array Oper) (I : World → Prop) (fs : List Tmp) (FS : Tmp → Value → World → Prop) (o : Oper) (v : Value) (a : Act) : Prop :=
  ((∀ d ∈ o.looksAt ops, d ∉ fs) ∧ (∀ d, o.dst = some d → d ∉ fs) ∧ CalmIn P ops I o v a) ∨
  (∃ s, s ∈ fs ∧ o.dst = some s ∧ (∀ d ∈ o.looksAt ops, d ∉ fs) ∧ Region.wanted o (yielded ops a.tmps) = true ∧ ∀ w, I w → srcUpon P (FS s) w ((execOp a.eval o).run P w)) ∨
  (∃ s, s ∈ fs ∧ (∃ j, (ops[j]?).bind (·.dst) = some s ∧ o.after.any (fun e => Region.binds .any e && e.on == j) = true) ∧ (∀ d ∈ o.looksAt ops, d ∈ fs → d = s) ∧ (∀ d, o.dst = some d → d ∉ fs) ∧
    ∀ x w, I w → FS s x w → Region.wanted o (yielded ops (a.put (some s) x).tmps) = true ∧ calmUpon P w v ((execOp (a.put (some s) x).eval o).run P w)) ∨
  (∃ s R, s ∈ fs ∧ o.dst = some s ∧ (∀ r ∈ R, r ∈ fs ∧ ∃ j, (ops[j]?).bind (·.dst) = some r ∧ o.after.any (fun e => Region.binds .any e && e.on == j) = true) ∧ (∀ d ∈ o.looksAt ops, d ∈ fs → d ∈ R) ∧
    ∀ xs w, I w → (∀ r ∈ R, FS r (xs r) w) → Region.wanted o (yielded ops (fill R xs a).tmps) = true ∧ srcUpon P (FS s) w ((execOp (fill R xs a).eval o).run P w))
/-- the walk in the text's order -/
def wpF (P : Program) (ops : Array Oper) (I : World → Prop) (fs : List Tmp) (FS : Tmp → Value → World → Prop) (E : Act → Prop) : List Oper → Act → Prop
  | [], a => E a
  | o :: r, a => ∃ v, Ob P ops I fs FS o v a ∧ wpF P ops I fs FS E r (a.put o.dst v)
def lex : List Oper → List Value → Act → Nat → Act
  | o :: r, v :: vs, a, k + 1 => lex r vs (a.put o.dst v) k
  | _, _, a, _ => a
theorem lex_zero (l : List Oper) (vs : List Value) (a : Act) : lex l vs a 0 = a := by cases l <;> cases vs <;> rfl
section
variable {I : World → Prop} {fs : List Tmp} {FS : Tmp → Value → World → Prop} {E : Act → Prop}
theorem wpF_vals : ∀ (l : List Oper) (a : Act), wpF P ops I fs FS E l a → ∃ vs : List Value, vs.length = l.length ∧
    (∀ (k : Nat) o v, l[k]? = some o → vs[k]? = some v → Ob P ops I fs FS o v (lex l vs a k)) ∧ E (lex l vs a l.length)
  | [], a, h => ⟨[], rfl, by simp, h⟩
  | o :: r, a, ⟨v, hob, hr⟩ => by
    obtain ⟨vs, h1, h2, h3⟩ := wpF_vals r _ hr
    refine ⟨v :: vs, by simp [h1], fun k o' v' ho hv => ?_, h3⟩
    cases k with
    | zero =>
      simp only [List.getElem?_cons_zero, Option.some.injEq] at ho hv
      subst ho hv
      exact hob
    | succ k =>
      simp only [List.getElem?_cons_succ] at ho hv
      exact h2 k o' v' ho hv
end
theorem lex_size : ∀ (l : List Oper) (vs : List Value) (a : Act) (k : Nat), (lex l vs a k).tmps.size = a.tmps.size ∧ (lex l vs a k).defers = a.defers
  | o :: r, v :: vs, a, k + 1 => by
    obtain ⟨h1, h2⟩ := lex_size r vs (a.put o.dst v) k
    exact ⟨h1.trans (put_size ..), h2.trans (put_defers ..)⟩
  | [], _, _, _ => by simp [lex]
  | _ :: _, [], _, _ => by simp [lex]
  | _ :: _, _ :: _, _, 0 => by simp [lex]
theorem lex_out : ∀ (l : List Oper) (vs : List Value) (a : Act) (k : Nat) (d : Tmp), (∀ (j : Nat) o, l[j]? = some o → j < k → o.dst ≠ some d) → (lex l vs a k).tmps[d]? = a.tmps[d]?
  | o :: r, v :: vs, a, k + 1, d, h => by
    have h0 := h 0 o rfl (by omega)
    exact (lex_out r vs (a.put o.dst v) k d fun j o' hj hk => h (j + 1) o' (by simpa using hj) (by omega)).trans (put_other v h0)
  | [], _, _, _, _, _ => by simp [lex]
  | _ :: _, [], _, _, _, _ => by simp [lex]
  | _ :: _, _ :: _, _, 0, _, _ => by simp [lex]
theorem lex_in : ∀ (l : List Oper) (vs : List Value) (a : Act) (k j : Nat) (o : Oper) (d : Tmp) (v : Value), l[j]? = some o → j < k → vs[j]? = some v → o.dst = some d → d < a.tmps.size →
    (∀ (i : Nat) oi, l[i]? = some oi → i < k → i ≠ j → oi.dst ≠ some d) → (lex l vs a k).tmps[d]? = some v
  | o :: r, v :: vs, a, k + 1, 0, o', d, v', ho, _, hv, hd, hlt, hu => by
    simp only [List.getElem?_cons_zero, Option.some.injEq] at ho hv
    subst ho hv
    refine (lex_out r vs _ k d fun i oi hi hik => hu (i + 1) oi (by simpa using hi) (by omega) (by omega)).trans ?_
    rw [hd]
    exact put_same v hlt
  | o :: r, v :: vs, a, k + 1, j + 1, o', d, v', ho, hjk, hv, hd, hlt, hu => by
    simp only [List.getElem?_cons_succ] at ho hv
    exact lex_in r vs _ k j o' d v' ho (by omega) hv hd (by rw [put_size]; exact hlt) fun i oi hi hik hij => hu (i + 1) oi (by simpa using hi) (by omega) (by omega)
  | [], _, _, _, _, _, _, _, ho, _, _, _, _, _ => by simp at ho
  | _ :: _, [], _, _, _, _, _, _, _, _, hv, _, _, _ => by simp at hv
  | _ :: _, _ :: _, _, 0, _, _, _, _, _, hk, _, _, _, _ => by omega

/-- k waits for j -/
def seenB (md : Region.Mode) (ops : Array Oper) (k j : Nat) : Bool :=
  match ops[k]? with
  | some o => o.after.any fun e => Region.binds md e && e.on == j
  | none => false
/-- each operation waits for earlier ones alone; slots are written once; who looks at a slot waits for its writer, or the writer for him -/
def rgB (md : Region.Mode) (ops : Array Oper) (N : Nat) : Bool :=
  Region.noSelect ops && (List.range ops.size).all fun k =>
    match ops[k]? with
    | none => false
    | some o =>
      (match o.dst with | some d => decide (d < N) | none => true) && o.after.all (fun e => !Region.binds md e || decide (e.on < k)) &&
      (List.range ops.size).all fun j =>
        match ops[j]? with
        | none => false
        | some oj =>
          match oj.dst with
          | none => true
          | some d => (k == j || o.dst != some d) && (!(o.looksAt ops).contains d || (decide (j < k) && seenB md ops k j) || (decide (k < j) && seenB md ops j k))
structure RG (md : Region.Mode) (ops : Array Oper) (N : Nat) : Prop where
  sel : ∀ (j : Nat) (o : Oper) cs b, ops[j]? = some o → o.op ≠ .select cs b
  small : ∀ (k : Nat) o d, ops[k]? = some o → o.dst = some d → d < N
  back : ∀ (k : Nat) o, ops[k]? = some o → ∀ e ∈ o.after, Region.binds md e = true → e.on < k
  once : ∀ (k j : Nat) o oj d, ops[k]? = some o → ops[j]? = some oj → oj.dst = some d → k ≠ j → o.dst ≠ some d
  look : ∀ (k j : Nat) o oj d, ops[k]? = some o → ops[j]? = some oj → oj.dst = some d → d ∈ o.looksAt ops →
    (j < k ∧ ∃ e ∈ o.after, Region.binds md e = true ∧ e.on = j) ∨ (k < j ∧ ∃ e ∈ oj.after, Region.binds md e = true ∧ e.on = k)
theorem seenB_spec {k j : Nat} {o : Oper} (ho : ops[k]? = some o) (h : seenB md ops k j = true) : ∃ e ∈ o.after, Region.binds md e = true ∧ e.on = j := by
  simp only [seenB, ho] at h
  obtain ⟨e, he, hb⟩ := Array.any_eq_true'.1 h
  simp only [Bool.and_eq_true, beq_iff_eq] at hb
  exact ⟨e, he, hb.1, hb.2⟩
theorem rgB_spec {N : Nat} (h : rgB md ops N = true) : RG md ops N := by
  simp only [rgB, Bool.and_eq_true, List.all_eq_true, List.mem_range] at h
  obtain ⟨hs, h⟩ := h
  have at_ : ∀ (k : Nat) o, ops[k]? = some o → ((match o.dst with | some d => decide (d < N) | none => true) = true ∧ o.after.all (fun e => !Region.binds md e || decide (e.on < k)) = true) ∧
      ∀ (j : Nat) oj, ops[j]? = some oj → (match oj.dst with | none => true | some d => (k == j || o.dst != some d) && (!(o.looksAt ops).contains d || (decide (j < k) && seenB md ops k j) || (decide (k < j) && seenB md ops j k))) = true := fun k o ho => by
    have h1 := h k (Array.getElem?_eq_some_iff.1 ho).1
    simp only [ho, Bool.and_eq_true, List.all_eq_true, List.mem_range] at h1
    refine ⟨h1.1, fun j oj hj => ?_⟩
    have h2 := h1.2 j (Array.getElem?_eq_some_iff.1 hj).1
    simpa only [hj] using h2
  refine ⟨fun j o cs b hj => Region.noSelect_spec hs j o cs b hj, fun k o d ho hd => ?_, fun k o ho e he hb => ?_, fun k j o oj d ho hj hd hne => ?_, fun k j o oj d ho hj hd hl => ?_⟩
  · have := (at_ k o ho).1.1
    simpa [hd] using this
  · have := (at_ k o ho).1.2
    rw [Array.all_eq_true_iff_forall_mem] at this
    have := this e he
    simpa [hb] using this
  · have := (at_ k o ho).2 j oj hj
    simp only [hd, Bool.and_eq_true, Bool.or_eq_true, beq_iff_eq, hne, false_or, bne_iff_ne, ne_eq] at this
    exact this.1
  · have := (at_ k o ho).2 j oj hj
    simp only [hd, Bool.and_eq_true, Bool.or_eq_true, decide_eq_true_eq, Bool.not_eq_true'] at this
    rcases this.2 with (h1 | h1) | h1
    · have : (o.looksAt ops).contains d = true := by simpa using hl
      rw [this] at h1; cases h1
    · exact .inl ⟨h1.1, seenB_spec ho h1.2⟩
    · exact .inr ⟨h1.1, seenB_spec hj h1.2⟩

/-- two frames agree at the slots that an operation looks at -/
theorem exec_agree {o : Oper} {a b : Act} (hs : ∀ cs c, o.op ≠ .select cs c) (h : ∀ d ∈ o.looksAt ops, a.tmps[d]? = b.tmps[d]?) : execOp a.eval o = execOp b.eval o :=
  execOp_congr o hs fun x hx => by
    cases x with
    | tmp t =>
      have := h t (List.mem_append_left _ (List.mem_filterMap.2 ⟨.tmp t, by simpa using hx, rfl⟩))
      simp [Act.eval, this]
    | _ => rfl
theorem wanted_agree {o : Oper} {a b : Act} (h : ∀ d ∈ o.looksAt ops, a.tmps[d]? = b.tmps[d]?) : Region.wanted o (yielded ops a.tmps) = Region.wanted o (yielded ops b.tmps) := by
  unfold Region.wanted
  cases hg : o.guard with
  | none => rfl
  | some gw =>
    obtain ⟨g, want⟩ := gw
    have hy : yielded ops a.tmps g = yielded ops b.tmps g := by
      unfold yielded
      cases ht : (ops[g]?).bind (·.dst) with
      | none => rfl
      | some t =>
        have := h t (List.mem_append_right _ (by simp [hg, ht]))
        simp [this]
    simp only [hy]

/-! ### what an actual run has left so far -/
section
variable {l : List Oper} {vs : List Value} {fs : List Tmp} {FS : Tmp → Value → World → Prop} {I : World → Prop} {a0 : Act}
structure Inv (l : List Oper) (vs : List Value) (fs : List Tmp) (FS : Tmp → Value → World → Prop) (I : World → Prop) (a0 : Act) (listed : Array Bool) (b : Act) (w : World) : Prop where
  cls : I w
  size : b.tmps.size = a0.tmps.size
  defers : b.defers = a0.defers
  out : ∀ d, (∀ (j : Nat) o, l[j]? = some o → listed.getD j true = true → o.dst ≠ some d) → b.tmps[d]? = a0.tmps[d]?
  ins : ∀ (j : Nat) o d v, l[j]? = some o → listed.getD j true = true → o.dst = some d → vs[j]? = some v → (d ∈ fs → ∃ x, b.tmps[d]? = some x ∧ FS d x w) ∧ (d ∉ fs → b.tmps[d]? = some v)
  down : ∀ (j : Nat) o, l[j]? = some o → listed.getD j true = true → ∀ e ∈ o.after, Region.binds .any e = true → listed.getD e.on true = true
  lsize : listed.size = l.length
theorem getD_set_same (L : Array Bool) (i : Nat) : (L.setIfInBounds i true).getD i true = true := by
  rw [Array.getD_eq_getD_getElem?, Array.getElem?_setIfInBounds, if_pos rfl]
  split <;> rfl
theorem getD_set_far (L : Array Bool) {i j : Nat} (h : i ≠ j) : (L.setIfInBounds i true).getD j true = L.getD j true := by
  rw [Array.getD_eq_getD_getElem?, Array.getElem?_setIfInBounds, if_neg h, ← Array.getD_eq_getD_getElem?]
theorem getD_set_up (L : Array Bool) {i j : Nat} (h : L.getD j true = true) : (L.setIfInBounds i true).getD j true = true := by
  by_cases hij : i = j
  · subst hij; exact getD_set_same L i
  · rw [getD_set_far L hij]; exact h
theorem Inv.next {N : Nat} (hR : RG .any l.toArray N) (hN : N ≤ a0.tmps.size) (hI : Closed I) (hF : ∀ s x w w', FS s x w → Below w.heap.size w w' → FS s x w') {listed : Array Bool} {b : Act} {w w' : World} {i : Nat} {o : Oper} {u : Value}
    (h : Inv l vs fs FS I a0 listed b w) (ho : l[i]? = some o) (hp : ∀ e ∈ o.after, Region.binds .any e = true → listed.getD e.on true = true) (hb : Below w.heap.size w w')
    (hu : ∀ d, o.dst = some d → (d ∈ fs → FS d u w') ∧ (d ∉ fs → vs[i]? = some u)) : Inv l vs fs FS I a0 (listed.setIfInBounds i true) (b.put o.dst u) w' := by
  have ho' : l.toArray[i]? = some o := by simpa using ho
  refine ⟨hI w w' h.cls hb, (put_size ..).trans h.size, (put_defers ..).trans h.defers, fun d hd => ?_, fun j oj d v hj hlj hdj hv => ?_, fun j oj hj hlj e he hbe => ?_, by simpa using h.lsize⟩
  · rw [put_other u (hd i o ho (getD_set_same _ _))]
    exact h.out d fun j oj hj hlj => hd j oj hj (getD_set_up _ hlj)
  · by_cases hij : i = j
    · subst hij
      obtain rfl : o = oj := Option.some.inj (ho.symm.trans hj)
      obtain ⟨h1, h2⟩ := hu d hdj
      rw [hdj]
      have hlt : d < b.tmps.size := by rw [h.size]; exact Nat.lt_of_lt_of_le (hR.small i o d ho' hdj) hN
      refine ⟨fun hd => ⟨u, put_same u hlt, h1 hd⟩, fun hd => ?_⟩
      rw [put_same u hlt]
      exact (h2 hd).symm.trans hv
    · rw [getD_set_far _ hij] at hlj
      obtain ⟨h1, h2⟩ := h.ins j oj d v hj hlj hdj hv
      have hne : o.dst ≠ some d := hR.once i j o oj d ho' (by simpa using hj) hdj hij
      rw [put_other u hne]
      exact ⟨fun hd => let ⟨x, hx, hfx⟩ := h1 hd; ⟨x, hx, hF d x w w' hfx hb⟩, h2⟩
  · by_cases hij : i = j
    · subst hij
      obtain rfl : o = oj := Option.some.inj (ho.symm.trans hj)
      exact getD_set_up _ (hp e he hbe)
    · rw [getD_set_far _ hij] at hlj
      exact getD_set_up _ (h.down j oj hj hlj e he hbe)
/-- at what an operation looks at, the run and the walk agree -/
theorem Inv.agree {N : Nat} (hR : RG .any l.toArray N) (hN : N ≤ a0.tmps.size) (hlen : vs.length = l.length) {listed : Array Bool} {b : Act} {w : World} {k : Nat} {o : Oper}
    (h : Inv l vs fs FS I a0 listed b w) (ho : l[k]? = some o) (hun : listed.getD k true = false) (hp : ∀ e ∈ o.after, Region.binds .any e = true → listed.getD e.on true = true) {d : Tmp} (hd : d ∈ o.looksAt l.toArray) (hf : d ∉ fs) :
    (lex l vs a0 k).tmps[d]? = b.tmps[d]? := by
  have ho' : l.toArray[k]? = some o := by simpa using ho
  by_cases hw : ∃ (j : Nat) (oj : Oper), l[j]? = some oj ∧ oj.dst = some d
  · obtain ⟨j, oj, hj, hdj⟩ := hw
    have hj' : l.toArray[j]? = some oj := by simpa using hj
    rcases hR.look k j o oj d ho' hj' hdj hd with ⟨hjk, e, he, hbe, rfl⟩ | ⟨hkj, e, he, hbe, rfl⟩
    · obtain ⟨v, hv⟩ : ∃ v, vs[e.on]? = some v := ⟨_, List.getElem?_eq_getElem (by rw [hlen]; exact (List.getElem?_eq_some_iff.1 hj).1)⟩
      rw [lex_in l vs a0 k e.on oj d v hj hjk hv hdj (Nat.lt_of_lt_of_le (hR.small _ _ _ hj' hdj) hN) fun i oi hi _ hne => hR.once i e.on oi oj d (by simpa using hi) hj' hdj hne]
      exact ((h.ins e.on oj d v hj (hp e he hbe) hdj hv).2 hf).symm
    · have hjun : listed.getD j true = false := by
        cases hc : listed.getD j true with
        | false => rfl
        | true => rw [h.down j oj hj hc e he hbe] at hun; cases hun
      rw [lex_out l vs a0 _ d fun i oi hi hik hdi => hR.once i j oi oj d (by simpa using hi) hj' hdj (by omega) hdi]
      refine (h.out d fun i oi hi hli hdi => ?_).symm
      by_cases hij : i = j
      · subst hij; rw [hjun] at hli; cases hli
      · exact hR.once i j oi oj d (by simpa using hi) hj' hdj hij hdi
  · rw [lex_out l vs a0 k d fun i oi hi _ hdi => hw ⟨i, oi, hi, hdi⟩]
    exact (h.out d fun i oi hi _ hdi => hw ⟨i, oi, hi, hdi⟩).symm
theorem count_zero {L : Array Bool} (h : L.toList.count false = 0) (j : Nat) : L.getD j true = true := by
  rw [List.count_eq_zero] at h
  rw [Array.getD_eq_getD_getElem?]
  cases hc : L[j]? with
  | none => rfl
  | some x =>
    cases x with
    | true => rfl
    | false => exact absurd (Array.mem_toList_iff.2 (Array.mem_of_getElem? hc)) h
theorem count_set {L : Array Bool} {i : Nat} (h : L.getD i true = false) : (L.setIfInBounds i true).toList.count false + 1 = L.toList.count false := by
  have h1 : L.toList[i]? = some false := by
    rw [Array.getD_eq_getD_getElem?] at h
    cases hc : L[i]? with
    | none => rw [hc] at h; simp at h
    | some x => rw [hc] at h; simp at h; subst h; simpa using hc
  rw [Array.toList_setIfInBounds]
  generalize L.toList = M at h1
  clear h
  induction M generalizing i with
  | nil => simp at h1
  | cons y M ih =>
    cases i with
    | zero =>
      simp at h1
      subst h1
      simp
    | succ i =>
      have := ih (i := i) (by simpa using h1)
      rw [List.set_cons_succ, List.count_cons, List.count_cons, ← this]
      omega
theorem ready_all {N : Nat} (hR : RG .any l.toArray N) {listed : Array Bool} (hs : listed.size = l.length) (h : Region.ready .any l.toArray listed = []) : ∀ j, listed.getD j true = true := by
  intro j
  induction j using Nat.strongRecOn with
  | ind j ih =>
    cases hc : listed.getD j true with
    | true => rfl
    | false =>
      have hlt : j < l.length := by
        rcases Nat.lt_or_ge j l.length with h1 | h1
        · exact h1
        · rw [Array.getD_eq_getD_getElem?, Array.getElem?_eq_none (by omega)] at hc; simp at hc
      have ho : l.toArray[j]? = some l[j] := by simp [hlt]
      have : j ∈ Region.ready .any l.toArray listed := mem_ready.2 ⟨hc, l[j], ho, fun e he hb => by
        have hlt2 := hR.back j l[j] ho e he hb
        have := ih e.on hlt2
        rw [Array.getD_eq_getD_getElem?] at this ⊢
        rw [Array.getElem?_eq_getElem (show e.on < listed.size by omega)] at this ⊢
        simpa using this⟩
      rw [h] at this
      cases this

theorem any_of_F {N : Nat} {Q' : Exit → Act → World → Prop} (hR : RG .any l.toArray N) (hN : N ≤ a0.tmps.size) (hlen : vs.length = l.length) (hI : Closed I) (hF : ∀ s x w w', FS s x w → Below w.heap.size w w' → FS s x w')
    (hob : ∀ (k : Nat) o v, l[k]? = some o → vs[k]? = some v → Ob P l.toArray I fs FS o v (lex l vs a0 k))
    (hQ : ∀ (listed : Array Bool) b w, (∀ j, listed.getD j true = true) → Inv l vs fs FS I a0 listed b w → Q' .normal b w) :
    ∀ (fuel : Nat) (listed : Array Bool) (b : Act) (w : World), listed.toList.count false ≤ fuel → Inv l vs fs FS I a0 listed b w → wpAny P .any l.toArray Q' fuel listed b w
  | 0, listed, b, w, hc, h => by
    have hall := count_zero (L := listed) (by omega)
    refine ⟨?_, hQ listed b w hall h⟩
    rw [List.eq_nil_iff_forall_not_mem]
    intro i hi
    have := (mem_ready.1 hi).1
    rw [hall i] at this
    cases this
  | fuel + 1, listed, b, w, hc, h => by
    refine ⟨fun h0 => hQ listed b w (ready_all hR h.lsize h0) h, fun i hi => ?_⟩
    obtain ⟨hun, o, ho, hall⟩ := mem_ready.1 hi
    have ho2 : l[i]? = some o := by simpa using ho
    have hp : ∀ e ∈ o.after, Region.binds .any e = true → listed.getD e.on true = true := fun e he hb => by
      have h1 := hall e he hb
      rw [Array.getD_eq_getD_getElem?] at h1 ⊢
      cases hx : listed[e.on]? with
      | none => rfl
      | some y => rw [hx] at h1; simpa using h1
    obtain ⟨v, hv⟩ : ∃ v, vs[i]? = some v := ⟨_, List.getElem?_eq_getElem (by rw [hlen]; exact (List.getElem?_eq_some_iff.1 ho2).1)⟩
    have K : ∀ u w', Below w.heap.size w w' → (∀ d, o.dst = some d → (d ∈ fs → FS d u w') ∧ (d ∉ fs → vs[i]? = some u)) → wpAny P .any l.toArray Q' fuel (listed.setIfInBounds i true) (b.put o.dst u) w' := fun u w' hb hu =>
      any_of_F hR hN hlen hI hF hob hQ fuel _ _ _ (by have := count_set hun; omega) (h.next hR hN hI hF ho2 hp hb hu)
    have hsel : ∀ cs c, o.op ≠ .select cs c := fun cs c => hR.sel i o cs c ho
    have ag : ∀ d ∈ o.looksAt l.toArray, d ∉ fs → (lex l vs a0 i).tmps[d]? = b.tmps[d]? := fun d hd hf => h.agree hR hN hlen ho2 hun hp hd hf
    unfold Go.wpOp
    simp only [ho]
    rcases hob i o v ho2 hv with ⟨h1, h2, hcalm⟩ | ⟨s, hs, hds, h1, hwt, hsrc⟩ | ⟨s, hs, ⟨j, hj, hje⟩, h1, h2, huse⟩ | ⟨s, R, hs, hds, hRs, h1, hmix⟩
    · have he := exec_agree (ops := l.toArray) hsel fun d hd => ag d hd (h1 d hd)
      have hw := wanted_agree (ops := l.toArray) fun d hd => ag d hd (h1 d hd)
      have kv : ∀ w', Below w.heap.size w w' → wpAny P .any l.toArray Q' fuel (listed.setIfInBounds i true) (b.put o.dst v) w' := fun w' hb => K v w' hb fun d hd => ⟨fun hf => absurd hf (h2 d hd), fun _ => hv⟩
      rcases hcalm with ⟨hwt, hval⟩ | ⟨hwf, rfl⟩
      · rw [hw] at hwt
        rw [if_pos hwt]
        left
        have h3 := hval w h.cls
        rw [he] at h3
        unfold Oper.wp
        generalize (execOp b.eval o).run P w = r at h3
        cases r with
        | ok n w' =>
          cases n <;> simp only [calmUpon] at h3 <;> simp only [Oper.upon]
          case value u => obtain ⟨rfl, rfl⟩ := h3; exact kv _ (Below.refl _ _)
          case skip => obtain ⟨rfl, rfl⟩ := h3; exact kv _ (Below.refl _ _)
          case enter f args =>
            obtain ⟨rfl, hcc⟩ := h3
            exact hcc.mono fun e w'' ⟨he, hb⟩ => by subst he; exact kv _ hb
        | halt x w' => simp only [calmUpon] at h3
      · rw [hw] at hwf
        rw [hwf, if_neg (by simp)]
        exact kv w (Below.refl _ _)
    · have he := exec_agree (ops := l.toArray) hsel fun d hd => ag d hd (h1 d hd)
      have hw := wanted_agree (ops := l.toArray) fun d hd => ag d hd (h1 d hd)
      rw [hw] at hwt
      rw [if_pos hwt]
      left
      have h3 := hsrc w h.cls
      rw [he] at h3
      have kf : ∀ u w', FS s u w' → Below w.heap.size w w' → wpAny P .any l.toArray Q' fuel (listed.setIfInBounds i true) (b.put o.dst u) w' := fun u w' hf hb => K u w' hb fun d hd => by
        obtain rfl : d = s := Option.some.inj (hd.symm.trans hds)
        exact ⟨fun _ => hf, fun hnf => absurd hs hnf⟩
      unfold Oper.wp
      generalize (execOp b.eval o).run P w = r at h3
      cases r with
      | ok n w' =>
        cases n <;> simp only [srcUpon] at h3 <;> simp only [Oper.upon]
        case value u => exact kf u w' h3.1 h3.2
        case enter f args =>
          obtain ⟨rfl, hcc⟩ := h3
          exact hcc.mono fun e w'' ⟨u, he, hf, hb⟩ => by subst he; exact kf u w'' hf hb
      | halt x w' => simp only [srcUpon] at h3
    · obtain ⟨e, hee, heb⟩ := Array.any_eq_true'.1 hje
      simp only [Bool.and_eq_true, beq_iff_eq] at heb
      obtain ⟨hbe, rfl⟩ := heb
      obtain ⟨oj, hoj, hdj⟩ := Option.bind_eq_some_iff.1 hj
      have hoj2 : l[e.on]? = some oj := by simpa using hoj
      obtain ⟨vj, hvj⟩ : ∃ v, vs[e.on]? = some v := ⟨_, List.getElem?_eq_getElem (by rw [hlen]; exact (List.getElem?_eq_some_iff.1 hoj2).1)⟩
      obtain ⟨x, hbx, hfx⟩ := (h.ins e.on oj s vj hoj2 (hp e hee hbe) hdj hvj).1 hs
      have hslt : s < (lex l vs a0 i).tmps.size := by rw [(lex_size l vs a0 i).1]; exact Nat.lt_of_lt_of_le (hR.small _ _ _ hoj hdj) hN
      have ag2 : ∀ d ∈ o.looksAt l.toArray, ((lex l vs a0 i).put (some s) x).tmps[d]? = b.tmps[d]? := fun d hd => by
        by_cases hsd : s = d
        · subst hsd
          rw [put_same x hslt, hbx]
        · rw [put_other x (by simpa using hsd)]
          exact ag d hd fun hf => hsd (h1 d hd hf).symm
      obtain ⟨hwt, h3⟩ := huse x w h.cls hfx
      rw [wanted_agree (ops := l.toArray) ag2] at hwt
      rw [exec_agree (ops := l.toArray) hsel ag2] at h3
      have kv : ∀ w', Below w.heap.size w w' → wpAny P .any l.toArray Q' fuel (listed.setIfInBounds i true) (b.put o.dst v) w' := fun w' hb => K v w' hb fun d hd => ⟨fun hf => absurd hf (h2 d hd), fun _ => hv⟩
      rw [if_pos hwt]
      left
      unfold Oper.wp
      generalize (execOp b.eval o).run P w = r at h3
      cases r with
      | ok n w' =>
        cases n <;> simp only [calmUpon] at h3 <;> simp only [Oper.upon]
        case value u => obtain ⟨rfl, rfl⟩ := h3; exact kv _ (Below.refl _ _)
        case skip => obtain ⟨rfl, rfl⟩ := h3; exact kv _ (Below.refl _ _)
        case enter f args =>
          obtain ⟨rfl, hcc⟩ := h3
          exact hcc.mono fun e w'' ⟨he, hb⟩ => by subst he; exact kv _ hb
      | halt x w' => simp only [calmUpon] at h3

    · have got : ∀ r ∈ R, ∃ x, b.tmps[r]? = some x ∧ FS r x w ∧ r < (lex l vs a0 i).tmps.size := fun r hr => by
        obtain ⟨hrf, j, hj, hje⟩ := hRs r hr
        obtain ⟨e, hee, heb⟩ := Array.any_eq_true'.1 hje
        simp only [Bool.and_eq_true, beq_iff_eq] at heb
        obtain ⟨hbe, rfl⟩ := heb
        obtain ⟨oj, hoj, hdj⟩ := Option.bind_eq_some_iff.1 hj
        have hoj2 : l[e.on]? = some oj := by simpa using hoj
        obtain ⟨vj, hvj⟩ : ∃ v, vs[e.on]? = some v := ⟨_, List.getElem?_eq_getElem (by rw [hlen]; exact (List.getElem?_eq_some_iff.1 hoj2).1)⟩
        obtain ⟨x, hbx, hfx⟩ := (h.ins e.on oj r vj hoj2 (hp e hee hbe) hdj hvj).1 hrf
        exact ⟨x, hbx, hfx, by rw [(lex_size l vs a0 i).1]; exact Nat.lt_of_lt_of_le (hR.small _ _ _ hoj hdj) hN⟩
      have ag2 : ∀ d ∈ o.looksAt l.toArray, (fill R (fun s => b.tmps.getD s undef) (lex l vs a0 i)).tmps[d]? = b.tmps[d]? := fun d hd => by
        by_cases hdR : d ∈ R
        · obtain ⟨x, hbx, _, hlt⟩ := got d hdR
          rw [fill_in R _ _ d hdR hlt, hbx]
          simp [hbx]
        · rw [fill_out R _ _ d hdR]
          exact ag d hd fun hf => hdR (h1 d hd hf)
      obtain ⟨hwt, h3⟩ := hmix (fun s => b.tmps.getD s undef) w h.cls fun r hr => by
        obtain ⟨x, hbx, hfx, _⟩ := got r hr
        simpa [hbx] using hfx
      rw [wanted_agree (ops := l.toArray) ag2] at hwt
      rw [exec_agree (ops := l.toArray) hsel ag2] at h3
      rw [if_pos hwt]
      left
      have kf : ∀ u w', FS s u w' → Below w.heap.size w w' → wpAny P .any l.toArray Q' fuel (listed.setIfInBounds i true) (b.put o.dst u) w' := fun u w' hf hb => K u w' hb fun d hd => by
        obtain rfl : d = s := Option.some.inj (hd.symm.trans hds)
        exact ⟨fun _ => hf, fun hnf => absurd hs hnf⟩
      unfold Oper.wp
      generalize (execOp b.eval o).run P w = r at h3
      cases r with
      | ok n w' =>
        cases n <;> simp only [srcUpon] at h3 <;> simp only [Oper.upon]
        case value u => exact kf u w' h3.1 h3.2
        case enter f args =>
          obtain ⟨rfl, hcc⟩ := h3
          exact hcc.mono fun e w'' ⟨u, he, hf, hb⟩ => by subst he; exact kf u w'' hf hb
      | halt x w' => simp only [srcUpon] at h3

/-- ONE WALK IN THE TEXT's ORDER SERVES EVERY ORDER -/
theorem wp_region_F {id : Nat} {Q : Exit → Act → World → Prop} {a : Act} {w : World} {l : List Oper} (N : Nat) (fs : List Tmp) (FS : Tmp → Value → World → Prop) (I : World → Prop) (hm : P.follows .mixedOrders = true) (hB : rgB .any l.toArray N = true)
    (hfs : (fs.all fun s => l.any fun o => o.dst == some s) = true) (hN : N ≤ a.tmps.size) (hI : Closed I) (hF : ∀ s x w w', FS s x w → Below w.heap.size w w' → FS s x w') (hC : I w.drew)
    (h : wpF P l.toArray I fs FS (fun a' => ∀ xs w', I w' → (∀ s ∈ fs, FS s (xs s) w') → Q .normal (fill fs xs a') w') l a) : (Code.region id l.toArray true).wp P Q a w := by
  have hR := rgB_spec hB
  obtain ⟨vs, hlen, hob, hE⟩ := wpF_vals l a h
  refine wp_region_any hm ?_
  refine any_of_F (l := l) (vs := vs) (fs := fs) (FS := FS) (I := I) (a0 := a) hR hN hlen hI hF hob ?_ _ _ _ _ ?_ ?_
  · intro listed b w' hall hinv
    have hw : ∀ s ∈ fs, ∃ x, b.tmps[s]? = some x ∧ FS s x w' := fun s hs => by
      rw [List.all_eq_true] at hfs
      have h1 := hfs s hs
      rw [List.any_eq_true] at h1
      obtain ⟨o, ho, hd⟩ := h1
      obtain ⟨j, hj, rfl⟩ := List.getElem_of_mem ho
      have hd' : (l[j]).dst = some s := by simpa using hd
      obtain ⟨v, hv⟩ : ∃ v, vs[j]? = some v := ⟨_, List.getElem?_eq_getElem (by rw [hlen]; exact hj)⟩
      exact (hinv.ins j l[j] s v (List.getElem?_eq_getElem hj) (hall j) hd' hv).1 hs
    have hb : b = fill fs (fun s => b.tmps.getD s undef) (lex l vs a l.length) := by
      have ht : b.tmps = (fill fs (fun s => b.tmps.getD s undef) (lex l vs a l.length)).tmps := by
        apply Array.ext_getElem?
        intro d
        by_cases hd : d ∈ fs
        · obtain ⟨x, hx, _⟩ := hw d hd
          have hlt : d < (lex l vs a l.length).tmps.size := by
            rw [(lex_size l vs a l.length).1, ← hinv.size]
            exact (Array.getElem?_eq_some_iff.1 hx).1
          rw [fill_in fs _ _ d hd hlt, hx]
          simp [hx]
        · rw [fill_out fs _ _ d hd]
          by_cases hwr : ∃ (j : Nat) (oj : Oper), l[j]? = some oj ∧ oj.dst = some d
          · obtain ⟨j, oj, hj, hdj⟩ := hwr
            obtain ⟨v, hv⟩ : ∃ v, vs[j]? = some v := ⟨_, List.getElem?_eq_getElem (by rw [hlen]; exact (List.getElem?_eq_some_iff.1 hj).1)⟩
            have hj' : l.toArray[j]? = some oj := by simpa using hj
            rw [(hinv.ins j oj d v hj (hall j) hdj hv).2 hd]
            exact (lex_in l vs a l.length j oj d v hj (List.getElem?_eq_some_iff.1 hj).1 hv hdj (Nat.lt_of_lt_of_le (hR.small _ _ _ hj' hdj) hN) fun i oi hi _ hne => hR.once i j oi oj d (by simpa using hi) hj' hdj hne).symm
          · rw [lex_out l vs a l.length d fun i oi hi _ hdi => hwr ⟨i, oi, hi, hdi⟩]
            exact hinv.out d fun i oi hi _ hdi => hwr ⟨i, oi, hi, hdi⟩
      have hd : b.defers = (fill fs (fun s => b.tmps.getD s undef) (lex l vs a l.length)).defers := by
        rw [(fill_size ..).2, (lex_size ..).2]
        exact hinv.defers
      cases b
      simp only at ht hd
      rw [Act.mk.injEq]
      exact ⟨ht, hd⟩
    rw [hb]
    refine hE _ w' hinv.cls fun s hs => ?_
    obtain ⟨x, hx, hf⟩ := hw s hs
    simpa [hx] using hf
  · simp
  · refine ⟨hC, rfl, rfl, fun _ _ => rfl, fun j o d v hj hlj => ?_, fun j o hj hlj => ?_, by simp⟩
    all_goals
      have hlt := (List.getElem?_eq_some_iff.1 hj).1
      rw [Array.getD_eq_getD_getElem?] at hlj
      simp [hlt] at hlj
end
end
end Go.Proofs.Ytmdjgidbfcfdnaa

namespace Go.Proofs.Ytmdjgidbfcfdnaa
open Go.RowKit
section
variable {P : Program} {l : List Oper} {I : World → Prop} {fs : List Tmp} {FS : Tmp → Value → World → Prop} {E : Act → Prop} {o : Oper} {rest : List Oper} {a : Act}
def noB (ops : Array Oper) (fs : List Tmp) (o : Oper) : Bool := ((o.looksAt ops).all fun d => !fs.contains d) && (match o.dst with | some d => !fs.contains d | none => true)
theorem noB_spec (h : noB l.toArray fs o = true) : (∀ d ∈ o.looksAt l.toArray, d ∉ fs) ∧ (∀ d, o.dst = some d → d ∉ fs) := by
  simp only [noB, Bool.and_eq_true, List.all_eq_true, Bool.not_eq_true'] at h
  refine ⟨fun d hd hf => ?_, fun d hd hf => ?_⟩
  · have := h.1 d hd
    simp [hf] at this
  · have := h.2
    rw [hd] at this
    simp [hf] at this
/-- it looks at no memory and enters no function -/
theorem wpF_pure (hk : kindOf o = 0) (hn : noB l.toArray fs o = true) (h : wpQuiet P l.toArray (fun _ => True) (fun a' => wpF P l.toArray I fs FS E rest a') [o] a) : wpF P l.toArray I fs FS E (o :: rest) a := by
  obtain ⟨h1, h2⟩ := noB_spec hn
  unfold wpQuiet at h
  by_cases hw : Region.wanted o (yielded l.toArray a.tmps) = true
  · simp only [hw, if_true] at h
    obtain ⟨v, hv, hr⟩ := h
    refine ⟨v, .inl ⟨h1, h2, .inl ⟨hw, fun w _ => ?_⟩⟩, hr⟩
    have h3 := hv w trivial
    have h4 := pure_no_enter (P := P) (kind_pure hk) a.eval w
    unfold Oper.quietAt at h3
    generalize (execOp a.eval o).run P w = r at h3 h4
    cases r with
    | ok n w' =>
      cases n with
      | enter f args => exact absurd rfl (h4 w' f args)
      | value u => exact h3
      | skip => exact h3
      | _ => simp only [Oper.quietUpon] at h3
    | halt x w' => simp only [Oper.quietUpon] at h3
  · simp only [hw] at h
    exact ⟨undef, .inl ⟨h1, h2, .inr ⟨by simpa using hw, rfl⟩⟩, h⟩
/-- a call of one value -/
theorem wpF_call {f : FuncId} {args : Array Value} (v : Value) (hn : noB l.toArray fs o = true) (hw : Region.wanted o (yielded l.toArray a.tmps) = true) (hrun : ∀ w, (execOp a.eval o).run P w = .ok (.enter f args) w)
    (hc : ∀ w, I w → Calls P f args w fun e w'' => e = .returned v ∧ Below w.heap.size w w'') (h : wpF P l.toArray I fs FS E rest (a.put o.dst v)) : wpF P l.toArray I fs FS E (o :: rest) a := by
  obtain ⟨h1, h2⟩ := noB_spec hn
  refine ⟨v, .inl ⟨h1, h2, .inl ⟨hw, fun w hI => ?_⟩⟩, h⟩
  rw [hrun w]
  exact ⟨rfl, hc w hI⟩
/-- a load -/
theorem wpF_load {t : TypeId} {x : Operand} {ad : Addr} (v : Value) (hop : o.op = .load t x) (hn : noB l.toArray fs o = true) (hw : Region.wanted o (yielded l.toArray a.tmps) = true) (hx : a.eval x = .pointer (some ad))
    (hrun : ∀ w, I w → (Instr.loadAt t (.pointer (some ad))).run P w = .ok v w) (h : wpF P l.toArray I fs FS E rest (a.put o.dst v)) : wpF P l.toArray I fs FS E (o :: rest) a := by
  obtain ⟨h1, h2⟩ := noB_spec hn
  refine ⟨v, .inl ⟨h1, h2, .inl ⟨hw, fun w hI => ?_⟩⟩, h⟩
  unfold execOp
  simp only [hop, hx]
  rw [Sem.run_bind, hrun w hI]
  exact ⟨rfl, rfl⟩
/-- an operation that makes memory: its value is known by what it is good for -/
theorem wpF_src (s : Tmp) (hs : s ∈ fs) (hd : o.dst = some s) (hn : ((o.looksAt l.toArray).all fun d => !fs.contains d) = true) (hw : Region.wanted o (yielded l.toArray a.tmps) = true)
    (hrun : ∀ w, I w → ∃ u w', (execOp a.eval o).run P w = .ok (.value u) w' ∧ FS s u w' ∧ Below w.heap.size w w') (h : wpF P l.toArray I fs FS E rest (a.put o.dst undef)) : wpF P l.toArray I fs FS E (o :: rest) a := by
  refine ⟨undef, .inr (.inl ⟨s, hs, hd, fun d hd hf => ?_, hw, fun w hI => ?_⟩), h⟩
  · rw [List.all_eq_true] at hn
    have := hn d hd
    simp [hf] at this
  · obtain ⟨u, w', hr, h1, h2⟩ := hrun w hI
    rw [hr]
    exact ⟨h1, h2⟩
/-- a call that is handed such a value -/
theorem wpF_use (s : Tmp) (j : Nat) {f : FuncId} (args : Value → Array Value) (v : Value) (hs : s ∈ fs) (hj : (l[j]?).bind (·.dst) = some s) (hje : (o.after.any fun e => Region.binds .any e && e.on == j) = true)
    (hn : ((o.looksAt l.toArray).all fun d => !fs.contains d || d == s) = true) (hdst : (match o.dst with | some d => !fs.contains d | none => true) = true) (hw : ∀ x, Region.wanted o (yielded l.toArray (a.put (some s) x).tmps) = true)
    (hrun : ∀ x w, (execOp (a.put (some s) x).eval o).run P w = .ok (.enter f (args x)) w)
    (hc : ∀ x w, I w → FS s x w → Calls P f (args x) w fun e w'' => e = .returned v ∧ Below w.heap.size w w'') (h : wpF P l.toArray I fs FS E rest (a.put o.dst v)) : wpF P l.toArray I fs FS E (o :: rest) a := by
  refine ⟨v, .inr (.inr (.inl ⟨s, hs, ⟨j, by simpa using hj, hje⟩, fun d hd hf => ?_, fun d hd hf => ?_, fun x w hI hx => ⟨hw x, ?_⟩⟩)), h⟩
  · rw [List.all_eq_true] at hn
    have := hn d hd
    simpa [hf] using this
  · rw [hd] at hdst
    simp [hf] at hdst
  · rw [hrun x w]
    exact ⟨rfl, hc x w hI hx⟩
/-- a call that hands back a value that is known by what it is good for -/
theorem wpF_callsrc (s : Tmp) {f : FuncId} {args : Array Value} (hs : s ∈ fs) (hd : o.dst = some s) (hn : ((o.looksAt l.toArray).all fun d => !fs.contains d) = true) (hw : Region.wanted o (yielded l.toArray a.tmps) = true)
    (hrun : ∀ w, (execOp a.eval o).run P w = .ok (.enter f args) w) (hc : ∀ w, I w → Calls P f args w fun e w'' => ∃ u, e = .returned u ∧ FS s u w'' ∧ Below w.heap.size w w'') (h : wpF P l.toArray I fs FS E rest (a.put o.dst undef)) : wpF P l.toArray I fs FS E (o :: rest) a := by
  refine ⟨undef, .inr (.inl ⟨s, hs, hd, fun d hd hf => ?_, hw, fun w hI => ?_⟩), h⟩
  · rw [List.all_eq_true] at hn
    have := hn d hd
    simp [hf] at this
  · rw [hrun w]
    exact ⟨rfl, hc w hI⟩
/-- an operation that looks at such values (R) and yields such a value -/
theorem wpF_mix (s : Tmp) (R : List Tmp) (hs : s ∈ fs) (hd : o.dst = some s)
    (hR : (R.all fun r => fs.contains r && (List.range l.length).any fun j => (((l[j]?).bind (·.dst)) == some r) && o.after.any fun e => Region.binds .any e && e.on == j) = true)
    (hn : ((o.looksAt l.toArray).all fun d => !fs.contains d || R.contains d) = true) (hw : ∀ xs, Region.wanted o (yielded l.toArray (fill R xs a).tmps) = true)
    (hrun : ∀ xs w, I w → (∀ r ∈ R, FS r (xs r) w) → ∃ u w', (execOp (fill R xs a).eval o).run P w = .ok (.value u) w' ∧ FS s u w' ∧ Below w.heap.size w w') (h : wpF P l.toArray I fs FS E rest (a.put o.dst undef)) : wpF P l.toArray I fs FS E (o :: rest) a := by
  refine ⟨undef, .inr (.inr (.inr ⟨s, R, hs, hd, fun r hr => ?_, fun d hd hf => ?_, fun xs w hI hx => ⟨hw xs, ?_⟩⟩)), h⟩
  · rw [List.all_eq_true] at hR
    have := hR r hr
    simp only [Bool.and_eq_true, List.contains_iff_mem, List.any_eq_true, beq_iff_eq] at this
    obtain ⟨h1, j, _, h2, h3⟩ := this
    exact ⟨h1, j, by simpa using h2, h3⟩
  · rw [List.all_eq_true] at hn
    have := hn d hd
    simpa [hf] using this
  · obtain ⟨u, w', hr, h1, h2⟩ := hrun xs w hI hx
    rw [hr]
    exact ⟨h1, h2⟩
/-- a call that is handed such values (R) and hands back such a value -/
theorem wpF_mixcall (s : Tmp) (R : List Tmp) {f : FuncId} (args : (Tmp → Value) → Array Value) (hs : s ∈ fs) (hd : o.dst = some s)
    (hR : (R.all fun r => fs.contains r && (List.range l.length).any fun j => (((l[j]?).bind (·.dst)) == some r) && o.after.any fun e => Region.binds .any e && e.on == j) = true)
    (hn : ((o.looksAt l.toArray).all fun d => !fs.contains d || R.contains d) = true) (hw : ∀ xs, Region.wanted o (yielded l.toArray (fill R xs a).tmps) = true)
    (hrun : ∀ xs w, (execOp (fill R xs a).eval o).run P w = .ok (.enter f (args xs)) w)
    (hc : ∀ xs w, I w → (∀ r ∈ R, FS r (xs r) w) → Calls P f (args xs) w fun e w'' => ∃ u, e = .returned u ∧ FS s u w'' ∧ Below w.heap.size w w'') (h : wpF P l.toArray I fs FS E rest (a.put o.dst undef)) : wpF P l.toArray I fs FS E (o :: rest) a := by
  refine ⟨undef, .inr (.inr (.inr ⟨s, R, hs, hd, fun r hr => ?_, fun d hd hf => ?_, fun xs w hI hx => ⟨hw xs, ?_⟩⟩)), h⟩
  · rw [List.all_eq_true] at hR
    have := hR r hr
    simp only [Bool.and_eq_true, List.contains_iff_mem, List.any_eq_true, beq_iff_eq] at this
    obtain ⟨h1, j, _, h2, h3⟩ := this
    exact ⟨h1, j, by simpa using h2, h3⟩
  · rw [List.all_eq_true] at hn
    have := hn d hd
    simpa [hf] using this
  · rw [hrun xs w]
    exact ⟨rfl, hc xs w hI hx⟩
end
end Go.Proofs.Ytmdjgidbfcfdnaa

namespace Go.Proofs.Ytmdjgidbfcfdnaa
open Go.RowKit Go.Shelf
set_option maxRecDepth 100000
attribute [local go_sem] Oper.semAt_some

/-- bytes and their sum's -/
def sld (L : List Int) : List Int := L ++ Cr.le4 (Cr.sum L)
/-- a frame's block -/
def fblk (v k s i c : Int) (zs : List Int) : List Int := sld (hdB v k s i c ++ zs)
theorem fblk_len (v k s i c : Int) (zs : List Int) : (fblk v k s i c zs).length = zs.length + 12 := by
  simp [fblk, sld, hdB, Cr.le4]
theorem hdB_bytes {v k s i c : Int} (h : chk v k i c = 0) (hs : 0 ≤ s ∧ s ≤ 4294967295) : Bytes (hdB v k s i c) := by
  have := chk_zero h
  intro z hz
  simp only [hdB, List.mem_cons, List.not_mem_nil, or_false] at hz
  omega
theorem sld_bytes {L : List Int} (h : Bytes L) : Bytes (sld L) := h.append (le4_bytes _)
theorem fblk_bytes {v k s i c : Int} {zs : List Int} (h : chk v k i c = 0) (hs : 0 ≤ s ∧ s ≤ 4294967295) (hz : Bytes zs) : Bytes (fblk v k s i c zs) := sld_bytes ((hdB_bytes h hs).append hz)
/-- what Segment answers -/
def SegR (w w' : World) (r : Int) (L : List Int) (e : Ending) : Prop :=
  (r ≠ 0 ∧ e = .returned (.tuple #[.slice none 0 0, .int .i64 r]) ∧ Below w.heap.size w w') ∨ (r = 0 ∧ ∃ v, e = .returned (.tuple #[v, .int .i64 0]) ∧ MadeK 5 .u8 w w' L v)

/-- what the slots hold whose values are known by what they are good for -/
def FRg (B : Nat) (p1 p2 : Part) (h z : List Int) (q : Tmp) (x : Value) (W : World) : Prop :=
  if q = 29 then ∃ a c, x = .slice a 2 c ∧ Parts W W.heap.size a [p1, p2]
  else if q = 30 then ∃ A c, x = .slice A 4 c ∧ 4 ≤ c ∧ Nums .u8 W W.heap.size A (Cr.le4 (Cr.sum (h ++ z)))
  else if q = 31 then ∃ A c, x = .slice A 3 c ∧ 3 ≤ c ∧ ListAt .u8 W W.heap.size A [h, z, Cr.le4 (Cr.sum (h ++ z))]
  else W.ownsRow B 5 1 x (sld (h ++ z)).length ((sld (h ++ z)).map (Value.int .u8))
theorem FRg.later {B : Nat} {p1 p2 : Part} {h z : List Int} {q : Tmp} {x : Value} {W W' : World} (hh : FRg B p1 p2 h z q x W) (hb : Below W.heap.size W W') : FRg B p1 p2 h z q x W' := by
  unfold FRg at *
  split
  · rename_i h1
    rw [if_pos h1] at hh
    obtain ⟨a, c, e, hg⟩ := hh
    refine ⟨a, c, e, fun p hp => ((hg.1 p hp).below hb).mono hb.size, fun hn => ?_⟩
    obtain ⟨b, off, e2, hc⟩ := hg.2 hn
    refine ⟨b, off, e2, fun j p hj => ?_⟩
    have h3 := hc j p hj
    exact (hb.cell (p := ⟨b, off + j, none⟩) (block_of_cell h3)).trans h3
  · rename_i h1
    rw [if_neg h1] at hh
    split
    · rename_i h2
      rw [if_pos h2] at hh
      obtain ⟨A, c, e, hc, hn⟩ := hh
      exact ⟨A, c, e, hc, (hn.below hb).mono hb.size⟩
    · rename_i h2
      rw [if_neg h2] at hh
      split
      · rename_i h3
        rw [if_pos h3] at hh
        obtain ⟨A, c, e, hc, hn⟩ := hh
        exact ⟨A, c, e, hc, (hn.below hb).mono hb.size⟩
      · rename_i h3
        rw [if_neg h3] at hh
        exact ⟨hh.1, hh.2.imp id fun ⟨g, cap, cur, hv, hg, hx, r⟩ => ⟨g, cap, cur, hv, hg, (hb.block g (Array.getElem?_eq_some_iff.1 hx).1).trans hx, r⟩⟩

end Go.Proofs.Ytmdjgidbfcfdnaa

namespace Go.Proofs.Ytmdjgidbfcfdnaa
namespace Fc
open Cb

/-- the segments, each with its place: p: where we are; now: what is open there -/
def scan : Nat → List Int → List Int → List (Nat × List Int)
  | _, _, [] => []
  | p, now, z :: r => if z = 0 then (if now = [] then scan (p + 1) [] r else (p - now.length, now) :: scan (p + 1) [] r) else scan (p + 1) (now ++ [z]) r
/-- what is open behind the last 0 -/
def opn : List Int → List Int → List Int
  | now, [] => now
  | now, z :: r => if z = 0 then opn [] r else opn (now ++ [z]) r
def segs (zs : List Int) : List (List Int) := (scan 0 [] zs).map (·.2)

theorem scan_zero (p : Nat) (now r : List Int) : scan p now (0 :: r) = (if now = [] then [] else [(p - now.length, now)]) ++ scan (p + 1) [] r := by
  rw [scan, if_pos rfl]; split <;> simp
theorem scan_ne {z : Int} (hz : z ≠ 0) (p : Nat) (now r : List Int) : scan p now (z :: r) = scan (p + 1) (now ++ [z]) r := by rw [scan, if_neg hz]
theorem scan_nz {b : List Int} (h : NZ b) (r : List Int) : ∀ (p : Nat) (now : List Int), scan p now (b ++ r) = scan (p + b.length) (now ++ b) r := by
  induction b with
  | nil => intro p now; simp
  | cons z b ih =>
    intro p now
    rw [List.cons_append, scan_ne (h z (by simp)), ih (fun c hc => h c (by simp [hc])), List.length_cons, List.append_assoc, List.singleton_append]
    congr 1; omega
theorem scan_end {b : List Int} (h : NZ b) (p : Nat) (now : List Int) : scan p now b = [] := by
  have := scan_nz h [] p now
  rw [List.append_nil] at this
  rw [this, scan]
theorem opn_zero (now r : List Int) : opn now (0 :: r) = opn [] r := by rw [opn, if_pos rfl]
theorem opn_ne {z : Int} (hz : z ≠ 0) (now r : List Int) : opn now (z :: r) = opn (now ++ [z]) r := by rw [opn, if_neg hz]
theorem opn_nz {b : List Int} (h : NZ b) (r : List Int) : ∀ now : List Int, opn now (b ++ r) = opn (now ++ b) r := by
  induction b with
  | nil => intro now; simp
  | cons z b ih =>
    intro now
    rw [List.cons_append, opn_ne (h z (by simp)), ih (fun c hc => h c (by simp [hc])), List.append_assoc, List.singleton_append]
theorem opn_end {b : List Int} (h : NZ b) (now : List Int) : opn now b = now ++ b := by
  have := opn_nz h [] now
  rw [List.append_nil] at this
  rw [this, opn]
theorem opn_app (x y : List Int) : ∀ now : List Int, opn now (x ++ 0 :: y) = opn [] y := by
  induction x with
  | nil => intro now; rw [List.nil_append, opn_zero]
  | cons z x ih =>
    intro now
    rw [List.cons_append]
    by_cases hz : z = 0
    · subst hz; rw [opn_zero, ih]
    · rw [opn_ne hz, ih]
/-- .. as a cut of the bytes -/
theorem opn_drop {zs : List Int} {k : Nat} (hk : k = 0 ∨ ∃ i, k = i + 1 ∧ zs[i]? = some 0) (hn : NZ (zs.drop k)) : opn [] zs = zs.drop k := by
  rcases hk with rfl | ⟨i, rfl, hi⟩
  · rw [List.drop_zero] at hn ⊢; rw [opn_end hn, List.nil_append]
  · have hlt : i < zs.length := by
      rcases Nat.lt_or_ge i zs.length with h | h
      · exact h
      · rw [List.getElem?_eq_none h] at hi; cases hi
    have h1 : zs = zs.take i ++ 0 :: zs.drop (i + 1) := by
      rw [List.getElem?_eq_getElem hlt] at hi
      injection hi with hi
      rw [← hi, List.getElem_cons_drop, List.take_append_drop]
    have h2 : opn [] zs = opn [] (zs.drop (i + 1)) := by conv => lhs; rw [h1]; rw [opn_app]
    rw [h2, opn_end hn, List.nil_append]

theorem cut_nz {L : List Int} (h : nz L < L.length) : L = L.take (nz L) ++ 0 :: L.drop (nz L + 1) := by
  have hi := nz_at L h
  rw [List.getElem?_eq_getElem h] at hi
  injection hi with hi
  rw [← hi, List.getElem_cons_drop, List.take_append_drop]
theorem scan_step {L : List Int} (h : nz L < L.length) (p : Nat) : scan p [] L = (if nz L = 0 then [] else [(p, L.take (nz L))]) ++ scan (p + nz L + 1) [] (L.drop (nz L + 1)) := by
  conv => lhs; rw [cut_nz h]
  have hl : (L.take (nz L)).length = nz L := by rw [List.length_take]; omega
  rw [scan_nz (nz_take L), List.nil_append, scan_zero, hl]
  congr 1
  by_cases h0 : nz L = 0
  · rw [if_pos h0, if_pos (by rw [h0]; rfl)]
  · rw [if_neg h0, if_neg (fun e => h0 (by rw [← hl, e]; rfl))]
    congr 2; omega
theorem scan_last {L : List Int} (h : L.length ≤ nz L) (p : Nat) : scan p [] L = [] := by
  refine scan_end ?_ p []
  have := nz_take L
  rwa [List.take_of_length_le h] at this
theorem scan_snd (L : List Int) : ∀ (p q : Nat) (now : List Int), (scan p now L).map (·.2) = (scan q now L).map (·.2) := by
  induction L with
  | nil => intro p q now; simp [scan]
  | cons z r ih =>
    intro p q now
    by_cases hz : z = 0
    · subst hz
      rw [scan_zero, scan_zero, List.map_append, List.map_append, ih (p + 1) (q + 1)]
      split <;> rfl
    · rw [scan_ne hz, scan_ne hz, ih]
theorem scan_length (L : List Int) : ∀ (p : Nat) (now : List Int), (scan p now L).length ≤ L.length := by
  induction L with
  | nil => intro p now; simp [scan]
  | cons z r ih =>
    intro p now
    by_cases hz : z = 0
    · subst hz
      have := ih (p + 1) []
      rw [scan_zero, List.length_append, List.length_cons]
      split <;> simp <;> omega
    · have := ih (p + 1) (now ++ [z])
      rw [scan_ne hz, List.length_cons]; omega
theorem scan_mem (L : List Int) : ∀ (p : Nat) (now : List Int), NZ now → ∀ x ∈ scan p now L, x.2 ≠ [] ∧ NZ x.2 ∧ x.2.length ≤ now.length + L.length := by
  induction L with
  | nil => intro p now _ x hx; simp [scan] at hx
  | cons z r ih =>
    intro p now hn x hx
    by_cases hz : z = 0
    · subst hz
      rw [scan_zero] at hx
      rcases List.mem_append.1 hx with hx | hx
      · split at hx
        · simp at hx
        · rename_i h0
          simp at hx; subst hx
          exact ⟨h0, hn, by simp⟩
      · have h1 := ih (p + 1) [] (fun c hc => by simp at hc) x hx
        exact ⟨h1.1, h1.2.1, by have := h1.2.2; simp only [List.length_nil, List.length_cons] at this ⊢; omega⟩
    · rw [scan_ne hz] at hx
      have h1 := ih (p + 1) (now ++ [z]) (hn.append fun c hc => by simp at hc; subst hc; exact hz) x hx
      exact ⟨h1.1, h1.2.1, by have := h1.2.2; simp only [List.length_append, List.length_cons, List.length_nil] at this ⊢; omega⟩
theorem scan_app (x y : List Int) : ∀ (p : Nat) (now : List Int), scan p now (x ++ 0 :: y) = scan p now (x ++ [0]) ++ scan (p + x.length + 1) [] y := by
  induction x with
  | nil => intro p now; rw [List.nil_append, List.nil_append, scan_zero, scan_zero]; simp [scan]
  | cons z x ih =>
    intro p now
    rw [List.cons_append, List.cons_append]
    by_cases hz : z = 0
    · subst hz
      rw [scan_zero, scan_zero, ih, List.append_assoc, List.length_cons]
      congr 3; omega
    · rw [scan_ne hz, scan_ne hz, ih, List.length_cons]
      congr 2; omega
theorem segs_app (x y : List Int) : segs (x ++ 0 :: y) = segs (x ++ [0]) ++ segs y := by
  unfold segs
  rw [scan_app, List.map_append, scan_snd y _ 0]
theorem segs_len (zs : List Int) : (segs zs).length ≤ zs.length := by unfold segs; rw [List.length_map]; exact scan_length zs 0 []
theorem segs_mem {zs b : List Int} (h : b ∈ segs zs) : b ≠ [] ∧ NZ b ∧ b.length ≤ zs.length := by
  obtain ⟨x, hx, rfl⟩ := List.mem_map.1 h
  have := scan_mem zs 0 [] (fun c hc => by simp at hc) x hx
  exact ⟨this.1, this.2.1, by simpa using this.2.2⟩

/-- lists, each fenced -/
def wrap (ls : List (List Int)) : List Int := ls.flatMap fun b => 0 :: b ++ [0]
theorem wrap_nil : wrap [] = [] := rfl
theorem wrap_cons (b : List Int) (ls : List (List Int)) : wrap (b :: ls) = 0 :: (b ++ 0 :: wrap ls) := by simp [wrap]
theorem wrap_append (x y : List (List Int)) : wrap (x ++ y) = wrap x ++ wrap y := by simp [wrap]
theorem wrap_one (b : List Int) : wrap [b] = [0] ++ b ++ [0] := by simp [wrap]
theorem scan_wrap (ls : List (List Int)) : (∀ b ∈ ls, NZ b) → ∀ p, (scan p [] (wrap ls)).map (·.2) = ls.filter (fun b => decide (b ≠ [])) := by
  induction ls with
  | nil => intro _ p; simp [wrap_nil, scan]
  | cons b ls ih =>
    intro h p
    rw [wrap_cons, scan_zero, scan_nz (h b (by simp)), scan_zero]
    have := ih (fun c hc => h c (by simp [hc])) (p + 1 + b.length + 1)
    by_cases hb : b = []
    · subst hb; simpa using this
    · simp only [if_true, List.nil_append, if_neg hb, List.map_append, this]
      rw [List.filter_cons_of_pos (by simp [hb])]
      simp
theorem segs_wrap {ls : List (List Int)} (h : ∀ b ∈ ls, NZ b) : segs (wrap ls) = ls.filter (fun b => decide (b ≠ [])) := scan_wrap ls h 0
theorem opn_wrap (ls : List (List Int)) : opn [] (wrap ls) = [] := by
  induction ls with
  | nil => rfl
  | cons b ls ih =>
    rw [wrap_cons, opn_zero, opn_app, ih]

/-! parts of sizes -/
/-- how many numbers a size takes of n -/
def clip (s : Int) (n : Nat) : Nat := min (max s 0).toNat n
/-- the parts of L, the sizes R going round, from the i-th on -/
inductive Parts (R : List Int) : Nat → List Int → List (List Int) → Prop
  | done (i : Nat) : Parts R i [] []
  | step (i : Nat) (L : List Int) (s : Int) (ps : List (List Int)) : L ≠ [] → R[i]? = some s → Parts R ((i + 1) % R.length) (L.drop (clip s L.length)) ps → Parts R i L (L.take (clip s L.length) :: ps)
theorem clip_le (s : Int) (n : Nat) : clip s n ≤ n := Nat.min_le_right _ _
theorem Parts.nil {R : List Int} {i : Nat} {L : List Int} {ps : List (List Int)} (h : Parts R i L ps) (hL : L = []) : ps = [] := by
  cases h with
  | done => rfl
  | step _ _ _ _ h1 => exact absurd hL h1
theorem Parts.cons {R : List Int} {i : Nat} {L : List Int} {ps : List (List Int)} (h : Parts R i L ps) (hL : L ≠ []) : ∃ s qs, R[i]? = some s ∧ ps = L.take (clip s L.length) :: qs ∧ Parts R ((i + 1) % R.length) (L.drop (clip s L.length)) qs := by
  cases h with
  | done => exact absurd rfl hL
  | step _ _ s qs _ h2 h3 => exact ⟨s, qs, h2, rfl, h3⟩
theorem Parts.flat {R : List Int} {i : Nat} {L : List Int} {ps : List (List Int)} (h : Parts R i L ps) : ps.flatten = L := by
  induction h with
  | done => rfl
  | step i L s ps _ _ _ ih => rw [List.flatten_cons, ih, List.take_append_drop]
theorem Parts.exists {R : List Int} (q : Nat) (hq : R.length = q) (j : Nat) (hj : j < q) (sj : Int) (hs : R[j]? = some sj) (hp : 0 < sj) :
    ∀ (n : Nat) (L : List Int), L.length = n → ∀ (d i : Nat), i < q → (i + d) % q = j → d < q → ∃ ps, Parts R i L ps ∧ ps.length ≤ n * q + d + 1 := by
  intro n
  induction n using Nat.strongRecOn with
  | ind n ihn =>
    intro L hL d
    by_cases hn : L = []
    · intro i _ _ _; exact ⟨[], hn ▸ Parts.done i, by simp⟩
    · have hLp : 0 < n := by
        rcases Nat.eq_zero_or_pos n with h0 | h0
        · exact absurd (List.eq_nil_of_length_eq_zero (hL.trans h0)) hn
        · exact h0
      induction d with
      | zero =>
        intro i hi hid hd
        rw [Nat.add_zero, Nat.mod_eq_of_lt hi] at hid
        subst hid
        have hc : 0 < clip sj L.length := by unfold clip; omega
        have hcl := clip_le sj L.length
        have hi2 : (i + 1) % q < q := Nat.mod_lt _ (by omega)
        obtain ⟨ps, h1, h2⟩ := ihn (L.drop (clip sj L.length)).length (by rw [List.length_drop]; omega) (L.drop (clip sj L.length)) rfl ((i + q - (i + 1) % q) % q) ((i + 1) % q) hi2
          (by rw [Nat.add_mod_mod, show (i + 1) % q + (i + q - (i + 1) % q) = i + q by omega, Nat.add_mod_right, Nat.mod_eq_of_lt hi]) (Nat.mod_lt _ (by omega))
        refine ⟨_, Parts.step i L sj ps hn hs (by rw [hq]; exact h1), ?_⟩
        have h3 : (i + q - (i + 1) % q) % q < q := Nat.mod_lt _ (by omega)
        have h4 : (L.drop (clip sj L.length)).length + 1 ≤ n := by rw [List.length_drop]; omega
        have h5 := Nat.mul_le_mul_right q h4
        rw [Nat.add_mul, Nat.one_mul] at h5
        rw [List.length_cons]; omega
      | succ d ihd =>
        intro i hi hid hd
        obtain ⟨s, hsi⟩ : ∃ s, R[i]? = some s := ⟨_, List.getElem?_eq_getElem (by omega)⟩
        have hi2 : (i + 1) % q < q := Nat.mod_lt _ (by omega)
        have hid2 : ((i + 1) % q + d) % q = j := by rw [Nat.mod_add_mod, show i + 1 + d = i + (d + 1) by omega]; exact hid
        by_cases h0 : clip s L.length = 0
        · obtain ⟨ps, h1, h2⟩ := ihd ((i + 1) % q) hi2 hid2 (by omega)
          refine ⟨_, Parts.step i L s ps hn hsi (by rw [hq, h0, List.drop_zero]; exact h1), ?_⟩
          rw [List.length_cons]; omega
        · have hcl := clip_le s L.length
          obtain ⟨ps, h1, h2⟩ := ihn (L.drop (clip s L.length)).length (by rw [List.length_drop]; omega) (L.drop (clip s L.length)) rfl d ((i + 1) % q) hi2 hid2 (by omega)
          refine ⟨_, Parts.step i L s ps hn hsi (by rw [hq]; exact h1), ?_⟩
          have h4 : (L.drop (clip s L.length)).length + 1 ≤ n := by rw [List.length_drop]; omega
          have h5 := Nat.mul_le_mul_right q h4
          rw [Nat.add_mul, Nat.one_mul] at h5
          rw [List.length_cons]; omega
theorem parts_some {R : List Int} (hp : ∃ s ∈ R, 0 < s) (L : List Int) : ∃ ps, Parts R 0 L ps ∧ ps.length ≤ (L.length + 1) * R.length + 1 := by
  obtain ⟨s, hs, h0⟩ := hp
  obtain ⟨j, hj, rfl⟩ := List.mem_iff_getElem.1 hs
  obtain ⟨ps, h1, h2⟩ := Parts.exists R.length rfl j hj R[j] (List.getElem?_eq_getElem hj) h0 L.length L rfl j 0 (by omega) (by rw [Nat.zero_add, Nat.mod_eq_of_lt hj]) hj
  refine ⟨ps, h1, ?_⟩
  rw [Nat.add_mul, Nat.one_mul]; omega
theorem parts_whole (L : List Int) : Parts [(L.length : Int)] 0 L (if L = [] then [] else [L]) := by
  by_cases h : L = []
  · subst h; exact Parts.done 0
  · rw [if_neg h]
    have hc : clip (L.length : Int) L.length = L.length := by unfold clip; omega
    have := Parts.step (R := [(L.length : Int)]) 0 L (L.length : Int) [] h rfl (by rw [hc, List.drop_length]; exact Parts.done _)
    rwa [hc, List.take_length] at this
end Fc
end Go.Proofs.Ytmdjgidbfcfdnaa

namespace Go.Proofs.Ytmdjgidbfcfdnaa
open Go.RowKit Go.Shelf
set_option maxRecDepth 100000
attribute [local go_sem] Oper.semAt_some

end Go.Proofs.Ytmdjgidbfcfdnaa

namespace Go.Proofs.Ytmdjgidbfcfdnaa
open Go.RowKit Go.Shelf
set_option maxRecDepth 100000
attribute [local go_sem] Oper.semAt_some

end Go.Proofs.Ytmdjgidbfcfdnaa

namespace Go.Proofs.Ytmdjgidbfcfdnaa
open Go.RowKit

theorem wpListIn_append_vals {F : Fence} {nF : Nat} {P : Program} {w : World} {ops : Array Oper} {rest : List Oper} {o : Oper} {a : Act} {Q : Exit → Act → World → Prop} (hg : o.guard = none) (s x : Operand) (t : TypeId)
    (hop : o.op = Op.call { callee := Callee.builtin Builtin.append, args := #[s, x], argTypes := #[t, t] })
    (base : Nat) (e : TypeId) (i : TypeInfo) (z : Value) (bytes : Nat) (ht : P.underlying t = some (.slice e)) (hi : P.info? e = some i) (hz : i.zero = some z) (hsize : i.size = 1) (hby : i.bytes = bytes) (hzs : z.cells.size = 1)
    (n : Nat) (xs news : List Value) (v : Value) (hs : a.eval s = v) (hown : w.ownsRow base e 1 v n xs) (ad : Addr) (m c : Nat) (hx : a.eval x = .slice (some ad) m c) (hm : news.length = m) (hnews : ∀ j u, news[j]? = some u → w.cell? (ad.add j) = some u) (hone : ∀ u ∈ news, u.oneCell' = true)
    (h63 : n + m ≤ maxLen) (hbytes : (n + m) * bytes ≤ 140737488355328) (hbase : base ≤ w.heap.size)
    (hK : ∀ v' w', w'.ownsRow base e 1 v' (n + m) (xs ++ news) → w.grownBy w' v.ownBlock → wpListIn F nF P ops Q rest (a.put o.dst v') w') :
    wpListIn F nF P ops Q (o :: rest) a w := by
  refine wpListIn_plain hg fun K hK' => ?_
  obtain ⟨v', w', hrun, r1, r2, _⟩ := run_append_own (P := P) (w := w) base t o.type e i z 1 bytes ht hi hz hsize hby hzs (by decide) v n xs hown ad m c news (by omega) hnews hone h63 hbytes hbase
  unfold Oper.wpIn
  refine ⟨?_, ?_⟩
  · simp [Oper.about, hop, resolve, Target.leads, Sem.run_pure]
  · rw [Oper.semAt_plain F _ _ (by rw [hop]; intro c hc'; cases hc')]
    simp [execOp, hop, resolve, invoke, builtin, hs, hx, hrun, Result.andThen]
    exact hK' _ _ (hK v' w' r1 r2)

/-- what a box of a list that is appended to leaves; base: where the list's own blocks begin, above the box -/
structure ListApp (base Bo : Nat) (t e : TypeId) (v' : Value) (m : Nat) (ys : List Value) (W W2 : World) : Prop where
  out : Boxed W2 Bo t v'
  row : W2.ownsRow base e 1 v' m ys
  others : KeepsOthers W W2
  off : ∀ w : World, w.heap.size = base → Off (fun k => k = Bo) w W → Off (fun k => k = Bo) w W2
  keep : ∀ S : Nat → Prop, ¬ S Bo → (∀ k, S k → k < base) → KeepS S W W2
theorem list_appended {W w1 : World} {base Bo : Nat} {t e : TypeId} {v v' : Value} {n m : Nat} {xs ys : List Value} (hv : Boxed W Bo t v) (hrow : W.ownsRow base e 1 v n xs) (hBo : Bo < base) (hbase : base ≤ W.heap.size)
    (hown' : w1.ownsRow base e 1 v' m ys) (hg : W.grownBy w1 v.ownBlock) :
    Boxed w1 Bo t v ∧ ListApp base Bo t e v' m ys W (w1.setCell ⟨Bo, 0, none⟩ v') := by
  have hlt := hrow.lt
  have hne : some Bo ≠ v.ownBlock := fun e2 => by have := (hlt Bo e2.symm).1; omega
  have hne' : v'.ownBlock = none ∨ v'.ownBlock ≠ some Bo := by
    right; intro e2; have := (hown'.lt Bo e2).1; omega
  have hv1 : Boxed w1 Bo t v := hv.kept hg hne
  have hblk : ∀ k, k < base → k ≠ Bo → (w1.setCell ⟨Bo, 0, none⟩ v').heap[k]? = W.heap[k]? := fun k hk hkn => by
    refine (Below.heap_setCell w1 ⟨Bo, 0, none⟩ v' k hkn).trans (hg.block k (by omega) fun e2 => ?_)
    have := (hlt k e2.symm).1; omega
  have hsz : W.heap.size ≤ (w1.setCell ⟨Bo, 0, none⟩ v').heap.size := by simpa [World.setCell] using hg.size
  refine ⟨hv1, hv1.set v', hown'.kept (grownBy_setCell' w1 Bo v') hne', ?_, ?_, ?_⟩
  · refine (KeepsOthers.of_grownBy hg fun j o ej hj => ?_).trans (KeepsOthers.setCell _ _ _)
    rcases hrow.2 with ⟨rfl, _⟩ | ⟨g, cap, cur, rfl, _, hgb, _⟩
    · simp [Value.ownBlock] at ej
    · obtain rfl : g = j := by simpa [Value.ownBlock] using ej
      rw [hgb] at hj; cases hj; rfl
  · exact fun w hw h => ⟨hg.os.trans h.os, hg.tape.trans h.tape, hg.output.trans h.output, Nat.le_trans h.size hsz, fun k hk hn => (hblk k (by omega) hn).trans (h.block k hk hn)⟩
  · exact fun S hS hSb => ⟨hsz, fun k hk => hblk k (hSb k hk) (fun e2 => hS (by rw [← e2]; exact hk))⟩

/-- the list v, of the lists O, whose numbers lay in blocks of S in w -/
structure LsS (tl : TypeId) (k : IntKind) (base : Nat) (w : World) (S : Nat → Prop) (W : World) (v : Value) (xs : List Value) (O : List (List Int)) : Prop where
  out : W.ownsRow base tl 1 v O.length xs
  els : ∀ (i : Nat) (b : List Int), O[i]? = some b → ∃ (A : Option Addr) (c : Nat), xs[i]? = some (.slice A b.length c) ∧ b.length ≤ c ∧ NumsS k w S A b
section
variable {tl : TypeId} {k : IntKind} {base : Nat} {w W W' : World} {S : Nat → Prop} {v v' : Value} {xs : List Value} {O : List (List Int)}
theorem LsS.start (tl : TypeId) (k : IntKind) (base : Nat) (w : World) (S : Nat → Prop) (W : World) : LsS tl k base w S W (.slice none 0 0) [] [] := ⟨World.ownsRow_nil _ _ _ _, fun i b h => by simp at h⟩
theorem LsS.more {b : List Int} {A : Option Addr} {c : Nat} (h : LsS tl k base w S W v xs O) (hown : W'.ownsRow base tl 1 v' (O.length + 1) (xs ++ [.slice A b.length c])) (hc : b.length ≤ c) (hn : NumsS k w S A b) : LsS tl k base w S W' v' (xs ++ [.slice A b.length c]) (O ++ [b]) := by
  have hxl : xs.length = O.length := by have := h.out.1; omega
  refine ⟨by simpa using hown, fun i b2 hb => ?_⟩
  rcases Nat.lt_or_ge i O.length with hi | hi
  · rw [List.getElem?_append_left hi] at hb
    obtain ⟨A2, c2, hx, r⟩ := h.els i b2 hb
    exact ⟨A2, c2, by rw [List.getElem?_append_left (by omega)]; exact hx, r⟩
  · rw [List.getElem?_append_right hi] at hb
    have hi0 : i - O.length = 0 := by
      rcases Nat.eq_zero_or_pos (i - O.length) with h0 | h0
      · exact h0
      · rw [List.getElem?_eq_none (by simp only [List.length_singleton]; omega)] at hb; simp at hb
    rw [hi0] at hb
    simp only [List.getElem?_cons_zero, Option.some.injEq] at hb
    subst hb
    exact ⟨A, c, by rw [List.getElem?_append_right (by omega), show i - xs.length = 0 by omega]; rfl, hc, hn⟩
theorem LsS.kept (h : LsS tl k base w S W v xs O) (hown : W'.ownsRow base tl 1 v O.length xs) : LsS tl k base w S W' v xs O := ⟨hown, h.els⟩
theorem ListAt.putObj {k : IntKind} {V : World} {B l : Nat} {A : Option Addr} {bl : List (List Int)} {o : Obj} (h : ListAt k V B A bl) (ho : V.heap[l]? = some o) (hc : o.isCells = false) (o' : Obj) : ListAt k (V.putObj l o') B A bl := fun i b hi => by
  obtain ⟨g, Ai, ci, e, hg, hcl, hl, hn⟩ := h i b hi
  refine ⟨g, Ai, ci, e, hg, ?_, hl, hn.putObj ho hc o'⟩
  obtain ⟨o2, h2, h3⟩ := cells_of_cell hcl
  refine (World.cell?_of_block (World.putObj_heap_other (fun e2 => ?_))).trans hcl
  simp only at h2 e2
  subst e2
  rw [ho] at h2
  injection h2 with h2
  subst h2
  rw [hc] at h3; cases h3
/-- .. as it lies, in a world in which the blocks of S are as they were -/
theorem LsS.lies (h : LsS tl k base w S W v xs O) (hK : KeepS S w W) (hS : ∀ k, S k → k < w.heap.size) : ∃ A c, v = .slice A O.length c ∧ O.length ≤ c ∧ ListAt k W W.heap.size A O := by
  rcases h.out.2 with ⟨rfl, h0⟩ | ⟨g, cap, cur, rfl, hbg, hh, hle, _⟩
  · rw [List.eq_nil_of_length_eq_zero h0]
    exact ⟨none, 0, rfl, Nat.le_refl _, fun i b hi => by simp at hi⟩
  · refine ⟨_, cap, rfl, hle, fun i b hi => ?_⟩
    obtain ⟨A, c, hx, hc, hn⟩ := h.els i b hi
    have h1 := h.out.cells (g := g) rfl i _ hx
    rw [Addr.add_lit, Nat.zero_add] at h1
    exact ⟨g, A, c, rfl, (Array.getElem?_eq_some_iff.1 hh).1, h1, hc, (hn.keeps hK).nums (fun k hk => by have := hS k hk; have := hK.1; omega)⟩
end
end Go.Proofs.Ytmdjgidbfcfdnaa

namespace Go.Proofs.Ytmdjgidbfcfdnaa
open Go.RowKit Go.Shelf
set_option maxRecDepth 100000
attribute [local go_sem] Oper.semAt_some

/-- slices.Clone of bytes, up to the form's own reach -/
theorem clone_big (a : Option Addr) (n cap : Nat) (zs : List Int) (w : World) (hn : zs.length = n) (hl : n ≤ 140737488351232) (h1 : Nums .u8 w w.heap.size a zs) :
    Calls Try.prog 25 #[.slice a n cap] w fun e w' => ∃ v, e = .returned v ∧ MadeK 5 .u8 w w' zs v := by
  subst hn
  obtain ⟨i0, hi, hz0, hz1, hz2⟩ := info_parts byteInfo
  cases a with
  | none =>
    have : zs = [] := by
      apply Classical.byContradiction
      intro hn
      obtain ⟨b, off, e, _⟩ := h1 hn
      cases e
    subst this
    have hq := fun w => Lib.run_eql_slice_nil (P := Try.prog) w 25 5 none 0 cap 0 0 Try.underlying25
    go_enter Try.func25, Try.ntmps25
    go_wp2
    go_ret
    exact ⟨_, rfl, MadeK.nil _ _ (Below.refl _ _)⟩
  | some x =>
    have hq := fun w => Lib.run_eql_slice_nil (P := Try.prog) w 25 5 (some x) zs.length cap 0 0 Try.underlying25
    have HL := Lib.hid (MadeK.lit 5 .u8 (Below.refl w.heap.size w))
    have HN := Lib.hid (h1.below ((Below.refl w.heap.size w).alloc (Nat.le_refl _) (.cells #[] 5)))
    have HX1 : Hid (([] : List Int).length + zs.length ≤ maxLen) := by show _ ≤ _; unfold maxLen; simp only [List.length_nil]; omega
    have HX2 : Hid ((([] : List Int).length + zs.length) * 1 ≤ 140737488355328) := by show _ ≤ _; simp only [List.length_nil]; omega
    go_enter Try.func25, Try.ntmps25
    go_wp2_with (at_builtin; refine wpList_append_any rfl (.tmp 5) (.tmp 6) 25 rfl w.heap.size 5 i0 (.int .u8 0) 1 Try.underlying25 hi hz0 hz1 hz2 rfl .u8 [] zs _ rfl HL.out.1 _ _ _ _ rfl rfl HN.out HX1.out HX2.out HL.out.2.size ?_)
    intro v' w1 hown hg
    have HM := Lib.hid (HL.out.more (zs := zs) (v' := v') (by simpa using hown) hg)
    rw [List.nil_append] at HM
    go_wp2
    go_ret
    exact ⟨_, rfl, HM.out⟩
/-- slices.Clone of bytes -/
theorem clone_any (a : Option Addr) (n cap : Nat) (zs : List Int) (w : World) (hn : zs.length = n) (hl : n ≤ 1000000) (h1 : Nums .u8 w w.heap.size a zs) :
    Calls Try.prog 25 #[.slice a n cap] w fun e w' => ∃ v, e = .returned v ∧ MadeK 5 .u8 w w' zs v := clone_big a n cap zs w hn (by omega) h1
end Go.Proofs.Ytmdjgidbfcfdnaa

namespace Go.Proofs.Ytmdjgidbfcfdnaa
open Go.RowKit Go.Shelf
set_option maxRecDepth 100000
attribute [local go_sem] Oper.semAt_some

/-- what Split leaves -/
def SplitR (w : World) (zs : List Int) (e : Ending) (w' : World) : Prop :=
  ∃ A1 c1 A2 c2, e = .returned (.tuple #[.slice A1 (Fc.segs zs).length c1, .slice A2 (Fc.opn [] zs).length c2]) ∧ (Fc.segs zs).length ≤ c1 ∧ (Fc.opn [] zs).length ≤ c2 ∧
    ListAt .u8 w' w'.heap.size A1 (Fc.segs zs) ∧ Nums .u8 w' w'.heap.size A2 (Fc.opn [] zs) ∧ Below w.heap.size w w'

end Go.Proofs.Ytmdjgidbfcfdnaa

namespace Go.Proofs.Ytmdjgidbfcfdnaa
open Go.RowKit

/-- x is a slice of the numbers b, in a block of the call's own with elements of type te -/
def El1 (te : TypeId) (k : IntKind) (base : Nat) (W : World) (x : Value) (b : List Int) : Prop :=
  ∃ (A : Option Addr) (c : Nat), x = .slice A b.length c ∧ b.length ≤ c ∧ (b ≠ [] → ∃ (g : Nat) (cur : Array Value), A = some ⟨g, 0, none⟩ ∧ base ≤ g ∧ W.heap[g]? = some (.cells cur te (0, 0)) ∧ ∀ (j : Nat) (z : Int), b[j]? = some z → cur[j]? = some (Value.int k z))
/-- the slice v of slices, the lists O -/
structure L1 (te tl : TypeId) (k : IntKind) (base : Nat) (W : World) (v : Value) (xs : List Value) (O : List (List Int)) : Prop where
  out : W.ownsRow base tl 1 v O.length xs
  els : ∀ (i : Nat) (b : List Int), O[i]? = some b → ∃ x, xs[i]? = some x ∧ El1 te k base W x b
section
variable {te tl : TypeId} {k : IntKind} {base : Nat} {W w1 W' : World} {v v' u x : Value} {xs ys : List Value} {O P : List (List Int)} {b : List Int} {o : Obj}
theorem L1.start (te tl : TypeId) (k : IntKind) (base : Nat) (W : World) : L1 te tl k base W (.slice none 0 0) [] [] := ⟨World.ownsRow_nil _ _ _ _, fun i b h => by simp at h⟩
theorem own_below {e : TypeId} {n : Nat} (h : W.ownsRow base e 1 v n xs) (hb : Below W.heap.size W W') : W'.ownsRow base e 1 v n xs := by
  refine ⟨h.1, ?_⟩
  rcases h.2 with h | ⟨g, cap, cur, hv, hg, hh, r⟩
  · exact .inl h
  · exact .inr ⟨g, cap, cur, hv, hg, (hb.block g (Array.getElem?_eq_some_iff.1 hh).1).trans hh, r⟩
theorem El1.below (h : El1 te k base W x b) (hb : Below W.heap.size W W') : El1 te k base W' x b := by
  obtain ⟨A, c, rfl, hc, hz⟩ := h
  refine ⟨A, c, rfl, hc, fun hn => ?_⟩
  obtain ⟨g, cur, rfl, hg, hh, hj⟩ := hz hn
  exact ⟨g, cur, rfl, hg, (hb.block g (Array.getElem?_eq_some_iff.1 hh).1).trans hh, hj⟩
theorem L1.below (h : L1 te tl k base W v xs O) (hb : Below W.heap.size W W') : L1 te tl k base W' v xs O :=
  ⟨own_below h.out hb, fun i b hi => by obtain ⟨x, hx, he⟩ := h.els i b hi; exact ⟨x, hx, he.below hb⟩⟩
/-- what a row that the call has just made is -/
theorem El1.of_made {w : World} (h : MadeK te k w W b x) (hb : base ≤ w.heap.size) : El1 te k base W x b := by
  have h1 := h.1
  rcases h1.2 with ⟨rfl, h0⟩ | ⟨g, cap, cur, rfl, hbg, hh, hle, _, _, htk⟩
  · rw [List.eq_nil_of_length_eq_zero h0]
    exact ⟨none, 0, rfl, Nat.le_refl _, fun hn => absurd rfl hn⟩
  · refine ⟨_, cap, rfl, hle, fun _ => ⟨g, cur, rfl, by omega, hh, fun j z hj => ?_⟩⟩
    have h1 : (b.map (Value.int k))[j]? = some (.int k z) := by rw [List.getElem?_map, hj]; rfl
    rw [← htk, List.getElem?_take] at h1
    split at h1
    · rw [← Array.getElem?_toList]; exact h1
    · simp at h1
theorem El1.slice (h : El1 te k base W x b) : ∃ A c, x = .slice A b.length c := by
  obtain ⟨A, c, e, _⟩ := h
  exact ⟨A, c, e⟩
/-- a row of another element type has grown -/
theorem El1.grown {n : Nat} (h : El1 te k base W x b) (hne : te ≠ tl) (hown : W.ownsRow base tl 1 v n xs) (hg : (W.alloc o).grownBy w1 v.ownBlock) : El1 te k base w1 x b := by
  obtain ⟨A, c, rfl, hc, hz⟩ := h
  refine ⟨A, c, rfl, hc, fun hn => ?_⟩
  obtain ⟨g, cur, rfl, hbg, hh, hj⟩ := hz hn
  have hlt := (Array.getElem?_eq_some_iff.1 hh).1
  refine ⟨g, cur, rfl, hbg, ?_, hj⟩
  rw [hg.block g (by rw [World.size_alloc]; omega) (fun e => ?_)]
  · exact (Below.heap_alloc W o g hlt).trans hh
  · rcases hown.2 with ⟨rfl, _⟩ | ⟨g2, cap2, cur2, rfl, _, hh2, _⟩
    · simp [Value.ownBlock] at e
    · simp only [Value.ownBlock, Option.some.injEq] at e
      subst e
      rw [hh] at hh2
      injection hh2 with hh2
      injection hh2 with _ ht
      exact hne ht
/-- an element more -/
theorem L1.push (h : L1 te tl k base W v xs O) (hne : te ≠ tl) (hx : El1 te k base W x b) (hown : w1.ownsRow base tl 1 v' (O.length + 1) (xs ++ [x])) (hg : (W.alloc o).grownBy w1 v.ownBlock) :
    L1 te tl k base w1 v' (xs ++ [x]) (O ++ [b]) := by
  have hxl : xs.length = O.length := by have := h.out.1; omega
  refine ⟨by simpa using hown, fun i b2 hb => ?_⟩
  rcases Nat.lt_or_ge i O.length with hi | hi
  · rw [List.getElem?_append_left hi] at hb
    obtain ⟨x2, hx2, he⟩ := h.els i b2 hb
    exact ⟨x2, by rw [List.getElem?_append_left (by omega)]; exact hx2, he.grown hne h.out hg⟩
  · rw [List.getElem?_append_right hi] at hb
    have hi0 : i - O.length = 0 := by
      rcases Nat.eq_zero_or_pos (i - O.length) with h0 | h0
      · exact h0
      · rw [List.getElem?_eq_none (by simp only [List.length_singleton]; omega)] at hb; simp at hb
    rw [hi0] at hb
    simp only [List.getElem?_cons_zero, Option.some.injEq] at hb
    subst hb
    exact ⟨x, by rw [List.getElem?_append_right (by omega), show i - xs.length = 0 by omega]; rfl, hx.grown hne h.out hg⟩
/-- .. beside another list -/
theorem L1.beside {n : Nat} (h : L1 te tl k base W u ys P) (hne : te ≠ tl) (hsep : u.ownBlock = none ∨ u.ownBlock ≠ v.ownBlock) (hown : W.ownsRow base tl 1 v n xs) (hg : (W.alloc o).grownBy w1 v.ownBlock) : L1 te tl k base w1 u ys P :=
  ⟨(h.out.alloc o).kept hg hsep, fun i b hi => by obtain ⟨x, hx, he⟩ := h.els i b hi; exact ⟨x, hx, he.grown hne hown hg⟩⟩
/-- .. which stays apart -/
theorem apart_grown {n : Nat} {e : TypeId} (h : W.ownsRow base e 1 u n ys) (hsep : u.ownBlock = none ∨ u.ownBlock ≠ v.ownBlock) (hat : v'.ownBlock = v.ownBlock ∨ v'.ownBlock = some (W.alloc o).heap.size) : u.ownBlock = none ∨ u.ownBlock ≠ v'.ownBlock := by
  rcases hsep with h0 | h0
  · exact .inl h0
  · right
    rcases hat with e | e
    · rw [e]; exact h0
    · intro e2
      rw [e, World.size_alloc] at e2
      rcases h.2 with ⟨rfl, _⟩ | ⟨g, cap, cur, rfl, _, hh, _⟩
      · simp [Value.ownBlock] at e2
      · simp only [Value.ownBlock, Option.some.injEq] at e2
        have := (Array.getElem?_eq_some_iff.1 hh).1
        omega
theorem apart_symm {n m : Nat} {e : TypeId} (_h : W.ownsRow base e 1 v n xs) (_h2 : W.ownsRow base e 1 u m ys) (hsep : u.ownBlock = none ∨ u.ownBlock ≠ v.ownBlock) : v.ownBlock = none ∨ v.ownBlock ≠ u.ownBlock := by
  rcases hsep with h0 | h0
  · cases hv : v.ownBlock with
    | none => exact .inl rfl
    | some g => right; rw [h0]; simp
  · exact .inr (Ne.symm h0)
theorem L1.lies (h : L1 te tl k base W v xs O) : ∃ A c, v = .slice A O.length c ∧ O.length ≤ c ∧ ListAt k W W.heap.size A O := by
  rcases h.out.2 with ⟨rfl, h0⟩ | ⟨g, cap, cur, rfl, hbg, hh, hle, _⟩
  · rw [List.eq_nil_of_length_eq_zero h0]
    exact ⟨none, 0, rfl, Nat.le_refl _, fun i b hi => by simp at hi⟩
  · refine ⟨_, cap, rfl, hle, fun i b hi => ?_⟩
    obtain ⟨x, hx, A, c, rfl, hc, hcell⟩ := h.els i b hi
    have h1 := h.out.cells (g := g) rfl i _ hx
    rw [Addr.add_lit, Nat.zero_add] at h1
    refine ⟨g, A, c, rfl, (Array.getElem?_eq_some_iff.1 hh).1, h1, hc, fun hn => ?_⟩
    obtain ⟨g2, cur2, rfl, _, hh2, hz⟩ := hcell hn
    refine ⟨g2, 0, rfl, (Array.getElem?_eq_some_iff.1 hh2).1, fun j z hj => ?_⟩
    rw [Nat.zero_add]
    simp [World.cell?, hh2, hz j z hj]
end
end Go.Proofs.Ytmdjgidbfcfdnaa

namespace Go.Proofs.Ytmdjgidbfcfdnaa
open Go.RowKit Go.Shelf
set_option maxRecDepth 100000
attribute [local go_sem] Oper.semAt_some

theorem wrap_take (bl : List (List Int)) (k : Nat) {b : List Int} (hb : bl[k]? = some b) : Fc.wrap (bl.take (k + 1)) = Fc.wrap (bl.take k) ++ [0] ++ b ++ [0] := by
  rw [List.take_add_one, hb, Fc.wrap_append]
  simp [Fc.wrap]
theorem wrap_take_le (bl : List (List Int)) (k : Nat) : (Fc.wrap (bl.take k)).length ≤ (Fc.wrap bl).length := by
  conv => rhs; rw [← List.take_append_drop k bl, Fc.wrap_append, List.length_append]
  omega

end Go.Proofs.Ytmdjgidbfcfdnaa

namespace Go.Proofs.Ytmdjgidbfcfdnaa
open Go.RowKit Go.Shelf
set_option maxRecDepth 100000

/-- a frame that lies somewhere -/
structure Fr where
  v : Int
  k : Int
  s : Int
  i : Int
  c : Int
  a : Option Addr
  cp : Nat
  zs : List Int
def Fr.cs (f : Fr) : Array Value := frC f.v f.k f.s f.i f.c (.slice f.a f.zs.length f.cp)
structure Fr.At (w : World) (B : Nat) (f : Fr) : Prop where
  s0 : 0 ≤ f.s
  s1 : f.s ≤ 4294967295
  room : f.zs.length ≤ f.cp
  few : f.zs.length ≤ 9223372036854775807
  byte : Bytes f.zs
  nums : Nums .u8 w B f.a f.zs
theorem Fr.At.below {w w' : World} {B : Nat} {f : Fr} (h : f.At w B) (hb : Below B w w') : f.At w' B := ⟨h.s0, h.s1, h.room, h.few, h.byte, h.nums.below hb⟩
theorem Fr.At.mono {w : World} {B B' : Nat} {f : Fr} (h : f.At w B) (hB : B ≤ B') : f.At w B' := ⟨h.s0, h.s1, h.room, h.few, h.byte, h.nums.mono hB⟩
def Fr.chk (f : Fr) : Int := fchk f.v f.k f.i f.c f.zs.length
def Fr.blk (f : Fr) : List Int := fblk f.v f.k f.s f.i f.c f.zs
def Fr.seg (f : Fr) : List Int := Cb.enc f.blk
theorem Fr.seg_len {f : Fr} (h : f.chk = 0) : f.seg.length = f.zs.length + 13 := by
  have h1 := (fchk_zero h).2
  have h2 : f.blk.length = f.zs.length + 12 := fblk_len _ _ _ _ _ _
  have h3 := (Cb.enc_len f.blk).2.2.1 (by omega)
  unfold Fr.seg
  omega
/-- the first that is wrong -/
def firstBad : List Fr → Int
  | [] => 0
  | f :: r => if f.chk ≠ 0 then f.chk else firstBad r
theorem firstBad_zero : ∀ {fs : List Fr}, (∀ f ∈ fs, f.chk = 0) → firstBad fs = 0
  | [], _ => rfl
  | f :: r, h => by
    rw [firstBad, if_neg (by simp [h f (by simp)])]
    exact firstBad_zero fun g hg => h g (by simp [hg])
theorem firstBad_all : ∀ {fs : List Fr}, firstBad fs = 0 → ∀ f ∈ fs, f.chk = 0
  | [], _, _, hf => by cases hf
  | g :: r, h, f, hf => by
    rw [firstBad] at h
    by_cases h0 : g.chk = 0
    · rw [if_neg (by simp [h0])] at h
      rcases List.mem_cons.1 hf with rfl | hf
      · exact h0
      · exact firstBad_all h f hf
    · rw [if_pos h0] at h; exact absurd h h0
theorem firstBad_at : ∀ {fs : List Fr} {k : Nat} {f : Fr}, (∀ g ∈ fs.take k, g.chk = 0) → fs[k]? = some f → f.chk ≠ 0 → firstBad fs = f.chk
  | [], _, _, _, h, _ => by simp at h
  | g :: r, 0, f, _, h, hf => by
    simp only [List.getElem?_cons_zero, Option.some.injEq] at h
    subst h
    rw [firstBad, if_pos hf]
  | g :: r, k + 1, f, hg, h, hf => by
    rw [firstBad, if_neg (by simp [hg g (by simp)])]
    exact firstBad_at (k := k) (fun x hx => hg x (by rw [List.take_succ_cons]; exact List.mem_cons_of_mem _ hx)) (by simpa using h) hf

/-- frames that lie one behind the other, below B -/
def FrsAt (w : World) (B : Nat) (A : Option Addr) (fs : List Fr) : Prop :=
  (∀ f ∈ fs, f.At w B) ∧ ∀ (j : Nat) (f : Fr), fs[j]? = some f → ∃ b off, A = some ⟨b, off, none⟩ ∧ b < B ∧ ∀ (q : Nat) (u : Value), f.cs[q]? = some u → w.cell? ⟨b, off + j * 6 + q, none⟩ = some u
theorem FrsAt.below {w w' : World} {B : Nat} {A : Option Addr} {fs : List Fr} (h : FrsAt w B A fs) (hb : Below B w w') : FrsAt w' B A fs := by
  refine ⟨fun f hf => (h.1 f hf).below hb, fun j f hj => ?_⟩
  obtain ⟨b, off, e, hB, hc⟩ := h.2 j f hj
  exact ⟨b, off, e, hB, fun q u hq => (hb.cell (p := ⟨b, off + j * 6 + q, none⟩) hB).trans (hc q u hq)⟩
theorem FrsAt.mono {w : World} {B B' : Nat} {A : Option Addr} {fs : List Fr} (h : FrsAt w B A fs) (hB : B ≤ B') : FrsAt w B' A fs := by
  refine ⟨fun f hf => (h.1 f hf).mono hB, fun j f hj => ?_⟩
  obtain ⟨b, off, e, hB', hc⟩ := h.2 j f hj
  exact ⟨b, off, e, by omega, hc⟩
theorem FrsAt.six {w : World} {B : Nat} {A : Option Addr} {fs : List Fr} (h : FrsAt w B A fs) {j : Nat} {f : Fr} (hj : fs[j]? = some f) : ∃ b off, A = some ⟨b, off, none⟩ ∧ b < B ∧
    w.cell? ⟨b, off + j * 6, none⟩ = some (.int .i64 f.v) ∧ w.cell? ⟨b, off + j * 6 + 1, none⟩ = some (.int .i64 f.k) ∧ w.cell? ⟨b, off + j * 6 + 2, none⟩ = some (.int .u32 f.s) ∧ w.cell? ⟨b, off + j * 6 + 3, none⟩ = some (.int .i64 f.i) ∧
    w.cell? ⟨b, off + j * 6 + 4, none⟩ = some (.int .i64 f.c) ∧ w.cell? ⟨b, off + j * 6 + 5, none⟩ = some (.slice f.a f.zs.length f.cp) := by
  obtain ⟨b, off, e, hB, hc⟩ := h.2 j f hj
  exact ⟨b, off, e, hB, hc 0 _ rfl, hc 1 _ rfl, hc 2 _ rfl, hc 3 _ rfl, hc 4 _ rfl, hc 5 _ rfl⟩

/-- the segments' list, its first k filled -/
structure PkAt (w : World) (fs : List Fr) (n k : Nat) (wr : World) : Prop where
  below : Below w.heap.size w wr
  row : ∃ cs, wr.heap[w.heap.size]? = some (.cells cs 25 (0, 0)) ∧ cs.size = n ∧ ∀ (j : Nat) (f : Fr), j < k → fs[j]? = some f →
    ∃ Aj cj, cs[j]? = some (.slice Aj f.seg.length cj) ∧ f.seg.length ≤ cj ∧ NumsS .u8 wr (fun b => w.heap.size < b ∧ b < wr.heap.size) Aj f.seg
section
variable {w wr w2 : World} {fs : List Fr} {n k : Nat}
theorem PkAt.start (w : World) (fs : List Fr) (cs : Array Value) (hn : cs.size = n) : PkAt w fs n 0 (w.alloc (.cells cs 25)) :=
  ⟨(Below.refl _ w).alloc (Nat.le_refl _) _, cs, heap_alloc_new w _, hn, fun j f hj _ => by omega⟩
theorem PkAt.lt (h : PkAt w fs n k wr) : w.heap.size < wr.heap.size := by
  obtain ⟨cs, hh, _⟩ := h.row
  exact (Array.getElem?_eq_some_iff.1 hh).1
theorem PkAt.later (h : PkAt w fs n k wr) (hb : Below wr.heap.size wr w2) : PkAt w fs n k w2 := by
  have hlt := h.lt
  refine ⟨h.below.trans (hb.mono h.below.size), ?_⟩
  obtain ⟨cs, hh, hs, hc⟩ := h.row
  refine ⟨cs, (hb.block _ hlt).trans hh, hs, fun j f hj hf => ?_⟩
  obtain ⟨Aj, cj, h1, h2, h3⟩ := hc j f hj hf
  exact ⟨Aj, cj, h1, h2, (h3.keeps (KeepS.of_below hb fun k hk => hk.2)).more fun k hk => ⟨hk.1, Nat.lt_of_lt_of_le hk.2 hb.size⟩⟩
theorem PkAt.cell (h : PkAt w fs n k wr) {j : Nat} (hj : j < n) : (∃ u, wr.cell? ⟨w.heap.size, j, none⟩ = some u) ∧ wr.frozen? ⟨w.heap.size, j, none⟩ = false := by
  obtain ⟨cs, hh, hs, _⟩ := h.row
  exact ⟨⟨cs[j], by rw [cell_of_row wr _ j cs _ _ hh]; exact Array.getElem?_eq_getElem (by omega)⟩, frozen_of_row wr _ j cs _ hh⟩
theorem PkAt.put {w1 : World} {f : Fr} {A : Option Addr} {c : Nat} (h : PkAt w fs n k wr) (hk : k < n) (hf : fs[k]? = some f) (hm : MadeK 5 .u8 w1 wr f.seg (.slice A f.seg.length c)) (hw : w.heap.size < w1.heap.size) (hc : f.seg.length ≤ c) :
    PkAt w fs n (k + 1) (wr.setCell ⟨w.heap.size, k, none⟩ (.slice A f.seg.length c)) := by
  obtain ⟨cs, hh, hs, hr⟩ := h.row
  have hS : ∀ x, KeepS (fun b => w.heap.size < b ∧ b < wr.heap.size) wr (wr.setCell ⟨w.heap.size, k, none⟩ x) := fun x => ⟨by simp [World.setCell], fun j hj => Below.heap_setCell wr ⟨w.heap.size, k, none⟩ x j (fun e => by subst e; exact Nat.lt_irrefl _ hj.1)⟩
  have hz : (wr.setCell ⟨w.heap.size, k, none⟩ (.slice A f.seg.length c)).heap.size = wr.heap.size := by simp [World.setCell]
  refine ⟨h.below.setCell (Nat.le_refl _) _, _, setCell_at hh, by simpa using hs, fun j g hj hg => ?_⟩
  rw [Array.getElem?_setIfInBounds]
  by_cases hjk : k = j
  · subst hjk
    obtain rfl : f = g := Option.some.inj (hf.symm.trans hg)
    rw [if_pos rfl, if_pos (by omega)]
    refine ⟨A, c, rfl, hc, ?_⟩
    have h3 := (hm.numsS rfl).more (S' := fun b => w.heap.size < b ∧ b < wr.heap.size) fun b hb => ⟨by omega, hb.2⟩
    rw [hz]
    exact h3.keeps (hS _)
  · rw [if_neg hjk]
    obtain ⟨Aj, cj, h1, h2, h3⟩ := hr j g (by omega) hg
    rw [hz]
    exact ⟨Aj, cj, h1, h2, h3.keeps (hS _)⟩
theorem PkAt.list (h : PkAt w fs n k wr) (hk : fs.length ≤ k) : ListAt .u8 wr wr.heap.size (some ⟨w.heap.size, 0, none⟩) (fs.map Fr.seg) := fun j b hb => by
  rw [List.getElem?_map] at hb
  obtain ⟨f, hf, rfl⟩ := Option.map_eq_some_iff.1 hb
  obtain ⟨cs, hh, hs, hr⟩ := h.row
  have hj : j < fs.length := (List.getElem?_eq_some_iff.1 hf).1
  obtain ⟨Aj, cj, h1, h2, h3⟩ := hr j f (by omega) hf
  exact ⟨_, Aj, cj, rfl, h.lt, by rw [cell_of_row wr _ j cs _ _ hh]; exact h1, h2, h3.nums fun k hk => hk.2⟩
end
end Go.Proofs.Ytmdjgidbfcfdnaa

namespace Go.Proofs.Ytmdjgidbfcfdnaa
open Go.RowKit
set_option maxRecDepth 100000

namespace Ct
/-- how many parts n bytes have by a room -/
def cnt (n r : Nat) : Nat := (n + r - 1) / r
/-- the part at a place -/
def part (zs : List Int) (r j : Nat) : List Int := (zs.drop (j * r)).take r
theorem lt_cnt {n r j : Nat} (hr : 1 ≤ r) : j < cnt n r ↔ j * r < n := by
  unfold cnt
  have h := Nat.le_div_iff_mul_le (k0 := hr) (x := j + 1) (y := n + r - 1)
  rw [Nat.add_mul, Nat.one_mul] at h
  constructor
  · intro hj
    have := h.1 hj
    omega
  · intro hj
    exact h.2 (by omega)
theorem cnt_zero (r : Nat) : cnt 0 r = 0 := by
  rcases Nat.eq_zero_or_pos r with rfl | h
  · simp [cnt]
  · unfold cnt; rw [Nat.zero_add, Nat.div_eq_of_lt (by omega)]
theorem cnt_pos {n r : Nat} (hr : 1 ≤ r) (hn : 1 ≤ n) : 1 ≤ cnt n r := (lt_cnt (n := n) (j := 0) hr).2 (by omega)
theorem cnt_le {n r : Nat} (hr : 1 ≤ r) : cnt n r ≤ n := by
  rcases Nat.lt_or_ge n (cnt n r) with h | h
  · have := (lt_cnt hr).1 h
    have h2 : n * 1 ≤ n * r := Nat.mul_le_mul_left n hr
    omega
  · exact h
theorem cnt_anti {n r r' : Nat} (hr : 1 ≤ r) (h : r ≤ r') : cnt n r' ≤ cnt n r := by
  rcases Nat.lt_or_ge (cnt n r) (cnt n r') with h1 | h1
  · have h2 := (lt_cnt (by omega : 1 ≤ r')).1 h1
    have h3 : cnt n r * r ≤ cnt n r * r' := Nat.mul_le_mul_left _ h
    have := (lt_cnt (n := n) hr).2 (by omega : cnt n r * r < n)
    omega
  · exact h1
theorem cnt_end {n r : Nat} (hr : 1 ≤ r) : n ≤ cnt n r * r := by
  rcases Nat.lt_or_ge (cnt n r * r) n with h | h
  · have := (lt_cnt hr).2 h; omega
  · exact h
theorem cnt_div {n r : Nat} (hr : 1 ≤ r) (hn : 1 ≤ n) : (n - 1) / r + 1 = cnt n r := by
  unfold cnt
  rw [show n + r - 1 = (n - 1) + r by omega, Nat.add_div_right _ hr]
theorem part_len (zs : List Int) (r j : Nat) : (part zs r j).length = min r (zs.length - j * r) := by
  unfold part; rw [List.length_take, List.length_drop]
theorem part_mem {zs : List Int} {r j : Nat} {z : Int} (h : z ∈ part zs r j) : z ∈ zs := List.mem_of_mem_drop (List.mem_of_mem_take h)
theorem part_take {zs : List Int} (r j : Nat) : zs.take (j * r) ++ part zs r j = zs.take ((j + 1) * r) := by
  unfold part
  rw [Nat.add_mul, Nat.one_mul, List.take_add]

/-- the frames of a body, of a head -/
structure Cut (v k s : Int) (zs : List Int) (r : Nat) (fs : List Fr) : Prop where
  len : fs.length = cnt zs.length r
  at' : ∀ (j : Nat) (f : Fr), fs[j]? = some f → f.v = v ∧ f.k = k ∧ f.s = s ∧ f.i = (j : Int) ∧ f.c = (cnt zs.length r : Int) ∧ f.zs = part zs r j
/-- the payloads, one behind the other -/
def flat (fs : List Fr) : List Int := fs.flatMap Fr.zs
theorem flat_push (fs : List Fr) (f : Fr) : flat (fs ++ [f]) = flat fs ++ f.zs := by simp [flat]
theorem flat_take {fs : List Fr} {j : Nat} {f : Fr} (h : fs[j]? = some f) : flat (fs.take (j + 1)) = flat (fs.take j) ++ f.zs := by
  rw [List.take_add_one, h]; exact flat_push _ _
theorem flat_len_le (fs : List Fr) (k : Nat) : (flat (fs.take k)).length ≤ (flat fs).length := by
  have h : flat fs = flat (fs.take k) ++ flat (fs.drop k) := by
    unfold flat; rw [← List.flatMap_append, List.take_append_drop]
  rw [h, List.length_append]; omega
theorem Cut.flat_upto {v k s : Int} {zs : List Int} {r : Nat} {fs : List Fr} (h : Cut v k s zs r fs) : ∀ j, j ≤ fs.length → flat (fs.take j) = zs.take (j * r)
  | 0, _ => by simp [flat]
  | j + 1, hj => by
    obtain ⟨f, hf⟩ : ∃ f, fs[j]? = some f := ⟨_, List.getElem?_eq_getElem (by omega)⟩
    rw [flat_take hf, Cut.flat_upto h j (by omega), (h.at' j f hf).2.2.2.2.2, part_take]
theorem Cut.flat_eq {v k s : Int} {zs : List Int} {r : Nat} {fs : List Fr} (h : Cut v k s zs r fs) (hr : 1 ≤ r) : flat fs = zs := by
  have h1 := h.flat_upto fs.length (Nat.le_refl _)
  rw [List.take_length, h.len, List.take_of_length_le (cnt_end hr)] at h1
  exact h1

/-- what is wrong with a cut -/
def fErr (v k : Int) (n : Nat) (room : Int) : Int := if n = 0 then 13 else if 192 < n then 2 else if room < 1 ∨ 242 < room then 5 else chk v k 0 (cnt n room.toNat : Int)
theorem fErr_zero {v k : Int} {n : Nat} {room : Int} (h : fErr v k n room = 0) : 1 ≤ n ∧ n ≤ 192 ∧ 1 ≤ room ∧ room ≤ 242 ∧ chk v k 0 (cnt n room.toNat : Int) = 0 := by
  unfold fErr at h
  split at h
  · omega
  · split at h
    · omega
    · split at h
      · omega
      · exact ⟨by omega, by omega, by omega, by omega, h⟩

/-- what is wrong with one frame beside the first one, at its place -/
def wBad (f0 f : Fr) (j : Nat) : Int := if mateZ f0.v f0.k f0.s f0.c f.v f.k f.s f.c = true then (if f.i = (j : Int) then 0 else 3) else 17
def wFst (f0 : Fr) : Nat → List Fr → Int
  | _, [] => 0
  | j, f :: r => if wBad f0 f j ≠ 0 then wBad f0 f j else wFst f0 (j + 1) r
def wEnd (f0 : Fr) (n : Nat) : Int := if (n : Int) < f0.c then 13 else if f0.c < (n : Int) then 6 else 0
/-- what is wrong with frames -/
def wErr : List Fr → Int
  | [] => 13
  | f0 :: r => if wFst f0 0 (f0 :: r) ≠ 0 then wFst f0 0 (f0 :: r) else wEnd f0 (r.length + 1)
theorem wFst_zero (f0 : Fr) : ∀ (s : Nat) (fs : List Fr), (∀ (j : Nat) (g : Fr), fs[j]? = some g → wBad f0 g (s + j) = 0) → wFst f0 s fs = 0
  | _, [], _ => rfl
  | s, f :: r, h => by
    have h0 := h 0 f rfl
    rw [Nat.add_zero] at h0
    rw [wFst, if_neg (by simp [h0])]
    exact wFst_zero f0 (s + 1) r fun j g hg => by
      have := h (j + 1) g (by simpa using hg)
      rwa [show s + (j + 1) = s + 1 + j by omega] at this
theorem wFst_at (f0 : Fr) : ∀ (s k : Nat) (fs : List Fr) (f : Fr), (∀ (j : Nat) (g : Fr), j < k → fs[j]? = some g → wBad f0 g (s + j) = 0) → fs[k]? = some f → wBad f0 f (s + k) ≠ 0 → wFst f0 s fs = wBad f0 f (s + k)
  | _, _, [], _, _, h, _ => by simp at h
  | s, 0, g :: r, f, _, hf, hb => by
    simp only [List.getElem?_cons_zero, Option.some.injEq] at hf
    subst hf
    rw [Nat.add_zero] at hb ⊢
    rw [wFst, if_pos hb]
  | s, k + 1, g :: r, f, h, hf, hb => by
    have h0 := h 0 g (by omega) rfl
    rw [Nat.add_zero] at h0
    rw [wFst, if_neg (by simp [h0])]
    have e : s + (k + 1) = s + 1 + k := by omega
    rw [e] at hb ⊢
    exact wFst_at f0 (s + 1) k r f (fun j x hj hx => by
      have := h (j + 1) x (by omega) (by simpa using hx)
      rwa [show s + (j + 1) = s + 1 + j by omega] at this) (by simpa using hf) hb
theorem wErr_bad {fs : List Fr} {f0 f : Fr} {k : Nat} (h0 : fs[0]? = some f0) (hp : ∀ (j : Nat) (g : Fr), j < k → fs[j]? = some g → wBad f0 g j = 0) (hf : fs[k]? = some f) (hb : wBad f0 f k ≠ 0) : wErr fs = wBad f0 f k := by
  cases fs with
  | nil => simp at h0
  | cons g r =>
    simp only [List.getElem?_cons_zero, Option.some.injEq] at h0
    subst h0
    have h1 := wFst_at g 0 k (g :: r) f (fun j x hj hx => by rw [Nat.zero_add]; exact hp j x hj hx) hf (by rwa [Nat.zero_add])
    rw [Nat.zero_add] at h1
    rw [wErr, h1, if_pos hb]
theorem wErr_end {fs : List Fr} {f0 : Fr} (h0 : fs[0]? = some f0) (hp : ∀ (j : Nat) (g : Fr), fs[j]? = some g → wBad f0 g j = 0) : wErr fs = wEnd f0 fs.length := by
  cases fs with
  | nil => simp at h0
  | cons g r =>
    simp only [List.getElem?_cons_zero, Option.some.injEq] at h0
    subst h0
    have h1 := wFst_zero g 0 (g :: r) (fun j x hx => by rw [Nat.zero_add]; exact hp j x hx)
    rw [wErr, h1, if_neg (by simp)]
    rfl
theorem Cut.whole {v k s : Int} {zs : List Int} {r : Nat} {fs : List Fr} (h : Cut v k s zs r fs) (hr : 1 ≤ r) (hn : 1 ≤ zs.length) : wErr fs = 0 := by
  have hp := cnt_pos hr hn
  have hl := h.len
  obtain ⟨f0, hf0⟩ : ∃ f0, fs[0]? = some f0 := ⟨_, List.getElem?_eq_getElem (by omega)⟩
  obtain ⟨e1, e2, e3, _, e4, _⟩ := h.at' 0 f0 hf0
  rw [wErr_end hf0 (fun j g hg => by
    obtain ⟨d1, d2, d3, d4, d5, _⟩ := h.at' j g hg
    unfold wBad
    rw [if_pos (by simp [mateZ, e1, e2, e3, e4, d1, d2, d3, d5]), if_pos d4])]
  unfold wEnd
  rw [e4, h.len, if_neg (by omega), if_neg (by omega)]
theorem wBad_zero {f0 f : Fr} {j : Nat} : wBad f0 f j = 0 ↔ mateZ f0.v f0.k f0.s f0.c f.v f.k f.s f.c = true ∧ f.i = (j : Int) := by
  unfold wBad
  constructor
  · intro h
    by_cases h1 : mateZ f0.v f0.k f0.s f0.c f.v f.k f.s f.c = true
    · rw [if_pos h1] at h
      by_cases h2 : f.i = (j : Int)
      · exact ⟨h1, h2⟩
      · rw [if_neg h2] at h; omega
    · rw [if_neg h1] at h; omega
  · rintro ⟨h1, h2⟩
    rw [if_pos h1, if_pos h2]
end Ct
end Go.Proofs.Ytmdjgidbfcfdnaa

namespace Go.Proofs.Ytmdjgidbfcfdnaa
open Go.RowKit
set_option maxRecDepth 100000

theorem ret_intC {a b : Int} (h : a = b) : Ending.returned (.int .i64 a) = Ending.returned (.int .i64 b) := by rw [h]
/-- how many parts there are of a number of bytes that there can be -/
def cntZ (n : Nat) (r : Int) : Int := if r < 1 then 0 else if n = 0 then 1 else (Ct.cnt n r.toNat : Int)
theorem ccount_any (n : Nat) (r : Int) (hn : n ≤ 9223372036854775807) (hr : -9223372036854775808 ≤ r ∧ r ≤ 9223372036854775807) (w : World) :
    Calls Try.prog 12 #[.int .i64 (n : Int), .int .i64 r] w fun e w' => e = .returned (.int .i64 (cntZ n r)) ∧ w' = w := by
  by_cases h1 : r < 1
  · have hz : cntZ n r = 0 := by unfold cntZ; rw [if_pos h1]
    rw [hz]
    clear hz
    go_enter Try.func12, Try.ntmps12
    go_wp2
    go_ret
    exact ⟨rfl, rfl⟩
  · by_cases h2 : (n : Int) < 1
    · have hz : cntZ n r = 1 := by unfold cntZ; rw [if_neg h1, if_pos (by omega)]
      rw [hz]
      clear hz
      go_enter Try.func12, Try.ntmps12
      go_wp2
      go_ret
      exact ⟨rfl, rfl⟩
    · have hq : ((n : Int) - 1).tdiv r = ((n - 1) / r.toNat : Nat) := by
        rw [show (n : Int) - 1 = ((n - 1 : Nat) : Int) by omega]
        have hrr : r = (r.toNat : Int) := by omega
        rw [hrr, Int.toNat_natCast]
        exact Int.ofNat_tdiv _ _
      have hz : cntZ n r = (((n - 1) / r.toNat : Nat) : Int) + 1 := by
        unfold cntZ
        rw [if_neg h1, if_neg (by omega), ← Ct.cnt_div (by omega) (by omega)]
        omega
      rw [hz]
      have hd : (n - 1) / r.toNat ≤ n - 1 := Nat.div_le_self _ _
      have hr0 : ¬ r = 0 := by omega
      obtain ⟨q, hq2⟩ : ∃ q, (n - 1) / r.toNat = q := ⟨_, rfl⟩
      rw [hq2] at hq hd ⊢
      clear hz hq2
      have HD := Lib.hid hd
      have hq0 : 0 ≤ (q : Int) + 1 ∧ (q : Int) + 1 ≤ 9223372036854775807 := by omega
      go_enter Try.func12, Try.ntmps12
      go_wp2
      go_ret
      exact ⟨rfl, rfl⟩

set_option maxHeartbeats 2000000 in
theorem rmates_any (v k s i c v' k' s' i' c' : Int) (w : World) :
    Calls Try.prog 22 #[hdV v k s i c, hdV v' k' s' i' c'] w fun e w' => e = .returned (.bool (mateZ v k s c v' k' s' c')) ∧ Below w.heap.size w w' := by
  unfold hdV
  obtain ⟨w0, hw⟩ : ∃ w0, (w.alloc (.cells #[.int .i64 v, .int .i64 k, .int .u32 s, .int .i64 i, .int .i64 c] 33)).alloc (.cells #[.int .i64 v', .int .i64 k', .int .u32 s', .int .i64 i', .int .i64 c'] 33) = w0 := ⟨_, rfl⟩
  have hb : Below w.heap.size w w0 := by rw [← hw]; exact ((Below.refl _ w).alloc (Nat.le_refl _) _).alloc (by simp) _
  have q1 : w0.heap[w.heap.size]? = some (.cells #[.int .i64 v, .int .i64 k, .int .u32 s, .int .i64 i, .int .i64 c] 33 (0, 0)) := by
    rw [← hw]; exact (Below.heap_alloc _ _ _ (by simp)).trans (World.alloc_heap_new _ _)
  have q2 : w0.heap[w.heap.size + 1]? = some (.cells #[.int .i64 v', .int .i64 k', .int .u32 s', .int .i64 i', .int .i64 c'] 33 (0, 0)) := by
    rw [← hw]
    have := World.alloc_heap_new (w.alloc (.cells #[.int .i64 v, .int .i64 k, .int .u32 s, .int .i64 i, .int .i64 c] 33)) (.cells #[.int .i64 v', .int .i64 k', .int .u32 s', .int .i64 i', .int .i64 c'] 33)
    rwa [World.size_alloc] at this
  obtain ⟨d0, d1, d2, d3, d4⟩ := hd_block q1
  obtain ⟨e0, e1, e2, e3, e4⟩ := hd_block q2
  have HW := Lib.hid hw
  have HB := Lib.hid hb
  clear hw q1 q2 hb
  by_cases h1 : v = v'
  · by_cases h2 : k = k'
    · by_cases h3 : s = s'
      · by_cases h4 : c = c'
        · have hz : mateZ v k s c v' k' s' c' = true := by simp [mateZ, h1, h2, h3, h4]
          rw [hz]
          subst h1 h2 h3 h4
          clear hz
          go_enter Try.func22, Try.ntmps22
          go_wp2_with fail
          rw [HW.out]
          go_wp2
          go_ret
          exact ⟨rfl, HB.out⟩
        · have hz : mateZ v k s c v' k' s' c' = false := by simp [mateZ, h4]
          have h5 : (c == c') = false := by simp [h4]
          rw [hz]
          subst h1 h2 h3
          clear hz
          go_enter Try.func22, Try.ntmps22
          go_wp2_with fail
          rw [HW.out]
          go_wp2
          go_ret
          exact ⟨rfl, HB.out⟩
      · have hz : mateZ v k s c v' k' s' c' = false := by simp [mateZ, h3]
        have h5 : (s == s') = false := by simp [h3]
        rw [hz]
        subst h1 h2
        clear hz
        go_enter Try.func22, Try.ntmps22
        go_wp2_with fail
        rw [HW.out]
        go_wp2
        go_ret
        exact ⟨rfl, HB.out⟩
    · have hz : mateZ v k s c v' k' s' c' = false := by simp [mateZ, h2]
      have h5 : (k == k') = false := by simp [h2]
      rw [hz]
      subst h1
      clear hz
      go_enter Try.func22, Try.ntmps22
      go_wp2_with fail
      rw [HW.out]
      go_wp2
      go_ret
      exact ⟨rfl, HB.out⟩
  · have hz : mateZ v k s c v' k' s' c' = false := by simp [mateZ, h1]
    have h5 : (v == v') = false := by simp [h1]
    rw [hz]
    clear hz
    go_enter Try.func22, Try.ntmps22
    go_wp2_with fail
    rw [HW.out]
    go_wp2
    go_ret
    exact ⟨rfl, HB.out⟩
end Go.Proofs.Ytmdjgidbfcfdnaa

namespace Go.Proofs.Ytmdjgidbfcfdnaa
open Go.RowKit
set_option maxRecDepth 100000
theorem intInfo : (Try.prog.info? 3).map (fun i => (i.zero, i.size, i.bytes)) = some (some (.int .i64 0), 1, 8) := by kernel_rfl
end Go.Proofs.Ytmdjgidbfcfdnaa

namespace Go.Proofs.Ytmdjgidbfcfdnaa
open Go.RowKit Go.Shelf
set_option maxRecDepth 100000

/-- the cells of frames, one behind the other -/
def flatF (fs : List Fr) : List Value := fs.flatMap fun f => f.cs.toList
theorem flatF_len (fs : List Fr) : (flatF fs).length = fs.length * 6 := by
  induction fs with
  | nil => rfl
  | cons f r ih => unfold flatF at *; rw [List.flatMap_cons, List.length_append, ih, List.length_cons]; have : f.cs.toList.length = 6 := rfl; omega
theorem flatF_push (fs : List Fr) (f : Fr) : flatF (fs ++ [f]) = flatF fs ++ f.cs.toList := by unfold flatF; simp
theorem flatF_at : ∀ {fs : List Fr} {j q : Nat} {f : Fr} {u : Value}, fs[j]? = some f → f.cs[q]? = some u → (flatF fs)[j * 6 + q]? = some u
  | [], _, _, _, _, h, _ => by simp at h
  | g :: r, 0, q, f, u, h, hq => by
    simp only [List.getElem?_cons_zero, Option.some.injEq] at h
    subst h
    have hlt : q < 6 := (Array.getElem?_eq_some_iff.1 hq).1
    unfold flatF
    rw [List.flatMap_cons, List.getElem?_append_left (by show 0 * 6 + q < 6; omega), Nat.zero_mul, Nat.zero_add, Array.getElem?_toList]
    exact hq
  | g :: r, j + 1, q, f, u, h, hq => by
    have ih := flatF_at (fs := r) (j := j) (q := q) (f := f) (u := u) (by simpa using h) hq
    unfold flatF at *
    have h6 : g.cs.toList.length = 6 := rfl
    rw [List.flatMap_cons, List.getElem?_append_right (by rw [h6]; omega), h6, show (j + 1) * 6 + q - 6 = j * 6 + q by omega]
    exact ih
/-- two rows of unlike types lie apart -/
theorem own_apart {W : World} {base e e2 size size2 n m : Nat} {v u : Value} {xs ys : List Value} (h : W.ownsRow base e size v n xs) (h2 : W.ownsRow base e2 size2 u m ys) (hne : e ≠ e2) : v.ownBlock = none ∨ v.ownBlock ≠ u.ownBlock := by
  rcases h.2 with ⟨rfl, _⟩ | ⟨g, cap, cur, rfl, _, hh, _⟩
  · exact .inl rfl
  · right
    rcases h2.2 with ⟨rfl, _⟩ | ⟨g2, cap2, cur2, rfl, _, hh2, _⟩
    · simp [Value.ownBlock]
    · intro e3
      simp only [Value.ownBlock, Option.some.injEq] at e3
      subst e3
      rw [hh] at hh2
      injection hh2 with hh2
      injection hh2 with _ ht
      exact hne ht
theorem own_below6 {W W' : World} {base e size n : Nat} {v : Value} {xs : List Value} (h : W.ownsRow base e size v n xs) (hb : Below W.heap.size W W') : W'.ownsRow base e size v n xs := by
  refine ⟨h.1, ?_⟩
  rcases h.2 with h | ⟨g, cap, cur, hv, hg, hh, r⟩
  · exact .inl h
  · exact .inr ⟨g, cap, cur, hv, hg, (hb.block g (Array.getElem?_eq_some_iff.1 hh).1).trans hh, r⟩
/-- frames that lie there, their payloads with them -/
def FrsIn (w : World) (B : Nat) (A : Option Addr) (fs : List Fr) : Prop :=
  ∀ (j : Nat) (f : Fr), fs[j]? = some f → ∃ b, A = some ⟨b, 0, none⟩ ∧ b < B ∧ (∀ (q : Nat) (u : Value), f.cs[q]? = some u → w.cell? ⟨b, j * 6 + q, none⟩ = some u) ∧ f.zs.length ≤ f.cp ∧ Nums .u8 w B f.a f.zs
theorem FrsIn.below {w w' : World} {B : Nat} {A : Option Addr} {fs : List Fr} (h : FrsIn w B A fs) (hb : Below B w w') : FrsIn w' B A fs := fun j f hj => by
  obtain ⟨b, e, hB, hc, hl, hn⟩ := h j f hj
  exact ⟨b, e, hB, fun q u hq => (hb.cell (p := ⟨b, j * 6 + q, none⟩) hB).trans (hc q u hq), hl, hn.below hb⟩
theorem FrsIn.mono {w : World} {B B' : Nat} {A : Option Addr} {fs : List Fr} (h : FrsIn w B A fs) (hB : B ≤ B') : FrsIn w B' A fs := fun j f hj => by
  obtain ⟨b, e, hb, hc, hl, hn⟩ := h j f hj
  exact ⟨b, e, by omega, hc, hl, hn.mono hB⟩

/-- a row of frames, a row of numbers; the payloads in neither -/
structure FL (tf ti : TypeId) (base : Nat) (W : World) (v u : Value) (fs : List Fr) (es : List Int) : Prop where
  out : W.ownsRow base tf 6 v fs.length (flatF fs)
  err : W.ownsRow base ti 1 u es.length (es.map (Value.int .i64))
  pay : ∀ f ∈ fs, f.zs.length ≤ f.cp ∧ NumsS .u8 W (fun b => b < W.heap.size ∧ v.ownBlock ≠ some b ∧ u.ownBlock ≠ some b) f.a f.zs
section
variable {tf ti : TypeId} {base : Nat} {W W3 W4 W6 : World} {v v' u u' : Value} {fs : List Fr} {es : List Int}
theorem FL.start (tf ti : TypeId) (base : Nat) (W : World) : FL tf ti base W (.slice none 0 0) (.slice none 0 0) [] [] := ⟨World.ownsRow_nil _ _ _ _, World.ownsRow_nil _ _ _ _, fun f hf => by cases hf⟩
theorem FL.below {W' : World} (h : FL tf ti base W v u fs es) (hb : Below W.heap.size W W') : FL tf ti base W' v u fs es :=
  ⟨own_below6 h.out hb, own_below6 h.err hb, fun f hf => ⟨(h.pay f hf).1, ((h.pay f hf).2.keeps (KeepS.of_below hb fun _ hk => hk.1)).more fun _ hk => ⟨Nat.lt_of_lt_of_le hk.1 hb.size, hk.2⟩⟩⟩
theorem FL.err4 (h : FL tf ti base W v u fs es) (hne : tf ≠ ti) (hg : W.grownBy W4 v.ownBlock) : W4.ownsRow base ti 1 u es.length (es.map (Value.int .i64)) := h.err.kept hg (own_apart h.err h.out (Ne.symm hne))
/-- a frame and a number more -/
theorem FL.push {f : Fr} {e : Int} {o : Obj} (h : FL tf ti base W v u fs es) (hne : tf ≠ ti) (hb : Below W.heap.size W W3) (hf : f.zs.length ≤ f.cp) (hn : NumsS .u8 W3 (fun b => W.heap.size ≤ b ∧ b < W3.heap.size) f.a f.zs)
    (hown : W4.ownsRow base tf 6 v' (fs.length + 1) (flatF fs ++ f.cs.toList)) (hg : W3.grownBy W4 v.ownBlock) (hat : v'.ownBlock = v.ownBlock ∨ v'.ownBlock = some W3.heap.size)
    (hown2 : W6.ownsRow base ti 1 u' (es.length + 1) (es.map (Value.int .i64) ++ [.int .i64 e])) (hg2 : (W4.alloc o).grownBy W6 u.ownBlock) (hat2 : u'.ownBlock = u.ownBlock ∨ u'.ownBlock = some (W4.alloc o).heap.size) :
    FL tf ti base W6 v' u' (fs ++ [f]) (es ++ [e]) := by
  have hs3 := hb.size
  have hs4 := hg.size
  have hs6 := hg2.size
  rw [World.size_alloc] at hs6 hat2
  have he4 := (h.below hb).err4 hne hg
  -- what lies below W3's end, in neither row
  have key : ∀ a zs, NumsS .u8 W3 (fun b => b < W3.heap.size ∧ v.ownBlock ≠ some b ∧ u.ownBlock ≠ some b) a zs → NumsS .u8 W6 (fun b => b < W6.heap.size ∧ v'.ownBlock ≠ some b ∧ u'.ownBlock ≠ some b) a zs := fun a zs hz => by
    have h4 : KeepS (fun b => b < W3.heap.size ∧ v.ownBlock ≠ some b ∧ u.ownBlock ≠ some b) W3 W6 :=
      ⟨by omega, fun k hk => (hg2.block k (by rw [World.size_alloc]; omega) (fun e => hk.2.2 e.symm)).trans ((Below.heap_alloc W4 o k (by omega)).trans (hg.block k hk.1 (fun e => hk.2.1 e.symm)))⟩
    refine (hz.keeps h4).more fun k hk => ⟨by omega, fun e3 => ?_, fun e3 => ?_⟩
    · rcases hat with h5 | h5
      · exact hk.2.1 (h5.symm.trans e3)
      · rw [h5] at e3; injection e3 with e3; omega
    · rcases hat2 with h5 | h5
      · exact hk.2.2 (h5.symm.trans e3)
      · rw [h5] at e3; injection e3 with e3; omega
  refine ⟨?_, ?_, fun g hg' => ?_⟩
  · rw [flatF_push, List.length_append, List.length_singleton]
    refine (hown.alloc o).kept hg2 ?_
    rcases own_apart hown he4 hne with h5 | h5
    · exact .inl h5
    · exact .inr h5
  · rw [List.length_append, List.length_singleton, List.map_append]
    exact hown2
  · rcases List.mem_append.1 hg' with hg' | hg'
    · have h5 := (h.below hb).pay g hg'
      exact ⟨h5.1, key _ _ h5.2⟩
    · obtain rfl : g = f := by simpa using hg'
      refine ⟨hf, key _ _ (hn.more fun k hk => ⟨hk.2, fun e => ?_, fun e => ?_⟩)⟩
      · have := (h.out.lt k e).2; omega
      · have := (h.err.lt k e).2; omega
theorem FL.lies (h : FL tf ti base W v u fs es) : ∃ A c, v = .slice A fs.length c ∧ fs.length ≤ c ∧ FrsIn W W.heap.size A fs := by
  rcases h.out.2 with ⟨rfl, h0⟩ | ⟨g, cap, cur, rfl, hbg, hh, hle, _⟩
  · rw [List.eq_nil_of_length_eq_zero h0]
    exact ⟨none, 0, rfl, Nat.le_refl _, fun i f hi => by simp at hi⟩
  · refine ⟨_, cap, rfl, hle, fun j f hj => ⟨g, rfl, (Array.getElem?_eq_some_iff.1 hh).1, fun q u hq => ?_, (h.pay f (List.mem_of_getElem? hj)).1, (h.pay f (List.mem_of_getElem? hj)).2.nums fun _ hk => hk.1⟩⟩
    have h1 := h.out.cells (g := g) rfl (j * 6 + q) u (flatF_at hj hq)
    rw [Addr.add_lit, Nat.zero_add] at h1
    exact h1
end
end Go.Proofs.Ytmdjgidbfcfdnaa

namespace Go.Proofs.Ytmdjgidbfcfdnaa
open Go.RowKit Go.Shelf
set_option maxRecDepth 100000

structure TwoF (w2 : World) (bs : Nat) (tf tr tb : TypeId) (g1 g2 : List Fr) (W : World) (u v : Value) : Prop where
  off : Off (fun b => b = bs) w2 W
  box : Boxed W bs tb u
  one : W.ownsRow w2.heap.size tf 6 u g1.length (flatF g1)
  two : W.ownsRow w2.heap.size tr 6 v g2.length (flatF g2)
theorem own_of_block {W W' : World} {base e size n : Nat} {v : Value} {xs : List Value} (h : W.ownsRow base e size v n xs) (hk : ∀ g, base ≤ g → W'.heap[g]? = W.heap[g]?) : W'.ownsRow base e size v n xs :=
  ⟨h.1, h.2.imp id fun ⟨g, cap, cur, hv, hg, hh, r⟩ => ⟨g, cap, cur, hv, hg, (hk g hg).trans hh, r⟩⟩
section
variable {w2 W W' W4 : World} {bs : Nat} {tf tr tb : TypeId} {g1 g2 : List Fr} {u v u' v' : Value} {f : Fr}
theorem TwoF.below (h : TwoF w2 bs tf tr tb g1 g2 W u v) (hb : Below W.heap.size W W') : TwoF w2 bs tf tr tb g1 g2 W' u v :=
  ⟨(h.off.trans (Off.of_below hb : Off (fun b => b = bs) W W') (fun _ _ hS => hS)), (hb.block _ h.box.lt).trans h.box, own_below6 h.one hb, own_below6 h.two hb⟩
theorem TwoF.push1 (h : TwoF w2 bs tf tr tb g1 g2 W u v) (hne : tf ≠ tr) (hbs : bs < w2.heap.size) (hown : W4.ownsRow w2.heap.size tf 6 u' (g1.length + 1) (flatF g1 ++ f.cs.toList)) (hg : W.grownBy W4 u.ownBlock) :
    TwoF w2 bs tf tr tb (g1 ++ [f]) g2 (W4.setCell ⟨bs, 0, none⟩ u') u' v := by
  have hlo : ∀ g, u.ownBlock = some g → w2.heap.size ≤ g := fun g hk => (h.one.lt g hk).1
  have ho : Off (fun b => b = bs) w2 W4 := ⟨hg.os.trans h.off.os, hg.tape.trans h.off.tape, hg.output.trans h.off.output, Nat.le_trans h.off.size hg.size, fun k hk hn => by
    rw [hg.block k (by have := h.off.size; omega) (fun e => by have := hlo k e.symm; omega)]
    exact h.off.block k hk hn⟩
  have hb4 : Boxed W4 bs tb u := h.box.kept hg (fun e => by have := hlo bs e.symm; omega)
  have hset : ∀ g, w2.heap.size ≤ g → (W4.setCell ⟨bs, 0, none⟩ u').heap[g]? = W4.heap[g]? := fun g hg' => Below.heap_setCell W4 ⟨bs, 0, none⟩ _ _ (by simp only; omega)
  refine ⟨ho.setCell (p := ⟨bs, 0, none⟩) rfl _, hb4.set _, ?_, ?_⟩
  · rw [List.length_append, List.length_singleton, flatF_push]
    exact own_of_block hown hset
  · exact own_of_block (h.two.kept hg (own_apart h.two h.one (Ne.symm hne))) hset
theorem TwoF.push2 (h : TwoF w2 bs tf tr tb g1 g2 W u v) (hne : tf ≠ tr) (hbs : bs < w2.heap.size) (hown : W4.ownsRow w2.heap.size tr 6 v' (g2.length + 1) (flatF g2 ++ f.cs.toList)) (hg : W.grownBy W4 v.ownBlock) :
    TwoF w2 bs tf tr tb g1 (g2 ++ [f]) W4 u v' := by
  have hlo : ∀ g, v.ownBlock = some g → w2.heap.size ≤ g := fun g hk => (h.two.lt g hk).1
  refine ⟨⟨hg.os.trans h.off.os, hg.tape.trans h.off.tape, hg.output.trans h.off.output, Nat.le_trans h.off.size hg.size, fun k hk hn => ?_⟩, h.box.kept hg (fun e => by have := hlo bs e.symm; omega), h.one.kept hg (own_apart h.one h.two hne), ?_⟩
  · rw [hg.block k (by have := h.off.size; omega) (fun e => by have := hlo k e.symm; omega)]
    exact h.off.block k hk hn
  · rw [List.length_append, List.length_singleton, flatF_push]
    exact hown
theorem own_frs {base e : Nat} (h : W.ownsRow base e 6 u g1.length (flatF g1)) (hat : ∀ f ∈ g1, f.At W W.heap.size) : ∃ A c, u = .slice A g1.length c ∧ g1.length ≤ c ∧ FrsAt W W.heap.size A g1 := by
  rcases h.2 with ⟨rfl, h0⟩ | ⟨g, cap, cur, rfl, hbg, hh, hle, _⟩
  · rw [List.eq_nil_of_length_eq_zero h0]
    exact ⟨none, 0, rfl, Nat.le_refl _, fun f hf => by simp at hf, fun i f hi => by simp at hi⟩
  · refine ⟨_, cap, rfl, hle, hat, fun j f hj => ⟨g, 0, rfl, (Array.getElem?_eq_some_iff.1 hh).1, fun q x hq => ?_⟩⟩
    have h1 := h.cells (g := g) rfl (j * 6 + q) x (flatF_at hj hq)
    rw [Addr.add_lit] at h1
    rw [Nat.add_assoc]
    exact h1
end
theorem firstBad_push : ∀ (gs : List Fr) (f : Fr), firstBad (gs ++ [f]) = if firstBad gs = 0 then f.chk else firstBad gs
  | [], f => by by_cases h : f.chk = 0 <;> simp [firstBad, h]
  | g :: r, f => by
    rw [List.cons_append, firstBad, firstBad, firstBad_push r f]
    by_cases h : g.chk = 0 <;> simp [h]
/-- a frame, cut -/
def Fr.cut (f : Fr) : Fr := ⟨f.v, f.k, f.s, f.i, f.c, f.a, f.cp, f.zs.take 250⟩
theorem Fr.cut_at {w : World} {B : Nat} {f : Fr} (h : f.At w B) : f.cut.At w B :=
  ⟨h.s0, h.s1, by unfold Fr.cut; simp only [List.length_take]; have := h.room; omega, by unfold Fr.cut; simp only [List.length_take]; have := h.few; omega, h.byte.take 250, h.nums.take 250⟩
end Go.Proofs.Ytmdjgidbfcfdnaa

namespace Go.Proofs.Ytmdjgidbfcfdnaa
open Go.RowKit Go.Shelf
set_option maxRecDepth 100000

/-- what Frames leaves -/
def FramesR (w : World) (v k s : Int) (zs : List Int) (room : Int) (e : Ending) (w' : World) : Prop :=
  Below w.heap.size w w' ∧ ((Ct.fErr v k zs.length room ≠ 0 ∧ e = .returned (.tuple #[.slice none 0 0, .int .i64 (Ct.fErr v k zs.length room)])) ∨
    (Ct.fErr v k zs.length room = 0 ∧ ∃ A c fs, e = .returned (.tuple #[.slice A fs.length c, .int .i64 0]) ∧ fs.length ≤ c ∧ Ct.Cut v k s zs room.toNat fs ∧ FrsAt w' w'.heap.size A fs))
theorem FramesR.bad {w w' : World} {v k s room E : Int} {zs : List Int} {e : Ending} (h : Ct.fErr v k zs.length room = E) (h0 : E ≠ 0) (he : e = .returned (.tuple #[.slice none 0 0, .int .i64 E])) (hb : Below w.heap.size w w') : FramesR w v k s zs room e w' :=
  ⟨hb, .inl ⟨by rw [h]; exact h0, by rw [h]; exact he⟩⟩
/-- the frames that have been made -/
def CutGo (v k s : Int) (zs : List Int) (r m : Nat) (fs : List Fr) : Prop := ∀ (j : Nat) (f : Fr), fs[j]? = some f → f.v = v ∧ f.k = k ∧ f.s = s ∧ f.i = (j : Int) ∧ f.c = (m : Int) ∧ f.zs = Ct.part zs r j
theorem CutGo.push {v k s : Int} {zs : List Int} {r m : Nat} {fs : List Fr} (h : CutGo v k s zs r m fs) (a : Option Addr) (cp : Nat) : CutGo v k s zs r m (fs ++ [⟨v, k, s, (fs.length : Int), (m : Int), a, cp, Ct.part zs r fs.length⟩]) := fun j f hf => by
  rcases Nat.lt_or_ge j fs.length with h1 | h1
  · rw [List.getElem?_append_left h1] at hf
    exact h j f hf
  · rw [List.getElem?_append_right h1] at hf
    have h2 : j - fs.length = 0 := by
      have := (List.getElem?_eq_some_iff.1 hf).1
      simp at this; omega
    rw [h2] at hf
    have h3 : j = fs.length := by omega
    simp only [List.getElem?_cons_zero, Option.some.injEq] at hf
    subst hf h3
    exact ⟨rfl, rfl, rfl, rfl, rfl, rfl⟩
theorem chk_from {v k m : Int} {j : Nat} (h : chk v k 0 m = 0) (hj : (j : Int) < m) : chk v k (j : Int) m = 0 := by
  obtain ⟨h1, h2, h3, h4, h5, h6, h7⟩ := chk_zero h
  unfold chk
  rw [if_neg (by omega), if_neg (by omega), if_neg (by omega)]
theorem FramesR.good {w W : World} {v k s room : Int} {zs : List Int} {base t : TypeId} {u : Value} {fs : List Fr} {m : Nat} (hE : Ct.fErr v k zs.length room = 0) (hm : Ct.cnt zs.length room.toNat = m) (hl : fs.length = m) (hg : CutGo v k s zs room.toNat m fs)
    (hat : ∀ f ∈ fs, f.At W W.heap.size) (hrow : W.ownsRow base t 6 u fs.length (flatF fs)) (hb : Below w.heap.size w W) : FramesR w v k s zs room (.returned (.tuple #[u, .int .i64 0])) W := by
  obtain ⟨A, c, rfl, hc, hf⟩ := own_frs hrow hat
  exact ⟨hb, .inr ⟨hE, A, c, fs, rfl, hc, ⟨by rw [hm]; exact hl, by rw [hm]; exact hg⟩, hf⟩⟩
end Go.Proofs.Ytmdjgidbfcfdnaa

namespace Go.Proofs.Ytmdjgidbfcfdnaa
open Go.RowKit Go.Shelf
set_option maxRecDepth 100000
attribute [local go_sem] Oper.semAt_some

theorem frames_short (v k s i c : Int) (a : Option Addr) (cp : Nat) (room : Int) (w : World) :
    Calls Try.prog 6 #[hdV v k s i c, .slice a 0 cp, .int .i64 room] w (FramesR w v k s [] room) := by
  have HF := Lib.hid (fun e w' => FramesR.bad (w := w) (w' := w') (s := s) (e := e) (show Ct.fErr v k ([] : List Int).length room = 13 from rfl) (by decide))
  generalize FramesR w v k s [] room = G at *
  unfold hdV
  go_enter Try.func6, Try.ntmps6
  go_wp2
  try go_ret2
  exact HF.out _ _ rfl ((Below.refl _ w).alloc (Nat.le_refl _) _)
theorem frames_long (v k s i c : Int) (a : Option Addr) (n cp : Nat) (zs : List Int) (room : Int) (w : World) (hn : zs.length = n) (h1 : 192 < n) :
    Calls Try.prog 6 #[hdV v k s i c, .slice a n cp, .int .i64 room] w (FramesR w v k s zs room) := by
  have HF := Lib.hid (fun e w' => FramesR.bad (w := w) (w' := w') (s := s) (e := e) (show Ct.fErr v k zs.length room = 2 from by unfold Ct.fErr; rw [if_neg (by omega), if_pos (by omega)]) (by decide))
  have h2 : ¬ (n : Int) = 0 := by omega
  have h3 : 192 < (n : Int) := by omega
  clear hn h1
  generalize FramesR w v k s zs room = G at *
  unfold hdV
  go_enter Try.func6, Try.ntmps6
  go_wp2
  try go_ret2
  exact HF.out _ _ rfl ((Below.refl _ w).alloc (Nat.le_refl _) _)
theorem frames_range (v k s i c : Int) (a : Option Addr) (n cp : Nat) (zs : List Int) (room : Int) (w : World) (hn : zs.length = n) (h0 : 1 ≤ n) (h1 : n ≤ 192) (hr : room < 1 ∨ 242 < room) :
    Calls Try.prog 6 #[hdV v k s i c, .slice a n cp, .int .i64 room] w (FramesR w v k s zs room) := by
  have HF := Lib.hid (fun e w' => FramesR.bad (w := w) (w' := w') (s := s) (e := e) (show Ct.fErr v k zs.length room = 5 from by unfold Ct.fErr; rw [if_neg (by omega), if_neg (by omega), if_pos hr]) (by decide))
  have h2 : ¬ (n : Int) = 0 := by omega
  have h3 : ¬ 192 < (n : Int) := by omega
  clear hn h1 h0
  generalize FramesR w v k s zs room = G at *
  unfold hdV
  by_cases h4 : room < 1
  · clear hr
    go_enter Try.func6, Try.ntmps6
    go_wp2
    try go_ret2
    exact HF.out _ _ rfl ((Below.refl _ w).alloc (Nat.le_refl _) _)
  · have h5 : 242 < room := by omega
    clear hr
    go_enter Try.func6, Try.ntmps6
    go_wp2
    try go_ret2
    exact HF.out _ _ rfl ((Below.refl _ w).alloc (Nat.le_refl _) _)
theorem frames_chk (v k s i c : Int) (a : Option Addr) (n cp r : Nat) (zs : List Int) (w : World) (hn : zs.length = n) (h0 : 1 ≤ n) (hn2 : n ≤ 192) (hr1 : 1 ≤ r) (hr2 : r ≤ 242) (hE : chk v k 0 (Ct.cnt n r : Int) ≠ 0) :
    Calls Try.prog 6 #[hdV v k s i c, .slice a n cp, .int .i64 (r : Int)] w (FramesR w v k s zs (r : Int)) := by
  obtain ⟨m, hm⟩ : ∃ m, Ct.cnt n r = m := ⟨_, rfl⟩
  rw [hm] at hE
  have hfe : Ct.fErr v k zs.length (r : Int) = chk v k 0 (m : Int) := by unfold Ct.fErr; rw [if_neg (by omega), if_neg (by omega), if_neg (by omega), Int.toNat_natCast, hn, hm]
  have HF := Lib.hid (fun e w' => FramesR.bad (w := w) (w' := w') (s := s) (e := e) hfe hE)
  have KN : ∀ W, Calls Try.prog 12 #[.int .i64 (n : Int), .int .i64 (r : Int)] W fun e w' => e = .returned (.int .i64 (m : Int)) ∧ w' = W := fun W => by
    have h := ccount_any n (r : Int) (by omega) (by omega) W
    have e1 : cntZ n (r : Int) = (m : Int) := by unfold cntZ; rw [if_neg (by omega), if_neg (by omega), Int.toNat_natCast, hm]
    rwa [e1] at h
  have KC := fun W => check_any v k s 0 (m : Int) W
  unfold hdV at KC
  have h2 : ¬ (n : Int) = 0 := by omega
  have h3 : ¬ 192 < (n : Int) := by omega
  have h4 : ¬ (r : Int) < 1 := by omega
  have h5 : ¬ 242 < (r : Int) := by omega
  have hE2 : (chk v k 0 (m : Int) != 0) = true := by simpa using hE
  clear hn h0 hfe hm hE
  generalize FramesR w v k s zs (r : Int) = G at *
  generalize chk v k 0 (m : Int) = E at *
  unfold hdV
  go_enter Try.func6, Try.ntmps6
  go_wp2_with fail
  refine (KN _).mono ?_
  rintro e w1 ⟨rfl, rfl⟩
  go_wp2_with fail
  refine (KC _).mono ?_
  rintro e w2 ⟨rfl, hb⟩
  have HB := Lib.hid (((Below.refl _ w).alloc (Nat.le_refl _) _).trans (hb.mono (by simp)))
  clear hb
  go_wp2
  try go_ret2
  exact HF.out _ _ rfl HB.out
end Go.Proofs.Ytmdjgidbfcfdnaa

namespace Go.Proofs.Ytmdjgidbfcfdnaa
open Go.RowKit Go.Shelf
set_option maxRecDepth 100000
attribute [local go_sem] Oper.semAt_some

/-- numbers that lie in a row of bytes -/
def InRow (W : World) (A : Option Addr) (zs : List Int) : Prop :=
  zs ≠ [] → ∃ g off cur, A = some ⟨g, off, none⟩ ∧ W.heap[g]? = some (.cells cur 5 (0, 0)) ∧ ∀ (j : Nat) (z : Int), zs[j]? = some z → cur[off + j]? = some (.int .u8 z)
theorem InRow.nums {W : World} {A : Option Addr} {zs : List Int} (h : InRow W A zs) : Nums .u8 W W.heap.size A zs := fun hn => by
  obtain ⟨g, off, cur, e, hh, hc⟩ := h hn
  exact ⟨g, off, e, (Array.getElem?_eq_some_iff.1 hh).1, fun j z hj => by simp only [World.cell?, hh]; exact hc j z hj⟩
/-- rows of bytes, and boxes of numbers, are as they were -/
structure KpT (A B : World) : Prop where
  size : A.heap.size ≤ B.heap.size
  same : ∀ (k : Nat) (cs : Array Value) (t : TypeId), (t = 5 ∨ t = 3 ∨ t = 25) → A.heap[k]? = some (.cells cs t (0, 0)) → B.heap[k]? = some (.cells cs t (0, 0))
theorem KpT.refl (A : World) : KpT A A := ⟨Nat.le_refl _, fun _ _ _ _ h => h⟩
theorem KpT.trans {A B C : World} (h : KpT A B) (k : KpT B C) : KpT A C := ⟨Nat.le_trans h.size k.size, fun i cs t ht hi => k.same i cs t ht (h.same i cs t ht hi)⟩
theorem KpT.of_below {A B : World} (h : Below A.heap.size A B) : KpT A B := ⟨h.size, fun k _ _ _ hk => (h.block k (Array.getElem?_eq_some_iff.1 hk).1).trans hk⟩
theorem KpT.putObj {A : World} {l : Nat} {o o' : Obj} (ho : A.heap[l]? = some o) (hc : o.isCells = false) : KpT A (A.putObj l o') :=
  ⟨by simp [World.putObj], fun k cs t _ hk => (World.putObj_heap_other (fun e => by
    subst e
    rw [ho] at hk
    injection hk with hk
    rw [hk] at hc; cases hc)).trans hk⟩
theorem InRow.keeps {A B : World} {a : Option Addr} {zs : List Int} (h : InRow A a zs) (k : KpT A B) : InRow B a zs := fun hn => by
  obtain ⟨g, off, cur, e, hh, hc⟩ := h hn
  exact ⟨g, off, cur, e, k.same g cur _ (.inl rfl) hh, hc⟩
theorem InRow.made {w w1 : World} {L : List Int} {v : Value} (h : MadeK 5 .u8 w w1 L v) (hn : L ≠ []) : ∃ g cap cur, v = .slice (some ⟨g, 0, none⟩) L.length cap ∧ L.length ≤ cap ∧ w.heap.size ≤ g ∧ w1.heap[g]? = some (.cells cur 5 (0, 0)) ∧ ∀ (j : Nat) (z : Int), L[j]? = some z → cur[j]? = some (.int .u8 z) := by
  obtain ⟨A, c, rfl, hc, hnu⟩ := h.slice
  obtain ⟨b, off, rfl, hb, hcl⟩ := hnu hn
  obtain ⟨hge, cur, hcur⟩ := h.own_ge (g := b) rfl
  have h0 : off = 0 := by
    rcases h.1.2 with ⟨e, _⟩ | ⟨g, cap, cu, hv, _⟩
    · cases e
    · injection hv with hv
      injection hv with hv
      injection hv
  subst h0
  refine ⟨b, c, cur, rfl, hc, hge, hcur, fun j z hj => ?_⟩
  have := hcl j z hj
  rw [Nat.zero_add] at this
  simpa [World.cell?, hcur] using this

/-- what Parts answers: a closure over a copy of the bytes, and the room -/
structure PaSeq (w : World) (zs : List Int) (r Bo Br : Nat) (A1 : Option Addr) (n k1 : Nat) (w' : World) : Prop where
  loO : w.heap.size ≤ Bo
  hiO : Bo < w'.heap.size
  loR : w.heap.size ≤ Br
  boxO : Boxed w' Bo 25 (.slice A1 n k1)
  boxR : Boxed w' Br 3 (.int .i64 (r : Int))
  room : n ≤ k1
  nums : InRow w' A1 zs
  below : Below w.heap.size w w'
theorem cparts_any (a : Option Addr) (n c r : Nat) (zs : List Int) (w : World) (hn : zs.length = n) (hl : n ≤ 1000000) (hr : 1 ≤ r) (h1 : Nums .u8 w w.heap.size a zs) :
    Calls Try.prog 17 #[.slice a n c, .int .i64 (r : Int)] w fun e w' => ∃ Bo Br A1 k1, e = .returned (.func (.func 26) #[] #[.pointer (some ⟨Bo, 0, none⟩), .pointer (some ⟨Br, 0, none⟩)]) ∧ PaSeq w zs r Bo Br A1 n k1 w' := by
  have hb0 := (Below.refl _ w).alloc (Nat.le_refl _) (.cells #[.int .i64 (r : Int)] 3)
  have bR := Boxed.new w 3 (.int .i64 (r : Int))
  have K := clone_any a n c zs (w.alloc (.cells #[.int .i64 (r : Int)] 3)) hn hl ((h1.below hb0).mono hb0.size)
  have hs0 : (w.alloc (.cells #[.int .i64 (r : Int)] 3)).heap.size = w.heap.size + 1 := by simp
  have hr0 : ¬ (r : Int) < 1 := by omega
  have HB0 := Lib.hid hb0
  have HR := Lib.hid bR
  have HS := Lib.hid hs0
  clear h1 hb0 bR hs0
  go_enter Try.func17, Try.ntmps17
  go_wp2_with fail
  refine K.mono ?_
  rintro e w1 ⟨v, rfl, hm⟩
  clear K
  have hnu : ∀ A n c, v = .slice A n c → InRow w1 A zs := fun A n c e h0 => by
    obtain ⟨g, cap, cur, e2, _, _, h1, h2⟩ := InRow.made hm h0
    rw [e2] at e
    injection e with e
    exact ⟨g, 0, cur, e.symm, h1, fun j z hj => by rw [Nat.zero_add]; exact h2 j z hj⟩
  obtain ⟨A1, k1, rfl, hk1, _⟩ := hm.slice
  have hnu := hnu _ _ _ rfl
  rw [hn] at hk1 ⊢
  have hb1 := hm.2
  have hb01 := HB0.out.trans (hb1.mono (by have := HS.out; omega))
  have hs1 : w.heap.size + 1 ≤ w1.heap.size := by have := hb1.size; have := HS.out; omega
  have hb12 : Below w1.heap.size w1 (w1.alloc (.cells #[.slice A1 n k1] 25)) := (Below.refl _ w1).alloc (Nat.le_refl _) _
  have HF := Lib.hid (show PaSeq w zs r w1.heap.size w.heap.size A1 n k1 (w1.alloc (.cells #[.slice A1 n k1] 25)) from
    ⟨by omega, by simp, Nat.le_refl _, Boxed.new w1 _ _, (hb12.block _ (by omega)).trans ((hb1.block _ (by have := HS.out; omega)).trans HR.out), hk1, hnu.keeps (KpT.of_below hb12), hb01.trans (hb12.mono hb01.size)⟩)
  clear hm hnu hb1 hb01 hb12
  go_wp2
  go_ret
  exact ⟨_, _, _, _, rfl, HF.out⟩

set_option maxHeartbeats 4000000 in
theorem cparts_in (n : Nat) (hn1 : 1 ≤ n) (m' l Bo Br m k1 r s0 : Nat) (A1 : Option Addr) (zs : List Int) (hm : zs.length = m) (hm1 : 1 ≤ m) (hl : m ≤ 1000000) (hr1 : 1 ≤ r) (hr2 : r ≤ 1000000)
    (Dn : Nat → World → Prop) (Bk X : World → Prop) (Kp : World → World → Prop)
    (hDb : ∀ A B, Dn 0 A → Below A.heap.size A B → Dn 0 B)
    (hBk : ∀ A B, Bk A → A.heap.size ≤ B.heap.size → (∀ k, s0 ≤ k → k < s0 + 2 → B.heap[k]? = A.heap[k]?) → Bk B) (hBlt : ∀ A, Bk A → s0 + 2 ≤ A.heap.size)
    (hKs : ∀ A B, Kp A B → KpT A B)
    (hY : ∀ j A' W1, Dn j W1 → j < Ct.cnt m r → InRow W1 A' (Ct.part zs r j) → Bk W1 → YieldAt Fence.wide m' Try.prog l #[.int .i64 (j : Int), .slice A' (Ct.part zs r j).length (Ct.part zs r j).length] W1 (YPost s0 l Kp (fun W2 => Dn (j + 1) W2 ∧ Bk W2) X W1))
    (W : World) (hBo : W.cell? ⟨Bo, 0, none⟩ = some (.slice A1 m k1)) (hBr : Boxed W Br 3 (.int .i64 (r : Int))) (hN1 : Nums .u8 W W.heap.size A1 zs) (hD0 : Dn 0 W) (hB0 : Bk W) :
    CallsIn Fence.wide n Try.prog 26 #[.func (.yield l) #[] #[], .pointer (some ⟨Bo, 0, none⟩), .pointer (some ⟨Br, 0, none⟩)] W fun e W' => (∃ v, e = .returned v) ∧ ((Dn (Ct.cnt m r) W' ∧ Bk W') ∨ X W') := by
  have hsW := hBlt W hB0
  have hcl := clone_any A1 m k1 zs W hm hl hN1
  have hz0 : zs ≠ [] := fun e => by rw [e] at hm; simp at hm; omega
  obtain ⟨q, hq⟩ : ∃ q, Ct.cnt m r = q := ⟨_, rfl⟩
  have hq1 : 1 ≤ q := by rw [← hq]; exact Ct.cnt_pos hr1 hm1
  have hqm : q ≤ m := by rw [← hq]; exact Ct.cnt_le hr1
  have HQ : Hid (∀ j, j < q ↔ j * r < m) := fun j => by rw [← hq]; exact Ct.lt_cnt hr1
  have HQE : Hid (m ≤ q * r) := by show m ≤ q * r; rw [← hq]; exact Ct.cnt_end hr1
  rw [hq] at hY ⊢
  have HY := Lib.hid hY
  clear hq hY
  refine callsIn_of_wp Try.func26 rfl trivial ?_ rfl
  simp only [Try.ntmps26, List.size_toArray, List.length_cons, List.length_nil, Nat.reduceAdd, Nat.reduceSub, Array.replicate_succ, Array.replicate_zero, List.push_toArray, List.append_toArray, List.nil_append, List.cons_append]
  gi_wp2_with fail
  refine ⟨trivial, ?_⟩
  refine (callsIn_wide.2 hcl).mono ?_
  rintro e W1 ⟨v, rfl, hmk⟩
  clear hcl
  obtain ⟨g, c', cur, rfl, hc', hge, hcur, hcells⟩ := InRow.made hmk hz0
  rw [hm] at hc' ⊢
  have hb1 := hmk.2
  have hs1 := hb1.size
  have hD1 := hDb _ _ hD0 hb1
  have hBk1 : Bk W1 := hBk _ _ hB0 hs1 (fun k _ h2 => hb1.block k (by omega))
  have HCUR := Lib.hid hcur
  have HCELL := Lib.hid hcells
  have HBR : Hid (Boxed W1 Br 3 (.int .i64 (r : Int))) := (hb1.block Br hBr.lt).trans hBr
  have HM := Lib.hid hm
  clear hmk hcur hcells hb1 hBo hN1 hBr hD0 hB0 hm
  gi_wp2
  gi_loopw [4, 5] (fun v iv wr => ∃ (Al : Option Addr) (j mm cc : Nat), v = .slice Al mm cc ∧ iv = .int .i64 (j : Int) ∧ mm ≤ cc ∧ mm ≤ m ∧ j ≤ q ∧ Hid (0 < mm → Al = some ⟨g, j * r, none⟩) ∧ Hid ((j < q ∧ j * r + mm = m) ∨ (j = q ∧ mm = 0)) ∧ Hid (Dn j wr) ∧ Hid (Bk wr) ∧ Hid (KpT W1 wr))
    (fun _ iv _ => q - (intOf iv).toNat)
  case atStart => exact ⟨some ⟨g, 0, none⟩, 0, m, c', rfl, rfl, hc', Nat.le_refl _, by omega, fun _ => by simp, .inl ⟨by omega, by omega⟩, hD1, hBk1, KpT.refl _⟩
  case round =>
    obtain ⟨Al, j, mm, cc, rfl, rfl, hmc, hml, hjq, HA, HJ, HD, HB, HK⟩ := hrel
    by_cases hm0 : mm = 0
    · have hF : Hid (Dn q wr ∧ Bk wr) := by
        rcases HJ.out with ⟨h1, h2⟩ | ⟨h1, _⟩
        · have := (HQ.out j).1 h1; omega
        · exact ⟨by rw [← h1]; exact HD.out, HB.out⟩
      have hm2 : ¬ (0 : Int) < (mm : Int) := by omega
      gi_wp2
      first | go_end0 | (refine bodyPost_ret (results_none rfl _ _ _) rfl ?_)
      exact ⟨⟨_, rfl⟩, .inl hF.out⟩
    · have hm2 : (0 : Int) < (mm : Int) := by omega
      obtain ⟨hjlt, hjm⟩ : j < q ∧ j * r + mm = m := by
        rcases HJ.out with h | ⟨_, h⟩
        · exact h
        · exact absurd h hm0
      have hAl := HA.out (by omega)
      have hpl : (Ct.part zs r j).length = min r mm := by rw [Ct.part_len, HM.out]; congr 1; omega
      obtain ⟨p, hp⟩ : ∃ p, min r mm = p := ⟨_, rfl⟩
      rw [hp] at hpl
      have hin : InRow wr Al (Ct.part zs r j) := fun _ => ⟨g, j * r, cur, hAl, HK.out.same g cur _ (.inl rfl) HCUR.out, fun i z hi => HCELL.out (j * r + i) z (by
        unfold Ct.part at hi
        rw [List.getElem?_take] at hi
        split at hi
        · rwa [List.getElem?_drop] at hi
        · cases hi)⟩
      have hyl := HY.out j Al wr HD.out hjlt hin HB.out
      rw [hpl] at hyl
      obtain ⟨fn, tmps, assign, body, hy, hR⟩ := yield_any (n - 1) hyl
      have HRn := Lib.hid hR
      have hpi : min (r : Int) (mm : Int) = (p : Int) := by omega
      have hp1 : 1 ≤ p := by omega
      have hpm : p ≤ mm := by omega
      have hpm' : (p : Int) ≤ (mm : Int) := by omega
      have hpc' : (p : Int) ≤ (cc : Int) := by omega
      have hmcc : (mm : Int) ≤ (cc : Int) := by omega
      have hbr : wr.cell? ⟨Br, 0, none⟩ = some (.int .i64 (r : Int)) := (show Boxed wr Br 3 (.int .i64 (r : Int)) from HK.out.same _ _ _ (.inr (.inl rfl)) HBR.out).cell
      have HAl := Lib.hid hAl
      have HJM := Lib.hid hjm
      have HP := Lib.hid hp
      have hsucc : (j + 1) * r = j * r + r := by rw [Nat.add_mul, Nat.one_mul]
      have hnext : (j + 1 < q ∧ p = r ∧ (j + 1) * r + (mm - p) = m) ∨ (j + 1 = q ∧ mm - p = 0) := by
        rcases Nat.lt_or_ge (j + 1) q with h | h
        · left
          have := (HQ.out (j + 1)).1 h
          refine ⟨h, by omega, by omega⟩
        · right
          have h2 : j + 1 = q := by omega
          have := HQE.out
          rw [← h2] at this
          exact ⟨h2, by omega⟩
      have HNX := Lib.hid hnext
      clear hAl hjm hpl hp hin hyl hR hsucc hnext HJ HA
      by_cases hcp : cc = p
      · have hjq1 : j + 1 = q := by
          rcases HNX.out with ⟨h1, _, h3⟩ | ⟨h, _⟩
          · have := (HQ.out (j + 1)).1 h1; omega
          · exact h
        have e1 : mm = p := by omega
        have HJ1 := Lib.hid hjq1
        clear hjq1 HNX HJM HP
        subst e1
        subst hcp
        gi_wp2_with fail
        refine HRn.out.mono ?_
        rintro e V2 (⟨rfl, ⟨hd, hb⟩, hk, _⟩ | ⟨rfl, hx, _⟩)
        · have HD2 := Lib.hid hd
          have HB2 := Lib.hid hb
          have HK2 := Lib.hid (HK.out.trans (hKs _ _ hk))
          clear hd hb hk
          gi_wp2
          go_roundw
          case rel => exact ⟨_, j + 1, _, _, rfl, by go_num, by omega, by omega, by have := HJ1.out; omega, fun h => by omega, .inr ⟨HJ1.out, by omega⟩, HD2, HB2, HK2⟩
          case measure => simp [intOf]; omega
        · have hF := Lib.hid hx
          clear hx
          gi_wp2
          first | go_end0 | (refine bodyPost_ret (results_none rfl _ _ _) rfl ?_)
          exact ⟨⟨_, rfl⟩, .inr hF.out⟩
      · gi_wp2_with fail
        refine HRn.out.mono ?_
        rintro e V2 (⟨rfl, ⟨hd, hb⟩, hk, _⟩ | ⟨rfl, hx, _⟩)
        · have HD2 := Lib.hid hd
          have HB2 := Lib.hid hb
          have HK2 := Lib.hid (HK.out.trans (hKs _ _ hk))
          have HA2 : Hid (0 < mm - p → Al.map (·.add p) = some ⟨g, (j + 1) * r, none⟩) := fun h => by
            rcases HNX.out with ⟨_, h2, _⟩ | ⟨_, h2⟩
            · rw [HAl.out, h2]
              have hr0 : r ≠ 0 := by omega
              simp [Addr.add, Nat.add_mul, hr0]
            · omega
          have HJ2 : Hid ((j + 1 < q ∧ (j + 1) * r + (mm - p) = m) ∨ (j + 1 = q ∧ mm - p = 0)) := HNX.out.imp (fun h => ⟨h.1, h.2.2⟩) id
          clear hd hb hk HNX
          gi_wp2
          go_roundw
          case rel => exact ⟨_, j + 1, mm - p, cc - p, rfl, by go_num, by omega, by omega, by omega, HA2, HJ2, HD2, HB2, HK2⟩
          case measure => simp [intOf]; omega
        · have hF := Lib.hid hx
          clear hx
          gi_wp2
          first | go_end0 | (refine bodyPost_ret (results_none rfl _ _ _) rfl ?_)
          exact ⟨⟨_, rfl⟩, .inr hF.out⟩
end Go.Proofs.Ytmdjgidbfcfdnaa

namespace Go.Proofs.Ytmdjgidbfcfdnaa
namespace Fc
open Cb

theorem scan_feed (x y : List Int) : ∀ (p : Nat) (now : List Int), scan p now (x ++ y) = scan p now x ++ scan (p + x.length) (opn now x) y := by
  induction x with
  | nil => intro p now; simp [scan, opn]
  | cons z x ih =>
    intro p now
    rw [List.cons_append]
    by_cases hz : z = 0
    · subst hz
      rw [scan_zero, scan_zero, ih, List.append_assoc, opn_zero, List.length_cons]
      congr 3; omega
    · rw [scan_ne hz, scan_ne hz, ih, opn_ne hz, List.length_cons]
      congr 2; omega
theorem opn_feed (x y : List Int) : ∀ now : List Int, opn now (x ++ y) = opn (opn now x) y := by
  induction x with
  | nil => intro now; simp [opn]
  | cons z x ih =>
    intro now
    rw [List.cons_append]
    by_cases hz : z = 0
    · subst hz; rw [opn_zero, opn_zero, ih]
    · rw [opn_ne hz, opn_ne hz, ih]
theorem opn_isNZ (x : List Int) : ∀ {now : List Int}, NZ now → NZ (opn now x) := by
  induction x with
  | nil => intro now h; simpa [opn] using h
  | cons z x ih =>
    intro now h
    by_cases hz : z = 0
    · subst hz; rw [opn_zero]; exact ih (fun c hc => by cases hc)
    · rw [opn_ne hz]; exact ih (h.append fun c hc => by simp at hc; subst hc; exact hz)
theorem opn_length (x : List Int) : ∀ now : List Int, (opn now x).length ≤ now.length + x.length := by
  induction x with
  | nil => intro now; simp [opn]
  | cons z x ih =>
    intro now
    by_cases hz : z = 0
    · subst hz; have := ih []; rw [opn_zero]; simp only [List.length_nil, List.length_cons] at this ⊢; omega
    · have := ih (now ++ [z]); rw [opn_ne hz]; simp only [List.length_append, List.length_cons, List.length_nil] at this ⊢; omega
theorem opn_bytes (x : List Int) : ∀ {now : List Int}, Bytes now → Bytes x → Bytes (opn now x) := by
  induction x with
  | nil => intro now h _; simpa [opn] using h
  | cons z x ih =>
    intro now h hx
    have hr : Bytes x := fun c hc => hx c (by simp [hc])
    by_cases hz : z = 0
    · subst hz; rw [opn_zero]; exact ih (fun c hc => by cases hc) hr
    · rw [opn_ne hz]; exact ih (h.append fun c hc => by simp at hc; subst hc; exact hx c (by simp)) hr
/-- up to the first 0 -/
theorem scan_stepn {L : List Int} (h : nz L < L.length) (p : Nat) (now : List Int) :
    scan p now L = (if now ++ L.take (nz L) = [] then [] else [(p + nz L - (now ++ L.take (nz L)).length, now ++ L.take (nz L))]) ++ scan (p + nz L + 1) [] (L.drop (nz L + 1)) := by
  conv => lhs; rw [cut_nz h]
  have hl : (L.take (nz L)).length = nz L := by rw [List.length_take]; omega
  rw [scan_nz (nz_take L), scan_zero, hl]
theorem opn_stepn {L : List Int} (h : nz L < L.length) (now : List Int) : opn now L = opn [] (L.drop (nz L + 1)) := by
  conv => lhs; rw [cut_nz h]
  rw [opn_app]
theorem last_isNZ {L : List Int} (h : L.length ≤ nz L) : NZ L := by
  have := nz_take L
  rwa [List.take_of_length_le h] at this
theorem scan_lastn {L : List Int} (h : L.length ≤ nz L) (p : Nat) (now : List Int) : scan p now L = [] := scan_end (last_isNZ h) p now
theorem opn_lastn {L : List Int} (h : L.length ≤ nz L) (now : List Int) : opn now L = now ++ L := opn_end (last_isNZ h) now
/-- a segment's end lies within what was fed -/
theorem scan_place (L : List Int) : ∀ (p : Nat) (now : List Int), now.length ≤ p → ∀ x ∈ scan p now L, p - now.length ≤ x.1 ∧ x.1 + x.2.length + 1 ≤ p + L.length := by
  induction L with
  | nil => intro p now _ x hx; simp [scan] at hx
  | cons z r ih =>
    intro p now hn x hx
    by_cases hz : z = 0
    · subst hz
      rw [scan_zero] at hx
      rcases List.mem_append.1 hx with hx | hx
      · split at hx
        · simp at hx
        · simp at hx; subst hx
          exact ⟨Nat.le_refl _, by simp only [List.length_cons]; omega⟩
      · have h1 := ih (p + 1) [] (by simp) x hx
        simp only [List.length_nil, List.length_cons] at h1 ⊢
        omega
    · rw [scan_ne hz] at hx
      have h1 := ih (p + 1) (now ++ [z]) (by simp; omega) x hx
      simp only [List.length_append, List.length_cons, List.length_nil] at h1 ⊢
      omega
theorem scan_isBytes (L : List Int) : ∀ (p : Nat) (now : List Int), Bytes now → Bytes L → ∀ x ∈ scan p now L, Bytes x.2 := by
  induction L with
  | nil => intro p now _ _ x hx; simp [scan] at hx
  | cons z r ih =>
    intro p now h hx x hm
    have hr : Bytes r := fun c hc => hx c (by simp [hc])
    by_cases hz : z = 0
    · subst hz
      rw [scan_zero] at hm
      rcases List.mem_append.1 hm with hm | hm
      · split at hm
        · simp at hm
        · simp at hm; subst hm; exact h
      · exact ih _ [] (fun c hc => by cases hc) hr x hm
    · rw [scan_ne hz] at hm
      exact ih _ _ (h.append fun c hc => by simp at hc; subst hc; exact hx c (by simp)) hr x hm
end Fc

/-- what is held of bytes that are open: none, if they are too many -/
def held (b : List Int) : List Int := if 255 < b.length then [] else b
theorem held_long {b : List Int} (h : 255 < b.length) : held b = [] := if_pos h
theorem held_short {b : List Int} (h : b.length ≤ 255) : held b = b := if_neg (by omega)
theorem held_len (b : List Int) : (held b).length ≤ 255 := by
  unfold held; split
  · simp
  · omega
theorem held_le (b : List Int) : (held b).length ≤ b.length := by
  unfold held; split
  · simp
  · exact Nat.le_refl _
theorem held_bytes {b : List Int} (h : Bytes b) : Bytes (held b) := by
  unfold held; split
  · intro c hc; cases hc
  · exact h
theorem held_nil : held [] = [] := rfl

/-- a segment that was told: its bytes' place and room; where it was, and its bytes -/
structure Sg where
  a : Option Addr
  cp : Nat
  p : Nat
  b : List Int
def Sg.cs (x : Sg) : Array Value := #[.slice x.a (held x.b).length x.cp, .bool (decide (255 < x.b.length)), .int .i64 x.b.length, .int .u64 x.p]
def Sg.pb (x : Sg) : Nat × List Int := (x.p, x.b)
/-- the cells of segments, one behind the other -/
def flatS (xs : List Sg) : List Value := xs.flatMap fun x => x.cs.toList
theorem flatS_len (xs : List Sg) : (flatS xs).length = xs.length * 4 := by
  induction xs with
  | nil => rfl
  | cons f r ih => unfold flatS at *; rw [List.flatMap_cons, List.length_append, ih, List.length_cons]; have : f.cs.toList.length = 4 := rfl; omega
theorem flatS_push (xs : List Sg) (x : Sg) : flatS (xs ++ [x]) = flatS xs ++ x.cs.toList := by unfold flatS; simp
theorem flatS_append (xs ys : List Sg) : flatS (xs ++ ys) = flatS xs ++ flatS ys := by unfold flatS; simp
theorem flatS_at : ∀ {xs : List Sg} {j q : Nat} {x : Sg} {u : Value}, xs[j]? = some x → x.cs[q]? = some u → (flatS xs)[j * 4 + q]? = some u
  | [], _, _, _, _, h, _ => by simp at h
  | g :: r, 0, q, x, u, h, hq => by
    simp only [List.getElem?_cons_zero, Option.some.injEq] at h
    subst h
    have hlt : q < 4 := (Array.getElem?_eq_some_iff.1 hq).1
    unfold flatS
    rw [List.flatMap_cons, List.getElem?_append_left (by show 0 * 4 + q < 4; omega), Nat.zero_mul, Nat.zero_add, Array.getElem?_toList]
    exact hq
  | g :: r, j + 1, q, x, u, h, hq => by
    have ih := flatS_at (xs := r) (j := j) (q := q) (x := x) (u := u) (by simpa using h) hq
    unfold flatS at *
    have h6 : g.cs.toList.length = 4 := rfl
    rw [List.flatMap_cons, List.getElem?_append_right (by rw [h6]; omega), h6, show (j + 1) * 4 + q - 4 = j * 4 + q by omega]
    exact ih
theorem flatS_of {xs : List Sg} {i : Nat} {u : Value} (h : (flatS xs)[i]? = some u) : ∃ x, xs[i / 4]? = some x ∧ x.cs[i % 4]? = some u := by
  have hlt := (List.getElem?_eq_some_iff.1 h).1
  rw [flatS_len] at hlt
  have hx : i / 4 < xs.length := by omega
  obtain ⟨x, hx⟩ : ∃ x, xs[i / 4]? = some x := ⟨_, List.getElem?_eq_getElem hx⟩
  have h4 : i % 4 < x.cs.size := by show i % 4 < 4; omega
  obtain ⟨v, hv⟩ : ∃ v, x.cs[i % 4]? = some v := ⟨_, Array.getElem?_eq_getElem h4⟩
  have := flatS_at hx hv
  rw [show i / 4 * 4 + i % 4 = i by omega, h] at this
  injection this with this
  subst this
  exact ⟨x, hx, hv⟩
theorem flatS_one {xs : List Sg} : ∀ u ∈ flatS xs, u.oneCell' = true := fun u hu => by
  obtain ⟨x, _, hx⟩ := List.mem_flatMap.1 hu
  simp [Sg.cs] at hx
  rcases hx with rfl | rfl | rfl | rfl <;> rfl
end Go.Proofs.Ytmdjgidbfcfdnaa

namespace Go.Proofs.Ytmdjgidbfcfdnaa
open Go.RowKit

theorem run_append_any_at {P : Program} {w : World} (t ty : TypeId) (base : Nat) (e : TypeId) (i : TypeInfo) (z : Value) (bytes : Nat) (ht : P.underlying t = some (.slice e)) (hi : P.info? e = some i) (hz : i.zero = some z) (hsize : i.size = 1) (hby : i.bytes = bytes) (hzs : z.cells.size = 1)
    (k : IntKind) (n : Nat) (xs : List Value) (zs : List Int) (v : Value) (hown : w.ownsRow base e 1 v n xs) (A : Option Addr) (m c B : Nat) (hm : zs.length = m) (hn : Nums k w B A zs)
    (h63 : n + m ≤ maxLen) (hbytes : (n + m) * bytes ≤ 140737488355328) (hbase : base ≤ w.heap.size) :
    ∃ v' w', (Builtin.append_ #[t, t] ty #[v, .slice A m c]).run P w = .ok v' w' ∧ w'.ownsRow base e 1 v' (n + m) (xs ++ zs.map (Value.int k)) ∧ w.grownBy w' v.ownBlock ∧ (v'.ownBlock = v.ownBlock ∨ v'.ownBlock = some w.heap.size) := by
  subst hm
  by_cases hz0 : zs = []
  · subst hz0
    have hv : ∃ b n cap, v = .slice b n cap ∧ n ≤ cap := by
      rcases hown.2 with ⟨rfl, _⟩ | ⟨g, cap, cur, rfl, _, _, hle, _⟩
      · exact ⟨_, _, _, rfl, Nat.le_refl _⟩
      · exact ⟨_, _, _, rfl, hle⟩
    obtain ⟨b, q, cap, rfl, hle⟩ := hv
    refine ⟨_, _, run_append_nothing w t t ty e i ht hi b q cap hle _ ?_, by simpa using hown, ⟨rfl, rfl, rfl, Nat.le_refl _, fun _ _ _ => rfl⟩, .inl rfl⟩
    cases A with
    | none => exact ⟨.inl ⟨e, ht⟩, fun _ => rfl, run_firstCells_none w i.size 0 0 c, run_firstCells_none w.drew i.size 0 0 c, by simp, fun _ h => by cases h⟩
    | some ad => exact Src.ofSlice w ht ad 0 c [] (by simp) (by simp) (fun _ h => by cases h)
  · obtain ⟨b1, o1, rfl, hb1, hc⟩ := hn hz0
    obtain ⟨v', w', h1, h2, h3, _, h5⟩ := run_append_own_at (P := P) (w := w) base t ty e i z 1 bytes ht hi hz hsize hby hzs (by decide) v n xs hown ⟨b1, o1, none⟩ zs.length c (zs.map (Value.int k)) (by simp) (fun j u hj => by
      rw [List.getElem?_map] at hj
      obtain ⟨y, hy, rfl⟩ := Option.map_eq_some_iff.1 hj
      rw [Addr.add_lit]
      exact hc j y hy) (fun u hu => by obtain ⟨y, _, rfl⟩ := List.mem_map.1 hu; rfl) h63 hbytes hbase
    exact ⟨v', w', h1, h2, h3, h5⟩

theorem wpListIn_append_any_at {F : Fence} {nF : Nat} {P : Program} {w : World} {ops : Array Oper} {rest : List Oper} {o : Oper} {a : Act} {Q : Exit → Act → World → Prop} (hg : o.guard = none) (s x : Operand) (t : TypeId)
    (hop : o.op = Op.call { callee := Callee.builtin Builtin.append, args := #[s, x], argTypes := #[t, t] })
    (base : Nat) (e : TypeId) (i : TypeInfo) (z : Value) (bytes : Nat) (ht : P.underlying t = some (.slice e)) (hi : P.info? e = some i) (hz : i.zero = some z) (hsize : i.size = 1) (hby : i.bytes = bytes) (hzs : z.cells.size = 1)
    (k : IntKind) (n : Nat) (xs : List Value) (zs : List Int) (v : Value) (hs : a.eval s = v) (hown : w.ownsRow base e 1 v n xs) (A : Option Addr) (m c B : Nat) (hx : a.eval x = .slice A m c) (hm : zs.length = m) (hn : Nums k w B A zs)
    (h63 : n + m ≤ maxLen) (hbytes : (n + m) * bytes ≤ 140737488355328) (hbase : base ≤ w.heap.size)
    (hK : ∀ v' w', w'.ownsRow base e 1 v' (n + m) (xs ++ zs.map (Value.int k)) → w.grownBy w' v.ownBlock → (v'.ownBlock = v.ownBlock ∨ v'.ownBlock = some w.heap.size) → wpListIn F nF P ops Q rest (a.put o.dst v') w') :
    wpListIn F nF P ops Q (o :: rest) a w := by
  refine wpListIn_plain hg fun K hK' => ?_
  obtain ⟨v', w', hrun, r1, r2, r3⟩ := run_append_any_at (P := P) (w := w) t o.type base e i z bytes ht hi hz hsize hby hzs k n xs zs v hown A m c B hm hn h63 hbytes hbase
  unfold Oper.wpIn
  refine ⟨?_, ?_⟩
  · simp [Oper.about, hop, resolve, Target.leads, Sem.run_pure]
  · rw [Oper.semAt_plain F _ _ (by rw [hop]; intro c hc'; cases hc')]
    simp [execOp, hop, resolve, invoke, builtin, hs, hx, hrun, Result.andThen]
    exact hK' _ _ (hK v' w' r1 r2 r3)

/-- the block of the row that the box holds -/
def ownA (b : Nat) (W : World) : Option Nat := (W.cell? ⟨b, 0, none⟩).bind Value.ownBlock
/-- whatever is cells, but the two boxes and the one's row, is as it was -/
structure KpA (bI bA : Nat) (W W' : World) : Prop where
  size : W.heap.size ≤ W'.heap.size
  same : ∀ (k : Nat) (o : Obj), k ≠ bI → k ≠ bA → ownA bA W ≠ some k → W.heap[k]? = some o → o.isCells = true → W'.heap[k]? = some o
  own : ownA bA W' = ownA bA W ∨ ∃ g, ownA bA W' = some g ∧ W.heap.size ≤ g
section
variable {bI bA : Nat} {A B C : World}
theorem KpA.refl (bI bA : Nat) (A : World) : KpA bI bA A A := ⟨Nat.le_refl _, fun _ _ _ _ _ h _ => h, .inl rfl⟩
theorem KpA.trans (h : KpA bI bA A B) (k : KpA bI bA B C) : KpA bI bA A C := by
  refine ⟨Nat.le_trans h.size k.size, fun i o hi ha hown ho hc => ?_, ?_⟩
  · refine k.same i o hi ha (fun e => ?_) (h.same i o hi ha hown ho hc) hc
    rcases h.own with h1 | ⟨g, h1, h2⟩
    · rw [h1] at e; exact hown e
    · rw [h1] at e; injection e with e
      have := (Array.getElem?_eq_some_iff.1 ho).1
      omega
  · rcases k.own with h1 | ⟨g, h1, h2⟩
    · rcases h.own with h3 | ⟨g, h3, h4⟩
      · exact .inl (h1.trans h3)
      · exact .inr ⟨g, h1.trans h3, h4⟩
    · exact .inr ⟨g, h1, Nat.le_trans h.size h2⟩
theorem KpA.putObj {l : Nat} {W : World} {o o' : Obj} (hbl : bA < l) (ho : W.heap[l]? = some o) (hc : o.isCells = false) : KpA bI bA W (W.putObj l o') := by
  refine ⟨by simp [World.putObj], fun k p _ _ _ hp hpc => (World.putObj_heap_other (fun e => ?_)).trans hp, .inl ?_⟩
  · subst e
    rw [hp] at ho
    injection ho with ho
    subst ho
    rw [hpc] at hc; cases hc
  · unfold ownA
    rw [World.cell?_of_block (World.putObj_heap_other (by simp only; omega))]
theorem KpA.of_below {b : Nat} (h : Below b A B) (hs : A.heap.size ≤ b) (hb : bA < A.heap.size) : KpA bI bA A B := ⟨h.size, fun k _ _ _ _ ho _ => (h.block k (by have := (Array.getElem?_eq_some_iff.1 ho).1; omega)).trans ho, .inl (by unfold ownA; rw [h.cell (p := ⟨bA, 0, none⟩) (by simp only; omega)])⟩
end

/-- the boxes behind j rounds: the count, and the row, whose numbers are zs -/
structure TwoB (w : World) (bI bA : Nat) (tI tA e : TypeId) (k : IntKind) (j : Nat) (zs : List Int) (V : World) : Prop where
  cnt : Boxed V bI tI (.int .i64 ((j : Nat) : Int))
  row : ∃ v, Boxed V bA tA v ∧ V.ownsRow w.heap.size e 1 v zs.length (zs.map (Value.int k)) ∧ (j = 0 → v = .slice none 0 0)
  off : Off (fun q => q = bI ∨ q = bA) w V
section
variable {w V V1 V2 : World} {bI bA : Nat} {tI tA e : TypeId} {k : IntKind} {j : Nat} {zs : List Int}
theorem TwoB.putObj {l : Nat} {o o' : Obj} (h : TwoB w bI bA tI tA e k j zs V) (hI : bI < w.heap.size) (hA : bA < w.heap.size) (hl : w.heap.size ≤ l) (ho : V.heap[l]? = some o) (hc : o.isCells = false) : TwoB w bI bA tI tA e k j zs (V.putObj l o') := by
  obtain ⟨v, h1, h2, h3⟩ := h.row
  exact ⟨(World.putObj_heap_other (by omega)).trans h.cnt, ⟨v, (World.putObj_heap_other (by omega)).trans h1, ownsRow_putObj h2 _ ho hc, h3⟩, off_below h.off (below_put V o' hl)⟩
theorem TwoB.start (h : TwoB w bI bA tI tA e k 0 [] V) (hI : bI < w.heap.size) (hA : bA < w.heap.size) (hb : Below w.heap.size V V1) : TwoB w bI bA tI tA e k 0 [] V1 := by
  obtain ⟨v, h1, h2, h3⟩ := h.row
  refine ⟨(hb.block bI hI).trans h.cnt, ⟨v, (hb.block bA hA).trans h1, ?_, h3⟩, off_below h.off hb⟩
  rw [h3 rfl]
  exact World.ownsRow_nil _ _ _ _
theorem TwoB.own0 (h : TwoB w bI bA tI tA e k 0 zs V) : ownA bA V = none := by
  obtain ⟨v, h1, _, h3⟩ := h.row
  unfold ownA
  rw [h1.cell, h3 rfl]; rfl
/-- a round: the row grows, the count goes up -/
theorem TwoB.next {v v' : Value} {ys : List Int} {m : Nat} (h : TwoB w bI bA tI tA e k j zs V) (hv : Boxed V bA tA v) (hrow : V.ownsRow w.heap.size e 1 v zs.length (zs.map (Value.int k))) (hne : bI ≠ bA) (hI : bI < w.heap.size) (hA : bA < w.heap.size)
    (h1 : Below V.heap.size V V1) (hm : (zs ++ ys).length = m) (hown' : V2.ownsRow w.heap.size e 1 v' m (zs.map (Value.int k) ++ ys.map (Value.int k))) (hg : V1.grownBy V2 v.ownBlock) (hat : v'.ownBlock = v.ownBlock ∨ v'.ownBlock = some V1.heap.size) :
    Boxed V2 bA tA v ∧ Boxed V2 bI tI (.int .i64 (j : Int)) ∧ Boxed (V2.setCell ⟨bA, 0, none⟩ v') bI tI (.int .i64 (j : Int)) ∧
    TwoB w bI bA tI tA e k (j + 1) (zs ++ ys) ((V2.setCell ⟨bA, 0, none⟩ v').setCell ⟨bI, 0, none⟩ (.int .i64 ((j : Int) + 1))) ∧
    KeepsFrom w.heap.size V ((V2.setCell ⟨bA, 0, none⟩ v').setCell ⟨bI, 0, none⟩ (.int .i64 ((j : Int) + 1))) ∧ KpA bI bA V ((V2.setCell ⟨bA, 0, none⟩ v').setCell ⟨bI, 0, none⟩ (.int .i64 ((j : Int) + 1))) := by
  have hsV := h.off.size
  have hs1 := h1.size
  have hs2 := hg.size
  have hlt := hrow.lt
  have hlt' := hown'.lt
  have hnr : ∀ b, b < w.heap.size → some b ≠ v.ownBlock := fun b hb e2 => by have := (hlt b e2.symm).1; omega
  have hA2 : Boxed V2 bA tA v := (hg.block bA (by omega) (hnr bA hA)).trans ((h1.block bA (by omega)).trans hv)
  have hI2 : Boxed V2 bI tI (.int .i64 (j : Int)) := (hg.block bI (by omega) (hnr bI hI)).trans ((h1.block bI (by omega)).trans h.cnt)
  have hI3 : Boxed (V2.setCell ⟨bA, 0, none⟩ v') bI tI (.int .i64 (j : Int)) := hI2.other hne v'
  have hA3 : Boxed (V2.setCell ⟨bA, 0, none⟩ v') bA tA v' := hA2.set v'
  have hnr' : ∀ b, b < w.heap.size → v'.ownBlock = none ∨ v'.ownBlock ≠ some b := fun b hb => .inr fun e2 => by have := (hlt' b e2).1; omega
  have hr3 := hown'.kept (grownBy_setCell' V2 bA v') (hnr' bA hA)
  have hr4 := hr3.kept (grownBy_setCell' _ bI (.int .i64 ((j : Int) + 1))) (hnr' bI hI)
  have hblk : ∀ q, q < V.heap.size → q ≠ bI → q ≠ bA → some q ≠ v.ownBlock → ((V2.setCell ⟨bA, 0, none⟩ v').setCell ⟨bI, 0, none⟩ (.int .i64 ((j : Int) + 1))).heap[q]? = V.heap[q]? := fun q hq h3 h4 h5 =>
    (Below.heap_setCell _ ⟨bI, 0, none⟩ _ q h3).trans ((Below.heap_setCell _ ⟨bA, 0, none⟩ _ q h4).trans ((hg.block q (by omega) h5).trans (h1.block q hq)))
  have hsz : V.heap.size ≤ ((V2.setCell ⟨bA, 0, none⟩ v').setCell ⟨bI, 0, none⟩ (.int .i64 ((j : Int) + 1))).heap.size := by simp only [World.setCell, Array.size_modify]; omega
  have hAf : Boxed ((V2.setCell ⟨bA, 0, none⟩ v').setCell ⟨bI, 0, none⟩ (.int .i64 ((j : Int) + 1))) bA tA v' := hA3.other (Ne.symm hne) _
  have hcellV : ∀ q o, v.ownBlock = some q → V.heap[q]? = some o → o.isCells = true := fun q o ej hj => by
    rcases hrow.2 with ⟨rfl, _⟩ | ⟨g, cap, cur, rfl, _, hgb, _⟩
    · simp [Value.ownBlock] at ej
    · obtain rfl : g = q := by simpa [Value.ownBlock] using ej
      rw [hgb] at hj; cases hj; rfl
  refine ⟨hA2, hI2, hI3, ⟨?_, ⟨v', hAf, ?_, fun h0 => by omega⟩, ?_⟩, ?_, ?_⟩
  · rw [Int.natCast_succ]; exact hI3.set _
  · rw [hm, List.map_append]; exact hr4
  · refine ⟨hg.os.trans (h1.os.trans h.off.os), hg.tape.trans (h1.tape.trans h.off.tape), hg.output.trans (h1.output.trans h.off.output), Nat.le_trans hsV hsz, fun q hq hn => ?_⟩
    exact (hblk q (by omega) (fun e2 => hn (.inl e2)) (fun e2 => hn (.inr e2)) (hnr q hq)).trans (h.off.block q hq hn)
  · refine ⟨hsz, fun q o hq ho hc => ?_⟩
    have hql := (Array.getElem?_eq_some_iff.1 ho).1
    refine (hblk q hql (by omega) (by omega) (fun e2 => ?_)).trans ho
    have := hcellV q o e2.symm ho
    rw [hc] at this; cases this
  · have hoV : ownA bA V = v.ownBlock := by unfold ownA; rw [hv.cell]; rfl
    have hoF : ownA bA ((V2.setCell ⟨bA, 0, none⟩ v').setCell ⟨bI, 0, none⟩ (.int .i64 ((j : Int) + 1))) = v'.ownBlock := by unfold ownA; rw [hAf.cell]; rfl
    refine ⟨hsz, fun q o h3 h4 h5 ho hc => ?_, ?_⟩
    · have hql := (Array.getElem?_eq_some_iff.1 ho).1
      exact (hblk q hql h3 h4 (fun e2 => h5 (by rw [hoV, e2]))).trans ho
    · rw [hoF, hoV]
      rcases hat with h6 | h6
      · exact .inl h6
      · exact .inr ⟨_, h6, hs1⟩
end
end Go.Proofs.Ytmdjgidbfcfdnaa

namespace Go.Proofs.Ytmdjgidbfcfdnaa
open Go.RowKit Go.Shelf
set_option maxRecDepth 100000
attribute [local go_sem] Oper.semAt_some

section
variable {te tl : TypeId} {k : IntKind} {base : Nat} {W w1 : World} {v v' u u' x : Value} {xs : List Value} {O : List (List Int)} {N b : List Int} {o : Obj}
/-- a row of a third type has grown -/
theorem Ls.far {e3 : TypeId} {n : Nat} {v3 : Value} {ys : List Value} (h : Ls te tl k base W v u xs O N) (h3 : W.ownsRow base e3 1 v3 n ys) (hne : te ≠ e3) (hne2 : tl ≠ e3) (hg : (W.alloc o).grownBy w1 v3.ownBlock) : Ls te tl k base w1 v u xs O N := by
  refine ⟨(h.out.alloc o).kept hg (own_far h.out h3 hne2), fun i b hb => ?_, (h.now.alloc o).kept hg (own_far h.now h3 hne)⟩
  obtain ⟨x, hx, A, c, rfl, hc, hcell⟩ := h.els i b hb
  refine ⟨_, hx, A, c, rfl, hc, fun hn => ?_⟩
  obtain ⟨g, cur, rfl, hbg, hh, hu, hz⟩ := hcell hn
  have hlt := (Array.getElem?_eq_some_iff.1 hh).1
  refine ⟨g, cur, rfl, hbg, ?_, hu, hz⟩
  rw [hg.block g (by rw [World.size_alloc]; omega) (fun e => ?_)]
  · exact (Below.heap_alloc W o g hlt).trans hh
  · rcases h3.2 with ⟨rfl, _⟩ | ⟨g2, cap2, cur2, rfl, _, hh2, _⟩
    · simp [Value.ownBlock] at e
    · simp only [Value.ownBlock, Option.some.injEq] at e
      subst e
      rw [hh] at hh2
      injection hh2 with hh2
      injection hh2 with _ ht
      exact hne ht
theorem Ls.renil (h : Ls te tl k base W v u xs O []) : Ls te tl k base W v (.slice none 0 0) xs O [] := by
  refine ⟨h.out, fun i b hb => ?_, World.ownsRow_nil _ _ _ _⟩
  obtain ⟨x, hx, A, c, rfl, hc, hcell⟩ := h.els i b hb
  refine ⟨_, hx, A, c, rfl, hc, fun hn => ?_⟩
  obtain ⟨g, cur, rfl, hbg, hh, _, hz⟩ := hcell hn
  exact ⟨g, cur, rfl, hbg, hh, by simp [Value.ownBlock], hz⟩
end

theorem own_slice_le {w : World} {base : Nat} {e : TypeId} {size n : Nat} {v : Value} {xs : List Value} (h : w.ownsRow base e size v n xs) : ∃ A c, v = .slice A n c ∧ n ≤ c := by
  rcases h.2 with ⟨rfl, h0⟩ | ⟨g, cap, cur, rfl, _, _, hle, _⟩
  · subst h0; exact ⟨none, 0, rfl, Nat.le_refl _⟩
  · exact ⟨_, cap, rfl, hle⟩

/-- the places, as the program's numbers -/
def plc (l : List (Nat × List Int)) : List Int := l.map fun x => (x.1 : Int)
theorem plc_append (a b : List (Nat × List Int)) : plc (a ++ b) = plc a ++ plc b := by simp [plc]
/-- what the document's Split leaves -/
def RSplit (w : World) (zs : List Int) (e : Ending) (w' : World) : Prop :=
  ∃ A1 c1 A2 c2 A3 c3, e = .returned (.tuple #[.slice A1 (Fc.segs zs).length c1, .slice A2 (Fc.segs zs).length c2, .slice A3 (Fc.opn [] zs).length c3]) ∧ (Fc.segs zs).length ≤ c1 ∧ (Fc.segs zs).length ≤ c2 ∧ (Fc.opn [] zs).length ≤ c3 ∧
    ListAt .u8 w' w'.heap.size A1 (Fc.segs zs) ∧ Nums .i64 w' w'.heap.size A2 (plc (Fc.scan 0 [] zs)) ∧ Nums .u8 w' w'.heap.size A3 (Fc.opn [] zs) ∧ Below w.heap.size w w'

/-- the elements' bytes lie in blocks of base.. -/
def ListNew (base : Nat) (w : World) (A : Option Addr) (bl : List (List Int)) : Prop :=
  ∀ (i : Nat) (b : List Int), bl[i]? = some b → ∃ (g : Nat) (Ai : Option Addr) (ci : Nat), A = some ⟨g, 0, none⟩ ∧ w.cell? ⟨g, i, none⟩ = some (.slice Ai b.length ci) ∧ NumsS .u8 w (fun k => base ≤ k ∧ k < w.heap.size) Ai b
theorem Ls.new {te tl : TypeId} {base : Nat} {W : World} {v u : Value} {xs : List Value} {O : List (List Int)} {N : List Int} (h : Ls te tl .u8 base W v u xs O N) (A : Option Addr) (c : Nat) (hv : v = .slice A O.length c) : ListNew base W A O := fun i b hi => by
  rcases h.out.2 with ⟨_, h0⟩ | ⟨g, cap, cur, e, hbg, hh, hle, _⟩
  · rw [List.eq_nil_of_length_eq_zero h0] at hi
    simp at hi
  · rw [hv] at e
    injection e with e1 e2 e3
    subst e1 e3
    obtain ⟨x, hx, A, c, rfl, hc, hcell⟩ := h.els i b hi
    have h1 := h.out.cells (g := g) (by rw [hv]; rfl) i _ hx
    rw [Addr.add_lit, Nat.zero_add] at h1
    refine ⟨g, A, c, rfl, h1, fun hn => ?_⟩
    obtain ⟨g2, cur2, rfl, hb2, hh2, _, hz⟩ := hcell hn
    refine ⟨g2, 0, rfl, ⟨hb2, (Array.getElem?_eq_some_iff.1 hh2).1⟩, fun j z hj => ?_⟩
    rw [Nat.zero_add]
    simp [World.cell?, hh2, hz j z hj]
def RSplit2 (w : World) (zs : List Int) (e : Ending) (w' : World) : Prop :=
  ∃ A1 c1 A2 c2 A3 c3, e = .returned (.tuple #[.slice A1 (Fc.segs zs).length c1, .slice A2 (Fc.segs zs).length c2, .slice A3 (Fc.opn [] zs).length c3]) ∧ (Fc.segs zs).length ≤ c1 ∧ (Fc.segs zs).length ≤ c2 ∧ (Fc.opn [] zs).length ≤ c3 ∧
    ListAt .u8 w' w'.heap.size A1 (Fc.segs zs) ∧ Nums .i64 w' w'.heap.size A2 (plc (Fc.scan 0 [] zs)) ∧ Nums .u8 w' w'.heap.size A3 (Fc.opn [] zs) ∧ Below w.heap.size w w' ∧ ListNew w.heap.size w' A1 (Fc.segs zs)
end Go.Proofs.Ytmdjgidbfcfdnaa

namespace Go.Proofs.Ytmdjgidbfcfdnaa
open Go.RowKit Go.Shelf
set_option maxRecDepth 100000

section
variable {w w' : World} {b lo : Nat} {v : Value} {p : Nat} {now : List Int}
end
/-- what a turn of the scanner changes: it, and the row that it holds -/
def ScB (b : Nat) (own : Option Nat) (k : Nat) : Prop := k = b ∨ own = some k
/-- a store into the scanner's own block -/
theorem scan_store {w : World} {b j : Nat} {cs : Array Value} {t : TypeId} {u : Value} (own : Option Nat) (_h : w.heap[b]? = some (.cells cs t (0, 0))) : Off (ScB b own) w (w.setCell ⟨b, j, none⟩ u) :=
  (Off.refl (ScB b own) w).setCell (p := ⟨b, j, none⟩) (.inl rfl) u
theorem own_setCell {w : World} {b j lo n : Nat} {e : TypeId} {v u : Value} {xs : List Value} (h : w.ownsRow lo e 1 v n xs) (hb : v.ownBlock ≠ some b) : (w.setCell ⟨b, j, none⟩ u).ownsRow lo e 1 v n xs := by
  refine ⟨h.1, ?_⟩
  rcases h.2 with h3 | ⟨g, cap, cur, rfl, hg, hh, r⟩
  · exact .inl h3
  · exact .inr ⟨g, cap, cur, rfl, hg, (Below.heap_setCell _ ⟨b, j, none⟩ _ g (fun e => hb (by rw [e]; rfl))).trans hh, r⟩
end Go.Proofs.Ytmdjgidbfcfdnaa

namespace Go.Proofs.Ytmdjgidbfcfdnaa
open Go.RowKit Go.Shelf
set_option maxRecDepth 100000

section
variable {w : World} {b lo p : Nat} {v : Value} {now : List Int}
end
end Go.Proofs.Ytmdjgidbfcfdnaa

namespace Go.Proofs.Ytmdjgidbfcfdnaa
open Go.RowKit
section
variable {P : Program} {l : List Oper} {vs : List Value} {fs : List Tmp} {FS : Tmp → Value → World → Prop} {I : World → Prop} {a0 : Act}
/-- one operation of such a run -/
theorem op_of_F {N : Nat} {Q' : Exit → Act → World → Prop} {K : Act → World → Prop} (hR : RG .any l.toArray N) (hN : N ≤ a0.tmps.size) (hlen : vs.length = l.length) {listed : Array Bool} {b : Act} {w : World} {i : Nat} {o : Oper} {v : Value}
    (h : Inv l vs fs FS I a0 listed b w) (ho2 : l[i]? = some o) (hun : listed.getD i true = false) (hp : ∀ e ∈ o.after, Region.binds .any e = true → listed.getD e.on true = true) (hv : vs[i]? = some v) (hob : Ob P l.toArray I fs FS o v (lex l vs a0 i))
    (hK : ∀ u w', Below w.heap.size w w' → (∀ d, o.dst = some d → (d ∈ fs → FS d u w') ∧ (d ∉ fs → vs[i]? = some u)) → K (b.put o.dst u) w') : Go.wpOp P l.toArray Q' i K b w := by
  have ho : l.toArray[i]? = some o := by simpa using ho2
  have hsel : ∀ cs c, o.op ≠ .select cs c := fun cs c => hR.sel i o cs c ho
  have ag : ∀ d ∈ o.looksAt l.toArray, d ∉ fs → (lex l vs a0 i).tmps[d]? = b.tmps[d]? := fun d hd hf => h.agree hR hN hlen ho2 hun hp hd hf
  unfold Go.wpOp
  simp only [ho]
  rcases hob with ⟨h1, h2, hcalm⟩ | ⟨s, hs, hds, h1, hwt, hsrc⟩ | ⟨s, hs, ⟨j, hj, hje⟩, h1, h2, huse⟩ | ⟨s, R, hs, hds, hRs, h1, hmix⟩
  · have he := exec_agree (ops := l.toArray) hsel fun d hd => ag d hd (h1 d hd)
    have hw := wanted_agree (ops := l.toArray) fun d hd => ag d hd (h1 d hd)
    have kv : ∀ w', Below w.heap.size w w' → K (b.put o.dst v) w' := fun w' hb => hK v w' hb fun d hd => ⟨fun hf => absurd hf (h2 d hd), fun _ => hv⟩
    rcases hcalm with ⟨hwt, hval⟩ | ⟨hwf, rfl⟩
    · rw [hw] at hwt
      rw [if_pos hwt]
      left
      have h3 := hval w h.cls
      rw [he] at h3
      unfold Oper.wp
      generalize (execOp b.eval o).run P w = r at h3
      cases r with
      | ok n w' =>
        cases n <;> simp only [calmUpon] at h3 <;> simp only [Oper.upon]
        case value u => obtain ⟨rfl, rfl⟩ := h3; exact kv _ (Below.refl _ _)
        case skip => obtain ⟨rfl, rfl⟩ := h3; exact kv _ (Below.refl _ _)
        case enter f args =>
          obtain ⟨rfl, hcc⟩ := h3
          exact hcc.mono fun e w'' ⟨he, hb⟩ => by subst he; exact kv _ hb
      | halt x w' => simp only [calmUpon] at h3
    · rw [hw] at hwf
      rw [hwf, if_neg (by simp)]
      exact kv w (Below.refl _ _)
  · have he := exec_agree (ops := l.toArray) hsel fun d hd => ag d hd (h1 d hd)
    have hw := wanted_agree (ops := l.toArray) fun d hd => ag d hd (h1 d hd)
    rw [hw] at hwt
    rw [if_pos hwt]
    left
    have h3 := hsrc w h.cls
    rw [he] at h3
    have kf : ∀ u w', FS s u w' → Below w.heap.size w w' → K (b.put o.dst u) w' := fun u w' hf hb => hK u w' hb fun d hd => by
      obtain rfl : d = s := Option.some.inj (hd.symm.trans hds)
      exact ⟨fun _ => hf, fun hnf => absurd hs hnf⟩
    unfold Oper.wp
    generalize (execOp b.eval o).run P w = r at h3
    cases r with
    | ok n w' =>
      cases n <;> simp only [srcUpon] at h3 <;> simp only [Oper.upon]
      case value u => exact kf u w' h3.1 h3.2
      case enter f args =>
        obtain ⟨rfl, hcc⟩ := h3
        exact hcc.mono fun e w'' ⟨u, he, hf, hb⟩ => by subst he; exact kf u w'' hf hb
    | halt x w' => simp only [srcUpon] at h3
  · obtain ⟨e, hee, heb⟩ := Array.any_eq_true'.1 hje
    simp only [Bool.and_eq_true, beq_iff_eq] at heb
    obtain ⟨hbe, rfl⟩ := heb
    obtain ⟨oj, hoj, hdj⟩ := Option.bind_eq_some_iff.1 hj
    have hoj2 : l[e.on]? = some oj := by simpa using hoj
    obtain ⟨vj, hvj⟩ : ∃ v, vs[e.on]? = some v := ⟨_, List.getElem?_eq_getElem (by rw [hlen]; exact (List.getElem?_eq_some_iff.1 hoj2).1)⟩
    obtain ⟨x, hbx, hfx⟩ := (h.ins e.on oj s vj hoj2 (hp e hee hbe) hdj hvj).1 hs
    have hslt : s < (lex l vs a0 i).tmps.size := by rw [(lex_size l vs a0 i).1]; exact Nat.lt_of_lt_of_le (hR.small _ _ _ hoj hdj) hN
    have ag2 : ∀ d ∈ o.looksAt l.toArray, ((lex l vs a0 i).put (some s) x).tmps[d]? = b.tmps[d]? := fun d hd => by
      by_cases hsd : s = d
      · subst hsd
        rw [put_same x hslt, hbx]
      · rw [put_other x (by simpa using hsd)]
        exact ag d hd fun hf => hsd (h1 d hd hf).symm
    obtain ⟨hwt, h3⟩ := huse x w h.cls hfx
    rw [wanted_agree (ops := l.toArray) ag2] at hwt
    rw [exec_agree (ops := l.toArray) hsel ag2] at h3
    have kv : ∀ w', Below w.heap.size w w' → K (b.put o.dst v) w' := fun w' hb => hK v w' hb fun d hd => ⟨fun hf => absurd hf (h2 d hd), fun _ => hv⟩
    rw [if_pos hwt]
    left
    unfold Oper.wp
    generalize (execOp b.eval o).run P w = r at h3
    cases r with
    | ok n w' =>
      cases n <;> simp only [calmUpon] at h3 <;> simp only [Oper.upon]
      case value u => obtain ⟨rfl, rfl⟩ := h3; exact kv _ (Below.refl _ _)
      case skip => obtain ⟨rfl, rfl⟩ := h3; exact kv _ (Below.refl _ _)
      case enter f args =>
        obtain ⟨rfl, hcc⟩ := h3
        exact hcc.mono fun e w'' ⟨he, hb⟩ => by subst he; exact kv _ hb
    | halt x w' => simp only [calmUpon] at h3

  · have got : ∀ r ∈ R, ∃ x, b.tmps[r]? = some x ∧ FS r x w ∧ r < (lex l vs a0 i).tmps.size := fun r hr => by
      obtain ⟨hrf, j, hj, hje⟩ := hRs r hr
      obtain ⟨e, hee, heb⟩ := Array.any_eq_true'.1 hje
      simp only [Bool.and_eq_true, beq_iff_eq] at heb
      obtain ⟨hbe, rfl⟩ := heb
      obtain ⟨oj, hoj, hdj⟩ := Option.bind_eq_some_iff.1 hj
      have hoj2 : l[e.on]? = some oj := by simpa using hoj
      obtain ⟨vj, hvj⟩ : ∃ v, vs[e.on]? = some v := ⟨_, List.getElem?_eq_getElem (by rw [hlen]; exact (List.getElem?_eq_some_iff.1 hoj2).1)⟩
      obtain ⟨x, hbx, hfx⟩ := (h.ins e.on oj r vj hoj2 (hp e hee hbe) hdj hvj).1 hrf
      exact ⟨x, hbx, hfx, by rw [(lex_size l vs a0 i).1]; exact Nat.lt_of_lt_of_le (hR.small _ _ _ hoj hdj) hN⟩
    have ag2 : ∀ d ∈ o.looksAt l.toArray, (fill R (fun s => b.tmps.getD s undef) (lex l vs a0 i)).tmps[d]? = b.tmps[d]? := fun d hd => by
      by_cases hdR : d ∈ R
      · obtain ⟨x, hbx, _, hlt⟩ := got d hdR
        rw [fill_in R _ _ d hdR hlt, hbx]
        simp [hbx]
      · rw [fill_out R _ _ d hdR]
        exact ag d hd fun hf => hdR (h1 d hd hf)
    obtain ⟨hwt, h3⟩ := hmix (fun s => b.tmps.getD s undef) w h.cls fun r hr => by
      obtain ⟨x, hbx, hfx, _⟩ := got r hr
      simpa [hbx] using hfx
    rw [wanted_agree (ops := l.toArray) ag2] at hwt
    rw [exec_agree (ops := l.toArray) hsel ag2] at h3
    rw [if_pos hwt]
    left
    have kf : ∀ u w', FS s u w' → Below w.heap.size w w' → K (b.put o.dst u) w' := fun u w' hf hb => hK u w' hb fun d hd => by
      obtain rfl : d = s := Option.some.inj (hd.symm.trans hds)
      exact ⟨fun _ => hf, fun hnf => absurd hs hnf⟩
    unfold Oper.wp
    generalize (execOp b.eval o).run P w = r at h3
    cases r with
    | ok n w' =>
      cases n <;> simp only [srcUpon] at h3 <;> simp only [Oper.upon]
      case value u => exact kf u w' h3.1 h3.2
      case enter f args =>
        obtain ⟨rfl, hcc⟩ := h3
        exact hcc.mono fun e w'' ⟨u, he, hf, hb⟩ => by subst he; exact kf u w'' hf hb
    | halt x w' => simp only [srcUpon] at h3

/-- an operation that looks at no memory, in whatever world -/
def purUpon (w : World) (v : Value) : Result Next → Prop
  | .ok (.value u) w' => w' = w ∧ u = v
  | .ok .skip w' => w' = w ∧ v = undef
  | _ => False
def PureOb (P : Program) (ops : Array Oper) (fs : List Tmp) (o : Oper) (v : Value) (a : Act) : Prop :=
  (∀ d ∈ o.looksAt ops, d ∉ fs) ∧ (∀ d, o.dst = some d → d ∉ fs) ∧
  ((Region.wanted o (yielded ops a.tmps) = true ∧ ∀ w, purUpon w v ((execOp a.eval o).run P w)) ∨ (Region.wanted o (yielded ops a.tmps) = false ∧ v = undef))
theorem PureOb.ob {ops : Array Oper} {o : Oper} {v : Value} {a : Act} (h : PureOb P ops fs o v a) : Ob P ops I fs FS o v a := by
  obtain ⟨h1, h2, h3⟩ := h
  refine .inl ⟨h1, h2, h3.imp (fun h => ⟨h.1, fun w _ => ?_⟩) id⟩
  have h4 := h.2 w
  generalize (execOp a.eval o).run P w = r at h4
  cases r with
  | ok n w' =>
    cases n <;> simp only [purUpon] at h4
    case value u => exact h4
    case skip => exact h4
  | halt x w' => simp only [purUpon] at h4
def stUpon (S : World → Prop) : Result Next → Prop
  | .ok (.value _) w' => S w'
  | .ok .skip w' => S w'
  | _ => False
/-- the store -/
def StOb (P : Program) (ops : Array Oper) (I : World → Prop) (fs : List Tmp) (FS : Tmp → Value → World → Prop) (St : (Tmp → Value) → World → World → Prop) (o : Oper) (a : Act) : Prop :=
  o.dst = none ∧ ∀ xs w, I w → (∀ s ∈ fs, FS s (xs s) w) → Region.wanted o (yielded ops (fill fs xs a).tmps) = true ∧ stUpon (St xs w) ((execOp (fill fs xs a).eval o).run P w)
/-- the walk in the text's order: so many operations, the store, the rest -/
def wpFS (P : Program) (ops : Array Oper) (I : World → Prop) (fs : List Tmp) (FS : Tmp → Value → World → Prop) (St : (Tmp → Value) → World → World → Prop) (E : Act → Prop) : Option Nat → List Oper → Act → Prop
  | _, [], a => E a
  | some 0, o :: r, a => StOb P ops I fs FS St o a ∧ wpFS P ops I fs FS St E none r a
  | some (c + 1), o :: r, a => ∃ v, Ob P ops I fs FS o v a ∧ wpFS P ops I fs FS St E (some c) r (a.put o.dst v)
  | none, o :: r, a => ∃ v, PureOb P ops fs o v a ∧ wpFS P ops I fs FS St E none r (a.put o.dst v)
section
variable {ops : Array Oper} {St : (Tmp → Value) → World → World → Prop} {E : Act → Prop}
theorem wpFS_vals0 : ∀ (l : List Oper) (a : Act), wpFS P ops I fs FS St E none l a → ∃ vs : List Value, vs.length = l.length ∧
    (∀ (j : Nat) o v, l[j]? = some o → vs[j]? = some v → PureOb P ops fs o v (lex l vs a j)) ∧ E (lex l vs a l.length)
  | [], a, h => ⟨[], rfl, by simp, h⟩
  | o :: r, a, ⟨v, hob, hr⟩ => by
    obtain ⟨vs, h1, h2, h3⟩ := wpFS_vals0 r _ hr
    refine ⟨v :: vs, by simp [h1], fun j o' v' ho hv => ?_, h3⟩
    cases j with
    | zero =>
      simp only [List.getElem?_cons_zero, Option.some.injEq] at ho hv
      subst ho hv
      exact hob
    | succ j =>
      simp only [List.getElem?_cons_succ] at ho hv
      exact h2 j o' v' ho hv
theorem wpFS_vals : ∀ (k : Nat) (l : List Oper) (a : Act), wpFS P ops I fs FS St E (some k) l a → ∃ vs : List Value, vs.length = l.length ∧
    (∀ (j : Nat) o v, l[j]? = some o → vs[j]? = some v → (j < k → Ob P ops I fs FS o v (lex l vs a j)) ∧ (j = k → StOb P ops I fs FS St o (lex l vs a j)) ∧ (k < j → PureOb P ops fs o v (lex l vs a j))) ∧ E (lex l vs a l.length)
  | _, [], a, h => ⟨[], rfl, by simp, h⟩
  | 0, o :: r, a, ⟨hob, hr⟩ => by
    obtain ⟨vs, h1, h2, h3⟩ := wpFS_vals0 r _ hr
    have hput : a.put o.dst undef = a := by rw [hob.1]; rfl
    refine ⟨undef :: vs, by simp [h1], fun j o' v' ho hv => ?_, ?_⟩
    · cases j with
      | zero =>
        simp only [List.getElem?_cons_zero, Option.some.injEq] at ho hv
        subst ho hv
        exact ⟨by omega, fun _ => hob, by omega⟩
      | succ j =>
        simp only [List.getElem?_cons_succ] at ho hv
        refine ⟨by omega, by omega, fun _ => ?_⟩
        show PureOb P ops fs o' v' (lex r vs (a.put o.dst undef) j)
        rw [hput]
        exact h2 j o' v' ho hv
    · show E (lex r vs (a.put o.dst undef) r.length)
      rw [hput]
      exact h3
  | k + 1, o :: r, a, ⟨v, hob, hr⟩ => by
    obtain ⟨vs, h1, h2, h3⟩ := wpFS_vals k r _ hr
    refine ⟨v :: vs, by simp [h1], fun j o' v' ho hv => ?_, h3⟩
    cases j with
    | zero =>
      simp only [List.getElem?_cons_zero, Option.some.injEq] at ho hv
      subst ho hv
      exact ⟨fun _ => hob, by omega, by omega⟩
    | succ j =>
      simp only [List.getElem?_cons_succ] at ho hv
      obtain ⟨q1, q2, q3⟩ := h2 j o' v' ho hv
      exact ⟨fun h => q1 (by omega), fun h => q2 (by omega), fun h => q3 (by omega)⟩
end
/-- k waits for j, by way of others -/
def reachB (md : Region.Mode) (ops : Array Oper) : Nat → Nat → Nat → Bool
  | 0, _, _ => false
  | f + 1, k, j => match ops[k]? with
    | none => false
    | some o => o.after.any fun e => Region.binds md e && (e.on == j || reachB md ops f e.on j)
theorem reach_listed {listed : Array Bool} {b : Act} {w : World} (h : Inv l vs fs FS I a0 listed b w) : ∀ (f m j : Nat), listed.getD m true = true → reachB .any l.toArray f m j = true → listed.getD j true = true
  | 0, _, _, _, hr => by simp [reachB] at hr
  | f + 1, m, j, hm, hr => by
    unfold reachB at hr
    cases ho : l.toArray[m]? with
    | none => rw [ho] at hr; cases hr
    | some o =>
      rw [ho] at hr
      obtain ⟨e, he, hb⟩ := Array.any_eq_true'.1 hr
      simp only [Bool.and_eq_true, Bool.or_eq_true, beq_iff_eq] at hb
      have h1 := h.down m o (by simpa using ho) hm e he hb.1
      rcases hb.2 with rfl | h2
      · exact h1
      · exact reach_listed h f e.on j h1 h2
theorem reach_ready {listed : Array Bool} {b : Act} {w : World} (h : Inv l vs fs FS I a0 listed b w) {k : Nat} {o : Oper} (ho : l[k]? = some o) (hp : ∀ e ∈ o.after, Region.binds .any e = true → listed.getD e.on true = true) (f j : Nat) (hr : reachB .any l.toArray f k j = true) : listed.getD j true = true := by
  cases f with
  | zero => simp [reachB] at hr
  | succ f =>
    unfold reachB at hr
    have ho' : l.toArray[k]? = some o := by simpa using ho
    rw [ho'] at hr
    obtain ⟨e, he, hb⟩ := Array.any_eq_true'.1 hr
    simp only [Bool.and_eq_true, Bool.or_eq_true, beq_iff_eq] at hb
    have h1 := hp e he hb.1
    rcases hb.2 with rfl | h2
    · exact h1
    · exact reach_listed h f e.on j h1 h2

theorem any_of_FS {N k f : Nat} {late : Nat → Bool} {Q' : Exit → Act → World → Prop} {St : (Tmp → Value) → World → World → Prop} (hR : RG .any l.toArray N) (hN : N ≤ a0.tmps.size) (hlen : vs.length = l.length) (hI : Closed I) (hF : ∀ s x w w', FS s x w → Below w.heap.size w w' → FS s x w')
    (hob : ∀ (j : Nat) o v, l[j]? = some o → vs[j]? = some v → (j < k → Ob P l.toArray I fs FS o v (lex l vs a0 j)) ∧ (j = k → StOb P l.toArray I fs FS St o (lex l vs a0 j)) ∧ (k < j ∨ late j = true → PureOb P l.toArray fs o v (lex l vs a0 j)))
    (hk : k < l.length) (hreach : ∀ j, j < k → late j = false → reachB .any l.toArray f k j = true) (hfs : ∀ s ∈ fs, ∃ (j : Nat) (o : Oper), j < k ∧ late j = false ∧ l[j]? = some o ∧ o.dst = some s)
    (hQ : ∀ (listed : Array Bool) b W w xs, (∀ j, listed.getD j true = true) → Inv l vs fs FS I a0 listed b W → (∀ s ∈ fs, b.tmps[s]? = some (xs s) ∧ FS s (xs s) W) → St xs W w → Q' .normal b w) :
    ∀ (fuel : Nat) (listed : Array Bool) (b : Act) (W w : World), listed.toList.count false ≤ fuel → Inv l vs fs FS I a0 listed b W →
      ((listed.getD k true = false ∧ w = W) ∨ (listed.getD k true = true ∧ ∃ xs, (∀ s ∈ fs, b.tmps[s]? = some (xs s) ∧ FS s (xs s) W) ∧ St xs W w)) → wpAny P .any l.toArray Q' fuel listed b w
  | 0, listed, b, W, w, hc, h, hp => by
    have hall := count_zero (L := listed) (by omega)
    rcases hp with ⟨h0, _⟩ | ⟨_, xs, hx, hst⟩
    · rw [hall k] at h0; cases h0
    refine ⟨?_, hQ listed b W w xs hall h hx hst⟩
    rw [List.eq_nil_iff_forall_not_mem]
    intro i hi
    have := (mem_ready.1 hi).1
    rw [hall i] at this
    cases this
  | fuel + 1, listed, b, W, w, hc, h, hph => by
    refine ⟨fun h0 => ?_, fun i hi => ?_⟩
    · have hall := ready_all hR h.lsize h0
      rcases hph with ⟨h0, _⟩ | ⟨_, xs, hx, hst⟩
      · rw [hall k] at h0; cases h0
      · exact hQ listed b W w xs hall h hx hst
    obtain ⟨hun, o, ho, hall⟩ := mem_ready.1 hi
    have ho2 : l[i]? = some o := by simpa using ho
    have hp : ∀ e ∈ o.after, Region.binds .any e = true → listed.getD e.on true = true := fun e he hb => by
      have h1 := hall e he hb
      rw [Array.getD_eq_getD_getElem?] at h1 ⊢
      cases hx : listed[e.on]? with
      | none => rfl
      | some y => rw [hx] at h1; simpa using h1
    obtain ⟨v, hv⟩ : ∃ v, vs[i]? = some v := ⟨_, List.getElem?_eq_getElem (by rw [hlen]; exact (List.getElem?_eq_some_iff.1 ho2).1)⟩
    obtain ⟨q1, q2, q3⟩ := hob i o v ho2 hv
    have hcnt := count_set hun
    have hsel : ∀ cs c, o.op ≠ .select cs c := fun cs c => hR.sel i o cs c ho
    have ag : ∀ d ∈ o.looksAt l.toArray, d ∉ fs → (lex l vs a0 i).tmps[d]? = b.tmps[d]? := fun d hd hf => h.agree hR hN hlen ho2 hun hp hd hf
    rcases hph with ⟨hk0, rfl⟩ | ⟨hk1, xs, hx, hst⟩
    · by_cases hik : i = k
      · subst hik
        obtain ⟨hdst, hstore⟩ := q2 rfl
        have got : ∀ s ∈ fs, ∃ x, b.tmps[s]? = some x ∧ FS s x w ∧ s < (lex l vs a0 i).tmps.size := fun s hs => by
          obtain ⟨j, oj, hji, hlj, hoj, hdj⟩ := hfs s hs
          obtain ⟨vj, hvj⟩ : ∃ v, vs[j]? = some v := ⟨_, List.getElem?_eq_getElem (by rw [hlen]; exact (List.getElem?_eq_some_iff.1 hoj).1)⟩
          obtain ⟨x, hbx, hfx⟩ := (h.ins j oj s vj hoj (reach_ready h ho2 hp f j (hreach j hji hlj)) hdj hvj).1 hs
          exact ⟨x, hbx, hfx, by rw [(lex_size l vs a0 i).1]; exact Nat.lt_of_lt_of_le (hR.small j oj s (by simpa using hoj) hdj) hN⟩
        have hxs : ∀ s ∈ fs, b.tmps[s]? = some (b.tmps.getD s undef) ∧ FS s (b.tmps.getD s undef) w := fun s hs => by
          obtain ⟨x, hbx, hfx, _⟩ := got s hs
          simpa [hbx] using hfx
        have ag2 : ∀ d ∈ o.looksAt l.toArray, (fill fs (fun s => b.tmps.getD s undef) (lex l vs a0 i)).tmps[d]? = b.tmps[d]? := fun d hd => by
          by_cases hdf : d ∈ fs
          · obtain ⟨x, hbx, _, hlt⟩ := got d hdf
            rw [fill_in fs _ _ d hdf hlt, hbx]
            simp [hbx]
          · rw [fill_out fs _ _ d hdf]
            exact ag d hd hdf
        obtain ⟨hwt, h3⟩ := hstore (fun s => b.tmps.getD s undef) w h.cls fun s hs => (hxs s hs).2
        rw [wanted_agree (ops := l.toArray) ag2] at hwt
        rw [exec_agree (ops := l.toArray) hsel ag2] at h3
        have hin : ∀ u, Inv l vs fs FS I a0 (listed.setIfInBounds i true) (b.put o.dst u) w := fun u => h.next hR hN hI hF ho2 hp (Below.refl _ _) fun d hd => by rw [hdst] at hd; cases hd
        have hput : ∀ u, b.put o.dst u = b := fun u => by rw [hdst]; rfl
        have kk : ∀ u w', St (fun s => b.tmps.getD s undef) w w' → wpAny P .any l.toArray Q' fuel (listed.setIfInBounds i true) (b.put o.dst u) w' := fun u w' hs =>
          any_of_FS hR hN hlen hI hF hob hk hreach hfs hQ fuel _ _ w w' (by omega) (hin u) (.inr ⟨getD_set_same _ _, _, by rw [hput u]; exact hxs, hs⟩)
        unfold Go.wpOp
        simp only [ho]
        rw [if_pos hwt]
        left
        unfold Oper.wp
        generalize (execOp b.eval o).run P w = r at h3
        cases r with
        | ok n w' =>
          cases n <;> simp only [stUpon] at h3 <;> simp only [Oper.upon]
          case value u => exact kk _ _ h3
          case skip => exact kk _ _ h3
        | halt x w' => simp only [stUpon] at h3
      · have hob' : Ob P l.toArray I fs FS o v (lex l vs a0 i) := by
          rcases Nat.lt_or_gt_of_ne hik with hlt | hgt
          · exact q1 hlt
          · exact (q3 (.inl hgt)).ob
        exact op_of_F hR hN hlen h ho2 hun hp hv hob' fun u w' hb hu =>
          any_of_FS hR hN hlen hI hF hob hk hreach hfs hQ fuel _ _ w' w' (by omega) (h.next hR hN hI hF ho2 hp hb hu) (.inl ⟨by rw [getD_set_far _ hik]; exact hk0, rfl⟩)
    · have hki : k < i ∨ late i = true := by
        rcases Nat.lt_trichotomy i k with hlt | rfl | hgt
        · cases hla : late i with
          | true => exact .inr rfl
          | false => rw [reach_listed h f k i hk1 (hreach i hlt hla)] at hun; cases hun
        · rw [hk1] at hun; cases hun
        · exact .inl hgt
      obtain ⟨h1, h2, h3⟩ := q3 hki
      have he := exec_agree (ops := l.toArray) hsel fun d hd => ag d hd (h1 d hd)
      have hw := wanted_agree (ops := l.toArray) fun d hd => ag d hd (h1 d hd)
      have kv : wpAny P .any l.toArray Q' fuel (listed.setIfInBounds i true) (b.put o.dst v) w :=
        any_of_FS hR hN hlen hI hF hob hk hreach hfs hQ fuel _ _ W w (by omega) (h.next hR hN hI hF ho2 hp (Below.refl _ _) fun d hd => ⟨fun hf => absurd hf (h2 d hd), fun _ => hv⟩)
          (.inr ⟨getD_set_up _ hk1, xs, fun s hs => ⟨by rw [put_other v (fun e => h2 s e hs)]; exact (hx s hs).1, (hx s hs).2⟩, hst⟩)
      unfold Go.wpOp
      simp only [ho]
      rcases h3 with ⟨hwt, hval⟩ | ⟨hwf, rfl⟩
      · rw [hw] at hwt
        rw [if_pos hwt]
        left
        have h4 := hval w
        rw [he] at h4
        unfold Oper.wp
        generalize (execOp b.eval o).run P w = r at h4
        cases r with
        | ok n w' =>
          cases n <;> simp only [purUpon] at h4 <;> simp only [Oper.upon]
          case value u => obtain ⟨rfl, rfl⟩ := h4; exact kv
          case skip => obtain ⟨rfl, rfl⟩ := h4; exact kv
        | halt x w' => simp only [purUpon] at h4
      · rw [hw] at hwf
        rw [hwf, if_neg (by simp)]
        exact kv

theorem region_of_FS {id : Nat} {Q : Exit → Act → World → Prop} {a : Act} {w : World} {l : List Oper} {vs : List Value} {N k f : Nat} {late : Nat → Bool} {fs : List Tmp} {FS : Tmp → Value → World → Prop} {I : World → Prop} {St : (Tmp → Value) → World → World → Prop} (hm : P.follows .mixedOrders = true) (hR : RG .any l.toArray N)
    (hk' : k < l.length) (hreach : ∀ j, j < k → late j = false → reachB .any l.toArray f k j = true) (hfs' : ∀ s ∈ fs, ∃ (j : Nat) (o : Oper), j < k ∧ late j = false ∧ l[j]? = some o ∧ o.dst = some s) (hN : N ≤ a.tmps.size) (hI : Closed I) (hF : ∀ s x w w', FS s x w → Below w.heap.size w w' → FS s x w') (hC : I w.drew)
    (hlen : vs.length = l.length) (hob : ∀ (j : Nat) o v, l[j]? = some o → vs[j]? = some v → (j < k → Ob P l.toArray I fs FS o v (lex l vs a j)) ∧ (j = k → StOb P l.toArray I fs FS St o (lex l vs a j)) ∧ (k < j ∨ late j = true → PureOb P l.toArray fs o v (lex l vs a j)))
    (hE : ∀ xs W w', I W → (∀ s ∈ fs, FS s (xs s) W) → St xs W w' → Q .normal (fill fs xs (lex l vs a l.length)) w') : (Code.region id l.toArray true).wp P Q a w := by
  refine wp_region_any hm ?_
  refine any_of_FS (l := l) (vs := vs) (fs := fs) (FS := FS) (I := I) (a0 := a) (St := St) (k := k) (f := f) (late := late) hR hN hlen hI hF hob hk' hreach hfs' ?_ _ _ _ w.drew _ ?_ ?_ ?_
  · intro listed b W w' xs hall hinv hx hst
    have hb : b = fill fs xs (lex l vs a l.length) := by
      have ht : b.tmps = (fill fs xs (lex l vs a l.length)).tmps := by
        apply Array.ext_getElem?
        intro d
        by_cases hd : d ∈ fs
        · have hlt : d < (lex l vs a l.length).tmps.size := by
            rw [(lex_size l vs a l.length).1, ← hinv.size]
            exact (Array.getElem?_eq_some_iff.1 (hx d hd).1).1
          rw [fill_in fs _ _ d hd hlt, (hx d hd).1]
        · rw [fill_out fs _ _ d hd]
          by_cases hwr : ∃ (j : Nat) (oj : Oper), l[j]? = some oj ∧ oj.dst = some d
          · obtain ⟨j, oj, hj, hdj⟩ := hwr
            obtain ⟨v, hv⟩ : ∃ v, vs[j]? = some v := ⟨_, List.getElem?_eq_getElem (by rw [hlen]; exact (List.getElem?_eq_some_iff.1 hj).1)⟩
            have hj' : l.toArray[j]? = some oj := by simpa using hj
            rw [(hinv.ins j oj d v hj (hall j) hdj hv).2 hd]
            exact (lex_in l vs a l.length j oj d v hj (List.getElem?_eq_some_iff.1 hj).1 hv hdj (Nat.lt_of_lt_of_le (hR.small _ _ _ hj' hdj) hN) fun i oi hi _ hne => hR.once i j oi oj d (by simpa using hi) hj' hdj hne).symm
          · rw [lex_out l vs a l.length d fun i oi hi _ hdi => hwr ⟨i, oi, hi, hdi⟩]
            exact hinv.out d fun i oi hi _ hdi => hwr ⟨i, oi, hi, hdi⟩
      have hd : b.defers = (fill fs xs (lex l vs a l.length)).defers := by
        rw [(fill_size ..).2, (lex_size ..).2]
        exact hinv.defers
      cases b
      simp only at ht hd
      rw [Act.mk.injEq]
      exact ⟨ht, hd⟩
    rw [hb]
    exact hE xs W w' hinv.cls (fun s hs => (hx s hs).2) hst
  · simp
  · refine ⟨hC, rfl, rfl, fun _ _ => rfl, fun j o d v hj hlj => ?_, fun j o hj hlj => ?_, by simp⟩
    all_goals
      have hlt := (List.getElem?_eq_some_iff.1 hj).1
      rw [Array.getD_eq_getD_getElem?] at hlj
      simp [hlt] at hlj
  · refine .inl ⟨?_, rfl⟩
    rw [Array.getD_eq_getD_getElem?]
    simp [hk']
/-- ONE WALK IN THE TEXT's ORDER SERVES EVERY ORDER, the store at place k -/
theorem wp_region_FS {id : Nat} {Q : Exit → Act → World → Prop} {a : Act} {w : World} {l : List Oper} (N k f : Nat) (fs : List Tmp) (FS : Tmp → Value → World → Prop) (I : World → Prop) (St : (Tmp → Value) → World → World → Prop) (hm : P.follows .mixedOrders = true) (hB : rgB .any l.toArray N = true)
    (hk : decide (k < l.length) = true) (hreach : ((List.range k).all fun j => reachB .any l.toArray f k j) = true) (hfs : (fs.all fun s => (l.take k).any fun o => o.dst == some s) = true) (hN : N ≤ a.tmps.size) (hI : Closed I) (hF : ∀ s x w w', FS s x w → Below w.heap.size w w' → FS s x w') (hC : I w.drew)
    (h : wpFS P l.toArray I fs FS St (fun a' => ∀ xs W w', I W → (∀ s ∈ fs, FS s (xs s) W) → St xs W w' → Q .normal (fill fs xs a') w') (some k) l a) : (Code.region id l.toArray true).wp P Q a w := by
  have hR := rgB_spec hB
  have hk' : k < l.length := by simpa using hk
  obtain ⟨vs, hlen, hob, hE⟩ := wpFS_vals k l a h
  have hfs' : ∀ s ∈ fs, ∃ (j : Nat) (o : Oper), j < k ∧ (fun _ : Nat => false) j = false ∧ l[j]? = some o ∧ o.dst = some s := fun s hs => by
    rw [List.all_eq_true] at hfs
    have h1 := hfs s hs
    rw [List.any_eq_true] at h1
    obtain ⟨o, ho, hd⟩ := h1
    obtain ⟨j, hj, rfl⟩ := List.getElem_of_mem ho
    have hj1 : j < k := by rw [List.length_take] at hj; omega
    have hj2 : j < l.length := by rw [List.length_take] at hj; omega
    exact ⟨j, l[j], hj1, rfl, List.getElem?_eq_getElem hj2, by simpa using hd⟩
  exact region_of_FS (late := fun _ => false) hm hR hk' (fun j hj _ => by rw [List.all_eq_true] at hreach; exact hreach j (List.mem_range.2 hj)) hfs' hN hI hF hC hlen (fun j o v h1 h2 => ⟨(hob j o v h1 h2).1, (hob j o v h1 h2).2.1, fun h => (hob j o v h1 h2).2.2 (h.elim (fun h => h) (fun h => absurd h Bool.false_ne_true))⟩) hE

/-! ### its steps -/
section
variable {St : (Tmp → Value) → World → World → Prop} {E : Act → Prop} {o : Oper} {rest : List Oper} {a : Act}
/-- any of XQ6's steps: shown of the operation alone, with what follows taken as it comes -/
theorem wpFS_step {k : Nat} (h : wpF P l.toArray I fs FS (fun a' => wpFS P l.toArray I fs FS St E (some k) rest a') [o] a) : wpFS P l.toArray I fs FS St E (some (k + 1)) (o :: rest) a := by
  obtain ⟨v, hob, hr⟩ := h
  exact ⟨v, hob, hr⟩
/-- the store -/
theorem wpFS_store {t : TypeId} {x y : Operand} (ho : o.op = .store t x y) (hd : o.dst = none) (hg : o.guard = none) (ad : Addr) (v : (Tmp → Value) → Value) (hx : ∀ xs, (fill fs xs a).eval x = .pointer (some ad)) (hy : ∀ xs, (fill fs xs a).eval y = v xs)
    (hrun : ∀ xs w, I w → (∀ s ∈ fs, FS s (xs s) w) → ∃ w', (Instr.storeAt t (.pointer (some ad)) (v xs)).run P w = .ok () w' ∧ St xs w w') (h : wpFS P l.toArray I fs FS St E none rest a) : wpFS P l.toArray I fs FS St E (some 0) (o :: rest) a := by
  refine ⟨⟨hd, fun xs w hI hs => ⟨by simp [Region.wanted, hg], ?_⟩⟩, h⟩
  obtain ⟨w', hr, hst⟩ := hrun xs w hI hs
  unfold execOp
  simp only [ho, hx xs, hy xs]
  rw [Sem.run_bind, hr]
  exact hst
/-- behind the store -/
theorem wpFS_pure (hk : kindOf o = 0) (hn : noB l.toArray fs o = true) (h : wpQuiet P l.toArray (fun _ => True) (fun a' => wpFS P l.toArray I fs FS St E none rest a') [o] a) : wpFS P l.toArray I fs FS St E none (o :: rest) a := by
  obtain ⟨h1, h2⟩ := noB_spec hn
  unfold wpQuiet at h
  by_cases hw : Region.wanted o (yielded l.toArray a.tmps) = true
  · simp only [hw, if_true] at h
    obtain ⟨v, hv, hr⟩ := h
    refine ⟨v, ⟨h1, h2, .inl ⟨hw, fun w => ?_⟩⟩, hr⟩
    have h3 := hv w trivial
    have h4 := pure_no_enter (P := P) (kind_pure hk) a.eval w
    unfold Oper.quietAt at h3
    generalize (execOp a.eval o).run P w = r at h3 h4
    cases r with
    | ok n w' =>
      cases n with
      | enter f args => exact absurd rfl (h4 w' f args)
      | value u => exact h3
      | skip => exact h3
      | _ => simp only [Oper.quietUpon] at h3
    | halt x w' => simp only [Oper.quietUpon] at h3
  · simp only [hw] at h
    exact ⟨undef, ⟨h1, h2, .inr ⟨by simpa using hw, rfl⟩⟩, h⟩
end
end
end Go.Proofs.Ytmdjgidbfcfdnaa

namespace Go.Proofs.Ytmdjgidbfcfdnaa
open Go.RowKit
section
variable {P : Program} {l : List Oper} {fs : List Tmp} {FS : Tmp → Value → World → Prop} {I : World → Prop} {E : Act → Prop} {o : Oper} {rest : List Oper} {a : Act}
/-- an operation whose value is the same in every world of the class, and which leaves the world -/
theorem wpF_val (v : Value) (hn : noB l.toArray fs o = true) (hw : Region.wanted o (yielded l.toArray a.tmps) = true)
    (hrun : ∀ w, I w → (execOp a.eval o).run P w = .ok (.value v) w) (h : wpF P l.toArray I fs FS E rest (a.put o.dst v)) : wpF P l.toArray I fs FS E (o :: rest) a := by
  obtain ⟨h1, h2⟩ := noB_spec hn
  refine ⟨v, .inl ⟨h1, h2, .inl ⟨hw, fun w hI => ?_⟩⟩, h⟩
  rw [hrun w hI]
  exact ⟨rfl, rfl⟩
theorem wpF_nil {x : Operand} {ad : Addr} (hop : o.op = .nilCheck x) (hn : noB l.toArray fs o = true) (hw : Region.wanted o (yielded l.toArray a.tmps) = true) (hx : a.eval x = .pointer (some ad))
    (h : wpF P l.toArray I fs FS E rest (a.put o.dst (.pointer (some ad)))) : wpF P l.toArray I fs FS E (o :: rest) a :=
  wpF_val _ hn hw (fun w _ => by simp only [execOp, hop, hx]; rfl) h
/-- the store of XQ7's law, to an address that a source has given -/
theorem wpFS_storeX {St : (Tmp → Value) → World → World → Prop} {t : TypeId} {x y : Operand} (ho : o.op = .store t x y) (hd : o.dst = none) (hg : o.guard = none)
    (hrun : ∀ xs w, I w → (∀ s ∈ fs, FS s (xs s) w) → ∃ w', (Instr.storeAt t ((fill fs xs a).eval x) ((fill fs xs a).eval y)).run P w = .ok () w' ∧ St xs w w') (h : wpFS P l.toArray I fs FS St E none rest a) : wpFS P l.toArray I fs FS St E (some 0) (o :: rest) a := by
  refine ⟨⟨hd, fun xs w hI hs => ⟨by simp [Region.wanted, hg], ?_⟩⟩, h⟩
  obtain ⟨w', hr, hst⟩ := hrun xs w hI hs
  unfold execOp
  simp only [ho]
  rw [Sem.run_bind, hr]
  exact hst
end
end Go.Proofs.Ytmdjgidbfcfdnaa

namespace Go.Proofs.Ytmdjgidbfcfdnaa
open Go.RowKit Go.Shelf
set_option maxRecDepth 100000

/-- a segment's cells -/
def sgC (v : Value) (l : Bool) (n p : Int) : Array Value := #[v, .bool l, .int .i64 n, .int .u64 p]
theorem sg_block {W : World} {b : Nat} {v : Value} {l : Bool} {n p : Int} {t : TypeId} (h : W.heap[b]? = some (.cells (sgC v l n p) t (0, 0))) :
    W.cell? ⟨b, 0, none⟩ = some v ∧ W.cell? ⟨b, 1, none⟩ = some (.bool l) ∧ W.cell? ⟨b, 2, none⟩ = some (.int .i64 n) ∧ W.cell? ⟨b, 3, none⟩ = some (.int .u64 p) := by
  simp [World.cell?, h, sgC]
theorem sg_one (A : Option Addr) (n c : Nat) (l : Bool) (m p : Int) : (sgC (.slice A n c) l m p).all (·.oneCell') = true := by simp [sgC, Value.oneCell']
end Go.Proofs.Ytmdjgidbfcfdnaa
