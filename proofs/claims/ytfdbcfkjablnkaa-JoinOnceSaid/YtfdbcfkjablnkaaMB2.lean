/-
  A part of the texts of one proof, put together: Q5, Q6, Q7, Q10, Q9, SloS, CrcF, CrcD, CrcS, CrcE, FrS, Same, Num, NumGet, Put, Grow, LInfo, CobN, Idx, CobI, CobP, CobZ, CobE, Lists, RbB, In, RbE, Cat, HdB, CrcO, FrG, FenN, FenC, FenK.
-/
import Derived.Below
import Derived.StillTail
import Derived.Maps.OwnIn
import Derived.ArgAppend
import Derived.Lib.Strings
import Derived.Lib.Slices
import Derived.Lib.Walk
import Derived.Lib.Bytes
import Derived.Test.YtfdbcfkjablnkaaRows
import Derived.WalkLawsBesides
import Derived.BigQuiet
import Derived.Deep.QuietTactic
import Derived.Deep.LoopGhost
import Derived.Lib.Hide
import Derived.WalkMore
import Derived.Laws.BitsAllLaws
import Derived.Laws.BitsLemmas
import Derived.Maps.AppendAt
import Derived.Lib.MinMax
import Derived.Lib.BytesEntry
import Derived.Laws.Externs
import Derived.WalkSpells
import Derived.RangeFuncNested
import Derived.RangeFuncBound
import Derived.RangeFuncCalls
import Derived.RangeFuncLeaves
import Derived.Shelf.Abstract
import Derived.Shelf.RegionOpen
import Derived.OwnWalkIn
import Derived.TacticsInMore
import Derived.LoopNIn
import Derived.LoopIn
import Derived.RangeFuncBox
import Derived.RangeFuncWrites
import Derived.OpenShut
import Derived.Laws.MakeOwn
import Derived.Test.YtfdbcfkjablnkaaMB1
namespace Go.Proofs.Ytfdbcfkjablnkaa
open Go.RowKit
section
variable {P : Program} {ops : Array Oper} {md : Region.Mode}

/-- it stands while memory grows -/
def Closed (I : World → Prop) : Prop := ∀ w w', I w → Below w.heap.size w w' → I w'
def calmUpon (P : Program) (w : World) (v : Value) : Result Next → Prop
  | .ok (.value u) w' => w' = w ∧ u = v
  | .ok .skip w' => w' = w ∧ v = undef
  | .ok (.enter f args) w' => w' = w ∧ Calls P f args w (fun e w'' => e = .returned v ∧ Below w.heap.size w w'')
  | _ => False
def srcUpon (P : Program) (F : Value → World → Prop) (w : World) : Result Next → Prop
  | .ok (.value u) w' => F u w' ∧ Below w.heap.size w w'
  | .ok (.enter f args) w' => w' = w ∧ Calls P f args w (fun e w'' => ∃ u, e = .returned u ∧ F u w'' ∧ Below w.heap.size w w'')
  | _ => False
/-- one value, in every world of the class -/
def CalmIn (P : Program) (ops : Array Oper) (I : World → Prop) (o : Oper) (v : Value) (a : Act) : Prop :=
  (Region.wanted o (yielded ops a.tmps) = true ∧ ∀ w, I w → calmUpon P w v ((execOp a.eval o).run P w)) ∨ (Region.wanted o (yielded ops a.tmps) = false ∧ v = undef)
theorem put_same {a : Act} {d : Tmp} (v : Value) (h : d < a.tmps.size) : (a.put (some d) v).tmps[d]? = some v := by simp [Act.put, h]
theorem put_other {a : Act} {x : Option Tmp} {d : Tmp} (v : Value) (h : x ≠ some d) : (a.put x v).tmps[d]? = a.tmps[d]? := by
  cases x with
  | none => rfl
  | some e =>
    have hne : e ≠ d := fun he => h (by rw [he])
    simp [Act.put, Array.getElem?_setIfInBounds_ne hne]
theorem put_size (a : Act) (x : Option Tmp) (v : Value) : (a.put x v).tmps.size = a.tmps.size := by cases x <;> simp [Act.put]
theorem put_defers (a : Act) (x : Option Tmp) (v : Value) : (a.put x v).defers = a.defers := by cases x <;> rfl
def fill : List Tmp → (Tmp → Value) → Act → Act
  | [], _, a => a
  | s :: r, xs, a => fill r xs (a.put (some s) (xs s))
theorem fill_size : ∀ (fs : List Tmp) (xs : Tmp → Value) (a : Act), (fill fs xs a).tmps.size = a.tmps.size ∧ (fill fs xs a).defers = a.defers
  | [], _, _ => ⟨rfl, rfl⟩
  | s :: r, xs, a => by
    obtain ⟨h1, h2⟩ := fill_size r xs (a.put (some s) (xs s))
    exact ⟨h1.trans (put_size ..), h2.trans (put_defers ..)⟩
theorem fill_out : ∀ (fs : List Tmp) (xs : Tmp → Value) (a : Act) (d : Tmp), d ∉ fs → (fill fs xs a).tmps[d]? = a.tmps[d]?
  | [], _, _, _, _ => rfl
  | s :: r, xs, a, d, h => by
    rw [List.mem_cons, not_or] at h
    exact (fill_out r xs _ d h.2).trans (put_other _ (by simpa using fun e => h.1 e.symm))
theorem fill_in : ∀ (fs : List Tmp) (xs : Tmp → Value) (a : Act) (d : Tmp), d ∈ fs → d < a.tmps.size → (fill fs xs a).tmps[d]? = some (xs d)
  | s :: r, xs, a, d, h, hlt => by
    by_cases hr : d ∈ r
    · exact fill_in r xs _ d hr (by rw [put_size]; exact hlt)
    · rcases List.mem_cons.1 h with rfl | h
      · exact (fill_out r xs _ d hr).trans (put_same _ hlt)
      · exact absurd h hr
/-- what is to be shown of one operation: it looks at no source; it is one; it looks at one; it is one and looks at others -/
def Ob (P : Program) (ops : Array Oper) (I : World → Prop) (fs : List Tmp) (FS : Tmp → Value → World → Prop) (o : Oper) (v : Value) (a : Act) : Prop :=
  ((∀ d ∈ o.looksAt ops, d ∉ fs) ∧ (∀ d, o.dst = some d → d ∉ fs) ∧ CalmIn P ops I o v a) ∨
  (∃ s, s ∈ fs ∧ o.dst = some s ∧ (∀ d ∈ o.looksAt ops, d ∉ fs) ∧ Region.wanted o (yielded ops a.tmps) = true ∧ ∀ w, I w → srcUpon P (FS s) w ((execOp a.eval o).run P w)) ∨
  (∃ s, s ∈ fs ∧ (∃ j, (ops[j]?).bind (·.dst) = some s ∧ o.after.any (fun e => Region.binds .any e && e.on == j) = true) ∧ (∀ d ∈ o.looksAt ops, d ∈ fs → d = s) ∧ (∀ d, o.dst = some d → d ∉ fs) ∧
    ∀ x w, I w → FS s x w → Region.wanted o (yielded ops (a.put (some s) x).tmps) = true ∧ calmUpon P w v ((execOp (a.put (some s) x).eval o).run P w)) ∨
  (∃ s R, s ∈ fs ∧ o.dst = some s ∧ (∀ r ∈ R, r ∈ fs ∧ ∃ j, (ops[j]?).bind (·.dst) = some r ∧ o.after.any (fun e => Region.binds .any e && e.on == j) = true) ∧ (∀ d ∈ o.looksAt ops, d ∈ fs → d ∈ R) ∧
    ∀ xs w, I w → (∀ r ∈ R, FS r (xs r) w) → Region.wanted o (yielded ops (fill R xs a).tmps) = true ∧ srcUpon P (FS s) w ((execOp (fill R xs a).eval o).run P w))
/-- the walk in the text's order -/
def wpF (P : Program) (ops : Array Oper) (I : World → Prop) (fs : List Tmp) (FS : Tmp → Value → World → Prop) (E : Act → Prop) : List Oper → Act → Prop
  | [], a => E a
  | o :: r, a => ∃ v, Ob P ops I fs FS o v a ∧ wpF P ops I fs FS E r (a.put o.dst v)
def lex : List Oper → List Value → Act → Nat → Act
  | o :: r, v :: vs, a, k + 1 => lex r vs (a.put o.dst v) k
  | _, _, a, _ => a
theorem lex_zero (l : List Oper) (vs : List Value) (a : Act) : lex l vs a 0 = a := by cases l <;> cases vs <;> rfl
section
variable {I : World → Prop} {fs : List Tmp} {FS : Tmp → Value → World → Prop} {E : Act → Prop}
theorem wpF_vals : ∀ (l : List Oper) (a : Act), wpF P ops I fs FS E l a → ∃ vs : List Value, vs.length = l.length ∧
    (∀ (k : Nat) o v, l[k]? = some o → vs[k]? = some v → Ob P ops I fs FS o v (lex l vs a k)) ∧ E (lex l vs a l.length)
  | [], a, h => ⟨[], rfl, by simp, h⟩
  | o :: r, a, ⟨v, hob, hr⟩ => by
    obtain ⟨vs, h1, h2, h3⟩ := wpF_vals r _ hr
    refine ⟨v :: vs, by simp [h1], fun k o' v' ho hv => ?_, h3⟩
    cases k with
    | zero =>
      simp only [List.getElem?_cons_zero, Option.some.injEq] at ho hv
      subst ho hv
      exact hob
    | succ k =>
      simp only [List.getElem?_cons_succ] at ho hv
      exact h2 k o' v' ho hv
end
theorem lex_size : ∀ (l : List Oper) (vs : List Value) (a : Act) (k : Nat), (lex l vs a k).tmps.size = a.tmps.size ∧ (lex l vs a k).defers = a.defers
  | o :: r, v :: vs, a, k + 1 => by
    obtain ⟨h1, h2⟩ := lex_size r vs (a.put o.dst v) k
    exact ⟨h1.trans (put_size ..), h2.trans (put_defers ..)⟩
  | [], _, _, _ => by simp [lex]
  | _ :: _, [], _, _ => by simp [lex]
  | _ :: _, _ :: _, _, 0 => by simp [lex]
theorem lex_out : ∀ (l : List Oper) (vs : List Value) (a : Act) (k : Nat) (d : Tmp), (∀ (j : Nat) o, l[j]? = some o → j < k → o.dst ≠ some d) → (lex l vs a k).tmps[d]? = a.tmps[d]?
  | o :: r, v :: vs, a, k + 1, d, h => by
    have h0 := h 0 o rfl (by omega)
    exact (lex_out r vs (a.put o.dst v) k d fun j o' hj hk => h (j + 1) o' (by simpa using hj) (by omega)).trans (put_other v h0)
  | [], _, _, _, _, _ => by simp [lex]
  | _ :: _, [], _, _, _, _ => by simp [lex]
  | _ :: _, _ :: _, _, 0, _, _ => by simp [lex]
theorem lex_in : ∀ (l : List Oper) (vs : List Value) (a : Act) (k j : Nat) (o : Oper) (d : Tmp) (v : Value), l[j]? = some o → j < k → vs[j]? = some v → o.dst = some d → d < a.tmps.size →
    (∀ (i : Nat) oi, l[i]? = some oi → i < k → i ≠ j → oi.dst ≠ some d) → (lex l vs a k).tmps[d]? = some v
  | o :: r, v :: vs, a, k + 1, 0, o', d, v', ho, _, hv, hd, hlt, hu => by
    simp only [List.getElem?_cons_zero, Option.some.injEq] at ho hv
    subst ho hv
    refine (lex_out r vs _ k d fun i oi hi hik => hu (i + 1) oi (by simpa using hi) (by omega) (by omega)).trans ?_
    rw [hd]
    exact put_same v hlt
  | o :: r, v :: vs, a, k + 1, j + 1, o', d, v', ho, hjk, hv, hd, hlt, hu => by
    simp only [List.getElem?_cons_succ] at ho hv
    exact lex_in r vs _ k j o' d v' ho (by omega) hv hd (by rw [put_size]; exact hlt) fun i oi hi hik hij => hu (i + 1) oi (by simpa using hi) (by omega) (by omega)
  | [], _, _, _, _, _, _, _, ho, _, _, _, _, _ => by simp at ho
  | _ :: _, [], _, _, _, _, _, _, _, _, hv, _, _, _ => by simp at hv
  | _ :: _, _ :: _, _, 0, _, _, _, _, _, hk, _, _, _, _ => by omega

/-- k waits for j -/
def seenB (md : Region.Mode) (ops : Array Oper) (k j : Nat) : Bool :=
  match ops[k]? with
  | some o => o.after.any fun e => Region.binds md e && e.on == j
  | none => false
/-- each operation waits for earlier ones alone; slots are written once; who looks at a slot waits for its writer, or the writer for him -/
def rgB (md : Region.Mode) (ops : Array Oper) (N : Nat) : Bool :=
  Region.noSelect ops && (List.range ops.size).all fun k =>
    match ops[k]? with
    | none => false
    | some o =>
      (match o.dst with | some d => decide (d < N) | none => true) && o.after.all (fun e => !Region.binds md e || decide (e.on < k)) &&
      (List.range ops.size).all fun j =>
        match ops[j]? with
        | none => false
        | some oj =>
          match oj.dst with
          | none => true
          | some d => (k == j || o.dst != some d) && (!(o.looksAt ops).contains d || (decide (j < k) && seenB md ops k j) || (decide (k < j) && seenB md ops j k))
structure RG (md : Region.Mode) (ops : Array Oper) (N : Nat) : Prop where
  sel : ∀ (j : Nat) (o : Oper) cs b, ops[j]? = some o → o.op ≠ .select cs b
  small : ∀ (k : Nat) o d, ops[k]? = some o → o.dst = some d → d < N
  back : ∀ (k : Nat) o, ops[k]? = some o → ∀ e ∈ o.after, Region.binds md e = true → e.on < k
  once : ∀ (k j : Nat) o oj d, ops[k]? = some o → ops[j]? = some oj → oj.dst = some d → k ≠ j → o.dst ≠ some d
  look : ∀ (k j : Nat) o oj d, ops[k]? = some o → ops[j]? = some oj → oj.dst = some d → d ∈ o.looksAt ops →
    (j < k ∧ ∃ e ∈ o.after, Region.binds md e = true ∧ e.on = j) ∨ (k < j ∧ ∃ e ∈ oj.after, Region.binds md e = true ∧ e.on = k)
theorem seenB_spec {k j : Nat} {o : Oper} (ho : ops[k]? = some o) (h : seenB md ops k j = true) : ∃ e ∈ o.after, Region.binds md e = true ∧ e.on = j := by
  simp only [seenB, ho] at h
  obtain ⟨e, he, hb⟩ := Array.any_eq_true'.1 h
  simp only [Bool.and_eq_true, beq_iff_eq] at hb
  exact ⟨e, he, hb.1, hb.2⟩
theorem rgB_spec {N : Nat} (h : rgB md ops N = true) : RG md ops N := by
  simp only [rgB, Bool.and_eq_true, List.all_eq_true, List.mem_range] at h
  obtain ⟨hs, h⟩ := h
  have at_ : ∀ (k : Nat) o, ops[k]? = some o → ((match o.dst with | some d => decide (d < N) | none => true) = true ∧ o.after.all (fun e => !Region.binds md e || decide (e.on < k)) = true) ∧
      ∀ (j : Nat) oj, ops[j]? = some oj → (match oj.dst with | none => true | some d => (k == j || o.dst != some d) && (!(o.looksAt ops).contains d || (decide (j < k) && seenB md ops k j) || (decide (k < j) && seenB md ops j k))) = true := fun k o ho => by
    have h1 := h k (Array.getElem?_eq_some_iff.1 ho).1
    simp only [ho, Bool.and_eq_true, List.all_eq_true, List.mem_range] at h1
    refine ⟨h1.1, fun j oj hj => ?_⟩
    have h2 := h1.2 j (Array.getElem?_eq_some_iff.1 hj).1
    simpa only [hj] using h2
  refine ⟨fun j o cs b hj => Region.noSelect_spec hs j o cs b hj, fun k o d ho hd => ?_, fun k o ho e he hb => ?_, fun k j o oj d ho hj hd hne => ?_, fun k j o oj d ho hj hd hl => ?_⟩
  · have := (at_ k o ho).1.1
    simpa [hd] using this
  · have := (at_ k o ho).1.2
    rw [Array.all_eq_true_iff_forall_mem] at this
    have := this e he
    simpa [hb] using this
  · have := (at_ k o ho).2 j oj hj
    simp only [hd, Bool.and_eq_true, Bool.or_eq_true, beq_iff_eq, hne, false_or, bne_iff_ne, ne_eq] at this
    exact this.1
  · have := (at_ k o ho).2 j oj hj
    simp only [hd, Bool.and_eq_true, Bool.or_eq_true, decide_eq_true_eq, Bool.not_eq_true'] at this
    rcases this.2 with (h1 | h1) | h1
    · have : (o.looksAt ops).contains d = true := by simpa using hl
      rw [this] at h1; cases h1
    · exact .inl ⟨h1.1, seenB_spec ho h1.2⟩
    · exact .inr ⟨h1.1, seenB_spec hj h1.2⟩

/-- two frames agree at the slots that an operation looks at -/
theorem exec_agree {o : Oper} {a b : Act} (hs : ∀ cs c, o.op ≠ .select cs c) (h : ∀ d ∈ o.looksAt ops, a.tmps[d]? = b.tmps[d]?) : execOp a.eval o = execOp b.eval o :=
  execOp_congr o hs fun x hx => by
    cases x with
    | tmp t =>
      have := h t (List.mem_append_left _ (List.mem_filterMap.2 ⟨.tmp t, by simpa using hx, rfl⟩))
      simp [Act.eval, this]
    | _ => rfl
theorem wanted_agree {o : Oper} {a b : Act} (h : ∀ d ∈ o.looksAt ops, a.tmps[d]? = b.tmps[d]?) : Region.wanted o (yielded ops a.tmps) = Region.wanted o (yielded ops b.tmps) := by
  unfold Region.wanted
  cases hg : o.guard with
  | none => rfl
  | some gw =>
    obtain ⟨g, want⟩ := gw
    have hy : yielded ops a.tmps g = yielded ops b.tmps g := by
      unfold yielded
      cases ht : (ops[g]?).bind (·.dst) with
      | none => rfl
      | some t =>
        have := h t (List.mem_append_right _ (by simp [hg, ht]))
        simp [this]
    simp only [hy]

/-! ### what an actual run has left so far -/
section
variable {l : List Oper} {vs : List Value} {fs : List Tmp} {FS : Tmp → Value → World → Prop} {I : World → Prop} {a0 : Act}
structure Inv (l : List Oper) (vs : List Value) (fs : List Tmp) (FS : Tmp → Value → World → Prop) (I : World → Prop) (a0 : Act) (listed : Array Bool) (b : Act) (w : World) : Prop where
  cls : I w
  size : b.tmps.size = a0.tmps.size
  defers : b.defers = a0.defers
  out : ∀ d, (∀ (j : Nat) o, l[j]? = some o → listed.getD j true = true → o.dst ≠ some d) → b.tmps[d]? = a0.tmps[d]?
  ins : ∀ (j : Nat) o d v, l[j]? = some o → listed.getD j true = true → o.dst = some d → vs[j]? = some v → (d ∈ fs → ∃ x, b.tmps[d]? = some x ∧ FS d x w) ∧ (d ∉ fs → b.tmps[d]? = some v)
  down : ∀ (j : Nat) o, l[j]? = some o → listed.getD j true = true → ∀ e ∈ o.after, Region.binds .any e = true → listed.getD e.on true = true
  lsize : listed.size = l.length
theorem getD_set_same (L : Array Bool) (i : Nat) : (L.setIfInBounds i true).getD i true = true := by
  rw [Array.getD_eq_getD_getElem?, Array.getElem?_setIfInBounds, if_pos rfl]
  split <;> rfl
theorem getD_set_far (L : Array Bool) {i j : Nat} (h : i ≠ j) : (L.setIfInBounds i true).getD j true = L.getD j true := by
  rw [Array.getD_eq_getD_getElem?, Array.getElem?_setIfInBounds, if_neg h, ← Array.getD_eq_getD_getElem?]
theorem getD_set_up (L : Array Bool) {i j : Nat} (h : L.getD j true = true) : (L.setIfInBounds i true).getD j true = true := by
  by_cases hij : i = j
  · subst hij; exact getD_set_same L i
  · rw [getD_set_far L hij]; exact h
theorem Inv.next {N : Nat} (hR : RG .any l.toArray N) (hN : N ≤ a0.tmps.size) (hI : Closed I) (hF : ∀ s x w w', FS s x w → Below w.heap.size w w' → FS s x w') {listed : Array Bool} {b : Act} {w w' : World} {i : Nat} {o : Oper} {u : Value}
    (h : Inv l vs fs FS I a0 listed b w) (ho : l[i]? = some o) (hp : ∀ e ∈ o.after, Region.binds .any e = true → listed.getD e.on true = true) (hb : Below w.heap.size w w')
    (hu : ∀ d, o.dst = some d → (d ∈ fs → FS d u w') ∧ (d ∉ fs → vs[i]? = some u)) : Inv l vs fs FS I a0 (listed.setIfInBounds i true) (b.put o.dst u) w' := by
  have ho' : l.toArray[i]? = some o := by simpa using ho
  refine ⟨hI w w' h.cls hb, (put_size ..).trans h.size, (put_defers ..).trans h.defers, fun d hd => ?_, fun j oj d v hj hlj hdj hv => ?_, fun j oj hj hlj e he hbe => ?_, by simpa using h.lsize⟩
  · rw [put_other u (hd i o ho (getD_set_same _ _))]
    exact h.out d fun j oj hj hlj => hd j oj hj (getD_set_up _ hlj)
  · by_cases hij : i = j
    · subst hij
      obtain rfl : o = oj := Option.some.inj (ho.symm.trans hj)
      obtain ⟨h1, h2⟩ := hu d hdj
      rw [hdj]
      have hlt : d < b.tmps.size := by rw [h.size]; exact Nat.lt_of_lt_of_le (hR.small i o d ho' hdj) hN
      refine ⟨fun hd => ⟨u, put_same u hlt, h1 hd⟩, fun hd => ?_⟩
      rw [put_same u hlt]
      exact (h2 hd).symm.trans hv
    · rw [getD_set_far _ hij] at hlj
      obtain ⟨h1, h2⟩ := h.ins j oj d v hj hlj hdj hv
      have hne : o.dst ≠ some d := hR.once i j o oj d ho' (by simpa using hj) hdj hij
      rw [put_other u hne]
      exact ⟨fun hd => let ⟨x, hx, hfx⟩ := h1 hd; ⟨x, hx, hF d x w w' hfx hb⟩, h2⟩
  · by_cases hij : i = j
    · subst hij
      obtain rfl : o = oj := Option.some.inj (ho.symm.trans hj)
      exact getD_set_up _ (hp e he hbe)
    · rw [getD_set_far _ hij] at hlj
      exact getD_set_up _ (h.down j oj hj hlj e he hbe)
/-- at what an operation looks at, the run and the walk agree -/
theorem Inv.agree {N : Nat} (hR : RG .any l.toArray N) (hN : N ≤ a0.tmps.size) (hlen : vs.length = l.length) {listed : Array Bool} {b : Act} {w : World} {k : Nat} {o : Oper}
    (h : Inv l vs fs FS I a0 listed b w) (ho : l[k]? = some o) (hun : listed.getD k true = false) (hp : ∀ e ∈ o.after, Region.binds .any e = true → listed.getD e.on true = true) {d : Tmp} (hd : d ∈ o.looksAt l.toArray) (hf : d ∉ fs) :
    (lex l vs a0 k).tmps[d]? = b.tmps[d]? := by
  have ho' : l.toArray[k]? = some o := by simpa using ho
  by_cases hw : ∃ (j : Nat) (oj : Oper), l[j]? = some oj ∧ oj.dst = some d
  · obtain ⟨j, oj, hj, hdj⟩ := hw
    have hj' : l.toArray[j]? = some oj := by simpa using hj
    rcases hR.look k j o oj d ho' hj' hdj hd with ⟨hjk, e, he, hbe, rfl⟩ | ⟨hkj, e, he, hbe, rfl⟩
    · obtain ⟨v, hv⟩ : ∃ v, vs[e.on]? = some v := ⟨_, List.getElem?_eq_getElem (by rw [hlen]; exact (List.getElem?_eq_some_iff.1 hj).1)⟩
      rw [lex_in l vs a0 k e.on oj d v hj hjk hv hdj (Nat.lt_of_lt_of_le (hR.small _ _ _ hj' hdj) hN) fun i oi hi _ hne => hR.once i e.on oi oj d (by simpa using hi) hj' hdj hne]
      exact ((h.ins e.on oj d v hj (hp e he hbe) hdj hv).2 hf).symm
    · have hjun : listed.getD j true = false := by
        cases hc : listed.getD j true with
        | false => rfl
        | true => rw [h.down j oj hj hc e he hbe] at hun; cases hun
      rw [lex_out l vs a0 _ d fun i oi hi hik hdi => hR.once i j oi oj d (by simpa using hi) hj' hdj (by omega) hdi]
      refine (h.out d fun i oi hi hli hdi => ?_).symm
      by_cases hij : i = j
      · subst hij; rw [hjun] at hli; cases hli
      · exact hR.once i j oi oj d (by simpa using hi) hj' hdj hij hdi
  · rw [lex_out l vs a0 k d fun i oi hi _ hdi => hw ⟨i, oi, hi, hdi⟩]
    exact (h.out d fun i oi hi _ hdi => hw ⟨i, oi, hi, hdi⟩).symm
theorem count_zero {L : Array Bool} (h : L.toList.count false = 0) (j : Nat) : L.getD j true = true := by
  rw [List.count_eq_zero] at h
  rw [Array.getD_eq_getD_getElem?]
  cases hc : L[j]? with
  | none => rfl
  | some x =>
    cases x with
    | true => rfl
    | false => exact absurd (Array.mem_toList_iff.2 (Array.mem_of_getElem? hc)) h
theorem count_set {L : Array Bool} {i : Nat} (h : L.getD i true = false) : (L.setIfInBounds i true).toList.count false + 1 = L.toList.count false := by
  have h1 : L.toList[i]? = some false := by
    rw [Array.getD_eq_getD_getElem?] at h
    cases hc : L[i]? with
    | none => rw [hc] at h; simp at h
    | some x => rw [hc] at h; simp at h; subst h; simpa using hc
  rw [Array.toList_setIfInBounds]
  generalize L.toList = M at h1
  clear h
  induction M generalizing i with
  | nil => simp at h1
  | cons y M ih =>
    cases i with
    | zero =>
      simp at h1
      subst h1
      simp
    | succ i =>
      have := ih (i := i) (by simpa using h1)
      rw [List.set_cons_succ, List.count_cons, List.count_cons, ← this]
      omega
theorem ready_all {N : Nat} (hR : RG .any l.toArray N) {listed : Array Bool} (hs : listed.size = l.length) (h : Region.ready .any l.toArray listed = []) : ∀ j, listed.getD j true = true := by
  intro j
  induction j using Nat.strongRecOn with
  | ind j ih =>
    cases hc : listed.getD j true with
    | true => rfl
    | false =>
      have hlt : j < l.length := by
        rcases Nat.lt_or_ge j l.length with h1 | h1
        · exact h1
        · rw [Array.getD_eq_getD_getElem?, Array.getElem?_eq_none (by omega)] at hc; simp at hc
      have ho : l.toArray[j]? = some l[j] := by simp [hlt]
      have : j ∈ Region.ready .any l.toArray listed := mem_ready.2 ⟨hc, l[j], ho, fun e he hb => by
        have hlt2 := hR.back j l[j] ho e he hb
        have := ih e.on hlt2
        rw [Array.getD_eq_getD_getElem?] at this ⊢
        rw [Array.getElem?_eq_getElem (show e.on < listed.size by omega)] at this ⊢
        simpa using this⟩
      rw [h] at this
      cases this

theorem any_of_F {N : Nat} {Q' : Exit → Act → World → Prop} (hR : RG .any l.toArray N) (hN : N ≤ a0.tmps.size) (hlen : vs.length = l.length) (hI : Closed I) (hF : ∀ s x w w', FS s x w → Below w.heap.size w w' → FS s x w')
    (hob : ∀ (k : Nat) o v, l[k]? = some o → vs[k]? = some v → Ob P l.toArray I fs FS o v (lex l vs a0 k))
    (hQ : ∀ (listed : Array Bool) b w, (∀ j, listed.getD j true = true) → Inv l vs fs FS I a0 listed b w → Q' .normal b w) :
    ∀ (fuel : Nat) (listed : Array Bool) (b : Act) (w : World), listed.toList.count false ≤ fuel → Inv l vs fs FS I a0 listed b w → wpAny P .any l.toArray Q' fuel listed b w
  | 0, listed, b, w, hc, h => by
    have hall := count_zero (L := listed) (by omega)
    refine ⟨?_, hQ listed b w hall h⟩
    rw [List.eq_nil_iff_forall_not_mem]
    intro i hi
    have := (mem_ready.1 hi).1
    rw [hall i] at this
    cases this
  | fuel + 1, listed, b, w, hc, h => by
    refine ⟨fun h0 => hQ listed b w (ready_all hR h.lsize h0) h, fun i hi => ?_⟩
    obtain ⟨hun, o, ho, hall⟩ := mem_ready.1 hi
    have ho2 : l[i]? = some o := by simpa using ho
    have hp : ∀ e ∈ o.after, Region.binds .any e = true → listed.getD e.on true = true := fun e he hb => by
      have h1 := hall e he hb
      rw [Array.getD_eq_getD_getElem?] at h1 ⊢
      cases hx : listed[e.on]? with
      | none => rfl
      | some y => rw [hx] at h1; simpa using h1
    obtain ⟨v, hv⟩ : ∃ v, vs[i]? = some v := ⟨_, List.getElem?_eq_getElem (by rw [hlen]; exact (List.getElem?_eq_some_iff.1 ho2).1)⟩
    have K : ∀ u w', Below w.heap.size w w' → (∀ d, o.dst = some d → (d ∈ fs → FS d u w') ∧ (d ∉ fs → vs[i]? = some u)) → wpAny P .any l.toArray Q' fuel (listed.setIfInBounds i true) (b.put o.dst u) w' := fun u w' hb hu =>
      any_of_F hR hN hlen hI hF hob hQ fuel _ _ _ (by have := count_set hun; omega) (h.next hR hN hI hF ho2 hp hb hu)
    have hsel : ∀ cs c, o.op ≠ .select cs c := fun cs c => hR.sel i o cs c ho
    have ag : ∀ d ∈ o.looksAt l.toArray, d ∉ fs → (lex l vs a0 i).tmps[d]? = b.tmps[d]? := fun d hd hf => h.agree hR hN hlen ho2 hun hp hd hf
    unfold Go.wpOp
    simp only [ho]
    rcases hob i o v ho2 hv with ⟨h1, h2, hcalm⟩ | ⟨s, hs, hds, h1, hwt, hsrc⟩ | ⟨s, hs, ⟨j, hj, hje⟩, h1, h2, huse⟩ | ⟨s, R, hs, hds, hRs, h1, hmix⟩
    · have he := exec_agree (ops := l.toArray) hsel fun d hd => ag d hd (h1 d hd)
      have hw := wanted_agree (ops := l.toArray) fun d hd => ag d hd (h1 d hd)
      have kv : ∀ w', Below w.heap.size w w' → wpAny P .any l.toArray Q' fuel (listed.setIfInBounds i true) (b.put o.dst v) w' := fun w' hb => K v w' hb fun d hd => ⟨fun hf => absurd hf (h2 d hd), fun _ => hv⟩
      rcases hcalm with ⟨hwt, hval⟩ | ⟨hwf, rfl⟩
      · rw [hw] at hwt
        rw [if_pos hwt]
        left
        have h3 := hval w h.cls
        rw [he] at h3
        unfold Oper.wp
        generalize (execOp b.eval o).run P w = r at h3
        cases r with
        | ok n w' =>
          cases n <;> simp only [calmUpon] at h3 <;> simp only [Oper.upon]
          case value u => obtain ⟨rfl, rfl⟩ := h3; exact kv _ (Below.refl _ _)
          case skip => obtain ⟨rfl, rfl⟩ := h3; exact kv _ (Below.refl _ _)
          case enter f args =>
            obtain ⟨rfl, hcc⟩ := h3
            exact hcc.mono fun e w'' ⟨he, hb⟩ => by subst he; exact kv _ hb
        | halt x w' => simp only [calmUpon] at h3
      · rw [hw] at hwf
        rw [hwf, if_neg (by simp)]
        exact kv w (Below.refl _ _)
    · have he := exec_agree (ops := l.toArray) hsel fun d hd => ag d hd (h1 d hd)
      have hw := wanted_agree (ops := l.toArray) fun d hd => ag d hd (h1 d hd)
      rw [hw] at hwt
      rw [if_pos hwt]
      left
      have h3 := hsrc w h.cls
      rw [he] at h3
      have kf : ∀ u w', FS s u w' → Below w.heap.size w w' → wpAny P .any l.toArray Q' fuel (listed.setIfInBounds i true) (b.put o.dst u) w' := fun u w' hf hb => K u w' hb fun d hd => by
        obtain rfl : d = s := Option.some.inj (hd.symm.trans hds)
        exact ⟨fun _ => hf, fun hnf => absurd hs hnf⟩
      unfold Oper.wp
      generalize (execOp b.eval o).run P w = r at h3
      cases r with
      | ok n w' =>
        cases n <;> simp only [srcUpon] at h3 <;> simp only [Oper.upon]
        case value u => exact kf u w' h3.1 h3.2
        case enter f args =>
          obtain ⟨rfl, hcc⟩ := h3
          exact hcc.mono fun e w'' ⟨u, he, hf, hb⟩ => by subst he; exact kf u w'' hf hb
      | halt x w' => simp only [srcUpon] at h3
    · obtain ⟨e, hee, heb⟩ := Array.any_eq_true'.1 hje
      simp only [Bool.and_eq_true, beq_iff_eq] at heb
      obtain ⟨hbe, rfl⟩ := heb
      obtain ⟨oj, hoj, hdj⟩ := Option.bind_eq_some_iff.1 hj
      have hoj2 : l[e.on]? = some oj := by simpa using hoj
      obtain ⟨vj, hvj⟩ : ∃ v, vs[e.on]? = some v := ⟨_, List.getElem?_eq_getElem (by rw [hlen]; exact (List.getElem?_eq_some_iff.1 hoj2).1)⟩
      obtain ⟨x, hbx, hfx⟩ := (h.ins e.on oj s vj hoj2 (hp e hee hbe) hdj hvj).1 hs
      have hslt : s < (lex l vs a0 i).tmps.size := by rw [(lex_size l vs a0 i).1]; exact Nat.lt_of_lt_of_le (hR.small _ _ _ hoj hdj) hN
      have ag2 : ∀ d ∈ o.looksAt l.toArray, ((lex l vs a0 i).put (some s) x).tmps[d]? = b.tmps[d]? := fun d hd => by
        by_cases hsd : s = d
        · subst hsd
          rw [put_same x hslt, hbx]
        · rw [put_other x (by simpa using hsd)]
          exact ag d hd fun hf => hsd (h1 d hd hf).symm
      obtain ⟨hwt, h3⟩ := huse x w h.cls hfx
      rw [wanted_agree (ops := l.toArray) ag2] at hwt
      rw [exec_agree (ops := l.toArray) hsel ag2] at h3
      have kv : ∀ w', Below w.heap.size w w' → wpAny P .any l.toArray Q' fuel (listed.setIfInBounds i true) (b.put o.dst v) w' := fun w' hb => K v w' hb fun d hd => ⟨fun hf => absurd hf (h2 d hd), fun _ => hv⟩
      rw [if_pos hwt]
      left
      unfold Oper.wp
      generalize (execOp b.eval o).run P w = r at h3
      cases r with
      | ok n w' =>
        cases n <;> simp only [calmUpon] at h3 <;> simp only [Oper.upon]
        case value u => obtain ⟨rfl, rfl⟩ := h3; exact kv _ (Below.refl _ _)
        case skip => obtain ⟨rfl, rfl⟩ := h3; exact kv _ (Below.refl _ _)
        case enter f args =>
          obtain ⟨rfl, hcc⟩ := h3
          exact hcc.mono fun e w'' ⟨he, hb⟩ => by subst he; exact kv _ hb
      | halt x w' => simp only [calmUpon] at h3

    · have got : ∀ r ∈ R, ∃ x, b.tmps[r]? = some x ∧ FS r x w ∧ r < (lex l vs a0 i).tmps.size := fun r hr => by
        obtain ⟨hrf, j, hj, hje⟩ := hRs r hr
        obtain ⟨e, hee, heb⟩ := Array.any_eq_true'.1 hje
        simp only [Bool.and_eq_true, beq_iff_eq] at heb
        obtain ⟨hbe, rfl⟩ := heb
        obtain ⟨oj, hoj, hdj⟩ := Option.bind_eq_some_iff.1 hj
        have hoj2 : l[e.on]? = some oj := by simpa using hoj
        obtain ⟨vj, hvj⟩ : ∃ v, vs[e.on]? = some v := ⟨_, List.getElem?_eq_getElem (by rw [hlen]; exact (List.getElem?_eq_some_iff.1 hoj2).1)⟩
        obtain ⟨x, hbx, hfx⟩ := (h.ins e.on oj r vj hoj2 (hp e hee hbe) hdj hvj).1 hrf
        exact ⟨x, hbx, hfx, by rw [(lex_size l vs a0 i).1]; exact Nat.lt_of_lt_of_le (hR.small _ _ _ hoj hdj) hN⟩
      have ag2 : ∀ d ∈ o.looksAt l.toArray, (fill R (fun s => b.tmps.getD s undef) (lex l vs a0 i)).tmps[d]? = b.tmps[d]? := fun d hd => by
        by_cases hdR : d ∈ R
        · obtain ⟨x, hbx, _, hlt⟩ := got d hdR
          rw [fill_in R _ _ d hdR hlt, hbx]
          simp [hbx]
        · rw [fill_out R _ _ d hdR]
          exact ag d hd fun hf => hdR (h1 d hd hf)
      obtain ⟨hwt, h3⟩ := hmix (fun s => b.tmps.getD s undef) w h.cls fun r hr => by
        obtain ⟨x, hbx, hfx, _⟩ := got r hr
        simpa [hbx] using hfx
      rw [wanted_agree (ops := l.toArray) ag2] at hwt
      rw [exec_agree (ops := l.toArray) hsel ag2] at h3
      rw [if_pos hwt]
      left
      have kf : ∀ u w', FS s u w' → Below w.heap.size w w' → wpAny P .any l.toArray Q' fuel (listed.setIfInBounds i true) (b.put o.dst u) w' := fun u w' hf hb => K u w' hb fun d hd => by
        obtain rfl : d = s := Option.some.inj (hd.symm.trans hds)
        exact ⟨fun _ => hf, fun hnf => absurd hs hnf⟩
      unfold Oper.wp
      generalize (execOp b.eval o).run P w = r at h3
      cases r with
      | ok n w' =>
        cases n <;> simp only [srcUpon] at h3 <;> simp only [Oper.upon]
        case value u => exact kf u w' h3.1 h3.2
        case enter f args =>
          obtain ⟨rfl, hcc⟩ := h3
          exact hcc.mono fun e w'' ⟨u, he, hf, hb⟩ => by subst he; exact kf u w'' hf hb
      | halt x w' => simp only [srcUpon] at h3

/-- ONE WALK IN THE TEXT's ORDER SERVES EVERY ORDER -/
theorem wp_region_F {id : Nat} {Q : Exit → Act → World → Prop} {a : Act} {w : World} {l : List Oper} (N : Nat) (fs : List Tmp) (FS : Tmp → Value → World → Prop) (I : World → Prop) (hm : P.follows .mixedOrders = true) (hB : rgB .any l.toArray N = true)
    (hfs : (fs.all fun s => l.any fun o => o.dst == some s) = true) (hN : N ≤ a.tmps.size) (hI : Closed I) (hF : ∀ s x w w', FS s x w → Below w.heap.size w w' → FS s x w') (hC : I w.drew)
    (h : wpF P l.toArray I fs FS (fun a' => ∀ xs w', I w' → (∀ s ∈ fs, FS s (xs s) w') → Q .normal (fill fs xs a') w') l a) : (Code.region id l.toArray true).wp P Q a w := by
  have hR := rgB_spec hB
  obtain ⟨vs, hlen, hob, hE⟩ := wpF_vals l a h
  refine wp_region_any hm ?_
  refine any_of_F (l := l) (vs := vs) (fs := fs) (FS := FS) (I := I) (a0 := a) hR hN hlen hI hF hob ?_ _ _ _ _ ?_ ?_
  · intro listed b w' hall hinv
    have hw : ∀ s ∈ fs, ∃ x, b.tmps[s]? = some x ∧ FS s x w' := fun s hs => by
      rw [List.all_eq_true] at hfs
      have h1 := hfs s hs
      rw [List.any_eq_true] at h1
      obtain ⟨o, ho, hd⟩ := h1
      obtain ⟨j, hj, rfl⟩ := List.getElem_of_mem ho
      have hd' : (l[j]).dst = some s := by simpa using hd
      obtain ⟨v, hv⟩ : ∃ v, vs[j]? = some v := ⟨_, List.getElem?_eq_getElem (by rw [hlen]; exact hj)⟩
      exact (hinv.ins j l[j] s v (List.getElem?_eq_getElem hj) (hall j) hd' hv).1 hs
    have hb : b = fill fs (fun s => b.tmps.getD s undef) (lex l vs a l.length) := by
      have ht : b.tmps = (fill fs (fun s => b.tmps.getD s undef) (lex l vs a l.length)).tmps := by
        apply Array.ext_getElem?
        intro d
        by_cases hd : d ∈ fs
        · obtain ⟨x, hx, _⟩ := hw d hd
          have hlt : d < (lex l vs a l.length).tmps.size := by
            rw [(lex_size l vs a l.length).1, ← hinv.size]
            exact (Array.getElem?_eq_some_iff.1 hx).1
          rw [fill_in fs _ _ d hd hlt, hx]
          simp [hx]
        · rw [fill_out fs _ _ d hd]
          by_cases hwr : ∃ (j : Nat) (oj : Oper), l[j]? = some oj ∧ oj.dst = some d
          · obtain ⟨j, oj, hj, hdj⟩ := hwr
            obtain ⟨v, hv⟩ : ∃ v, vs[j]? = some v := ⟨_, List.getElem?_eq_getElem (by rw [hlen]; exact (List.getElem?_eq_some_iff.1 hj).1)⟩
            have hj' : l.toArray[j]? = some oj := by simpa using hj
            rw [(hinv.ins j oj d v hj (hall j) hdj hv).2 hd]
            exact (lex_in l vs a l.length j oj d v hj (List.getElem?_eq_some_iff.1 hj).1 hv hdj (Nat.lt_of_lt_of_le (hR.small _ _ _ hj' hdj) hN) fun i oi hi _ hne => hR.once i j oi oj d (by simpa using hi) hj' hdj hne).symm
          · rw [lex_out l vs a l.length d fun i oi hi _ hdi => hwr ⟨i, oi, hi, hdi⟩]
            exact hinv.out d fun i oi hi _ hdi => hwr ⟨i, oi, hi, hdi⟩
      have hd : b.defers = (fill fs (fun s => b.tmps.getD s undef) (lex l vs a l.length)).defers := by
        rw [(fill_size ..).2, (lex_size ..).2]
        exact hinv.defers
      cases b
      simp only at ht hd
      rw [Act.mk.injEq]
      exact ⟨ht, hd⟩
    rw [hb]
    refine hE _ w' hinv.cls fun s hs => ?_
    obtain ⟨x, hx, hf⟩ := hw s hs
    simpa [hx] using hf
  · simp
  · refine ⟨hC, rfl, rfl, fun _ _ => rfl, fun j o d v hj hlj => ?_, fun j o hj hlj => ?_, by simp⟩
    all_goals
      have hlt := (List.getElem?_eq_some_iff.1 hj).1
      rw [Array.getD_eq_getD_getElem?] at hlj
      simp [hlt] at hlj
end
end
end Go.Proofs.Ytfdbcfkjablnkaa

namespace Go.Proofs.Ytfdbcfkjablnkaa
open Go.RowKit
section
variable {P : Program} {l : List Oper} {I : World → Prop} {fs : List Tmp} {FS : Tmp → Value → World → Prop} {E : Act → Prop} {o : Oper} {rest : List Oper} {a : Act}
def noB (ops : Array Oper) (fs : List Tmp) (o : Oper) : Bool := ((o.looksAt ops).all fun d => !fs.contains d) && (match o.dst with | some d => !fs.contains d | none => true)
theorem noB_spec (h : noB l.toArray fs o = true) : (∀ d ∈ o.looksAt l.toArray, d ∉ fs) ∧ (∀ d, o.dst = some d → d ∉ fs) := by
  simp only [noB, Bool.and_eq_true, List.all_eq_true, Bool.not_eq_true'] at h
  refine ⟨fun d hd hf => ?_, fun d hd hf => ?_⟩
  · have := h.1 d hd
    simp [hf] at this
  · have := h.2
    rw [hd] at this
    simp [hf] at this
/-- it looks at no memory and enters no function -/
theorem wpF_pure (hk : kindOf o = 0) (hn : noB l.toArray fs o = true) (h : wpQuiet P l.toArray (fun _ => True) (fun a' => wpF P l.toArray I fs FS E rest a') [o] a) : wpF P l.toArray I fs FS E (o :: rest) a := by
  obtain ⟨h1, h2⟩ := noB_spec hn
  unfold wpQuiet at h
  by_cases hw : Region.wanted o (yielded l.toArray a.tmps) = true
  · simp only [hw, if_true] at h
    obtain ⟨v, hv, hr⟩ := h
    refine ⟨v, .inl ⟨h1, h2, .inl ⟨hw, fun w _ => ?_⟩⟩, hr⟩
    have h3 := hv w trivial
    have h4 := pure_no_enter (P := P) (kind_pure hk) a.eval w
    unfold Oper.quietAt at h3
    generalize (execOp a.eval o).run P w = r at h3 h4
    cases r with
    | ok n w' =>
      cases n with
      | enter f args => exact absurd rfl (h4 w' f args)
      | value u => exact h3
      | skip => exact h3
      | _ => simp only [Oper.quietUpon] at h3
    | halt x w' => simp only [Oper.quietUpon] at h3
  · simp only [hw] at h
    exact ⟨undef, .inl ⟨h1, h2, .inr ⟨by simpa using hw, rfl⟩⟩, h⟩
/-- a call of one value -/
theorem wpF_call {f : FuncId} {args : Array Value} (v : Value) (hn : noB l.toArray fs o = true) (hw : Region.wanted o (yielded l.toArray a.tmps) = true) (hrun : ∀ w, (execOp a.eval o).run P w = .ok (.enter f args) w)
    (hc : ∀ w, I w → Calls P f args w fun e w'' => e = .returned v ∧ Below w.heap.size w w'') (h : wpF P l.toArray I fs FS E rest (a.put o.dst v)) : wpF P l.toArray I fs FS E (o :: rest) a := by
  obtain ⟨h1, h2⟩ := noB_spec hn
  refine ⟨v, .inl ⟨h1, h2, .inl ⟨hw, fun w hI => ?_⟩⟩, h⟩
  rw [hrun w]
  exact ⟨rfl, hc w hI⟩
/-- a load -/
theorem wpF_load {t : TypeId} {x : Operand} {ad : Addr} (v : Value) (hop : o.op = .load t x) (hn : noB l.toArray fs o = true) (hw : Region.wanted o (yielded l.toArray a.tmps) = true) (hx : a.eval x = .pointer (some ad))
    (hrun : ∀ w, I w → (Instr.loadAt t (.pointer (some ad))).run P w = .ok v w) (h : wpF P l.toArray I fs FS E rest (a.put o.dst v)) : wpF P l.toArray I fs FS E (o :: rest) a := by
  obtain ⟨h1, h2⟩ := noB_spec hn
  refine ⟨v, .inl ⟨h1, h2, .inl ⟨hw, fun w hI => ?_⟩⟩, h⟩
  unfold execOp
  simp only [hop, hx]
  rw [Sem.run_bind, hrun w hI]
  exact ⟨rfl, rfl⟩
/-- an operation that makes memory: its value is known by what it is good for -/
theorem wpF_src (s : Tmp) (hs : s ∈ fs) (hd : o.dst = some s) (hn : ((o.looksAt l.toArray).all fun d => !fs.contains d) = true) (hw : Region.wanted o (yielded l.toArray a.tmps) = true)
    (hrun : ∀ w, I w → ∃ u w', (execOp a.eval o).run P w = .ok (.value u) w' ∧ FS s u w' ∧ Below w.heap.size w w') (h : wpF P l.toArray I fs FS E rest (a.put o.dst undef)) : wpF P l.toArray I fs FS E (o :: rest) a := by
  refine ⟨undef, .inr (.inl ⟨s, hs, hd, fun d hd hf => ?_, hw, fun w hI => ?_⟩), h⟩
  · rw [List.all_eq_true] at hn
    have := hn d hd
    simp [hf] at this
  · obtain ⟨u, w', hr, h1, h2⟩ := hrun w hI
    rw [hr]
    exact ⟨h1, h2⟩
/-- a call that is handed such a value -/
theorem wpF_use (s : Tmp) (j : Nat) {f : FuncId} (args : Value → Array Value) (v : Value) (hs : s ∈ fs) (hj : (l[j]?).bind (·.dst) = some s) (hje : (o.after.any fun e => Region.binds .any e && e.on == j) = true)
    (hn : ((o.looksAt l.toArray).all fun d => !fs.contains d || d == s) = true) (hdst : (match o.dst with | some d => !fs.contains d | none => true) = true) (hw : ∀ x, Region.wanted o (yielded l.toArray (a.put (some s) x).tmps) = true)
    (hrun : ∀ x w, (execOp (a.put (some s) x).eval o).run P w = .ok (.enter f (args x)) w)
    (hc : ∀ x w, I w → FS s x w → Calls P f (args x) w fun e w'' => e = .returned v ∧ Below w.heap.size w w'') (h : wpF P l.toArray I fs FS E rest (a.put o.dst v)) : wpF P l.toArray I fs FS E (o :: rest) a := by
  refine ⟨v, .inr (.inr (.inl ⟨s, hs, ⟨j, by simpa using hj, hje⟩, fun d hd hf => ?_, fun d hd hf => ?_, fun x w hI hx => ⟨hw x, ?_⟩⟩)), h⟩
  · rw [List.all_eq_true] at hn
    have := hn d hd
    simpa [hf] using this
  · rw [hd] at hdst
    simp [hf] at hdst
  · rw [hrun x w]
    exact ⟨rfl, hc x w hI hx⟩
/-- a call that hands back a value that is known by what it is good for -/
theorem wpF_callsrc (s : Tmp) {f : FuncId} {args : Array Value} (hs : s ∈ fs) (hd : o.dst = some s) (hn : ((o.looksAt l.toArray).all fun d => !fs.contains d) = true) (hw : Region.wanted o (yielded l.toArray a.tmps) = true)
    (hrun : ∀ w, (execOp a.eval o).run P w = .ok (.enter f args) w) (hc : ∀ w, I w → Calls P f args w fun e w'' => ∃ u, e = .returned u ∧ FS s u w'' ∧ Below w.heap.size w w'') (h : wpF P l.toArray I fs FS E rest (a.put o.dst undef)) : wpF P l.toArray I fs FS E (o :: rest) a := by
  refine ⟨undef, .inr (.inl ⟨s, hs, hd, fun d hd hf => ?_, hw, fun w hI => ?_⟩), h⟩
  · rw [List.all_eq_true] at hn
    have := hn d hd
    simp [hf] at this
  · rw [hrun w]
    exact ⟨rfl, hc w hI⟩
/-- an operation that looks at such values (R) and yields such a value -/
theorem wpF_mix (s : Tmp) (R : List Tmp) (hs : s ∈ fs) (hd : o.dst = some s)
    (hR : (R.all fun r => fs.contains r && (List.range l.length).any fun j => (((l[j]?).bind (·.dst)) == some r) && o.after.any fun e => Region.binds .any e && e.on == j) = true)
    (hn : ((o.looksAt l.toArray).all fun d => !fs.contains d || R.contains d) = true) (hw : ∀ xs, Region.wanted o (yielded l.toArray (fill R xs a).tmps) = true)
    (hrun : ∀ xs w, I w → (∀ r ∈ R, FS r (xs r) w) → ∃ u w', (execOp (fill R xs a).eval o).run P w = .ok (.value u) w' ∧ FS s u w' ∧ Below w.heap.size w w') (h : wpF P l.toArray I fs FS E rest (a.put o.dst undef)) : wpF P l.toArray I fs FS E (o :: rest) a := by
  refine ⟨undef, .inr (.inr (.inr ⟨s, R, hs, hd, fun r hr => ?_, fun d hd hf => ?_, fun xs w hI hx => ⟨hw xs, ?_⟩⟩)), h⟩
  · rw [List.all_eq_true] at hR
    have := hR r hr
    simp only [Bool.and_eq_true, List.contains_iff_mem, List.any_eq_true, beq_iff_eq] at this
    obtain ⟨h1, j, _, h2, h3⟩ := this
    exact ⟨h1, j, by simpa using h2, h3⟩
  · rw [List.all_eq_true] at hn
    have := hn d hd
    simpa [hf] using this
  · obtain ⟨u, w', hr, h1, h2⟩ := hrun xs w hI hx
    rw [hr]
    exact ⟨h1, h2⟩
/-- a call that is handed such values (R) and hands back such a value -/
theorem wpF_mixcall (s : Tmp) (R : List Tmp) {f : FuncId} (args : (Tmp → Value) → Array Value) (hs : s ∈ fs) (hd : o.dst = some s)
    (hR : (R.all fun r => fs.contains r && (List.range l.length).any fun j => (((l[j]?).bind (·.dst)) == some r) && o.after.any fun e => Region.binds .any e && e.on == j) = true)
    (hn : ((o.looksAt l.toArray).all fun d => !fs.contains d || R.contains d) = true) (hw : ∀ xs, Region.wanted o (yielded l.toArray (fill R xs a).tmps) = true)
    (hrun : ∀ xs w, (execOp (fill R xs a).eval o).run P w = .ok (.enter f (args xs)) w)
    (hc : ∀ xs w, I w → (∀ r ∈ R, FS r (xs r) w) → Calls P f (args xs) w fun e w'' => ∃ u, e = .returned u ∧ FS s u w'' ∧ Below w.heap.size w w'') (h : wpF P l.toArray I fs FS E rest (a.put o.dst undef)) : wpF P l.toArray I fs FS E (o :: rest) a := by
  refine ⟨undef, .inr (.inr (.inr ⟨s, R, hs, hd, fun r hr => ?_, fun d hd hf => ?_, fun xs w hI hx => ⟨hw xs, ?_⟩⟩)), h⟩
  · rw [List.all_eq_true] at hR
    have := hR r hr
    simp only [Bool.and_eq_true, List.contains_iff_mem, List.any_eq_true, beq_iff_eq] at this
    obtain ⟨h1, j, _, h2, h3⟩ := this
    exact ⟨h1, j, by simpa using h2, h3⟩
  · rw [List.all_eq_true] at hn
    have := hn d hd
    simpa [hf] using this
  · rw [hrun xs w]
    exact ⟨rfl, hc xs w hI hx⟩
end
end Go.Proofs.Ytfdbcfkjablnkaa

namespace Go.Proofs.Ytfdbcfkjablnkaa
open Go.RowKit
section
variable {P : Program} {l : List Oper} {vs : List Value} {fs : List Tmp} {FS : Tmp → Value → World → Prop} {I : World → Prop} {a0 : Act}
/-- one operation of such a run -/
theorem op_of_F {N : Nat} {Q' : Exit → Act → World → Prop} {K : Act → World → Prop} (hR : RG .any l.toArray N) (hN : N ≤ a0.tmps.size) (hlen : vs.length = l.length) {listed : Array Bool} {b : Act} {w : World} {i : Nat} {o : Oper} {v : Value}
    (h : Inv l vs fs FS I a0 listed b w) (ho2 : l[i]? = some o) (hun : listed.getD i true = false) (hp : ∀ e ∈ o.after, Region.binds .any e = true → listed.getD e.on true = true) (hv : vs[i]? = some v) (hob : Ob P l.toArray I fs FS o v (lex l vs a0 i))
    (hK : ∀ u w', Below w.heap.size w w' → (∀ d, o.dst = some d → (d ∈ fs → FS d u w') ∧ (d ∉ fs → vs[i]? = some u)) → K (b.put o.dst u) w') : Go.wpOp P l.toArray Q' i K b w := by
  have ho : l.toArray[i]? = some o := by simpa using ho2
  have hsel : ∀ cs c, o.op ≠ .select cs c := fun cs c => hR.sel i o cs c ho
  have ag : ∀ d ∈ o.looksAt l.toArray, d ∉ fs → (lex l vs a0 i).tmps[d]? = b.tmps[d]? := fun d hd hf => h.agree hR hN hlen ho2 hun hp hd hf
  unfold Go.wpOp
  simp only [ho]
  rcases hob with ⟨h1, h2, hcalm⟩ | ⟨s, hs, hds, h1, hwt, hsrc⟩ | ⟨s, hs, ⟨j, hj, hje⟩, h1, h2, huse⟩ | ⟨s, R, hs, hds, hRs, h1, hmix⟩
  · have he := exec_agree (ops := l.toArray) hsel fun d hd => ag d hd (h1 d hd)
    have hw := wanted_agree (ops := l.toArray) fun d hd => ag d hd (h1 d hd)
    have kv : ∀ w', Below w.heap.size w w' → K (b.put o.dst v) w' := fun w' hb => hK v w' hb fun d hd => ⟨fun hf => absurd hf (h2 d hd), fun _ => hv⟩
    rcases hcalm with ⟨hwt, hval⟩ | ⟨hwf, rfl⟩
    · rw [hw] at hwt
      rw [if_pos hwt]
      left
      have h3 := hval w h.cls
      rw [he] at h3
      unfold Oper.wp
      generalize (execOp b.eval o).run P w = r at h3
      cases r with
      | ok n w' =>
        cases n <;> simp only [calmUpon] at h3 <;> simp only [Oper.upon]
        case value u => obtain ⟨rfl, rfl⟩ := h3; exact kv _ (Below.refl _ _)
        case skip => obtain ⟨rfl, rfl⟩ := h3; exact kv _ (Below.refl _ _)
        case enter f args =>
          obtain ⟨rfl, hcc⟩ := h3
          exact hcc.mono fun e w'' ⟨he, hb⟩ => by subst he; exact kv _ hb
      | halt x w' => simp only [calmUpon] at h3
    · rw [hw] at hwf
      rw [hwf, if_neg (by simp)]
      exact kv w (Below.refl _ _)
  · have he := exec_agree (ops := l.toArray) hsel fun d hd => ag d hd (h1 d hd)
    have hw := wanted_agree (ops := l.toArray) fun d hd => ag d hd (h1 d hd)
    rw [hw] at hwt
    rw [if_pos hwt]
    left
    have h3 := hsrc w h.cls
    rw [he] at h3
    have kf : ∀ u w', FS s u w' → Below w.heap.size w w' → K (b.put o.dst u) w' := fun u w' hf hb => hK u w' hb fun d hd => by
      obtain rfl : d = s := Option.some.inj (hd.symm.trans hds)
      exact ⟨fun _ => hf, fun hnf => absurd hs hnf⟩
    unfold Oper.wp
    generalize (execOp b.eval o).run P w = r at h3
    cases r with
    | ok n w' =>
      cases n <;> simp only [srcUpon] at h3 <;> simp only [Oper.upon]
      case value u => exact kf u w' h3.1 h3.2
      case enter f args =>
        obtain ⟨rfl, hcc⟩ := h3
        exact hcc.mono fun e w'' ⟨u, he, hf, hb⟩ => by subst he; exact kf u w'' hf hb
    | halt x w' => simp only [srcUpon] at h3
  · obtain ⟨e, hee, heb⟩ := Array.any_eq_true'.1 hje
    simp only [Bool.and_eq_true, beq_iff_eq] at heb
    obtain ⟨hbe, rfl⟩ := heb
    obtain ⟨oj, hoj, hdj⟩ := Option.bind_eq_some_iff.1 hj
    have hoj2 : l[e.on]? = some oj := by simpa using hoj
    obtain ⟨vj, hvj⟩ : ∃ v, vs[e.on]? = some v := ⟨_, List.getElem?_eq_getElem (by rw [hlen]; exact (List.getElem?_eq_some_iff.1 hoj2).1)⟩
    obtain ⟨x, hbx, hfx⟩ := (h.ins e.on oj s vj hoj2 (hp e hee hbe) hdj hvj).1 hs
    have hslt : s < (lex l vs a0 i).tmps.size := by rw [(lex_size l vs a0 i).1]; exact Nat.lt_of_lt_of_le (hR.small _ _ _ hoj hdj) hN
    have ag2 : ∀ d ∈ o.looksAt l.toArray, ((lex l vs a0 i).put (some s) x).tmps[d]? = b.tmps[d]? := fun d hd => by
      by_cases hsd : s = d
      · subst hsd
        rw [put_same x hslt, hbx]
      · rw [put_other x (by simpa using hsd)]
        exact ag d hd fun hf => hsd (h1 d hd hf).symm
    obtain ⟨hwt, h3⟩ := huse x w h.cls hfx
    rw [wanted_agree (ops := l.toArray) ag2] at hwt
    rw [exec_agree (ops := l.toArray) hsel ag2] at h3
    have kv : ∀ w', Below w.heap.size w w' → K (b.put o.dst v) w' := fun w' hb => hK v w' hb fun d hd => ⟨fun hf => absurd hf (h2 d hd), fun _ => hv⟩
    rw [if_pos hwt]
    left
    unfold Oper.wp
    generalize (execOp b.eval o).run P w = r at h3
    cases r with
    | ok n w' =>
      cases n <;> simp only [calmUpon] at h3 <;> simp only [Oper.upon]
      case value u => obtain ⟨rfl, rfl⟩ := h3; exact kv _ (Below.refl _ _)
      case skip => obtain ⟨rfl, rfl⟩ := h3; exact kv _ (Below.refl _ _)
      case enter f args =>
        obtain ⟨rfl, hcc⟩ := h3
        exact hcc.mono fun e w'' ⟨he, hb⟩ => by subst he; exact kv _ hb
    | halt x w' => simp only [calmUpon] at h3

  · have got : ∀ r ∈ R, ∃ x, b.tmps[r]? = some x ∧ FS r x w ∧ r < (lex l vs a0 i).tmps.size := fun r hr => by
      obtain ⟨hrf, j, hj, hje⟩ := hRs r hr
      obtain ⟨e, hee, heb⟩ := Array.any_eq_true'.1 hje
      simp only [Bool.and_eq_true, beq_iff_eq] at heb
      obtain ⟨hbe, rfl⟩ := heb
      obtain ⟨oj, hoj, hdj⟩ := Option.bind_eq_some_iff.1 hj
      have hoj2 : l[e.on]? = some oj := by simpa using hoj
      obtain ⟨vj, hvj⟩ : ∃ v, vs[e.on]? = some v := ⟨_, List.getElem?_eq_getElem (by rw [hlen]; exact (List.getElem?_eq_some_iff.1 hoj2).1)⟩
      obtain ⟨x, hbx, hfx⟩ := (h.ins e.on oj r vj hoj2 (hp e hee hbe) hdj hvj).1 hrf
      exact ⟨x, hbx, hfx, by rw [(lex_size l vs a0 i).1]; exact Nat.lt_of_lt_of_le (hR.small _ _ _ hoj hdj) hN⟩
    have ag2 : ∀ d ∈ o.looksAt l.toArray, (fill R (fun s => b.tmps.getD s undef) (lex l vs a0 i)).tmps[d]? = b.tmps[d]? := fun d hd => by
      by_cases hdR : d ∈ R
      · obtain ⟨x, hbx, _, hlt⟩ := got d hdR
        rw [fill_in R _ _ d hdR hlt, hbx]
        simp [hbx]
      · rw [fill_out R _ _ d hdR]
        exact ag d hd fun hf => hdR (h1 d hd hf)
    obtain ⟨hwt, h3⟩ := hmix (fun s => b.tmps.getD s undef) w h.cls fun r hr => by
      obtain ⟨x, hbx, hfx, _⟩ := got r hr
      simpa [hbx] using hfx
    rw [wanted_agree (ops := l.toArray) ag2] at hwt
    rw [exec_agree (ops := l.toArray) hsel ag2] at h3
    rw [if_pos hwt]
    left
    have kf : ∀ u w', FS s u w' → Below w.heap.size w w' → K (b.put o.dst u) w' := fun u w' hf hb => hK u w' hb fun d hd => by
      obtain rfl : d = s := Option.some.inj (hd.symm.trans hds)
      exact ⟨fun _ => hf, fun hnf => absurd hs hnf⟩
    unfold Oper.wp
    generalize (execOp b.eval o).run P w = r at h3
    cases r with
    | ok n w' =>
      cases n <;> simp only [srcUpon] at h3 <;> simp only [Oper.upon]
      case value u => exact kf u w' h3.1 h3.2
      case enter f args =>
        obtain ⟨rfl, hcc⟩ := h3
        exact hcc.mono fun e w'' ⟨u, he, hf, hb⟩ => by subst he; exact kf u w'' hf hb
    | halt x w' => simp only [srcUpon] at h3

/-- an operation that looks at no memory, in whatever world -/
def purUpon (w : World) (v : Value) : Result Next → Prop
  | .ok (.value u) w' => w' = w ∧ u = v
  | .ok .skip w' => w' = w ∧ v = undef
  | _ => False
def PureOb (P : Program) (ops : Array Oper) (fs : List Tmp) (o : Oper) (v : Value) (a : Act) : Prop :=
  (∀ d ∈ o.looksAt ops, d ∉ fs) ∧ (∀ d, o.dst = some d → d ∉ fs) ∧
  ((Region.wanted o (yielded ops a.tmps) = true ∧ ∀ w, purUpon w v ((execOp a.eval o).run P w)) ∨ (Region.wanted o (yielded ops a.tmps) = false ∧ v = undef))
theorem PureOb.ob {ops : Array Oper} {o : Oper} {v : Value} {a : Act} (h : PureOb P ops fs o v a) : Ob P ops I fs FS o v a := by
  obtain ⟨h1, h2, h3⟩ := h
  refine .inl ⟨h1, h2, h3.imp (fun h => ⟨h.1, fun w _ => ?_⟩) id⟩
  have h4 := h.2 w
  generalize (execOp a.eval o).run P w = r at h4
  cases r with
  | ok n w' =>
    cases n <;> simp only [purUpon] at h4
    case value u => exact h4
    case skip => exact h4
  | halt x w' => simp only [purUpon] at h4
def stUpon (S : World → Prop) : Result Next → Prop
  | .ok (.value _) w' => S w'
  | .ok .skip w' => S w'
  | _ => False
/-- the store -/
def StOb (P : Program) (ops : Array Oper) (I : World → Prop) (fs : List Tmp) (FS : Tmp → Value → World → Prop) (St : (Tmp → Value) → World → World → Prop) (o : Oper) (a : Act) : Prop :=
  o.dst = none ∧ ∀ xs w, I w → (∀ s ∈ fs, FS s (xs s) w) → Region.wanted o (yielded ops (fill fs xs a).tmps) = true ∧ stUpon (St xs w) ((execOp (fill fs xs a).eval o).run P w)
/-- the walk in the text's order: so many operations, the store, the rest -/
def wpFS (P : Program) (ops : Array Oper) (I : World → Prop) (fs : List Tmp) (FS : Tmp → Value → World → Prop) (St : (Tmp → Value) → World → World → Prop) (E : Act → Prop) : Option Nat → List Oper → Act → Prop
  | _, [], a => E a
  | some 0, o :: r, a => StOb P ops I fs FS St o a ∧ wpFS P ops I fs FS St E none r a
  | some (c + 1), o :: r, a => ∃ v, Ob P ops I fs FS o v a ∧ wpFS P ops I fs FS St E (some c) r (a.put o.dst v)
  | none, o :: r, a => ∃ v, PureOb P ops fs o v a ∧ wpFS P ops I fs FS St E none r (a.put o.dst v)
section
variable {ops : Array Oper} {St : (Tmp → Value) → World → World → Prop} {E : Act → Prop}
theorem wpFS_vals0 : ∀ (l : List Oper) (a : Act), wpFS P ops I fs FS St E none l a → ∃ vs : List Value, vs.length = l.length ∧
    (∀ (j : Nat) o v, l[j]? = some o → vs[j]? = some v → PureOb P ops fs o v (lex l vs a j)) ∧ E (lex l vs a l.length)
  | [], a, h => ⟨[], rfl, by simp, h⟩
  | o :: r, a, ⟨v, hob, hr⟩ => by
    obtain ⟨vs, h1, h2, h3⟩ := wpFS_vals0 r _ hr
    refine ⟨v :: vs, by simp [h1], fun j o' v' ho hv => ?_, h3⟩
    cases j with
    | zero =>
      simp only [List.getElem?_cons_zero, Option.some.injEq] at ho hv
      subst ho hv
      exact hob
    | succ j =>
      simp only [List.getElem?_cons_succ] at ho hv
      exact h2 j o' v' ho hv
theorem wpFS_vals : ∀ (k : Nat) (l : List Oper) (a : Act), wpFS P ops I fs FS St E (some k) l a → ∃ vs : List Value, vs.length = l.length ∧
    (∀ (j : Nat) o v, l[j]? = some o → vs[j]? = some v → (j < k → Ob P ops I fs FS o v (lex l vs a j)) ∧ (j = k → StOb P ops I fs FS St o (lex l vs a j)) ∧ (k < j → PureOb P ops fs o v (lex l vs a j))) ∧ E (lex l vs a l.length)
  | _, [], a, h => ⟨[], rfl, by simp, h⟩
  | 0, o :: r, a, ⟨hob, hr⟩ => by
    obtain ⟨vs, h1, h2, h3⟩ := wpFS_vals0 r _ hr
    have hput : a.put o.dst undef = a := by rw [hob.1]; rfl
    refine ⟨undef :: vs, by simp [h1], fun j o' v' ho hv => ?_, ?_⟩
    · cases j with
      | zero =>
        simp only [List.getElem?_cons_zero, Option.some.injEq] at ho hv
        subst ho hv
        exact ⟨by omega, fun _ => hob, by omega⟩
      | succ j =>
        simp only [List.getElem?_cons_succ] at ho hv
        refine ⟨by omega, by omega, fun _ => ?_⟩
        show PureOb P ops fs o' v' (lex r vs (a.put o.dst undef) j)
        rw [hput]
        exact h2 j o' v' ho hv
    · show E (lex r vs (a.put o.dst undef) r.length)
      rw [hput]
      exact h3
  | k + 1, o :: r, a, ⟨v, hob, hr⟩ => by
    obtain ⟨vs, h1, h2, h3⟩ := wpFS_vals k r _ hr
    refine ⟨v :: vs, by simp [h1], fun j o' v' ho hv => ?_, h3⟩
    cases j with
    | zero =>
      simp only [List.getElem?_cons_zero, Option.some.injEq] at ho hv
      subst ho hv
      exact ⟨fun _ => hob, by omega, by omega⟩
    | succ j =>
      simp only [List.getElem?_cons_succ] at ho hv
      obtain ⟨q1, q2, q3⟩ := h2 j o' v' ho hv
      exact ⟨fun h => q1 (by omega), fun h => q2 (by omega), fun h => q3 (by omega)⟩
end
/-- k waits for j, by way of others -/
def reachB (md : Region.Mode) (ops : Array Oper) : Nat → Nat → Nat → Bool
  | 0, _, _ => false
  | f + 1, k, j => match ops[k]? with
    | none => false
    | some o => o.after.any fun e => Region.binds md e && (e.on == j || reachB md ops f e.on j)
theorem reach_listed {listed : Array Bool} {b : Act} {w : World} (h : Inv l vs fs FS I a0 listed b w) : ∀ (f m j : Nat), listed.getD m true = true → reachB .any l.toArray f m j = true → listed.getD j true = true
  | 0, _, _, _, hr => by simp [reachB] at hr
  | f + 1, m, j, hm, hr => by
    unfold reachB at hr
    cases ho : l.toArray[m]? with
    | none => rw [ho] at hr; cases hr
    | some o =>
      rw [ho] at hr
      obtain ⟨e, he, hb⟩ := Array.any_eq_true'.1 hr
      simp only [Bool.and_eq_true, Bool.or_eq_true, beq_iff_eq] at hb
      have h1 := h.down m o (by simpa using ho) hm e he hb.1
      rcases hb.2 with rfl | h2
      · exact h1
      · exact reach_listed h f e.on j h1 h2
theorem reach_ready {listed : Array Bool} {b : Act} {w : World} (h : Inv l vs fs FS I a0 listed b w) {k : Nat} {o : Oper} (ho : l[k]? = some o) (hp : ∀ e ∈ o.after, Region.binds .any e = true → listed.getD e.on true = true) (f j : Nat) (hr : reachB .any l.toArray f k j = true) : listed.getD j true = true := by
  cases f with
  | zero => simp [reachB] at hr
  | succ f =>
    unfold reachB at hr
    have ho' : l.toArray[k]? = some o := by simpa using ho
    rw [ho'] at hr
    obtain ⟨e, he, hb⟩ := Array.any_eq_true'.1 hr
    simp only [Bool.and_eq_true, Bool.or_eq_true, beq_iff_eq] at hb
    have h1 := hp e he hb.1
    rcases hb.2 with rfl | h2
    · exact h1
    · exact reach_listed h f e.on j h1 h2

theorem any_of_FS {N k f : Nat} {late : Nat → Bool} {Q' : Exit → Act → World → Prop} {St : (Tmp → Value) → World → World → Prop} (hR : RG .any l.toArray N) (hN : N ≤ a0.tmps.size) (hlen : vs.length = l.length) (hI : Closed I) (hF : ∀ s x w w', FS s x w → Below w.heap.size w w' → FS s x w')
    (hob : ∀ (j : Nat) o v, l[j]? = some o → vs[j]? = some v → (j < k → Ob P l.toArray I fs FS o v (lex l vs a0 j)) ∧ (j = k → StOb P l.toArray I fs FS St o (lex l vs a0 j)) ∧ (k < j ∨ late j = true → PureOb P l.toArray fs o v (lex l vs a0 j)))
    (hk : k < l.length) (hreach : ∀ j, j < k → late j = false → reachB .any l.toArray f k j = true) (hfs : ∀ s ∈ fs, ∃ (j : Nat) (o : Oper), j < k ∧ late j = false ∧ l[j]? = some o ∧ o.dst = some s)
    (hQ : ∀ (listed : Array Bool) b W w xs, (∀ j, listed.getD j true = true) → Inv l vs fs FS I a0 listed b W → (∀ s ∈ fs, b.tmps[s]? = some (xs s) ∧ FS s (xs s) W) → St xs W w → Q' .normal b w) :
    ∀ (fuel : Nat) (listed : Array Bool) (b : Act) (W w : World), listed.toList.count false ≤ fuel → Inv l vs fs FS I a0 listed b W →
      ((listed.getD k true = false ∧ w = W) ∨ (listed.getD k true = true ∧ ∃ xs, (∀ s ∈ fs, b.tmps[s]? = some (xs s) ∧ FS s (xs s) W) ∧ St xs W w)) → wpAny P .any l.toArray Q' fuel listed b w
  | 0, listed, b, W, w, hc, h, hp => by
    have hall := count_zero (L := listed) (by omega)
    rcases hp with ⟨h0, _⟩ | ⟨_, xs, hx, hst⟩
    · rw [hall k] at h0; cases h0
    refine ⟨?_, hQ listed b W w xs hall h hx hst⟩
    rw [List.eq_nil_iff_forall_not_mem]
    intro i hi
    have := (mem_ready.1 hi).1
    rw [hall i] at this
    cases this
  | fuel + 1, listed, b, W, w, hc, h, hph => by
    refine ⟨fun h0 => ?_, fun i hi => ?_⟩
    · have hall := ready_all hR h.lsize h0
      rcases hph with ⟨h0, _⟩ | ⟨_, xs, hx, hst⟩
      · rw [hall k] at h0; cases h0
      · exact hQ listed b W w xs hall h hx hst
    obtain ⟨hun, o, ho, hall⟩ := mem_ready.1 hi
    have ho2 : l[i]? = some o := by simpa using ho
    have hp : ∀ e ∈ o.after, Region.binds .any e = true → listed.getD e.on true = true := fun e he hb => by
      have h1 := hall e he hb
      rw [Array.getD_eq_getD_getElem?] at h1 ⊢
      cases hx : listed[e.on]? with
      | none => rfl
      | some y => rw [hx] at h1; simpa using h1
    obtain ⟨v, hv⟩ : ∃ v, vs[i]? = some v := ⟨_, List.getElem?_eq_getElem (by rw [hlen]; exact (List.getElem?_eq_some_iff.1 ho2).1)⟩
    obtain ⟨q1, q2, q3⟩ := hob i o v ho2 hv
    have hcnt := count_set hun
    have hsel : ∀ cs c, o.op ≠ .select cs c := fun cs c => hR.sel i o cs c ho
    have ag : ∀ d ∈ o.looksAt l.toArray, d ∉ fs → (lex l vs a0 i).tmps[d]? = b.tmps[d]? := fun d hd hf => h.agree hR hN hlen ho2 hun hp hd hf
    rcases hph with ⟨hk0, rfl⟩ | ⟨hk1, xs, hx, hst⟩
    · by_cases hik : i = k
      · subst hik
        obtain ⟨hdst, hstore⟩ := q2 rfl
        have got : ∀ s ∈ fs, ∃ x, b.tmps[s]? = some x ∧ FS s x w ∧ s < (lex l vs a0 i).tmps.size := fun s hs => by
          obtain ⟨j, oj, hji, hlj, hoj, hdj⟩ := hfs s hs
          obtain ⟨vj, hvj⟩ : ∃ v, vs[j]? = some v := ⟨_, List.getElem?_eq_getElem (by rw [hlen]; exact (List.getElem?_eq_some_iff.1 hoj).1)⟩
          obtain ⟨x, hbx, hfx⟩ := (h.ins j oj s vj hoj (reach_ready h ho2 hp f j (hreach j hji hlj)) hdj hvj).1 hs
          exact ⟨x, hbx, hfx, by rw [(lex_size l vs a0 i).1]; exact Nat.lt_of_lt_of_le (hR.small j oj s (by simpa using hoj) hdj) hN⟩
        have hxs : ∀ s ∈ fs, b.tmps[s]? = some (b.tmps.getD s undef) ∧ FS s (b.tmps.getD s undef) w := fun s hs => by
          obtain ⟨x, hbx, hfx, _⟩ := got s hs
          simpa [hbx] using hfx
        have ag2 : ∀ d ∈ o.looksAt l.toArray, (fill fs (fun s => b.tmps.getD s undef) (lex l vs a0 i)).tmps[d]? = b.tmps[d]? := fun d hd => by
          by_cases hdf : d ∈ fs
          · obtain ⟨x, hbx, _, hlt⟩ := got d hdf
            rw [fill_in fs _ _ d hdf hlt, hbx]
            simp [hbx]
          · rw [fill_out fs _ _ d hdf]
            exact ag d hd hdf
        obtain ⟨hwt, h3⟩ := hstore (fun s => b.tmps.getD s undef) w h.cls fun s hs => (hxs s hs).2
        rw [wanted_agree (ops := l.toArray) ag2] at hwt
        rw [exec_agree (ops := l.toArray) hsel ag2] at h3
        have hin : ∀ u, Inv l vs fs FS I a0 (listed.setIfInBounds i true) (b.put o.dst u) w := fun u => h.next hR hN hI hF ho2 hp (Below.refl _ _) fun d hd => by rw [hdst] at hd; cases hd
        have hput : ∀ u, b.put o.dst u = b := fun u => by rw [hdst]; rfl
        have kk : ∀ u w', St (fun s => b.tmps.getD s undef) w w' → wpAny P .any l.toArray Q' fuel (listed.setIfInBounds i true) (b.put o.dst u) w' := fun u w' hs =>
          any_of_FS hR hN hlen hI hF hob hk hreach hfs hQ fuel _ _ w w' (by omega) (hin u) (.inr ⟨getD_set_same _ _, _, by rw [hput u]; exact hxs, hs⟩)
        unfold Go.wpOp
        simp only [ho]
        rw [if_pos hwt]
        left
        unfold Oper.wp
        generalize (execOp b.eval o).run P w = r at h3
        cases r with
        | ok n w' =>
          cases n <;> simp only [stUpon] at h3 <;> simp only [Oper.upon]
          case value u => exact kk _ _ h3
          case skip => exact kk _ _ h3
        | halt x w' => simp only [stUpon] at h3
      · have hob' : Ob P l.toArray I fs FS o v (lex l vs a0 i) := by
          rcases Nat.lt_or_gt_of_ne hik with hlt | hgt
          · exact q1 hlt
          · exact (q3 (.inl hgt)).ob
        exact op_of_F hR hN hlen h ho2 hun hp hv hob' fun u w' hb hu =>
          any_of_FS hR hN hlen hI hF hob hk hreach hfs hQ fuel _ _ w' w' (by omega) (h.next hR hN hI hF ho2 hp hb hu) (.inl ⟨by rw [getD_set_far _ hik]; exact hk0, rfl⟩)
    · have hki : k < i ∨ late i = true := by
        rcases Nat.lt_trichotomy i k with hlt | rfl | hgt
        · cases hla : late i with
          | true => exact .inr rfl
          | false => rw [reach_listed h f k i hk1 (hreach i hlt hla)] at hun; cases hun
        · rw [hk1] at hun; cases hun
        · exact .inl hgt
      obtain ⟨h1, h2, h3⟩ := q3 hki
      have he := exec_agree (ops := l.toArray) hsel fun d hd => ag d hd (h1 d hd)
      have hw := wanted_agree (ops := l.toArray) fun d hd => ag d hd (h1 d hd)
      have kv : wpAny P .any l.toArray Q' fuel (listed.setIfInBounds i true) (b.put o.dst v) w :=
        any_of_FS hR hN hlen hI hF hob hk hreach hfs hQ fuel _ _ W w (by omega) (h.next hR hN hI hF ho2 hp (Below.refl _ _) fun d hd => ⟨fun hf => absurd hf (h2 d hd), fun _ => hv⟩)
          (.inr ⟨getD_set_up _ hk1, xs, fun s hs => ⟨by rw [put_other v (fun e => h2 s e hs)]; exact (hx s hs).1, (hx s hs).2⟩, hst⟩)
      unfold Go.wpOp
      simp only [ho]
      rcases h3 with ⟨hwt, hval⟩ | ⟨hwf, rfl⟩
      · rw [hw] at hwt
        rw [if_pos hwt]
        left
        have h4 := hval w
        rw [he] at h4
        unfold Oper.wp
        generalize (execOp b.eval o).run P w = r at h4
        cases r with
        | ok n w' =>
          cases n <;> simp only [purUpon] at h4 <;> simp only [Oper.upon]
          case value u => obtain ⟨rfl, rfl⟩ := h4; exact kv
          case skip => obtain ⟨rfl, rfl⟩ := h4; exact kv
        | halt x w' => simp only [purUpon] at h4
      · rw [hw] at hwf
        rw [hwf, if_neg (by simp)]
        exact kv

theorem anyof_FS {Q : Exit → Act → World → Prop} {a : Act} {w : World} {l : List Oper} {vs : List Value} {N k f : Nat} {late : Nat → Bool} {fs : List Tmp} {FS : Tmp → Value → World → Prop} {I : World → Prop} {St : (Tmp → Value) → World → World → Prop} (hR : RG .any l.toArray N)
    (hk' : k < l.length) (hreach : ∀ j, j < k → late j = false → reachB .any l.toArray f k j = true) (hfs' : ∀ s ∈ fs, ∃ (j : Nat) (o : Oper), j < k ∧ late j = false ∧ l[j]? = some o ∧ o.dst = some s) (hN : N ≤ a.tmps.size) (hI : Closed I) (hF : ∀ s x w w', FS s x w → Below w.heap.size w w' → FS s x w') (hC : I w.drew)
    (hlen : vs.length = l.length) (hob : ∀ (j : Nat) o v, l[j]? = some o → vs[j]? = some v → (j < k → Ob P l.toArray I fs FS o v (lex l vs a j)) ∧ (j = k → StOb P l.toArray I fs FS St o (lex l vs a j)) ∧ (k < j ∨ late j = true → PureOb P l.toArray fs o v (lex l vs a j)))
    (hE : ∀ xs W w', I W → (∀ s ∈ fs, FS s (xs s) W) → St xs W w' → Q .normal (fill fs xs (lex l vs a l.length)) w') : wpAny P .any l.toArray Q l.toArray.size (Array.replicate l.toArray.size false) a w.drew := by
  refine any_of_FS (l := l) (vs := vs) (fs := fs) (FS := FS) (I := I) (a0 := a) (St := St) (k := k) (f := f) (late := late) hR hN hlen hI hF hob hk' hreach hfs' ?_ _ _ _ w.drew _ ?_ ?_ ?_
  · intro listed b W w' xs hall hinv hx hst
    have hb : b = fill fs xs (lex l vs a l.length) := by
      have ht : b.tmps = (fill fs xs (lex l vs a l.length)).tmps := by
        apply Array.ext_getElem?
        intro d
        by_cases hd : d ∈ fs
        · have hlt : d < (lex l vs a l.length).tmps.size := by
            rw [(lex_size l vs a l.length).1, ← hinv.size]
            exact (Array.getElem?_eq_some_iff.1 (hx d hd).1).1
          rw [fill_in fs _ _ d hd hlt, (hx d hd).1]
        · rw [fill_out fs _ _ d hd]
          by_cases hwr : ∃ (j : Nat) (oj : Oper), l[j]? = some oj ∧ oj.dst = some d
          · obtain ⟨j, oj, hj, hdj⟩ := hwr
            obtain ⟨v, hv⟩ : ∃ v, vs[j]? = some v := ⟨_, List.getElem?_eq_getElem (by rw [hlen]; exact (List.getElem?_eq_some_iff.1 hj).1)⟩
            have hj' : l.toArray[j]? = some oj := by simpa using hj
            rw [(hinv.ins j oj d v hj (hall j) hdj hv).2 hd]
            exact (lex_in l vs a l.length j oj d v hj (List.getElem?_eq_some_iff.1 hj).1 hv hdj (Nat.lt_of_lt_of_le (hR.small _ _ _ hj' hdj) hN) fun i oi hi _ hne => hR.once i j oi oj d (by simpa using hi) hj' hdj hne).symm
          · rw [lex_out l vs a l.length d fun i oi hi _ hdi => hwr ⟨i, oi, hi, hdi⟩]
            exact hinv.out d fun i oi hi _ hdi => hwr ⟨i, oi, hi, hdi⟩
      have hd : b.defers = (fill fs xs (lex l vs a l.length)).defers := by
        rw [(fill_size ..).2, (lex_size ..).2]
        exact hinv.defers
      cases b
      simp only at ht hd
      rw [Act.mk.injEq]
      exact ⟨ht, hd⟩
    rw [hb]
    exact hE xs W w' hinv.cls (fun s hs => (hx s hs).2) hst
  · simp
  · refine ⟨hC, rfl, rfl, fun _ _ => rfl, fun j o d v hj hlj => ?_, fun j o hj hlj => ?_, by simp⟩
    all_goals
      have hlt := (List.getElem?_eq_some_iff.1 hj).1
      rw [Array.getD_eq_getD_getElem?] at hlj
      simp [hlt] at hlj
  · refine .inl ⟨?_, rfl⟩
    rw [Array.getD_eq_getD_getElem?]
    simp [hk']
theorem region_of_FS {id : Nat} {Q : Exit → Act → World → Prop} {a : Act} {w : World} {l : List Oper} {vs : List Value} {N k f : Nat} {late : Nat → Bool} {fs : List Tmp} {FS : Tmp → Value → World → Prop} {I : World → Prop} {St : (Tmp → Value) → World → World → Prop} (hm : P.follows .mixedOrders = true) (hR : RG .any l.toArray N)
    (hk' : k < l.length) (hreach : ∀ j, j < k → late j = false → reachB .any l.toArray f k j = true) (hfs' : ∀ s ∈ fs, ∃ (j : Nat) (o : Oper), j < k ∧ late j = false ∧ l[j]? = some o ∧ o.dst = some s) (hN : N ≤ a.tmps.size) (hI : Closed I) (hF : ∀ s x w w', FS s x w → Below w.heap.size w w' → FS s x w') (hC : I w.drew)
    (hlen : vs.length = l.length) (hob : ∀ (j : Nat) o v, l[j]? = some o → vs[j]? = some v → (j < k → Ob P l.toArray I fs FS o v (lex l vs a j)) ∧ (j = k → StOb P l.toArray I fs FS St o (lex l vs a j)) ∧ (k < j ∨ late j = true → PureOb P l.toArray fs o v (lex l vs a j)))
    (hE : ∀ xs W w', I W → (∀ s ∈ fs, FS s (xs s) W) → St xs W w' → Q .normal (fill fs xs (lex l vs a l.length)) w') : (Code.region id l.toArray true).wp P Q a w :=
  wp_region_any hm (anyof_FS (vs := vs) (k := k) (f := f) (late := late) (fs := fs) (FS := FS) (I := I) (St := St) hR hk' hreach hfs' hN hI hF hC hlen hob hE)
/-- ONE WALK IN THE TEXT's ORDER SERVES EVERY ORDER, the store at place k -/
theorem any_region_FS {Q : Exit → Act → World → Prop} {a : Act} {w : World} {l : List Oper} (N k f : Nat) (fs : List Tmp) (FS : Tmp → Value → World → Prop) (I : World → Prop) (St : (Tmp → Value) → World → World → Prop) (hB : rgB .any l.toArray N = true)
    (hk : decide (k < l.length) = true) (hreach : ((List.range k).all fun j => reachB .any l.toArray f k j) = true) (hfs : (fs.all fun s => (l.take k).any fun o => o.dst == some s) = true) (hN : N ≤ a.tmps.size) (hI : Closed I) (hF : ∀ s x w w', FS s x w → Below w.heap.size w w' → FS s x w') (hC : I w.drew)
    (h : wpFS P l.toArray I fs FS St (fun a' => ∀ xs W w', I W → (∀ s ∈ fs, FS s (xs s) W) → St xs W w' → Q .normal (fill fs xs a') w') (some k) l a) : wpAny P .any l.toArray Q l.toArray.size (Array.replicate l.toArray.size false) a w.drew := by
  have hR := rgB_spec hB
  have hk' : k < l.length := by simpa using hk
  obtain ⟨vs, hlen, hob, hE⟩ := wpFS_vals k l a h
  have hfs' : ∀ s ∈ fs, ∃ (j : Nat) (o : Oper), j < k ∧ (fun _ : Nat => false) j = false ∧ l[j]? = some o ∧ o.dst = some s := fun s hs => by
    rw [List.all_eq_true] at hfs
    have h1 := hfs s hs
    rw [List.any_eq_true] at h1
    obtain ⟨o, ho, hd⟩ := h1
    obtain ⟨j, hj, rfl⟩ := List.getElem_of_mem ho
    have hj1 : j < k := by rw [List.length_take] at hj; omega
    have hj2 : j < l.length := by rw [List.length_take] at hj; omega
    exact ⟨j, l[j], hj1, rfl, List.getElem?_eq_getElem hj2, by simpa using hd⟩
  exact anyof_FS (late := fun _ => false) hR hk' (fun j hj _ => by rw [List.all_eq_true] at hreach; exact hreach j (List.mem_range.2 hj)) hfs' hN hI hF hC hlen (fun j o v h1 h2 => ⟨(hob j o v h1 h2).1, (hob j o v h1 h2).2.1, fun h => (hob j o v h1 h2).2.2 (h.elim (fun h => h) (fun h => absurd h Bool.false_ne_true))⟩) hE
theorem wp_region_FS {id : Nat} {Q : Exit → Act → World → Prop} {a : Act} {w : World} {l : List Oper} (N k f : Nat) (fs : List Tmp) (FS : Tmp → Value → World → Prop) (I : World → Prop) (St : (Tmp → Value) → World → World → Prop) (hm : P.follows .mixedOrders = true) (hB : rgB .any l.toArray N = true)
    (hk : decide (k < l.length) = true) (hreach : ((List.range k).all fun j => reachB .any l.toArray f k j) = true) (hfs : (fs.all fun s => (l.take k).any fun o => o.dst == some s) = true) (hN : N ≤ a.tmps.size) (hI : Closed I) (hF : ∀ s x w w', FS s x w → Below w.heap.size w w' → FS s x w') (hC : I w.drew)
    (h : wpFS P l.toArray I fs FS St (fun a' => ∀ xs W w', I W → (∀ s ∈ fs, FS s (xs s) W) → St xs W w' → Q .normal (fill fs xs a') w') (some k) l a) : (Code.region id l.toArray true).wp P Q a w :=
  wp_region_any hm (any_region_FS N k f fs FS I St hB hk hreach hfs hN hI hF hC h)

/-! ### its steps -/
section
variable {St : (Tmp → Value) → World → World → Prop} {E : Act → Prop} {o : Oper} {rest : List Oper} {a : Act}
/-- any of XQ6's steps: shown of the operation alone, with what follows taken as it comes -/
theorem wpFS_step {k : Nat} (h : wpF P l.toArray I fs FS (fun a' => wpFS P l.toArray I fs FS St E (some k) rest a') [o] a) : wpFS P l.toArray I fs FS St E (some (k + 1)) (o :: rest) a := by
  obtain ⟨v, hob, hr⟩ := h
  exact ⟨v, hob, hr⟩
/-- the store -/
theorem wpFS_store {t : TypeId} {x y : Operand} (ho : o.op = .store t x y) (hd : o.dst = none) (hg : o.guard = none) (ad : Addr) (v : (Tmp → Value) → Value) (hx : ∀ xs, (fill fs xs a).eval x = .pointer (some ad)) (hy : ∀ xs, (fill fs xs a).eval y = v xs)
    (hrun : ∀ xs w, I w → (∀ s ∈ fs, FS s (xs s) w) → ∃ w', (Instr.storeAt t (.pointer (some ad)) (v xs)).run P w = .ok () w' ∧ St xs w w') (h : wpFS P l.toArray I fs FS St E none rest a) : wpFS P l.toArray I fs FS St E (some 0) (o :: rest) a := by
  refine ⟨⟨hd, fun xs w hI hs => ⟨by simp [Region.wanted, hg], ?_⟩⟩, h⟩
  obtain ⟨w', hr, hst⟩ := hrun xs w hI hs
  unfold execOp
  simp only [ho, hx xs, hy xs]
  rw [Sem.run_bind, hr]
  exact hst
/-- behind the store -/
theorem wpFS_pure (hk : kindOf o = 0) (hn : noB l.toArray fs o = true) (h : wpQuiet P l.toArray (fun _ => True) (fun a' => wpFS P l.toArray I fs FS St E none rest a') [o] a) : wpFS P l.toArray I fs FS St E none (o :: rest) a := by
  obtain ⟨h1, h2⟩ := noB_spec hn
  unfold wpQuiet at h
  by_cases hw : Region.wanted o (yielded l.toArray a.tmps) = true
  · simp only [hw, if_true] at h
    obtain ⟨v, hv, hr⟩ := h
    refine ⟨v, ⟨h1, h2, .inl ⟨hw, fun w => ?_⟩⟩, hr⟩
    have h3 := hv w trivial
    have h4 := pure_no_enter (P := P) (kind_pure hk) a.eval w
    unfold Oper.quietAt at h3
    generalize (execOp a.eval o).run P w = r at h3 h4
    cases r with
    | ok n w' =>
      cases n with
      | enter f args => exact absurd rfl (h4 w' f args)
      | value u => exact h3
      | skip => exact h3
      | _ => simp only [Oper.quietUpon] at h3
    | halt x w' => simp only [Oper.quietUpon] at h3
  · simp only [hw] at h
    exact ⟨undef, ⟨h1, h2, .inr ⟨by simpa using hw, rfl⟩⟩, h⟩
end
end
end Go.Proofs.Ytfdbcfkjablnkaa

namespace Go.Proofs.Ytfdbcfkjablnkaa
open Go.RowKit
section
variable {P : Program} {l : List Oper} {fs : List Tmp} {FS : Tmp → Value → World → Prop} {I : World → Prop} {E : Act → Prop} {o : Oper} {rest : List Oper} {a : Act}
/-- an operation whose value is the same in every world of the class, and which leaves the world -/
theorem wpF_val (v : Value) (hn : noB l.toArray fs o = true) (hw : Region.wanted o (yielded l.toArray a.tmps) = true)
    (hrun : ∀ w, I w → (execOp a.eval o).run P w = .ok (.value v) w) (h : wpF P l.toArray I fs FS E rest (a.put o.dst v)) : wpF P l.toArray I fs FS E (o :: rest) a := by
  obtain ⟨h1, h2⟩ := noB_spec hn
  refine ⟨v, .inl ⟨h1, h2, .inl ⟨hw, fun w hI => ?_⟩⟩, h⟩
  rw [hrun w hI]
  exact ⟨rfl, rfl⟩
theorem wpF_nil {x : Operand} {ad : Addr} (hop : o.op = .nilCheck x) (hn : noB l.toArray fs o = true) (hw : Region.wanted o (yielded l.toArray a.tmps) = true) (hx : a.eval x = .pointer (some ad))
    (h : wpF P l.toArray I fs FS E rest (a.put o.dst (.pointer (some ad)))) : wpF P l.toArray I fs FS E (o :: rest) a :=
  wpF_val _ hn hw (fun w _ => by simp only [execOp, hop, hx]; rfl) h
/-- the store of XQ7's law, to an address that a source has given -/
theorem wpFS_storeX {St : (Tmp → Value) → World → World → Prop} {t : TypeId} {x y : Operand} (ho : o.op = .store t x y) (hd : o.dst = none) (hg : o.guard = none)
    (hrun : ∀ xs w, I w → (∀ s ∈ fs, FS s (xs s) w) → ∃ w', (Instr.storeAt t ((fill fs xs a).eval x) ((fill fs xs a).eval y)).run P w = .ok () w' ∧ St xs w w') (h : wpFS P l.toArray I fs FS St E none rest a) : wpFS P l.toArray I fs FS St E (some 0) (o :: rest) a := by
  refine ⟨⟨hd, fun xs w hI hs => ⟨by simp [Region.wanted, hg], ?_⟩⟩, h⟩
  obtain ⟨w', hr, hst⟩ := hrun xs w hI hs
  unfold execOp
  simp only [ho]
  rw [Sem.run_bind, hr]
  exact hst
end
end Go.Proofs.Ytfdbcfkjablnkaa

namespace Go.Proofs.Ytfdbcfkjablnkaa
open Go.RowKit
section
variable {P : Program} {l : List Oper} {vs : List Value} {fs : List Tmp} {FS : Tmp → Value → World → Prop} {I : World → Prop} {a0 : Act}
theorem lex_take : ∀ (l : List Oper) (vs us : List Value) (a : Act) (n j : Nat), j ≤ n → vs.length = (l.take n).length → lex (l.take n) vs a j = lex l (vs ++ us) a j
  | _, _, _, _, _, 0, _, _ => by rw [lex_zero, lex_zero]
  | [], vs, us, a, n, j + 1, _, _ => by simp [lex]
  | o :: r, [], us, a, n + 1, j + 1, _, h2 => by simp at h2
  | o :: r, v :: vs, us, a, n + 1, j + 1, h1, h2 => by
    rw [List.take_succ_cons, List.cons_append, lex, lex]
    exact lex_take r vs us _ n j (by omega) (by simpa using h2)
theorem count_take {L : Array Bool} {n i : Nat} (hi : i < n) (h : L.getD i true = false) : ((L.setIfInBounds i true).toList.take n).count false + 1 = (L.toList.take n).count false := by
  have hL : (L.setIfInBounds i true).toList.take n = (((L.toList.take n).toArray).setIfInBounds i true).toList := by
    simp [List.take_set]
  rw [hL]
  refine count_set (L := (L.toList.take n).toArray) ?_
  rw [Array.getD_eq_getD_getElem?] at h ⊢
  simpa [List.getElem?_take, hi] using h
theorem count_take_zero {L : Array Bool} {n : Nat} (h : (L.toList.take n).count false = 0) (j : Nat) (hj : j < n) : L.getD j true = true := by
  have := count_zero (L := (L.toList.take n).toArray) (by simpa using h) j
  rw [Array.getD_eq_getD_getElem?] at this ⊢
  simpa [List.getElem?_take, hj] using this
theorem count_take_pos {L : Array Bool} {n f : Nat} (h : (L.toList.take n).count false = f + 1) : ∃ i, i < n ∧ L.getD i true = false := by
  have : 0 < (L.toList.take n).count false := by omega
  rw [List.count_pos_iff] at this
  obtain ⟨i, hi, hv⟩ := List.getElem_of_mem this
  rw [List.length_take] at hi
  refine ⟨i, by omega, ?_⟩
  rw [Array.getD_eq_getD_getElem?]
  have h2 : i < L.size := by have : L.toList.length = L.size := by simp
                             omega
  rw [List.getElem_take] at hv
  simp [h2]
  simpa using hv

theorem any_of_FT {N n : Nat} {Q' : Exit → Act → World → Prop} (hR : RG .any l.toArray N) (hN : N ≤ a0.tmps.size) (hlen : vs.length = l.length) (hI : Closed I) (hF : ∀ s x w w', FS s x w → Below w.heap.size w w' → FS s x w')
    (hob : ∀ (j : Nat) o v, j < n → l[j]? = some o → vs[j]? = some v → Ob P l.toArray I fs FS o v (lex l vs a0 j)) (hn : n < l.length) (hs : Region.sinkB .any l.toArray n = true) (hc : Region.chainB .any l.toArray n = true)
    (hQ : ∀ (listed : Array Bool) b w, (∀ j, j < n → listed.getD j true = true) → (∀ t, n ≤ t → t < l.length → listed.getD t true = false) → Inv l vs fs FS I a0 listed b w → wpAny P .any l.toArray Q' (l.length - n) listed b w) :
    ∀ (f : Nat) (listed : Array Bool) (b : Act) (w : World), (listed.toList.take n).count false = f → HeadInv .any l.toArray n listed → Inv l vs fs FS I a0 listed b w → wpAny P .any l.toArray Q' (f + (l.length - n)) listed b w
  | 0, listed, b, w, hcn, hh, h => by
    rw [Nat.zero_add]
    exact hQ listed b w (fun j hj => count_take_zero hcn j hj) (fun t h1 h2 => hh.tail t h1 (by simpa using h2)) h
  | f + 1, listed, b, w, hcn, hh, h => by
    obtain ⟨i0, hi0, hu0⟩ := count_take_pos hcn
    rw [show f + 1 + (l.length - n) = (f + (l.length - n)) + 1 by omega]
    refine ⟨fun h0 => ?_, fun i hi => ?_⟩
    · have hall := ready_all hR h.lsize h0
      rw [hall i0] at hu0
      cases hu0
    have hin : i < n := by
      rcases Nat.lt_or_ge i n with h1 | h1
      · exact h1
      · exact absurd hi (tail_waits hs hc (by simpa using hn) hh _ i0 rfl hi0 hu0 i h1)
    obtain ⟨hun, o, ho, hall⟩ := mem_ready.1 hi
    have ho2 : l[i]? = some o := by simpa using ho
    have hp : ∀ e ∈ o.after, Region.binds .any e = true → listed.getD e.on true = true := fun e he hb => by
      have h1 := hall e he hb
      rw [Array.getD_eq_getD_getElem?] at h1 ⊢
      cases hx : listed[e.on]? with
      | none => rfl
      | some y => rw [hx] at h1; simpa using h1
    obtain ⟨v, hv⟩ : ∃ v, vs[i]? = some v := ⟨_, List.getElem?_eq_getElem (by rw [hlen]; exact (List.getElem?_eq_some_iff.1 ho2).1)⟩
    have hcnt := count_take hin hun
    exact op_of_F hR hN hlen h ho2 hun hp hv (hob i o v hin ho2 hv) fun u w' hb hu =>
      any_of_FT hR hN hlen hI hF hob hn hs hc hQ f _ _ w' (by omega) (hh.set hi hin) (h.next hR hN hI hF ho2 hp hb hu)

/-- ONE WALK IN THE TEXT's ORDER SERVES EVERY ORDER; the tail, behind place n, as it stands -/
theorem wp_region_FT {id : Nat} {Q : Exit → Act → World → Prop} {a : Act} {w : World} {l : List Oper} (N n : Nat) (fs : List Tmp) (FS : Tmp → Value → World → Prop) (I : World → Prop) (hm : P.follows .mixedOrders = true) (hB : rgB .any l.toArray N = true)
    (hn : decide (n < l.length) = true) (hs : Region.sinkB .any l.toArray n = true) (hc : Region.chainB .any l.toArray n = true)
    (hq : Region.seqB .any l.toArray (l.length - n) n (List.replicate n true ++ List.replicate (l.length - n) false).toArray = true)
    (hfs : (fs.all fun s => (l.take n).any fun o => o.dst == some s) = true) (hN : N ≤ a.tmps.size) (hI : Closed I) (hF : ∀ s x w w', FS s x w → Below w.heap.size w w' → FS s x w') (hC : I w.drew)
    (h : wpF P l.toArray I fs FS (fun a' => ∀ xs w', I w' → (∀ s ∈ fs, FS s (xs s) w') → wpList P l.toArray Q (l.drop n) (fill fs xs a') w') (l.take n) a) : (Code.region id l.toArray true).wp P Q a w := by
  have hR := rgB_spec hB
  have hn' : n < l.length := by simpa using hn
  obtain ⟨vs0, hlen0, hob0, hE0⟩ := wpF_vals (l.take n) a h
  have htl : (l.take n).length = n := by rw [List.length_take]; omega
  rw [htl] at hlen0 hE0
  obtain ⟨vs, hvs⟩ : ∃ vs, vs0 ++ List.replicate (l.length - n) undef = vs := ⟨_, rfl⟩
  have hlen : vs.length = l.length := by rw [← hvs, List.length_append, List.length_replicate]; omega
  have hlex : ∀ j, j ≤ n → lex (l.take n) vs0 a j = lex l vs a j := fun j hj => by rw [← hvs]; exact lex_take l vs0 _ a n j hj (by rw [hlen0, htl])
  have hob : ∀ (j : Nat) o v, j < n → l[j]? = some o → vs[j]? = some v → Ob P l.toArray I fs FS o v (lex l vs a j) := fun j o v hj ho hv => by
    rw [← hlex j (by omega)]
    refine hob0 j o v (by rw [List.getElem?_take, if_pos hj]; exact ho) ?_
    rw [← hvs, List.getElem?_append_left (by omega)] at hv
    exact hv
  rw [hlex n (Nat.le_refl _)] at hE0
  have inv0 : HeadInv .any l.toArray n (Array.replicate l.toArray.size false) :=
    ⟨by simp, fun j oj _ hl => (by rw [getD_replicate_false] at hl; cases hl), fun t _ ht => getD_in (by simpa using ht) (getD_replicate_false _ _)⟩
  refine wp_region_any hm ?_
  have key := any_of_FT (Q' := Q) (l := l) (vs := vs) (fs := fs) (FS := FS) (I := I) (a0 := a) (n := n) hR hN hlen hI hF hob hn' hs hc ?_ n (Array.replicate l.toArray.size false) a w.drew (by
      simp only [List.size_toArray, Array.toList_replicate, List.take_replicate, List.count_replicate_self]; omega) inv0 ?_
  · rw [show n + (l.length - n) = l.toArray.size by simp; omega] at key
    exact key
  · intro listed b W hall hno hinv
    have hw : ∀ s ∈ fs, ∃ x, b.tmps[s]? = some x ∧ FS s x W := fun s hs => by
      rw [List.all_eq_true] at hfs
      have h1 := hfs s hs
      rw [List.any_eq_true] at h1
      obtain ⟨o, ho, hd⟩ := h1
      obtain ⟨j, hj, rfl⟩ := List.getElem_of_mem ho
      have hj1 : j < n := by rw [List.length_take] at hj; omega
      have hj2 : j < l.length := by omega
      have hd' : (l[j]).dst = some s := by simpa using hd
      obtain ⟨v, hv⟩ : ∃ v, vs[j]? = some v := ⟨_, List.getElem?_eq_getElem (by rw [hlen]; exact hj2)⟩
      exact (hinv.ins j l[j] s v (List.getElem?_eq_getElem hj2) (hall j hj1) hd' hv).1 hs
    have hb : b = fill fs (fun s => b.tmps.getD s undef) (lex l vs a n) := by
      have ht : b.tmps = (fill fs (fun s => b.tmps.getD s undef) (lex l vs a n)).tmps := by
        apply Array.ext_getElem?
        intro d
        by_cases hd : d ∈ fs
        · obtain ⟨x, hx, _⟩ := hw d hd
          have hlt : d < (lex l vs a n).tmps.size := by
            rw [(lex_size l vs a n).1, ← hinv.size]
            exact (Array.getElem?_eq_some_iff.1 hx).1
          rw [fill_in fs _ _ d hd hlt, hx]
          simp [hx]
        · rw [fill_out fs _ _ d hd]
          by_cases hwr : ∃ (j : Nat) (oj : Oper), j < n ∧ l[j]? = some oj ∧ oj.dst = some d
          · obtain ⟨j, oj, hjn, hj, hdj⟩ := hwr
            obtain ⟨v, hv⟩ : ∃ v, vs[j]? = some v := ⟨_, List.getElem?_eq_getElem (by rw [hlen]; exact (List.getElem?_eq_some_iff.1 hj).1)⟩
            have hj' : l.toArray[j]? = some oj := by simpa using hj
            rw [(hinv.ins j oj d v hj (hall j hjn) hdj hv).2 hd]
            exact (lex_in l vs a n j oj d v hj hjn hv hdj (Nat.lt_of_lt_of_le (hR.small _ _ _ hj' hdj) hN) fun i oi hi _ hne => hR.once i j oi oj d (by simpa using hi) hj' hdj hne).symm
          · rw [lex_out l vs a n d fun i oi hi hin hdi => hwr ⟨i, oi, hin, hi, hdi⟩]
            refine hinv.out d fun i oi hi hli hdi => hwr ⟨i, oi, ?_, hi, hdi⟩
            rcases Nat.lt_or_ge i n with h1 | h1
            · exact h1
            · rw [hno i h1 (List.getElem?_eq_some_iff.1 hi).1] at hli; cases hli
      have hd : b.defers = (fill fs (fun s => b.tmps.getD s undef) (lex l vs a n)).defers := by
        rw [(fill_size ..).2, (lex_size ..).2]
        exact hinv.defers
      cases b
      simp only at ht hd
      rw [Act.mk.injEq]
      exact ⟨ht, hd⟩
    have hL : listed = (List.replicate n true ++ List.replicate (l.length - n) false).toArray := by
      apply Array.ext
      · simp [hinv.lsize]; omega
      · intro j h1 h2
        have hj : j < l.length := by rw [← hinv.lsize]; exact h1
        by_cases hjn : j < n
        · have h3 := hall j hjn
          rw [Array.getD_eq_getD_getElem?, Array.getElem?_eq_getElem h1] at h3
          simp only [List.getElem_toArray]
          rw [List.getElem_append_left (by simpa using hjn)]
          simpa using h3
        · have h3 := hno j (by omega) hj
          rw [Array.getD_eq_getD_getElem?, Array.getElem?_eq_getElem h1] at h3
          simp only [List.getElem_toArray]
          rw [List.getElem_append_right (by simpa using Nat.le_of_not_lt hjn)]
          simpa using h3
    have hE := hE0 (fun s => b.tmps.getD s undef) W hinv.cls fun s hs => by
      obtain ⟨x, hx, hf⟩ := hw s hs
      simpa [hx] using hf
    rw [← hb] at hE
    have := wpAny_of_seq (md := .any) (Q' := Q) (l.drop n) n listed b W (fun j => by simp [List.getElem?_drop]) (by rw [List.length_drop, hL]; exact hq) hE
    rwa [List.length_drop] at this
  · refine ⟨hC, rfl, rfl, fun _ _ => rfl, fun j o d v hj hlj => ?_, fun j o hj hlj => ?_, by simp⟩
    all_goals
      have hlt := (List.getElem?_eq_some_iff.1 hj).1
      rw [Array.getD_eq_getD_getElem?] at hlj
      simp [hlt] at hlj
end
end Go.Proofs.Ytfdbcfkjablnkaa

namespace Go.Proofs.Ytfdbcfkjablnkaa
open Go.RowKit
set_option maxRecDepth 100000

section
variable {w : World} {b m : Nat} {v k s c : Int} {E : List Pl}
theorem tot_le {D R E : List Pl} (hp : (D ++ R).Perm E) : Sl.tot (D.map Pl.ct) ≤ Sl.tot (E.map Pl.ct) := by
  rw [← Sl.tot_perm (hp.map Pl.ct)]
  simp [Sl.tot]
theorem ssize_any (h : SlotAt w b m v k s c E) : Calls Try.prog 46 #[.pointer (some ⟨b, 0, none⟩)] w fun e w' => e = .returned (.int .i64 (Sl.tot (E.map Pl.ct) : Int)) ∧ Below w.heap.size w w' := by
  obtain ⟨c0, c1, c2, c3, c4, c5⟩ := h.cells
  have hmap := h.map
  have hmost := h.most
  clear h c0 c1 c2 c3 c4
  go_enter Try.func46, Try.ntmps46
  go_wp2_with (at_range; refine wpList_range_map rfl (.tmp 11) 96 rfl 3 33 Try.underlying96 rfl hmap ?_; intro w0 hrg0 hb0 hs0)
  go_frame
  go_loopw [3] (fun n wr => ∃ D : List Pl, RangeAt wr m w.heap.size E D ∧ Below w.heap.size w wr ∧ n = .int .i64 (Sl.tot (D.map Pl.ct) : Int)) (fun _ wr => wr.rangeLeft m w.heap.size)
  case atStart => exact ⟨[], hrg0, hb0, rfl⟩
  case round =>
    obtain ⟨D, hrg, hbw, rfl⟩ := hrel
    go_wp2_with (at_next; refine wpList_next_map rfl (.tmp 12) rfl rfl hrg ?_ ?_)
    · intro hd
      have e1 := Lib.hid (Sl.tot_perm (hd.map Pl.ct))
      go_wp2
      go_ret
      exact ⟨by rw [← e1.out]; rfl, hbw⟩
    · intro p w1 hp hrg1 ho1 hs1 hen
      have hd1 := hrg1.left
      have hd0 := hrg.left
      obtain ⟨R, hperm⟩ := hrg1.sub
      have htot := tot_le hperm
      have hlen := hperm.length_eq
      have e1 : Sl.tot ((D ++ [p]).map Pl.ct) = Sl.tot (D.map Pl.ct) + p.zs.length := by rw [List.map_append]; exact Sl.tot_push _ _
      rw [e1] at htot
      have hb1 : Below w.heap.size w w1 := hbw.trans (ho1.below (fun q hq => by subst hq; exact Nat.le_refl _) hbw.size)
      go_wp2
      go_roundw
      case rel => exact ⟨D ++ [p], hrg1, hb1, by rw [e1]; simp⟩
      case measure =>
        rw [hd1, hd0]
        simp at hlen ⊢
        omega
end
/-- the first error of a frame that comes to a slot -/
def sErr (v k s c v' k' s' i' c' : Int) (C : Sl.Ct) (zs : List Int) : Int :=
  if mateZ v k s c v' k' s' c' = false then 17 else if i' < 0 ∨ c ≤ i' then 3 else if zs.length = 0 then 13 else if Sl.has C i'.toNat then 16 else if 192 < Sl.tot C + zs.length then 6 else 0
theorem sErr_zero {v k s c v' k' s' i' c' : Int} {C : Sl.Ct} {zs : List Int} (h : sErr v k s c v' k' s' i' c' C zs = 0) :
    (v = v' ∧ k = k' ∧ s = s' ∧ c = c') ∧ 0 ≤ i' ∧ i' < c ∧ zs ≠ [] ∧ Sl.has C i'.toNat = false ∧ Sl.tot C + zs.length ≤ 192 := by
  unfold sErr at h
  repeat' split at h
  all_goals first | omega | skip
  rename_i h1 h2 h3 h4 h5
  refine ⟨by simpa [mateZ] using h1, by omega, by omega, ?_, by simpa using h4, by omega⟩
  intro e; subst e; simp at h3

theorem ret_intS {a b : Int} (h : a = b) : Ending.returned (.int .i64 a) = Ending.returned (.int .i64 b) := by rw [h]
theorem scheck_nil (v' k' s' i' c' : Int) (p : Value) (w : World) : Calls Try.prog 48 #[.pointer none, frV v' k' s' i' c' p] w fun e w' => e = .returned (.int .i64 1) ∧ Below w.heap.size w w' := by
  unfold frV frC
  go_enter Try.func48, Try.ntmps48
  go_wp2
  go_ret
  exact ⟨rfl, (Below.refl _ w).alloc (Nat.le_refl _) _⟩
theorem sput_nil (v' k' s' i' c' : Int) (A : Option Addr) (n cp : Nat) (w : World) : Calls Try.prog 34 #[.pointer none, frV v' k' s' i' c' (.slice A n cp)] w fun e w' => e = .returned (.int .i64 1) ∧ Below w.heap.size w w' := by
  have HK := Lib.hid (fun W => scheck_nil v' k' s' i' c' (.slice A n cp) W)
  unfold frV frC at *
  go_enter Try.func34, Try.ntmps34
  go_wp2_with fail
  refine (HK.out _).mono ?_
  rintro e w1 ⟨rfl, hb⟩
  have hbw : Below w.heap.size w w1 := by
    rw [World.size_alloc] at hb
    exact ((Below.refl _ w).alloc (Nat.le_refl _) _).trans (hb.mono (by omega))
  clear hb
  go_wp2
  go_ret
  exact ⟨rfl, hbw⟩

set_option maxHeartbeats 8000000 in
theorem scheck_any {w : World} {b m : Nat} {v k s c : Int} {E : List Pl} (h : SlotAt w b m v k s c E) (v' k' s' i' c' : Int) (a : Option Addr) (n cp : Nat) (zs : List Int) (hn : zs.length = n) :
    Calls Try.prog 48 #[.pointer (some ⟨b, 0, none⟩), frV v' k' s' i' c' (.slice a n cp)] w fun e w' => e = .returned (.int .i64 (sErr v k s c v' k' s' i' c' (E.map Pl.ct) zs)) ∧ Below w.heap.size w w' := by
  obtain ⟨w1, hw1⟩ : ∃ w1, w.alloc (.cells (frC v' k' s' i' c' (.slice a n cp)) 35) = w1 := ⟨_, rfl⟩
  have hlt := h.size
  have hb1 : Below w.heap.size w w1 := by rw [← hw1]; exact (Below.refl _ w).alloc (Nat.le_refl _) _
  have hs1 : w1.heap.size = w.heap.size + 1 := by rw [← hw1]; simp
  have h1 := h.below hb1
  have hbx : w1.heap[w.heap.size]? = some (.cells (frC v' k' s' i' c' (.slice a n cp)) 35 (0, 0)) := by rw [← hw1]; exact World.alloc_heap_new _ _
  have SL : ∀ V, Below w1.heap.size w1 V → SlotAt V b m v k s c E := fun V hV => h1.below hV
  have BX : ∀ V, Below w1.heap.size w1 V → V.cell? ⟨w.heap.size, 0, none⟩ = some (.int .i64 v') ∧ V.cell? ⟨w.heap.size, 1, none⟩ = some (.int .i64 k') ∧ V.cell? ⟨w.heap.size, 2, none⟩ = some (.int .u32 s') ∧ V.cell? ⟨w.heap.size, 3, none⟩ = some (.int .i64 i') ∧ V.cell? ⟨w.heap.size, 4, none⟩ = some (.int .i64 c') ∧ V.cell? ⟨w.heap.size, 5, none⟩ = some (.slice a n cp) :=
    fun V hV => fr_block ((hV.block _ (by omega)).trans hbx)
  have L1 : ∀ V, Below w1.heap.size w1 V → (Instr.loadAt 32 (.pointer (some ⟨b, 0, none⟩))).run Try.prog V = .ok (.agg #[.int .i64 v, .int .i64 k, .int .u32 s, .int .i64 0, .int .i64 c]) V := fun V hV => by
    obtain ⟨d0, d1, d2, d3, d4, d5⟩ := (SL V hV).cells
    simp [Instr.loadAt, go_sem, d0, d1, d2, d3, d4]
  have L2 : ∀ V, Below w1.heap.size w1 V → (Instr.loadAt 32 (.pointer (some ⟨w.heap.size, 0, none⟩))).run Try.prog V = .ok (.agg #[.int .i64 v', .int .i64 k', .int .u32 s', .int .i64 i', .int .i64 c']) V := fun V hV => by
    obtain ⟨d0, d1, d2, d3, d4, d5⟩ := BX V hV
    simp [Instr.loadAt, go_sem, d0, d1, d2, d3, d4]
  have L3 : ∀ V, Below w1.heap.size w1 V → (Instr.loadAt 3 (.pointer (some ⟨w.heap.size, 3, none⟩))).run Try.prog V = .ok (.int .i64 i') V := fun V hV => by
    obtain ⟨d0, d1, d2, d3, d4, d5⟩ := BX V hV
    simp [Instr.loadAt, go_sem, d3]
  have L4 : ∀ V, Below w1.heap.size w1 V → (Instr.loadAt 3 (.pointer (some ⟨b, 4, none⟩))).run Try.prog V = .ok (.int .i64 c) V := fun V hV => by
    obtain ⟨d0, d1, d2, d3, d4, d5⟩ := (SL V hV).cells
    simp [Instr.loadAt, go_sem, d4]
  have L5 : ∀ V, Below w1.heap.size w1 V → (Instr.loadAt 33 (.pointer (some ⟨w.heap.size, 5, none⟩))).run Try.prog V = .ok (.slice a n cp) V := fun V hV => by
    obtain ⟨d0, d1, d2, d3, d4, d5⟩ := BX V hV
    simp [Instr.loadAt, go_sem, d5]
  have KM := Lib.hid (fun (V : World) (_ : Below w1.heap.size w1 V) => mates_any v k s 0 c v' k' s' i' c' V)
  have KS := Lib.hid (fun (V : World) (hV : Below w1.heap.size w1 V) => ssize_any (SL V hV))
  obtain ⟨nc, hnc, nc1, nc2, _⟩ := h.count
  have KH := Lib.hid (fun (V : World) (hV : Below w1.heap.size w1 V) (j : Nat) (hj : j ≤ 255) => shas_any (SL V hV) j hj)
  have HT := Lib.hid h.most
  have HSL := Lib.hid SL
  have HBX := Lib.hid BX
  have HW1 : Hid (w.alloc (.cells #[.int .i64 v', .int .i64 k', .int .u32 s', .int .i64 i', .int .i64 c', .slice a n cp] 35) = w1) := Lib.hid hw1
  have HB1 := Lib.hid hb1
  have HSE := Lib.hid (show sErr v k s c v' k' s' i' c' (E.map Pl.ct) zs = if mateZ v k s c v' k' s' c' = false then 17 else if i' < 0 ∨ c ≤ i' then 3 else if n = 0 then 13 else if Sl.has (E.map Pl.ct) i'.toNat then 16 else if 192 < Sl.tot (E.map Pl.ct) + n then 6 else 0 by rw [← hn]; rfl)
  have HHas := Lib.hid (fun j => Pl.has_ct E j)
  clear h h1 hbx hw1 hb1 SL BX hn
  generalize sErr v k s c v' k' s' i' c' (E.map Pl.ct) zs = SE at *
  generalize Sl.tot (E.map Pl.ct) = T at *
  generalize mateZ v k s c v' k' s' c' = M at *
  unfold frV frC hdV at *
  go_enter Try.func48, Try.ntmps48
  go_wp2_with fail
  rw [HW1.out]
  refine wp_region_F 50 [] (fun _ _ _ => True) (fun V => Below w1.heap.size w1 V) (by kernel_rfl) (by kernel_rfl) (by rfl) (by simp) (fun W W' h hb => h.trans (hb.mono h.size)) (fun _ _ _ _ _ _ => trivial) (Below.refl _ _).drew ?_
  repeat (first | (refine wpF_nil rfl rfl rfl rfl ?_; simp only [Act.put, List.setIfInBounds_toArray, List.set_cons_succ, List.set_cons_zero]) | (refine wpF_pure rfl rfl ?_; go_big_quiet_step (fail); refine wpQuiet_nil ?_))
  refine wpF_load _ rfl (by rfl) (by rfl) (by rfl) L1 ?_
  simp only [Act.put, List.setIfInBounds_toArray, List.set_cons_succ, List.set_cons_zero]
  repeat (refine wpF_pure rfl rfl ?_; go_big_quiet_step (fail); refine wpQuiet_nil ?_)
  refine wpF_load _ rfl (by rfl) (by rfl) (by rfl) L2 ?_
  simp only [Act.put, List.setIfInBounds_toArray, List.set_cons_succ, List.set_cons_zero]
  refine wpF_call (f := 61) (args := #[.agg #[.int .i64 v, .int .i64 k, .int .u32 s, .int .i64 0, .int .i64 c], .agg #[.int .i64 v', .int .i64 k', .int .u32 s', .int .i64 i', .int .i64 c']]) (.bool M) rfl rfl (fun x => by first | rfl | (simp [go_sem]; done)) KM.out ?_
  simp only [Act.put, List.setIfInBounds_toArray, List.set_cons_succ, List.set_cons_zero]
  repeat (refine wpF_pure rfl rfl ?_; go_big_quiet_step (fail); refine wpQuiet_nil ?_)
  intro xs' V hV _
  simp only [fill]
  have HV := Lib.hid (HB1.out.trans (hV.mono HB1.out.size))
  cases M with
  | false =>
    rw [if_pos rfl] at HSE
    clear L1 L2 L3 L4 L5
    go_wp2
    go_ret
    exact ⟨ret_intS HSE.out.symm, HV.out⟩
  | true =>
    rw [if_neg (by simp)] at HSE
    obtain ⟨d0, d1, d2, d3, d4, d5⟩ := HBX.out V hV
    have HVV := Lib.hid hV
    clear hV
    by_cases hi0 : i' < 0
    · rw [if_pos (.inl hi0)] at HSE
      clear L1 L2 L3 L4 L5
      go_wp2
      go_ret
      exact ⟨ret_intS HSE.out.symm, HV.out⟩
    · go_wp2_with fail
      refine wp_region_F 50 [] (fun _ _ _ => True) (fun V => Below w1.heap.size w1 V) (by kernel_rfl) (by kernel_rfl) (by rfl) (by simp) (fun W W' h hb => h.trans (hb.mono h.size)) (fun _ _ _ _ _ _ => trivial) HVV.out.drew ?_
      repeat (first | (refine wpF_nil rfl rfl rfl rfl ?_; simp only [Act.put, List.setIfInBounds_toArray, List.set_cons_succ, List.set_cons_zero]) | (refine wpF_pure rfl rfl ?_; go_big_quiet_step (fail); refine wpQuiet_nil ?_))
      refine wpF_load _ rfl (by rfl) (by rfl) (by rfl) L3 ?_
      simp only [Act.put, List.setIfInBounds_toArray, List.set_cons_succ, List.set_cons_zero]
      repeat (first | (refine wpF_nil rfl rfl rfl rfl ?_; simp only [Act.put, List.setIfInBounds_toArray, List.set_cons_succ, List.set_cons_zero]) | (refine wpF_pure rfl rfl ?_; go_big_quiet_step (fail); refine wpQuiet_nil ?_))
      refine wpF_load _ rfl (by rfl) (by rfl) (by rfl) L4 ?_
      simp only [Act.put, List.setIfInBounds_toArray, List.set_cons_succ, List.set_cons_zero]
      repeat (first | (refine wpF_nil rfl rfl rfl rfl ?_; simp only [Act.put, List.setIfInBounds_toArray, List.set_cons_succ, List.set_cons_zero]) | (refine wpF_pure rfl rfl ?_; go_big_quiet_step (fail); refine wpQuiet_nil ?_))
      clear d0 d1 d2 d3 d4 d5 HV HVV
      intro xs2 V2 hV2 _
      simp only [fill]
      have HV2 := Lib.hid (HB1.out.trans (hV2.mono HB1.out.size))
      obtain ⟨d0, d1, d2, d3, d4, d5⟩ := HBX.out V2 hV2
      by_cases hi1 : c ≤ i'
      · rw [if_pos (.inr hi1)] at HSE
        clear L1 L2 L3 L4 L5
        go_wp2
        go_ret
        exact ⟨ret_intS HSE.out.symm, HV2.out⟩
      · rw [if_neg (by omega)] at HSE
        obtain ⟨j, rfl⟩ := Int.eq_ofNat_of_zero_le (a := i') (by omega)
        by_cases hn0 : n = 0
        · rw [if_pos hn0] at HSE
          subst hn0
          clear L1 L2 L3 L4 L5
          go_wp2
          go_ret
          exact ⟨ret_intS HSE.out.symm, HV2.out⟩
        · rw [if_neg hn0, Int.toNat_natCast, HHas.out] at HSE
          have hn0' : ¬ (n : Int) = 0 := by omega
          have KH2 := KH.out V2 hV2 j (by omega)
          have HVV2 := Lib.hid hV2
          generalize (Pl.at E j).isSome = has at *
          clear hV2 HHas
          go_wp2_with fail
          refine KH2.mono ?_
          rintro e V3 ⟨rfl, rfl⟩
          cases has with
          | true =>
            rw [if_pos rfl] at HSE
            clear L1 L2 L3 L4 L5
            go_wp2
            go_ret
            exact ⟨ret_intS HSE.out.symm, HV2.out⟩
          | false =>
            rw [if_neg (by simp)] at HSE
            have hT := HT.out
            go_wp2_with fail
            refine wp_region_F 50 [] (fun _ _ _ => True) (fun V => Below w1.heap.size w1 V) (by kernel_rfl) (by kernel_rfl) (by rfl) (by simp) (fun W W' h hb => h.trans (hb.mono h.size)) (fun _ _ _ _ _ _ => trivial) HVV2.out.drew ?_
            repeat (first | (refine wpF_nil rfl rfl rfl rfl ?_; simp only [Act.put, List.setIfInBounds_toArray, List.set_cons_succ, List.set_cons_zero]) | (refine wpF_pure rfl rfl ?_; go_big_quiet_step (fail); refine wpQuiet_nil ?_))
            refine wpF_load _ rfl (by rfl) (by rfl) (by rfl) L5 ?_
            simp only [Act.put, List.setIfInBounds_toArray, List.set_cons_succ, List.set_cons_zero]
            repeat (first | (refine wpF_nil rfl rfl rfl rfl ?_; simp only [Act.put, List.setIfInBounds_toArray, List.set_cons_succ, List.set_cons_zero]) | (refine wpF_pure rfl rfl ?_; go_big_quiet_step (fail); refine wpQuiet_nil ?_))
            refine wpF_call (f := 46) (args := #[.pointer (some ⟨b, 0, none⟩)]) (.int .i64 (T : Int)) rfl rfl (fun x => by first | rfl | (simp [go_sem]; done)) KS.out ?_
            simp only [Act.put, List.setIfInBounds_toArray, List.set_cons_succ, List.set_cons_zero]
            repeat (first | (refine wpF_nil rfl rfl rfl rfl ?_; simp only [Act.put, List.setIfInBounds_toArray, List.set_cons_succ, List.set_cons_zero]) | (refine wpF_pure rfl rfl ?_; go_big_quiet_step (fail); refine wpQuiet_nil ?_))
            intro xs3 V4 hV4 _
            simp only [fill]
            have HV4 := Lib.hid (HB1.out.trans (hV4.mono HB1.out.size))
            clear L1 L2 L3 L4 L5 hV4 d0 d1 d2 d3 d4 d5
            by_cases ht : 192 < T + n
            · rw [if_pos ht] at HSE
              have ht2 : (192 : Int) - (T : Int) < (n : Int) := by omega
              go_wp2
              go_ret
              exact ⟨ret_intS HSE.out.symm, HV4.out⟩
            · rw [if_neg ht] at HSE
              have ht2 : ¬ (192 : Int) - (T : Int) < (n : Int) := by omega
              go_wp2
              go_ret
              exact ⟨ret_intS HSE.out.symm, HV4.out⟩
end Go.Proofs.Ytfdbcfkjablnkaa

namespace Go.Proofs.Ytfdbcfkjablnkaa
open Go.RowKit
set_option maxRecDepth 100000

theorem four_word (s z0 z1 z2 z3 : Nat) (hs : s < 4294967296) (h0 : z0 < 256) (h1 : z1 < 256) (h2 : z2 < 256) (h3 : z3 < 256) :
    ∃ x : Nat, x < 4294967296 ∧ bits .xor .u32 (s : Int) (bits .or .u32 (bits .or .u32 (bits .or .u32 (z0 : Int) ((z1 : Int) * 256)) ((z2 : Int) * 65536)) ((z3 : Int) * 16777216)) = (x : Int) ∧
      x = s ^^^ (z0 ^^^ (z1 * 256) ^^^ (z2 * 65536) ^^^ (z3 * 16777216)) := by
  have a1 := Cr.add_xor z0 z1 8 (by omega)
  have a2 := Cr.add_xor (z1 * 256 + z0) z2 16 (by simp only [Nat.reducePow]; omega)
  have a3 := Cr.add_xor (z2 * 65536 + (z1 * 256 + z0)) z3 24 (by simp only [Nat.reducePow]; omega)
  have o1 := Nat.two_pow_add_eq_or_of_lt (i := 8) (show z0 < 2 ^ 8 by omega) z1
  have o2 := Nat.two_pow_add_eq_or_of_lt (i := 16) (show z1 * 256 + z0 < 2 ^ 16 by simp only [Nat.reducePow]; omega) z2
  have o3 := Nat.two_pow_add_eq_or_of_lt (i := 24) (show z2 * 65536 + (z1 * 256 + z0) < 2 ^ 24 by simp only [Nat.reducePow]; omega) z3
  simp only [Nat.reducePow] at a1 a2 a3 o1 o2 o3
  refine ⟨_, ?_, ?_, rfl⟩
  · rw [a1, a2, a3]
    exact Cr.xor_lt 32 hs (by omega)
  · rw [show (z1 : Int) * 256 = ((z1 * 256 : Nat) : Int) by omega, show (z2 : Int) * 65536 = ((z2 * 65536 : Nat) : Int) by omega, show (z3 : Int) * 16777216 = ((z3 * 16777216 : Nat) : Int) by omega]
    rw [u32_or_nat _ _ (by omega) (by omega), Nat.or_comm, Nat.mul_comm z1, ← o1, Nat.mul_comm 256 z1]
    rw [u32_or_nat _ _ (by omega) (by omega), Nat.or_comm, Nat.mul_comm z2, ← o2, Nat.mul_comm 65536 z2]
    rw [u32_or_nat _ _ (by omega) (by omega), Nat.or_comm, Nat.mul_comm z3, ← o3, Nat.mul_comm 16777216 z3]
    rw [u32_xor_nat _ _ hs (by omega), a1, a2, a3]
theorem xor_chain (a b c d : Nat) (ha : a < 4294967296) (hb : b < 4294967296) (hc : c < 4294967296) (hd : d < 4294967296) :
    bits .xor .u32 (bits .xor .u32 (bits .xor .u32 (a : Int) (b : Int)) (c : Int)) (d : Int) = ((a ^^^ b ^^^ c ^^^ d : Nat) : Int) := by
  have h1 := Cr.xor_lt 32 (show a < 2 ^ 32 by omega) (show b < 2 ^ 32 by omega)
  have h2 := Cr.xor_lt 32 h1 (show c < 2 ^ 32 by omega)
  rw [u32_xor_nat _ _ ha hb, u32_xor_nat _ _ (by omega) hc, u32_xor_nat _ _ (by omega) hd]

end Go.Proofs.Ytfdbcfkjablnkaa

namespace Go.Proofs.Ytfdbcfkjablnkaa
open Go.RowKit
set_option maxRecDepth 100000

theorem crc_four (s : Nat) (zs : List Int) (z0 z1 z2 z3 : Int) (j : Nat) (h0 : (zs.drop j)[0]? = some z0) (h1 : (zs.drop j)[1]? = some z1) (h2 : (zs.drop j)[2]? = some z2) (h3 : (zs.drop j)[3]? = some z3) :
    Cr.crc s (zs.take (j + 4)) = Cr.shn 8 (Cr.shn 8 (Cr.shn 8 (Cr.shn 8 (Cr.crc s (zs.take j) ^^^ z0.toNat) ^^^ z1.toNat) ^^^ z2.toNat) ^^^ z3.toNat) := by
  rw [List.getElem?_drop] at h0 h1 h2 h3
  rw [show j + 4 = j + 3 + 1 from rfl, crc_more s h3, show j + 3 = j + 2 + 1 from rfl, crc_more s h2, show j + 2 = j + 1 + 1 from rfl, crc_more s h1, crc_more s (k := j) (z := z0) (by simpa using h0)]
/-- the place of what is left behind i elements -/
theorem addr_drop (b1 o1 c i : Nat) (h : i ≠ 0) : (if c = i then (some ⟨b1, o1, none⟩ : Option Addr) else (some ⟨b1, o1, none⟩ : Option Addr).map (·.add i)) = if c = i then some ⟨b1, o1, none⟩ else some ⟨b1, o1 + i, none⟩ := by
  simp [Addr.add, h]

theorem byte_step (m n0 : Nat) (hm : m < 4294967296) (h0 : n0 < 256) : ∃ q : Nat, q < 256 ∧ bits .xor .u8 (IntKind.u8.wrap (m : Int)) (n0 : Int) = (q : Int) ∧ bits .xor .u32 ((Cr.shn 8 q : Nat) : Int) ((m : Int) / 256) = ((Cr.shn 8 (m ^^^ n0) : Nat) : Int) := by
  have hq : m % 256 ^^^ n0 < 2 ^ 8 := Cr.xor_lt 8 (by omega) (by omega)
  refine ⟨m % 256 ^^^ n0, by omega, ?_, ?_⟩
  · rw [IntKind.wrap_u8, show (m : Int) % 256 = ((m % 256 : Nat) : Int) by omega, u8_xor_nat _ _ (by omega) h0]
  · have hl := Cr.shn_lt (n := m % 256 ^^^ n0) 8 (by omega)
    rw [show (m : Int) / 256 = ((m / 256 : Nat) : Int) by omega, u32_xor_nat _ _ (by omega) (by omega), Cr.step m n0 h0]

end Go.Proofs.Ytfdbcfkjablnkaa

namespace Go.Proofs.Ytfdbcfkjablnkaa
open Go.RowKit
set_option maxRecDepth 100000

/-- a part: where its bytes lie, its room, its bytes -/
structure Part where
  a : Option Addr
  c : Nat
  zs : List Int
/-- a part as it is in a world -/
structure Part.At (w : World) (B : Nat) (p : Part) : Prop where
  room : p.zs.length ≤ p.c
  few : p.zs.length ≤ 9223372036854775807
  byte : Bytes p.zs
  nums : Nums .u8 w B p.a p.zs
theorem Part.At.below {w w' : World} {B : Nat} {p : Part} (h : p.At w B) (hb : Below B w w') : p.At w' B := ⟨h.room, h.few, h.byte, h.nums.below hb⟩
theorem Part.At.mono {w : World} {B B' : Nat} {p : Part} (h : p.At w B) (hB : B ≤ B') : p.At w B' := ⟨h.room, h.few, h.byte, h.nums.mono hB⟩
/-- parts that lie at a place -/
def Parts (w : World) (B : Nat) (a : Option Addr) (ps : List Part) : Prop :=
  (∀ p ∈ ps, p.At w B) ∧ (ps ≠ [] → ∃ b off, a = some ⟨b, off, none⟩ ∧ ∀ (j : Nat) (p : Part), ps[j]? = some p → w.cell? ⟨b, off + j, none⟩ = some (.slice p.a p.zs.length p.c))
theorem Parts.nil (w : World) (B : Nat) (a : Option Addr) : Parts w B a [] := ⟨by simp, fun h => absurd rfl h⟩
/-- parts that have just been laid -/
theorem Parts.new {w : World} {B : Nat} {ps : List Part} (t : TypeId) (cs : Array Value) (h : ∀ p ∈ ps, p.At w B) (hB : B ≤ w.heap.size) (hc : cs = (ps.map fun p => Value.slice p.a p.zs.length p.c).toArray) : Parts (w.alloc (.cells cs t)) B (some ⟨w.heap.size, 0, none⟩) ps := by
  refine ⟨fun p hp => (h p hp).below ((Below.refl B w).alloc hB _), fun _ => ⟨w.heap.size, 0, rfl, fun j p hj => ?_⟩⟩
  rw [World.cell?_alloc_at _ _ _ _ rfl, hc]
  simp [hj]
def flat (ps : List Part) : List Int := ps.flatMap Part.zs
theorem flat_bytes {w : World} {B : Nat} {ps : List Part} (h : ∀ p ∈ ps, p.At w B) : Bytes (flat ps) := by
  intro z hz
  obtain ⟨p, hp, hz⟩ := List.mem_flatMap.1 hz
  exact (h p hp).byte z hz
theorem flat_more {ps : List Part} {k : Nat} {p : Part} (s : Nat) (h : ps[k]? = some p) : Cr.crc s (flat (ps.take (k + 1))) = Cr.crc (Cr.crc s (flat (ps.take k))) p.zs := by
  have hk : k < ps.length := by
    rcases Nat.lt_or_ge k ps.length with h1 | h1
    · exact h1
    · rw [List.getElem?_eq_none h1] at h; simp at h
  rw [List.getElem?_eq_getElem hk] at h
  injection h with h
  rw [List.take_succ_eq_append_getElem hk, h, ← Cr.crc_append]
  simp [flat]

end Go.Proofs.Ytfdbcfkjablnkaa

namespace Go.Proofs.Ytfdbcfkjablnkaa
open Go.RowKit
set_option maxRecDepth 100000

/-- 'string(b)' of bytes that lie somewhere -/
theorem conv_nums (B : Nat) (a : Option Addr) (n c : Nat) (zs : List Int) (w : World) (hn : zs.length = n) (h1 : Nums .u8 w B a zs) :
    (convert 33 9 (.slice a n c)).run Try.prog w = .ok (.string (strOfNums zs)) w := by
  subst hn
  by_cases hz : zs = []
  · subst hz
    rw [run_convert_bytes_string w _ _ _ _ _ _ Try.underlying33 Try.underlying5 Try.underlying9]
    cases a <;> simp [Conv.bytesToString, loadCells] <;> rfl
  · obtain ⟨b, o, rfl, _, hc⟩ := h1 hz
    exact run_convert_bytes_arg (P := Try.prog) w _ _ Try.underlying33 Try.underlying5 b o _ c zs rfl (fun i hi => by
      rw [hc i zs[i] (List.getElem?_eq_getElem hi)]
      simp [List.getElem?_eq_getElem hi]) _ Try.underlying9
theorem bytesOf_inj {xs ys : List Int} (hx : Bytes xs) (hy : Bytes ys) (h : Lib.bytesOf xs = Lib.bytesOf ys) : xs = ys := by
  have hl := congrArg List.length h
  rw [Lib.bytesOf_length, Lib.bytesOf_length] at hl
  apply List.ext_getElem hl
  intro i h1 h2
  have h3 : (Lib.bytesOf xs)[i]? = (Lib.bytesOf ys)[i]? := by rw [h]
  simp only [Lib.bytesOf, List.getElem?_map, List.getElem?_eq_getElem h1, List.getElem?_eq_getElem h2, Option.map_some, Option.some.injEq] at h3
  have b1 := hx _ (List.getElem_mem h1)
  have b2 := hy _ (List.getElem_mem h2)
  have h4 := congrArg UInt8.toNat h3
  rw [UInt8.toNat_ofNat', UInt8.toNat_ofNat'] at h4
  omega
theorem le4_is (S : Nat) (h : S < 4294967296) : Cr.le4 S = [(S : Int) % 256, (S : Int) / 256 % 256, (S : Int) / 65536 % 256, (S : Int) / 16777216] := by
  simp only [Cr.le4, List.cons.injEq, and_true]
  omega
/-- a row that was made later -/
theorem ownsRow_lower {w : World} {e : TypeId} {s n : Nat} {v : Value} {xs : List Value} {b b' : Nat} (h : w.ownsRow b e s v n xs) (hb : b' ≤ b) : w.ownsRow b' e s v n xs := by
  refine ⟨h.1, ?_⟩
  rcases h.2 with h | ⟨g, cap, cur, hv, hg, rest⟩
  · exact .inl h
  · exact .inr ⟨g, cap, cur, hv, by omega, rest⟩

end Go.Proofs.Ytfdbcfkjablnkaa

namespace Go.Proofs.Ytfdbcfkjablnkaa
open Go.RowKit Go.Shelf
set_option maxRecDepth 100000
attribute [local go_sem] Oper.semAt_some

/-- what sum answers -/
def SumR (w w' : World) (L : List Int) (e : Ending) : Prop := ∃ g, w.heap.size ≤ g ∧ e = .returned (.slice (some ⟨g, 0, none⟩) 4 4) ∧ Nums .u8 w' w'.heap.size (some ⟨g, 0, none⟩) L
end Go.Proofs.Ytfdbcfkjablnkaa

namespace Go.Proofs.Ytfdbcfkjablnkaa
open Go.RowKit
set_option maxRecDepth 100000

/-- Same, of lists that are the same -/
theorem same_eq (B : Nat) (a1 a2 : Option Addr) (c1 c2 : Nat) (zs : List Int) (w : World) (hl : zs.length ≤ 9223372036854775807) (h1 : Nums .u8 w B a1 zs) (h2 : Nums .u8 w B a2 zs) :
    Calls Try.prog 26 #[.slice a1 zs.length c1, .slice a2 zs.length c2] w fun e w' => e = .returned (.bool true) ∧ ∃ n, w' = w.drewN n := by
  go_enter Try.func26, Try.ntmps26
  go_wp2
  go_loopw [5] (fun i wr => ∃ k : Nat, k ≤ zs.length ∧ i = .int .i64 k ∧ ∃ n, wr = w.drewN n) (fun i _ => zs.length - (intOf i).toNat)
  case atStart => exact ⟨0, by omega, rfl, 0, rfl⟩
  case round =>
    obtain ⟨k, hk, rfl, n, rfl⟩ := hrel
    by_cases hlt : k < zs.length
    · obtain ⟨c, hc⟩ : ∃ c, zs[k]? = some c := ⟨_, List.getElem?_eq_getElem hlt⟩
      obtain ⟨b1, o1, rfl, hb1, hc1⟩ := h1.open hc
      obtain ⟨b2, o2, rfl, hb2, hc2⟩ := h2.open hc
      clear h1 h2 hc
      have hlt' : (k : Int) < (zs.length : Int) := by omega
      go_wp2
      go_quiet (fail)
      go_wp2
      go_roundw
      case rel => exact ⟨k + 1, by omega, by go_num, _, rfl⟩
      case measure => simp [intOf]; omega
    · go_wp2
      go_ret
      exact ⟨rfl, n, rfl⟩

theorem same_len (B : Nat) (a1 a2 : Option Addr) (n1 n2 c1 c2 : Nat) (x y : List Int) (w : World) (hxy : x = y) (hn1 : x.length = n1) (hn2 : y.length = n2) (hl : n1 ≤ 9223372036854775807) (h1 : Nums .u8 w B a1 x) (h2 : Nums .u8 w B a2 y) :
    Calls Try.prog 26 #[.slice a1 n1 c1, .slice a2 n2 c2] w fun e w' => e = .returned (.bool true) ∧ ∃ n, w' = w.drewN n := by
  subst hxy hn1 hn2; exact same_eq B a1 a2 c1 c2 x w hl h1 h2

end Go.Proofs.Ytfdbcfkjablnkaa

namespace Go.Proofs.Ytfdbcfkjablnkaa
namespace Vi

/-- the bytes of a number: seven bits each, the lowest first -/
def enc (n : Nat) : List Int := if n < 128 then [(n : Int)] else ((n % 128 + 128 : Nat) : Int) :: enc (n / 128)
termination_by n
decreasing_by omega

theorem enc_small {n : Nat} (h : n < 128) : enc n = [(n : Int)] := by rw [enc, if_pos h]
theorem enc_big {n : Nat} (h : 128 ≤ n) : enc n = ((n % 128 + 128 : Nat) : Int) :: enc (n / 128) := by rw [enc, if_neg (by omega)]

theorem enc_pos (n : Nat) : 0 < (enc n).length := by
  by_cases h : n < 128
  · simp [enc_small h]
  · simp [enc_big (Nat.le_of_not_lt h)]

theorem enc_le (k : Nat) : ∀ n : Nat, n < 128 ^ (k + 1) → (enc n).length ≤ k + 1 := by
  induction k with
  | zero => intro n h; rw [enc_small (by simpa using h)]; simp
  | succ k ih =>
    intro n h
    by_cases hn : n < 128
    · simp [enc_small hn]
    · rw [enc_big (Nat.le_of_not_lt hn)]
      have := ih (n / 128) (by rw [Nat.pow_succ] at h; omega)
      simp only [List.length_cons]; omega

theorem enc_le10 {n : Nat} (h : n < 18446744073709551616) : (enc n).length ≤ 10 := enc_le 9 n (by omega)

/-- n has k bytes: then n < 128 ^ k, and at k > 1 at least 128 ^ (k - 1) -/
theorem enc_lt (n : Nat) : n < 128 ^ (enc n).length := by
  induction n using Nat.strongRecOn with
  | _ n ih =>
    by_cases hn : n < 128
    · simp [enc_small hn]; exact hn
    · have h := ih (n / 128) (by omega)
      rw [enc_big (Nat.le_of_not_lt hn), List.length_cons, Nat.pow_succ]
      omega

theorem enc_ge (n : Nat) (h : 1 < (enc n).length) : 128 ^ ((enc n).length - 1) ≤ n := by
  induction n using Nat.strongRecOn with
  | _ n ih =>
    by_cases hn : n < 128
    · simp [enc_small hn] at h
    · have hb := enc_big (Nat.le_of_not_lt hn)
      rw [hb, List.length_cons, Nat.add_sub_cancel]
      by_cases h1 : 1 < (enc (n / 128)).length
      · have hi := ih (n / 128) (by omega) h1
        have hp := enc_pos (n / 128)
        have e : (enc (n / 128)).length = (enc (n / 128)).length - 1 + 1 := by omega
        rw [e, Nat.pow_succ]; omega
      · have hp := enc_pos (n / 128)
        have e : (enc (n / 128)).length = 1 := by omega
        rw [e]; omega

theorem enc_mono {a b : Nat} (h : a ≤ b) : (enc a).length ≤ (enc b).length := by
  by_cases h1 : 1 < (enc a).length
  · have h2 := enc_ge a h1
    have h3 := enc_lt b
    have h4 : 128 ^ ((enc a).length - 1) < 128 ^ (enc b).length := by omega
    have := (Nat.pow_lt_pow_iff_right (by decide : 1 < 128)).1 h4
    omega
  · have := enc_pos b; omega

theorem enc_byte (n : Nat) : ∀ c ∈ enc n, 0 ≤ c ∧ c ≤ 255 := by
  induction n using Nat.strongRecOn with
  | _ n ih =>
    by_cases hn : n < 128
    · rw [enc_small hn]; intro c hc; simp at hc; subst hc; omega
    · rw [enc_big (Nat.le_of_not_lt hn)]
      intro c hc
      simp only [List.mem_cons] at hc
      rcases hc with rfl | hc
      · omega
      · exact ih (n / 128) (by omega) c hc

/-! ### sizes by the length of the bits -/
theorem log2_div128 {n : Nat} (h : 128 ≤ n) : n.log2 = (n / 128).log2 + 7 := by
  have hd : 1 ≤ n / 128 := by omega
  have e : ∀ m : Nat, 2 ≤ m → m.log2 = (m / 2).log2 + 1 := fun m hm => by rw [Nat.log2_def, if_pos hm]
  rw [e n (by omega), e (n / 2) (by omega), e (n / 2 / 2) (by omega), e (n / 2 / 2 / 2) (by omega), e (n / 2 / 2 / 2 / 2) (by omega), e (n / 2 / 2 / 2 / 2 / 2) (by omega), e (n / 2 / 2 / 2 / 2 / 2 / 2) (by omega)]
  rw [show n / 2 / 2 / 2 / 2 / 2 / 2 / 2 = n / 128 by omega]

theorem log2_small {n : Nat} (h : n < 128) : n.log2 ≤ 6 := by
  by_cases h0 : n = 0
  · subst h0; decide
  · have := (Nat.log2_lt h0).2 (show n < 2 ^ 7 by omega); omega

theorem enc_log2 (n : Nat) : (enc n).length = n.log2 / 7 + 1 := by
  induction n using Nat.strongRecOn with
  | _ n ih =>
    by_cases hn : n < 128
    · have := log2_small hn
      rw [enc_small hn]; simp only [List.length_singleton]; omega
    · have h := ih (n / 128) (by omega)
      rw [enc_big (Nat.le_of_not_lt hn), List.length_cons, h, log2_div128 (Nat.le_of_not_lt hn)]
      omega

theorem or_one (n : Nat) : n ||| 1 = n + (1 - n % 2) := by
  have h : n ||| 1 = n / 2 * 2 + 1 := by
    have h1 : n ||| 1 = (n / 2 * 2) ||| 1 := by
      apply Nat.eq_of_testBit_eq
      intro i
      cases i with
      | zero => simp
      | succ i =>
        rw [Nat.testBit_or, Nat.testBit_or, Nat.testBit_succ, Nat.testBit_succ (n / 2 * 2)]
        rw [show n / 2 * 2 / 2 = n / 2 by omega]
    rw [h1]
    exact nat_join 1 (n / 2 * 2) 1 (by omega) (by omega)
  omega

theorem enc_or_one (n : Nat) : (enc (n ||| 1)).length = (enc n).length := by
  have h := or_one n
  by_cases hn : n < 128
  · rw [enc_small hn, enc_small (by omega)]; rfl
  · rw [enc_big (Nat.le_of_not_lt hn), enc_big (by omega), List.length_cons, List.length_cons, show (n ||| 1) / 128 = n / 128 by omega]

theorem size_log2 (n : Nat) : ((n ||| 1).log2 + 1 + 7 - 1) / 7 = (enc n).length := by
  rw [← enc_or_one, enc_log2]; omega

theorem log2_lt64 {n : Nat} (h : n < 18446744073709551616) : n.log2 ≤ 63 := by
  by_cases h0 : n = 0
  · subst h0; decide
  · have := (Nat.log2_lt h0).2 (show n < 2 ^ 64 by omega); omega

end Vi
end Go.Proofs.Ytfdbcfkjablnkaa

namespace Go.Proofs.Ytfdbcfkjablnkaa
namespace Vi

/-- how many bytes with the highest bit set come first -/
def high : List Int → Nat
  | [] => 0
  | c :: r => if 128 ≤ c then high r + 1 else 0

/-- the number of bytes: seven bits each, the lowest first -/
def val : List Int → Nat
  | [] => 0
  | c :: r => c.toNat % 128 + 128 * val r

/-- the number that bytes begin with, how many bytes it has, the error (the document's P1.2) -/
def get (l : List Int) : Nat × Nat × Nat :=
  if 10 ≤ high l then (0, 0, 3)
  else if l.length ≤ high l then (0, 0, 4)
  else if 18446744073709551616 ≤ val (l.take (high l + 1)) ∨ (0 < high l ∧ l.getD (high l) 0 = 0) then (0, 0, 3)
  else (val (l.take (high l + 1)), high l + 1, 0)

theorem high_all {p : List Int} (hp : ∀ c ∈ p, 128 ≤ c) (r : List Int) : high (p ++ r) = p.length + high r := by
  induction p with
  | nil => simp
  | cons c p ih =>
    rw [List.cons_append, high, if_pos (hp c (by simp)), ih (fun d hd => hp d (by simp [hd])), List.length_cons]; omega

theorem val_append (p r : List Int) : val (p ++ r) = val p + 128 ^ p.length * val r := by
  induction p with
  | nil => simp [val]
  | cons c p ih =>
    rw [List.cons_append, val, ih, val, List.length_cons, Nat.pow_succ, Nat.mul_add]
    rw [show 128 ^ p.length * 128 * val r = 128 * (128 ^ p.length * val r) by rw [Nat.mul_comm (128 ^ p.length) 128, Nat.mul_assoc]]
    omega

theorem val_lt (p : List Int) : val p < 128 ^ p.length := by
  induction p with
  | nil => simp [val]
  | cons c p ih => rw [val, List.length_cons, Nat.pow_succ]; omega

theorem get_end {p : List Int} (hp : ∀ c ∈ p, 128 ≤ c) (hl : p.length ≤ 9) : get p = (0, 0, 4) := by
  have h := high_all hp []
  simp only [List.append_nil, high, Nat.add_zero] at h
  unfold get
  rw [if_neg (by omega), if_pos (by omega)]

theorem get_long {p r : List Int} (hp : ∀ c ∈ p, 128 ≤ c) (hl : 10 ≤ p.length) : get (p ++ r) = (0, 0, 3) := by
  have h := high_all hp r
  unfold get
  rw [if_pos (by omega)]

theorem take_mid (p : List Int) (c : Int) (r : List Int) : (p ++ c :: r).take (p.length + 1) = p ++ [c] := by
  rw [List.take_append, List.take_of_length_le (by omega)]; simp

theorem get_mid {p r : List Int} {c : Int} (hp : ∀ c ∈ p, 128 ≤ c) (hl : p.length ≤ 9) (hc : c < 128) :
    get (p ++ c :: r) = if 18446744073709551616 ≤ val (p ++ [c]) ∨ (0 < p.length ∧ c = 0) then (0, 0, 3) else (val (p ++ [c]), p.length + 1, 0) := by
  have h : high (p ++ c :: r) = p.length := by
    rw [high_all hp]; simp [high, show ¬ 128 ≤ c by omega]
  have hg : (p ++ c :: r).getD p.length 0 = c := by simp [List.getD]
  unfold get
  rw [h, hg, take_mid, if_neg (by omega), if_neg (by simp)]

theorem get_bad {p r : List Int} {c : Int} (hp : ∀ c ∈ p, 128 ≤ c) (hl : p.length ≤ 9) (hc : c < 128) (hb : 18446744073709551616 ≤ val (p ++ [c]) ∨ (0 < p.length ∧ c = 0)) : get (p ++ c :: r) = (0, 0, 3) := by
  rw [get_mid hp hl hc, if_pos hb]
theorem get_ok {p r : List Int} {c : Int} (hp : ∀ c ∈ p, 128 ≤ c) (hl : p.length ≤ 9) (hc : c < 128) (hb : val (p ++ [c]) < 18446744073709551616) (h0 : p.length = 0 ∨ c ≠ 0) : get (p ++ c :: r) = (val (p ++ [c]), p.length + 1, 0) := by
  rw [get_mid hp hl hc, if_neg (by omega)]

/-- the parts of any list: the high bytes that come first, and what is behind them -/
theorem parts (l : List Int) : ∃ p r, l = p ++ r ∧ (∀ c ∈ p, 128 ≤ c) ∧ (r = [] ∨ ∃ c r', r = c :: r' ∧ c < 128) := by
  induction l with
  | nil => exact ⟨[], [], rfl, by simp, .inl rfl⟩
  | cons c l ih =>
    by_cases hc : 128 ≤ c
    · obtain ⟨p, r, e, hp, hr⟩ := ih
      refine ⟨c :: p, r, by rw [e]; rfl, ?_, hr⟩
      intro d hd
      simp only [List.mem_cons] at hd
      rcases hd with rfl | hd
      · exact hc
      · exact hp d hd
    · exact ⟨[], c :: l, rfl, by simp, .inr ⟨c, l, rfl, by omega⟩⟩

/-- what is told is put as it was -/
theorem enc_val {p : List Int} {c : Int} (hp : ∀ d ∈ p, 128 ≤ d ∧ d ≤ 255) (h0 : 0 ≤ c) (hc : c < 128) (hz : p.length = 0 ∨ c ≠ 0) : enc (val (p ++ [c])) = p ++ [c] := by
  induction p with
  | nil =>
    have e : val ([] ++ [c]) = c.toNat := by simp [val]; omega
    rw [e, enc_small (by omega)]; simp; omega
  | cons d p ih =>
    have hd := hp d (by simp)
    have hi := ih (fun x hx => hp x (by simp [hx])) (.inr (by simpa using hz))
    have hc0 : c ≠ 0 := by simpa using hz
    have hv : 1 ≤ val (p ++ [c]) := by
      rw [val_append]
      have h1 : 1 ≤ val [c] := by simp [val]; omega
      have h2 : 1 ≤ 128 ^ p.length := Nat.one_le_pow _ _ (by decide)
      have := Nat.mul_le_mul h2 h1
      omega
    have e : val (d :: p ++ [c]) = d.toNat % 128 + 128 * val (p ++ [c]) := rfl
    rw [e, enc_big (by omega), show (d.toNat % 128 + 128 * val (p ++ [c])) / 128 = val (p ++ [c]) by omega, hi]
    simp only [List.cons_append, List.cons.injEq, and_true]
    omega

/-- a number's bytes: high ones, and a last one -/
theorem enc_parts (n : Nat) : ∃ p c, enc n = p ++ [c] ∧ (∀ d ∈ p, 128 ≤ d ∧ d ≤ 255) ∧ 0 ≤ c ∧ c < 128 ∧ (p.length = 0 ∨ c ≠ 0) ∧ val (p ++ [c]) = n := by
  induction n using Nat.strongRecOn with
  | _ n ih =>
    by_cases hn : n < 128
    · refine ⟨[], n, by rw [enc_small hn]; rfl, by simp, by omega, by omega, .inl rfl, ?_⟩
      simp [val]; omega
    · obtain ⟨p, c, e, hp, h0, hc, hz, hv⟩ := ih (n / 128) (by omega)
      refine ⟨((n % 128 + 128 : Nat) : Int) :: p, c, by rw [enc_big (by omega), e]; rfl, ?_, h0, hc, .inr ?_, ?_⟩
      · intro d hd
        simp only [List.mem_cons] at hd
        rcases hd with rfl | hd
        · omega
        · exact hp d hd
      · rcases hz with hz | hz
        · have : p = [] := List.eq_nil_of_length_eq_zero hz
          subst this
          simp [val] at hv
          intro hc0
          subst hc0
          simp at hv
          omega
        · exact hz
      · have e2 : val ((((n % 128 + 128 : Nat) : Int) :: p) ++ [c]) = ((n % 128 + 128 : Nat) : Int).toNat % 128 + 128 * val (p ++ [c]) := rfl
        rw [e2, hv, Int.toNat_natCast]; omega

/-- what was put is told as it was -/
theorem get_enc {n : Nat} (hn : n < 18446744073709551616) (r : List Int) : get (enc n ++ r) = (n, (enc n).length, 0) := by
  obtain ⟨p, c, e, hp, h0, hc, hz, hv⟩ := enc_parts n
  have hl := enc_le10 hn
  rw [e] at hl ⊢
  simp only [List.length_append, List.length_singleton] at hl ⊢
  rw [List.append_assoc, List.singleton_append, get_ok (fun d hd => (hp d hd).1) (by omega) hc (by omega) hz, hv]

/-- what Get tells: the size, and its bytes -/
theorem get_put {l : List Int} (hl : ∀ c ∈ l, 0 ≤ c ∧ c ≤ 255) (h : (get l).2.2 = 0) :
    (get l).1 < 18446744073709551616 ∧ 0 < (get l).2.1 ∧ (get l).2.1 ≤ l.length ∧ enc (get l).1 = l.take (get l).2.1 ∧ (enc (get l).1).length = (get l).2.1 := by
  obtain ⟨p, r, rfl, hp, hr⟩ := parts l
  by_cases h10 : 10 ≤ p.length
  · rw [get_long hp h10] at h; simp at h
  · rcases hr with rfl | ⟨c, r', rfl, hc⟩
    · rw [List.append_nil, get_end hp (by omega)] at h; simp at h
    · by_cases hb : 18446744073709551616 ≤ val (p ++ [c]) ∨ (0 < p.length ∧ c = 0)
      · rw [get_bad hp (by omega) hc hb] at h; simp at h
      · have hz : p.length = 0 ∨ c ≠ 0 := by omega
        have hc0 := hl c (by simp)
        have he := enc_val (fun d hd => ⟨hp d hd, (hl d (by simp [hd])).2⟩) hc0.1 hc hz
        rw [get_ok hp (by omega) hc (by omega) hz]
        simp only
        rw [he, take_mid]
        refine ⟨by omega, by omega, by simp, rfl, by simp⟩

/-- what is not told is nought -/
theorem get_err {l : List Int} (h : (get l).2.2 ≠ 0) : (get l).1 = 0 ∧ (get l).2.1 = 0 := by
  unfold get at h ⊢
  split
  · exact ⟨rfl, rfl⟩
  · split
    · exact ⟨rfl, rfl⟩
    · split
      · exact ⟨rfl, rfl⟩
      · rename_i h1 h2 h3
        rw [if_neg h1, if_neg h2, if_neg h3] at h
        exact absurd rfl h

theorem get_le (l : List Int) : (get l).1 < 18446744073709551616 ∧ (get l).2.1 ≤ 10 ∧ (get l).2.1 ≤ l.length ∧ (get l).2.2 ≤ 4 := by
  unfold get
  split
  · simp
  · split
    · simp
    · split
      · simp
      · simp only; omega

/-! ### one byte more, in the model's own words -/
theorem or_join (x c k : Nat) (hx : x < 128 ^ k) (hk : k ≤ 9) (hc : c < 128) (h9 : k = 9 → c ≤ 1) :
    bits .or .u64 (x : Int) (IntKind.u64.wrap ((c : Int) * 2 ^ (7 * k))) = ((x + 128 ^ k * c : Nat) : Int) := by
  have e : (128 : Nat) ^ k = 2 ^ (7 * k) := by rw [show (128 : Nat) = 2 ^ 7 from rfl, ← Nat.pow_mul]
  have hp : c * 2 ^ (7 * k) < 18446744073709551616 := by
    have : k = 0 ∨ k = 1 ∨ k = 2 ∨ k = 3 ∨ k = 4 ∨ k = 5 ∨ k = 6 ∨ k = 7 ∨ k = 8 ∨ k = 9 := by omega
    rcases this with rfl | rfl | rfl | rfl | rfl | rfl | rfl | rfl | rfl | rfl <;> (simp only [Nat.reduceMul, Nat.reducePow]; omega)
  have hx2 : x < 18446744073709551616 := by
    have : k = 0 ∨ k = 1 ∨ k = 2 ∨ k = 3 ∨ k = 4 ∨ k = 5 ∨ k = 6 ∨ k = 7 ∨ k = 8 ∨ k = 9 := by omega
    rcases this with rfl | rfl | rfl | rfl | rfl | rfl | rfl | rfl | rfl | rfl <;> (simp only [Nat.reducePow] at hx; omega)
  have ec : (c : Int) * 2 ^ (7 * k) = ((c * 2 ^ (7 * k) : Nat) : Int) := by push_cast; rfl
  rw [ec, IntKind.wrap_u64, Int.emod_eq_of_lt (by omega) (by omega), u64_or_nat x _ hx2 hp, Nat.or_comm, nat_join (7 * k) _ x (Nat.mul_mod_left _ _) (by rw [← e]; exact hx), e, Nat.mul_comm, Nat.add_comm]

end Vi
end Go.Proofs.Ytfdbcfkjablnkaa

namespace Go.Proofs.Ytfdbcfkjablnkaa
open Go.RowKit
set_option maxRecDepth 100000

/-- the bytes of numbers, one behind the other -/
def puts (zs : List Int) : List Int := zs.flatMap fun z => Vi.enc z.toNat
theorem puts_nil : puts [] = [] := rfl
theorem puts_append (a b : List Int) : puts (a ++ b) = puts a ++ puts b := by simp [puts]
theorem puts_one (z : Int) : puts [z] = Vi.enc z.toNat := by simp [puts]
theorem puts_byte (zs : List Int) : ∀ c ∈ puts zs, 0 ≤ c ∧ c ≤ 255 := by
  intro c hc
  simp only [puts, List.mem_flatMap] at hc
  obtain ⟨z, _, hc⟩ := hc
  exact Vi.enc_byte _ c hc
theorem puts_length (zs : List Int) (h : ∀ z ∈ zs, 0 ≤ z ∧ z ≤ 18446744073709551615) : (puts zs).length ≤ 10 * zs.length := by
  induction zs with
  | nil => simp [puts]
  | cons z zs ih =>
    have h1 := ih (fun x hx => h x (by simp [hx]))
    have h2 := Vi.enc_le10 (n := z.toNat) (by have := h z (by simp); omega)
    rw [show z :: zs = [z] ++ zs from rfl, puts_append, puts_one, List.length_append, List.length_append, List.length_singleton]
    omega
theorem ptake_more {zs : List Int} {k : Nat} {z : Int} (h : zs[k]? = some z) : zs.take (k + 1) = zs.take k ++ [z] := by
  have hk : k < zs.length := by
    rcases Nat.lt_or_ge k zs.length with h1 | h1
    · exact h1
    · rw [List.getElem?_eq_none h1] at h; simp at h
  rw [List.getElem?_eq_getElem hk] at h
  injection h with h
  rw [List.take_succ_eq_append_getElem hk, h]

theorem or128 (m : Nat) : bits .or .u8 (IntKind.u8.wrap (m : Int)) 128 = ((m % 128 + 128 : Nat) : Int) := by
  rw [IntKind.wrap_u8, show (m : Int) % 256 = ((m % 256 : Nat) : Int) by omega, show (128 : Int) = ((128 : Nat) : Int) from rfl, u8_or_nat _ _ (by omega) (by omega)]
  have h : m % 256 ||| 128 = m % 128 + 128 := by
    have h1 : ∀ i : Fin 256, i.val ||| 128 = i.val % 128 + 128 := by decide +kernel
    have := h1 ⟨m % 256, by omega⟩
    simp only at this
    omega
  rw [h]

/-- bytes that a call has made -/
def Made (w w' : World) (L : List Int) (v : Value) : Prop := w'.ownsRow w.heap.size 5 1 v L.length (L.map (Value.int .u8)) ∧ Below w.heap.size w w'
theorem Made.nil (w : World) : Made w w [] (.slice none 0 0) := ⟨World.ownsRow_nil _ _ _ _, Below.refl _ _⟩
theorem Made.slice {w w' : World} {L : List Int} {v : Value} (h : Made w w' L v) : ∃ A c, v = .slice A L.length c ∧ L.length ≤ c ∧ Nums .u8 w' w'.heap.size A L := by
  have h1 := h.1
  obtain ⟨_, h2⟩ := h1
  rcases h2 with ⟨rfl, h0⟩ | ⟨g, cap, cur, rfl, hg, hh, hn, _⟩
  · have : L = [] := List.eq_nil_of_length_eq_zero h0
    subst this
    exact ⟨none, 0, rfl, by simp, Nums.nil⟩
  · exact ⟨some ⟨g, 0, none⟩, cap, rfl, hn, Nums.of_own h.1⟩
theorem Made.app {w w1 w2 : World} {L : List Int} {v v' : Value} {x y : Int} {o : Obj} (h : Made w w1 L v) (hown : w2.ownsRow w.heap.size 5 1 v' (L.length + 1) (L.map (Value.int .u8) ++ [.int .u8 x])) (hg : (w1.alloc o).grownBy w2 v.ownBlock) (hx : x = y) : Made w w2 (L ++ [y]) v' := by
  subst hx
  refine ⟨by simpa using hown, ((h.2.alloc h.2.size o).grown hg (by have := h.2.size; simp; omega) (fun k hk => ?_))⟩
  have hv := h.1
  obtain ⟨_, h2⟩ := hv
  rcases h2 with ⟨rfl, h0⟩ | ⟨g, cap, cur, rfl, hg, hh, hn, _⟩
  · simp [Value.ownBlock] at hk
  · simp [Value.ownBlock] at hk; omega



end Go.Proofs.Ytfdbcfkjablnkaa

namespace Go.Proofs.Ytfdbcfkjablnkaa
open Go.RowKit
set_option maxRecDepth 100000

/-- what Grow answers -/
def GrowR (A : Option Addr) (l n : Nat) (cur : List Int) (w : World) (e : Ending) (w' : World) : Prop :=
  ∃ A' cap' cur', e = .returned (.slice A' l cap') ∧ l + n ≤ cap' ∧ KRow 5 .u8 w' A' cap' cur' ∧ cur'.take l = cur.take l ∧ Below w.heap.size w w' ∧ (A' = A ∨ ∃ g, A' = some ⟨g, 0, none⟩ ∧ w.heap.size ≤ g)

end Go.Proofs.Ytfdbcfkjablnkaa

namespace Go.Proofs.Ytfdbcfkjablnkaa
open Go.RowKit
set_option maxRecDepth 100000
theorem listInfo : (Try.prog.info? 33).map (fun i => (i.zero, i.size, i.bytes)) = some (some (.slice none 0 0), 1, 24) := by kernel_rfl
theorem own_slice {w : World} {base : Nat} {e : TypeId} {size n : Nat} {v : Value} {xs : List Value} (h : w.ownsRow base e size v n xs) : ∃ A c, v = .slice A n c := by
  rcases h.2 with ⟨rfl, h0⟩ | ⟨g, cap, cur, rfl, _⟩
  · subst h0; exact ⟨none, 0, rfl⟩
  · exact ⟨_, cap, rfl⟩
end Go.Proofs.Ytfdbcfkjablnkaa

namespace Go.Proofs.Ytfdbcfkjablnkaa
namespace Cb

/-- how many numbers stand ahead of the first 0 -/
def nz : List Int → Nat
  | [] => 0
  | z :: r => if z = 0 then 0 else nz r + 1
def NZ (b : List Int) : Prop := ∀ c ∈ b, c ≠ 0
theorem nz_le (l : List Int) : nz l ≤ l.length := by
  induction l with
  | nil => simp [nz]
  | cons z r ih => simp only [nz, List.length_cons]; split <;> omega
theorem nz_take (l : List Int) : NZ (l.take (nz l)) := by
  induction l with
  | nil => intro c hc; simp at hc
  | cons z r ih =>
    simp only [nz]
    split
    · intro c hc; simp at hc
    · rename_i h
      rw [List.take_succ_cons]
      intro c hc
      rcases List.mem_cons.1 hc with rfl | hc
      · exact h
      · exact ih c hc
theorem nz_at (l : List Int) (h : nz l < l.length) : l[nz l]? = some 0 := by
  induction l with
  | nil => simp at h
  | cons z r ih =>
    simp only [nz] at h ⊢
    split
    · rename_i h0; simp [h0]
    · rename_i h0
      rw [if_neg h0] at h
      rw [List.getElem?_cons_succ]
      exact ih (by simp only [List.length_cons] at h; omega)
theorem nz_all {b : List Int} (h : NZ b) : nz b = b.length := by
  induction b with
  | nil => rfl
  | cons z r ih =>
    simp only [nz, List.length_cons]
    rw [if_neg (h z (by simp)), ih fun c hc => h c (by simp [hc])]
theorem nz_nought {b r : List Int} (h : NZ b) : nz (b ++ 0 :: r) = b.length := by
  induction b with
  | nil => simp [nz]
  | cons z r ih =>
    simp only [nz, List.length_cons, List.cons_append]
    rw [if_neg (h z (by simp)), ih fun c hc => h c (by simp [hc])]
theorem NZ.append {x y : List Int} (hx : NZ x) (hy : NZ y) : NZ (x ++ y) := fun c hc => by
  rcases List.mem_append.1 hc with h | h
  · exact hx c h
  · exact hy c h
theorem NZ.take {x : List Int} (h : NZ x) (n : Nat) : NZ (x.take n) := fun c hc => h c (List.mem_of_mem_take hc)

/-- how many bytes the first block has -/
def fst (l : List Int) : Nat := nz (l.take 254)
theorem fst_le (l : List Int) : fst l ≤ l.length := by have := nz_le (l.take 254); rw [List.length_take] at this; unfold fst; omega
theorem fst_254 (l : List Int) : fst l ≤ 254 := by have := nz_le (l.take 254); rw [List.length_take] at this; unfold fst; omega
theorem fst_nz (l : List Int) : NZ (l.take (fst l)) := by
  have := nz_take (l.take 254)
  rw [List.take_take] at this
  rw [show min (nz (l.take 254)) 254 = fst l from Nat.min_eq_left (fst_254 l)] at this
  exact this
theorem fst_at (l : List Int) (h : fst l < 254) (h2 : fst l < l.length) : l[fst l]? = some 0 := by
  have := nz_at (l.take 254) (by rw [List.length_take]; have : nz (l.take 254) = fst l := rfl; omega)
  rw [List.getElem?_take] at this
  rw [show nz (l.take 254) = fst l from rfl, if_pos h] at this
  exact this
theorem fst_last {b : List Int} (h : NZ b) (hl : b.length ≤ 254) : fst b = b.length := by
  unfold fst; rw [List.take_of_length_le hl]; exact nz_all h
theorem fst_nought {b r : List Int} (h : NZ b) (hl : b.length < 254) : fst (b ++ 0 :: r) = b.length := by
  unfold fst
  have e : (b ++ 0 :: r).take 254 = b ++ 0 :: r.take (253 - b.length) := by
    rw [List.take_append, List.take_of_length_le (by omega), show 254 - b.length = (253 - b.length) + 1 by omega, List.take_succ_cons]
  rw [e]; exact nz_nought h
theorem fst_full {b r : List Int} (h : NZ b) (hl : b.length = 254) : fst (b ++ r) = 254 := by
  unfold fst
  have e : (b ++ r).take 254 = b := by rw [← hl]; simp
  rw [e, nz_all h, hl]

/-- the blocks of bytes -/
def blocks (l : List Int) : List (List Int) :=
  if h : l.drop (fst l) = [] then [l.take (fst l)]
  else if h2 : fst l < 254 then l.take (fst l) :: blocks (l.drop (fst l + 1))
  else l.take (fst l) :: blocks (l.drop (fst l))
termination_by l.length
decreasing_by
  · have h3 : fst l < l.length := by
      rcases Nat.lt_or_ge (fst l) l.length with h' | h'
      · exact h'
      · exact absurd (List.drop_eq_nil_of_le h') h
    rw [List.length_drop]; omega
  · have h3 : fst l < l.length := by
      rcases Nat.lt_or_ge (fst l) l.length with h' | h'
      · exact h'
      · exact absurd (List.drop_eq_nil_of_le h') h
    rw [List.length_drop]; omega
theorem blocks_end {l : List Int} (h : l.length ≤ fst l) : blocks l = [l.take (fst l)] := by
  rw [blocks, dif_pos (List.drop_eq_nil_of_le h)]
theorem drop_ne {l : List Int} {n : Nat} (h : n < l.length) : l.drop n ≠ [] := fun e => by
  have := congrArg List.length e; rw [List.length_drop] at this; simp at this; omega
theorem blocks_short {l : List Int} (h : fst l < l.length) (h2 : fst l < 254) : blocks l = l.take (fst l) :: blocks (l.drop (fst l + 1)) := by
  rw [blocks, dif_neg (drop_ne h), dif_pos h2]
theorem blocks_long {l : List Int} (h : fst l < l.length) (h2 : ¬ fst l < 254) : blocks l = l.take (fst l) :: blocks (l.drop (fst l)) := by
  rw [blocks, dif_neg (drop_ne h), dif_neg h2]
theorem blocks_last {b : List Int} (h : NZ b) (hl : b.length ≤ 254) : blocks b = [b] := by
  rw [blocks_end (by rw [fst_last h hl]; exact Nat.le_refl _), fst_last h hl, List.take_length]
theorem blocks_nought {b r : List Int} (h : NZ b) (hl : b.length < 254) : blocks (b ++ 0 :: r) = b :: blocks r := by
  have e := fst_nought (r := r) h hl
  rw [blocks_short (by rw [e]; simp) (by rw [e]; exact hl), e]
  congr 1
  · simp
  · congr 1
    rw [List.drop_append]
    simp
theorem blocks_full {b r : List Int} (h : NZ b) (hl : b.length = 254) (hr : r ≠ []) : blocks (b ++ r) = b :: blocks r := by
  have e := fst_full (r := r) h hl
  have hp : 0 < r.length := List.length_pos_iff.2 hr
  rw [blocks_long (by rw [e, List.length_append]; omega) (by rw [e]; omega), e, ← hl]
  congr 1
  · simp
  · congr 1
    simp
/-- bytes are one block; or one, a 0, and others; or one of 254 and others -/
theorem shape (l : List Int) : (NZ l ∧ l.length ≤ 254) ∨ (∃ b r, NZ b ∧ b.length < 254 ∧ l = b ++ 0 :: r) ∨ (∃ b r, NZ b ∧ b.length = 254 ∧ r ≠ [] ∧ l = b ++ r) := by
  have h1 := fst_nz l
  have h2 := fst_254 l
  have h3 := fst_le l
  rcases Nat.lt_or_ge (fst l) l.length with h | h
  · by_cases h4 : fst l < 254
    · have h5 := fst_at l h4 h
      refine .inr (.inl ⟨l.take (fst l), l.drop (fst l + 1), h1, by rw [List.length_take]; omega, ?_⟩)
      rw [List.getElem?_eq_getElem h] at h5
      injection h5 with h5
      rw [← h5, List.getElem_cons_drop, List.take_append_drop]
    · exact .inr (.inr ⟨l.take (fst l), l.drop (fst l), h1, by rw [List.length_take]; omega, drop_ne h, (List.take_append_drop _ _).symm⟩)
  · rw [List.take_of_length_le h] at h1
    exact .inl ⟨h1, by omega⟩

/-- a block, stuffed -/
def one (b : List Int) : List Int := ((b.length + 1 : Nat) : Int) :: b
/-- bytes, stuffed -/
def join (bs : List (List Int)) : List Int := bs.flatMap one
def enc (l : List Int) : List Int := join (blocks l)
theorem join_append (a b : List (List Int)) : join (a ++ b) = join a ++ join b := by simp [join]
theorem enc_last {b : List Int} (h : NZ b) (hl : b.length ≤ 254) : enc b = one b := by simp [enc, join, blocks_last h hl]
theorem enc_nought {b r : List Int} (h : NZ b) (hl : b.length < 254) : enc (b ++ 0 :: r) = one b ++ enc r := by simp [enc, join, blocks_nought h hl]
theorem enc_full {b r : List Int} (h : NZ b) (hl : b.length = 254) (hr : r ≠ []) : enc (b ++ r) = one b ++ enc r := by simp [enc, join, blocks_full h hl hr]
theorem one_len (b : List Int) : (one b).length = b.length + 1 := rfl

/-- an induction along the blocks -/
theorem along {p : List Int → Prop} (h1 : ∀ b, NZ b → b.length ≤ 254 → p b) (h2 : ∀ b r, NZ b → b.length < 254 → p r → p (b ++ 0 :: r)) (h3 : ∀ b r, NZ b → b.length = 254 → r ≠ [] → p r → p (b ++ r)) (l : List Int) : p l := by
  suffices H : ∀ n (l : List Int), l.length ≤ n → p l from H l.length l (Nat.le_refl _)
  intro n
  induction n with
  | zero =>
    intro l hl
    obtain rfl : l = [] := List.length_eq_zero_iff.1 (by omega)
    exact h1 [] (fun c hc => by simp at hc) (by simp)
  | succ n ih =>
    intro l hl
    rcases shape l with ⟨ha, hb⟩ | ⟨b, r, ha, hb, rfl⟩ | ⟨b, r, ha, hb, hc, rfl⟩
    · exact h1 l ha hb
    · exact h2 b r ha hb (ih r (by simp only [List.length_append, List.length_cons] at hl; omega))
    · exact h3 b r ha hb hc (ih r (by simp only [List.length_append] at hl; omega))

theorem one_nz {b : List Int} (h : NZ b) : NZ (one b) := fun c hc => by
  rcases List.mem_cons.1 hc with rfl | hc
  · omega
  · exact h c hc
/-- what is stuffed has no 0 -/
theorem enc_nz (l : List Int) : NZ (enc l) := by
  refine along (p := fun l => NZ (enc l)) ?_ ?_ ?_ l
  · intro b h hl; rw [enc_last h hl]; exact one_nz h
  · intro b r h hl ih; rw [enc_nought h hl]; exact (one_nz h).append ih
  · intro b r h hl hr ih; rw [enc_full h hl hr]; exact (one_nz h).append ih
theorem enc_ne (l : List Int) : enc l ≠ [] := by
  rcases shape l with ⟨ha, hb⟩ | ⟨b, r, ha, hb, rfl⟩ | ⟨b, r, ha, hb, hc, rfl⟩
  · rw [enc_last ha hb]; simp [one]
  · rw [enc_nought ha hb]; simp [one]
  · rw [enc_full ha hb hc]; simp [one]
/-- how many bytes there are, stuffed -/
theorem enc_len (l : List Int) : l.length + 1 ≤ (enc l).length ∧ (enc l).length ≤ l.length + max 1 ((l.length + 253) / 254) ∧ (l.length ≤ 254 → (enc l).length = l.length + 1) ∧ (NZ l → (enc l).length = l.length + max 1 ((l.length + 253) / 254)) := by
  refine along (p := fun l => l.length + 1 ≤ (enc l).length ∧ (enc l).length ≤ l.length + max 1 ((l.length + 253) / 254) ∧ (l.length ≤ 254 → (enc l).length = l.length + 1) ∧ (NZ l → (enc l).length = l.length + max 1 ((l.length + 253) / 254))) ?_ ?_ ?_ l
  · intro b h hl
    rw [enc_last h hl, one_len]
    refine ⟨by omega, by omega, fun _ => rfl, fun _ => by omega⟩
  · intro b r h hl ⟨i1, i2, i3, _⟩
    rw [enc_nought h hl]
    simp only [List.length_append, List.length_cons, one_len] at *
    refine ⟨by omega, by omega, fun hh => by have := i3 (by omega); omega, fun hn => absurd rfl (hn 0 (by simp))⟩
  · intro b r h hl hr ⟨i1, i2, i3, i4⟩
    have hp : 0 < r.length := List.length_pos_iff.2 hr
    rw [enc_full h hl hr]
    simp only [List.length_append, one_len] at *
    refine ⟨by omega, by omega, fun hh => by omega, fun hn => ?_⟩
    have := i4 fun c hc => hn c (by simp [hc])
    omega
theorem enc_bytes {l : List Int} (h : ∀ z ∈ l, 0 ≤ z ∧ z < 256) : ∀ z ∈ enc l, 0 ≤ z ∧ z < 256 := by
  have ho : ∀ b : List Int, b.length ≤ 254 → (∀ z ∈ b, 0 ≤ z ∧ z < 256) → ∀ z ∈ one b, 0 ≤ z ∧ z < 256 := by
    intro b hl hb z hz
    rcases List.mem_cons.1 hz with rfl | hz
    · omega
    · exact hb z hz
  revert h
  refine along (p := fun l => (∀ z ∈ l, 0 ≤ z ∧ z < 256) → ∀ z ∈ enc l, 0 ≤ z ∧ z < 256) ?_ ?_ ?_ l
  · intro b h hl hb; rw [enc_last h hl]; exact ho b hl hb
  · intro b r h hl ih hb z hz
    rw [enc_nought h hl] at hz
    rcases List.mem_append.1 hz with hz | hz
    · exact ho b (by omega) (fun z hz => hb z (by simp [hz])) z hz
    · exact ih (fun z hz => hb z (by simp [hz])) z hz
  · intro b r h hl hr ih hb z hz
    rw [enc_full h hl hr] at hz
    rcases List.mem_append.1 hz with hz | hz
    · exact ho b (by omega) (fun z hz => hb z (by simp [hz])) z hz
    · exact ih (fun z hz => hb z (by simp [hz])) z hz

/-! ### decoding, as the program goes -/
/-- what is ahead has been decoded, and its last block has been full or not: what is behind -/
def dec (full : Bool) (s : List Int) : Option (List Int) :=
  match s with
  | [] => none
  | c :: r =>
    if c ≤ 0 ∨ (r.length : Int) + 1 < c then none
    else if nz (r.take (c.toNat - 1)) < c.toNat - 1 then none
    else if r.length ≤ c.toNat - 1 then (if full = true ∧ c.toNat - 1 = 0 then none else some (r.take (c.toNat - 1)))
    else (dec (decide (c.toNat - 1 = 254)) (r.drop (c.toNat - 1))).map fun x => r.take (c.toNat - 1) ++ (if c.toNat - 1 = 254 then x else 0 :: x)
termination_by s.length
decreasing_by
  simp only [List.length_drop, List.length_cons]
  omega

theorem dec_nil (f : Bool) : dec f [] = none := by rw [dec]
theorem dec_bad {f : Bool} {c : Int} {r : List Int} (h : c ≤ 0 ∨ (r.length : Int) + 1 < c) : dec f (c :: r) = none := by rw [dec, if_pos h]
/-- a code of n bytes, n no more than there are -/
theorem dec_zero {f : Bool} {n : Nat} {r : List Int} (h : n ≤ r.length) (hz : nz (r.take n) < n) : dec f (((n + 1 : Nat) : Int) :: r) = none := by
  rw [dec, if_neg (by omega), if_pos (by simpa using hz)]
theorem dec_last {f : Bool} {n : Nat} {r : List Int} (h : n = r.length) (hz : n ≤ nz (r.take n)) : dec f (((n + 1 : Nat) : Int) :: r) = if f = true ∧ n = 0 then none else some (r.take n) := by
  rw [dec, if_neg (by omega), if_neg (by simpa using hz), if_pos (by simp; omega)]
  simp
theorem dec_more {f : Bool} {n : Nat} {r : List Int} (h : n < r.length) (hz : n ≤ nz (r.take n)) : dec f (((n + 1 : Nat) : Int) :: r) = (dec (decide (n = 254)) (r.drop n)).map fun x => r.take n ++ (if n = 254 then x else 0 :: x) := by
  rw [dec, if_neg (by omega), if_neg (by simpa using hz), if_neg (by simp; omega)]
  simp
/-- a block, and what is behind -/
theorem dec_one {f : Bool} {b s : List Int} (hb : NZ b) (hs : s ≠ []) : dec f (one b ++ s) = (dec (decide (b.length = 254)) s).map fun x => b ++ (if b.length = 254 then x else 0 :: x) := by
  have hp : 0 < s.length := List.length_pos_iff.2 hs
  have h := dec_more (f := f) (n := b.length) (r := b ++ s) (by simp; omega) (by simp [nz_all hb])
  simpa [one] using h
theorem dec_end {f : Bool} {b : List Int} (hb : NZ b) : dec f (one b) = if f = true ∧ b.length = 0 then none else some b := by
  have h := dec_last (f := f) (n := b.length) (r := b) rfl (by simp [nz_all hb])
  simpa [one] using h
theorem dec_enc (l : List Int) : ∀ f : Bool, (f = true → l ≠ []) → dec f (enc l) = some l := by
  refine along (p := fun l => ∀ f : Bool, (f = true → l ≠ []) → dec f (enc l) = some l) ?_ ?_ ?_ l
  · intro b h hl f hf
    rw [enc_last h hl, dec_end h, if_neg]
    rintro ⟨h1, h2⟩
    exact hf h1 (List.length_eq_zero_iff.1 h2)
  · intro b r h hl ih f hf
    rw [enc_nought h hl, dec_one h (enc_ne r), ih _ (by simp; omega)]
    simp
    omega
  · intro b r h hl hr ih f hf
    rw [enc_full h hl hr, dec_one h (enc_ne r), ih _ (fun _ => hr)]
    simp [hl]
theorem NZ_of_nz {l : List Int} {n : Nat} (h : n ≤ nz (l.take n)) : NZ (l.take n) := by
  have h1 := nz_take (l.take n)
  rw [List.take_take, Nat.min_eq_right h] at h1
  exact h1
theorem enc_dec : ∀ (n : Nat) (s : List Int) (f : Bool) (x : List Int), s.length ≤ n → (∀ z ∈ s, z < 256) → dec f s = some x → enc x = s ∧ (f = true → x ≠ []) := by
  intro n
  induction n with
  | zero =>
    intro s f x hl _ h
    obtain rfl : s = [] := List.length_eq_zero_iff.1 (by omega)
    rw [dec_nil] at h; simp at h
  | succ n ih =>
    intro s f x hl hb h
    cases s with
    | nil => rw [dec_nil] at h; simp at h
    | cons c r =>
      by_cases h1 : c ≤ 0 ∨ (r.length : Int) + 1 < c
      · rw [dec_bad h1] at h; simp at h
      · obtain ⟨m, rfl⟩ : ∃ m : Nat, c = ((m + 1 : Nat) : Int) := ⟨(c - 1).toNat, by omega⟩
        have hm := hb ((m + 1 : Nat) : Int) (by simp)
        have hmr : m ≤ r.length := by omega
        by_cases h2 : nz (r.take m) < m
        · rw [dec_zero hmr h2] at h; simp at h
        · have hN : NZ (r.take m) := NZ_of_nz (by omega)
          have hlen : (r.take m).length = m := by rw [List.length_take]; omega
          have hone : one (r.take m) = ((m + 1 : Nat) : Int) :: r.take m := by rw [one, hlen]
          rcases Nat.lt_or_ge m r.length with h3 | h3
          · rw [dec_more h3 (by omega)] at h
            obtain ⟨y, hy, rfl⟩ := Option.map_eq_some_iff.1 h
            obtain ⟨i1, i2⟩ := ih _ _ _ (by simp only [List.length_drop, List.length_cons] at *; omega) (fun z hz => hb z (List.mem_cons_of_mem _ (List.mem_of_mem_drop hz))) hy
            by_cases h4 : m = 254
            · rw [if_pos h4, enc_full hN (by omega) (i2 (by simp [h4])), i1, hone, List.cons_append, List.take_append_drop]
              refine ⟨rfl, fun _ e => ?_⟩
              have := congrArg List.length e
              rw [List.length_append] at this
              simp only [List.length_nil] at this
              omega
            · rw [if_neg h4, enc_nought hN (by omega), i1, hone, List.cons_append, List.take_append_drop]
              exact ⟨rfl, fun _ e => by simp at e⟩
          · rw [dec_last (by omega) (by omega)] at h
            split at h
            · simp at h
            · rename_i h5
              injection h with h
              subst h
              rw [enc_last hN (by omega), hone]
              have e : r.take m = r := List.take_of_length_le h3
              rw [e] at hlen ⊢
              refine ⟨rfl, fun h6 h7 => h5 ⟨h6, ?_⟩⟩
              rw [h7] at hlen
              simpa using hlen.symm
/-- of which bytes these are the stuffed ones, if of some -/
theorem dec_iff {s x : List Int} (hb : ∀ z ∈ s, z < 256) : dec false s = some x ↔ enc x = s :=
  ⟨fun h => (enc_dec s.length s false x (Nat.le_refl _) hb h).1, fun h => by rw [← h]; exact dec_enc x false (by simp)⟩
theorem enc_inj {x y : List Int} (h : enc x = enc y) : x = y := by
  have h1 := dec_enc x false (by simp)
  rw [h, dec_enc y false (by simp)] at h1
  exact (Option.some.inj h1).symm

/-! ### blocks, as the document's answer goes -/
/-- what is left of the blocks, N the block that is open -/
def rem (e : Bool) (l : List Int) : List (List Int) := if e = true ∧ l = [] then [] else blocks l
theorem rem_false (l : List Int) : rem false l = blocks l := by simp [rem]
theorem rem_cons (e : Bool) (l : List Int) (h : l ≠ []) : rem e l = blocks l := by simp [rem, h]
theorem rem_full {b r : List Int} (h : NZ b) (hl : b.length = 254) : blocks (b ++ r) = b :: rem true r := by
  by_cases hr : r = []
  · subst hr
    simp [rem, blocks_last h (by omega : b.length ≤ 254)]
  · rw [blocks_full h hl hr, rem_cons _ _ hr]

/-! ### decoding, as the document's answer goes -/
/-- at a place of stuffed bytes: what has been decoded, and what is left; behind a block of 254 something is left -/
def At (x out rest : List Int) : Prop := x = out ++ rest
end Cb
end Go.Proofs.Ytfdbcfkjablnkaa

namespace Go.Proofs.Ytfdbcfkjablnkaa
open Go.RowKit
set_option maxRecDepth 100000

/-- the place of the first 0, or -1 -/
def idx (zs : List Int) : Int := if Cb.nz zs < zs.length then (Cb.nz zs : Int) else -1
theorem lib_index (zs : List Int) (hz : Bytes zs) : Lib.indexByte (Lib.bytesOf zs) 0 = idx zs := by
  induction zs with
  | nil => rfl
  | cons z r ih =>
    have hr := ih fun c hc => hz c (by simp [hc])
    have hb := hz z (by simp)
    have hc : Lib.bytesOf (z :: r) = z.toNat.toUInt8 :: Lib.bytesOf r := rfl
    rw [hc, Lib.indexByte, hr]
    by_cases h0 : z = 0
    · subst h0
      simp [idx, Cb.nz]
    · have h1 : (z.toNat.toUInt8 == (0 : UInt8)) = false := by
        rw [beq_eq_false_iff_ne]
        intro e
        have e2 := congrArg UInt8.toNat e
        have : z.toNat.toUInt8.toNat = z.toNat % 256 := by simp [Nat.toUInt8]
        rw [this] at e2
        have e3 : (0 : UInt8).toNat = 0 := rfl
        rw [e3] at e2
        omega
      rw [h1]
      by_cases h2 : Cb.nz r < r.length
      · have e1 : idx r = (Cb.nz r : Int) := by unfold idx; rw [if_pos h2]
        have e2 : idx (z :: r) = ((Cb.nz r + 1 : Nat) : Int) := by unfold idx; rw [Cb.nz, if_neg h0, List.length_cons, if_pos (by omega)]
        have e3 : ((Cb.nz r : Int) == -1) = false := by rw [beq_eq_false_iff_ne]; omega
        rw [e1, e2, e3]
        simp
      · have e1 : idx r = -1 := by unfold idx; rw [if_neg h2]
        have e2 : idx (z :: r) = -1 := by unfold idx; rw [Cb.nz, if_neg h0, List.length_cons, if_neg (by omega)]
        rw [e1, e2]
        simp

theorem index_run (P : Program) (B : Nat) (a : Option Addr) (n c : Nat) (zs : List Int) (w : World) (hn : zs.length = n) (hz : Bytes zs) (h1 : Nums .u8 w B a zs) :
    (Extern.BytealgIndexByte.indexByte #[.slice a n c, .int .u8 0]).run P w = .ok (.int .i64 (idx zs)) w := by
  subst hn
  by_cases h0 : zs = []
  · subst h0
    cases a with
    | none => exact Lib.run_indexByteNil w 0 c 0
    | some x =>
      have hs := Lib.run_indexByteString (P := P) .empty 0 w
      exact hs
  · obtain ⟨b, o, rfl, _, hc⟩ := h1 h0
    have h := Lib.run_indexByteSlice (P := P) w b o zs.length c zs rfl (fun i hi => by
      rw [hc i zs[i] (List.getElem?_eq_getElem hi)]
      simp [List.getElem?_eq_getElem hi]) 0
    rw [← lib_index zs hz]
    exact h

end Go.Proofs.Ytfdbcfkjablnkaa

namespace Go.Proofs.Ytfdbcfkjablnkaa
open Go.RowKit
set_option maxRecDepth 100000

end Go.Proofs.Ytfdbcfkjablnkaa

namespace Go.Proofs.Ytfdbcfkjablnkaa
open Go.RowKit Go.Shelf
set_option maxRecDepth 100000
attribute [local go_sem] Oper.semAt_some

/-- a block as the closure hands it on: where it lies, its bytes -/
abbrev Blk (w : World) (S : Nat → Prop) := { x : Option Addr × List Int // NumsS .u8 w S x.1 x.2 ∧ Bytes x.2 ∧ x.2.length ≤ 254 }
section
variable {w : World} {S : Nat → Prop}
def bbare (l : List (Blk w S)) : List (List Int) := l.map fun x => x.1.2
theorem bbare_append (a b : List (Blk w S)) : bbare (a ++ b) = bbare a ++ bbare b := by simp [bbare]
theorem bbare_length (a : List (Blk w S)) : (bbare a).length = a.length := by simp [bbare]
def bargs (x : Blk w S) : Array Value := #[Value.slice x.1.1 x.1.2.length x.1.2.length]
end
def sliceLen : Value → Nat
  | .slice _ n _ => n
  | _ => 0

end Go.Proofs.Ytfdbcfkjablnkaa

namespace Go.Proofs.Ytfdbcfkjablnkaa
open Go.RowKit Go.Shelf
set_option maxRecDepth 100000
attribute [local go_sem] Oper.semAt_some

/-! ### only one block has turned -/
theorem ownFrom_grown {β : Type} {B : Nat} {w0 : World} {row : Nat} (hB : B = w0.heap.size) : OwnFrom B (fun (_ : β) W => w0.grownBy W (some row)) := by
  subst hB
  intro _ W W' r hs hg hr
  refine ⟨hg.os.trans hs.os, hg.tape.trans hs.tape, hg.output.trans hs.output, Nat.le_trans hs.size hg.size, fun k hk hne => ?_⟩
  refine (hg.block k (Nat.lt_of_lt_of_le hk hs.size) (fun e => ?_)).trans (hs.block k hk hne)
  have := (hr k e.symm).1
  omega
theorem grown_boxed {w0 W : World} {row b : Nat} {t : TypeId} {v : Value} (h : w0.grownBy W (some row)) (hb : Boxed w0 b t v) (hne : b ≠ row) : Boxed W b t v := hb.kept h (fun e => by injection e with e; exact hne e)
theorem grown_below {w0 W : World} {row B : Nat} (h : w0.grownBy W (some row)) (hB : B ≤ w0.heap.size) (hr : B ≤ row) : Below B w0 W := (Below.refl B w0).grown h hB (fun k e => by injection e with e; omega)
theorem grown_set {w0 W : World} {row : Nat} (h : w0.grownBy W (some row)) (v : Value) : w0.grownBy (W.setCell ⟨row, 0, none⟩ v) (some row) :=
  ⟨h.os, h.tape, h.output, by simpa [World.setCell] using h.size, fun k hk hne => (Below.heap_setCell W ⟨row, 0, none⟩ v k (fun e => hne (by simp at e; rw [e]))).trans (h.block k hk hne)⟩

theorem join_size (bs : List (List Int)) (b : List Int) : (Cb.join (bs ++ [b])).length = (Cb.join bs).length + (1 + b.length) := by
  rw [Cb.join_append, List.length_append]
  simp [Cb.join, Cb.one]
  omega
theorem join_most {w : World} {S : Nat → Prop} (pre : List (Blk w S)) : (Cb.join (bbare pre)).length ≤ 255 * pre.length := by
  induction pre with
  | nil => simp [bbare, Cb.join]
  | cons x pre ih =>
    have h : (Cb.join (bbare (x :: pre))).length = (x.1.2.length + 1) + (Cb.join (bbare pre)).length := by simp [bbare, Cb.join, Cb.one]; omega
    have hx := x.2.2.2
    rw [h, List.length_cons]
    omega
theorem blocks_most (bs : List (List Int)) : bs.length ≤ (Cb.join bs).length := by
  induction bs with
  | nil => simp
  | cons b bs ih =>
    have h : (Cb.join (b :: bs)).length = (b.length + 1) + (Cb.join bs).length := by simp [Cb.join, Cb.one]; omega
    rw [h, List.length_cons]
    omega
theorem blocks_many (zs : List Int) : (Cb.blocks zs).length ≤ 2 * zs.length + 1 := by
  have h1 := blocks_most (Cb.blocks zs)
  have h2 := (Cb.enc_len zs).2.1
  have h3 : Cb.join (Cb.blocks zs) = Cb.enc zs := rfl
  rw [h3] at h1
  omega

end Go.Proofs.Ytfdbcfkjablnkaa

namespace Go.Proofs.Ytfdbcfkjablnkaa
open Go.RowKit Go.Shelf
set_option maxRecDepth 100000
attribute [local go_sem] Oper.semAt_some

theorem ownFrom_keepS {β : Type} {B : Nat} {w0 : World} {S : Nat → Prop} (hS : ∀ k, S k → k < B) (hB : B ≤ w0.heap.size) : OwnFrom B (fun (_ : β) W => KeepS S w0 W) := by
  intro _ W W' r hs hg hr
  refine ⟨Nat.le_trans hs.1 hg.size, fun k hk => (hg.block k (by have := hS k hk; have := hs.1; omega) (fun e => ?_)).trans (hs.2 k hk)⟩
  have h1 := (hr k e.symm).1
  have := hS k hk
  omega

/-- the set of blocks that the iterator reads -/
def Src2 (base Bs : Nat) (k : Nat) : Prop := k < base ∨ k = Bs

end Go.Proofs.Ytfdbcfkjablnkaa

namespace Go.Proofs.Ytfdbcfkjablnkaa
open Go.RowKit

/-- x is a slice of the numbers b, in a block of the call's own with elements of type te, which is not u's -/
def El (te : TypeId) (k : IntKind) (base : Nat) (W : World) (u x : Value) (b : List Int) : Prop :=
  ∃ (A : Option Addr) (c : Nat), x = .slice A b.length c ∧ b.length ≤ c ∧ (b ≠ [] → ∃ (g : Nat) (cur : Array Value), A = some ⟨g, 0, none⟩ ∧ base ≤ g ∧ W.heap[g]? = some (.cells cur te (0, 0)) ∧ u.ownBlock ≠ some g ∧ ∀ (j : Nat) (z : Int), b[j]? = some z → cur[j]? = some (Value.int k z))
/-- the slice v of slices, the lists O; the row u, the numbers N -/
structure Ls (te tl : TypeId) (k : IntKind) (base : Nat) (W : World) (v u : Value) (xs : List Value) (O : List (List Int)) (N : List Int) : Prop where
  out : W.ownsRow base tl 1 v O.length xs
  els : ∀ (i : Nat) (b : List Int), O[i]? = some b → ∃ x, xs[i]? = some x ∧ El te k base W u x b
  now : W.ownsRow base te 1 u N.length (N.map (Value.int k))
section
variable {te tl : TypeId} {k : IntKind} {base : Nat} {W w1 : World} {v v' u u' x : Value} {xs : List Value} {O : List (List Int)} {N b : List Int} {o : Obj}
theorem own_far {e e2 : TypeId} {n m : Nat} {ys : List Value} (h : W.ownsRow base e 1 v n xs) (h2 : W.ownsRow base e2 1 u m ys) (hne : e ≠ e2) : v.ownBlock = none ∨ v.ownBlock ≠ u.ownBlock := by
  rcases h.2 with ⟨rfl, _⟩ | ⟨g, cap, cur, rfl, _, hh, _⟩
  · exact .inl rfl
  · right
    rcases h2.2 with ⟨rfl, _⟩ | ⟨g2, cap2, cur2, rfl, _, hh2, _⟩
    · simp [Value.ownBlock]
    · intro e
      simp only [Value.ownBlock, Option.some.injEq] at e
      subst e
      rw [hh] at hh2
      injection hh2 with hh2
      injection hh2 with _ ht
      exact hne ht
theorem Ls.start (te tl : TypeId) (k : IntKind) (base : Nat) (W : World) : Ls te tl k base W (.slice none 0 0) (.slice none 0 0) [] [] [] :=
  ⟨World.ownsRow_nil _ _ _ _, fun i b h => by simp at h, World.ownsRow_nil _ _ _ _⟩
/-- a number more in the row -/
theorem Ls.grow {z : Int} (h : Ls te tl k base W v u xs O N) (hne : te ≠ tl) (hown : w1.ownsRow base te 1 u' (N.length + 1) (N.map (Value.int k) ++ [.int k z])) (hg : (W.alloc o).grownBy w1 u.ownBlock) (hat : u'.ownBlock = u.ownBlock ∨ u'.ownBlock = some (W.alloc o).heap.size) :
    Ls te tl k base w1 v u' xs O (N ++ [z]) := by
  refine ⟨(h.out.alloc o).kept hg (own_far h.out h.now (Ne.symm hne)), fun i b hb => ?_, by simpa using hown⟩
  obtain ⟨x, hx, A, c, rfl, hc, hcell⟩ := h.els i b hb
  refine ⟨_, hx, A, c, rfl, hc, fun hn => ?_⟩
  obtain ⟨g, cur, rfl, hbg, hh, hu, hz⟩ := hcell hn
  have hlt := (Array.getElem?_eq_some_iff.1 hh).1
  refine ⟨g, cur, rfl, hbg, ?_, ?_, hz⟩
  · rw [hg.block g (by rw [World.size_alloc]; omega) (fun e => hu e.symm)]
    exact (Below.heap_alloc W o g hlt).trans hh
  · rcases hat with e | e
    · rw [e]; exact hu
    · rw [e, World.size_alloc]; intro e2; injection e2 with e2; omega
/-- the row is put to the lists, and begun anew -/
theorem Ls.push (h : Ls te tl k base W v u xs O N) (hne : te ≠ tl) (hown : w1.ownsRow base tl 1 v' (O.length + 1) (xs ++ [u])) (hg : (W.alloc o).grownBy w1 v.ownBlock) :
    Ls te tl k base w1 v' (.slice none 0 0) (xs ++ [u]) (O ++ [N]) [] := by
  have hxl : xs.length = O.length := by have := h.out.1; omega
  have hfar : ∀ (g : Nat) (cur : Array Value), W.heap[g]? = some (Obj.cells cur te (0, 0)) → w1.heap[g]? = some (Obj.cells cur te (0, 0)) := fun g cur hh => by
    have hlt := (Array.getElem?_eq_some_iff.1 hh).1
    rw [hg.block g (by rw [World.size_alloc]; omega) (fun e => ?_)]
    · exact (Below.heap_alloc W o g hlt).trans hh
    · rcases h.out.2 with ⟨rfl, _⟩ | ⟨g2, cap2, cur2, rfl, _, hh2, _⟩
      · simp [Value.ownBlock] at e
      · simp only [Value.ownBlock, Option.some.injEq] at e
        subst e
        rw [hh] at hh2
        injection hh2 with hh2
        injection hh2 with _ ht
        exact hne ht
  refine ⟨by simpa using hown, fun i b hb => ?_, World.ownsRow_nil _ _ _ _⟩
  rcases Nat.lt_or_ge i O.length with hi | hi
  · rw [List.getElem?_append_left hi] at hb
    obtain ⟨x, hx, A, c, rfl, hc, hcell⟩ := h.els i b hb
    refine ⟨_, by rw [List.getElem?_append_left (by omega)]; exact hx, A, c, rfl, hc, fun hn => ?_⟩
    obtain ⟨g, cur, rfl, hbg, hh, hu, hz⟩ := hcell hn
    exact ⟨g, cur, rfl, hbg, hfar g cur hh, by simp [Value.ownBlock], hz⟩
  · rw [List.getElem?_append_right hi] at hb
    have hi0 : i - O.length = 0 := by
      rcases Nat.eq_zero_or_pos (i - O.length) with h0 | h0
      · exact h0
      · rw [List.getElem?_eq_none (by simp only [List.length_singleton]; omega)] at hb; simp at hb
    rw [hi0] at hb
    simp only [List.getElem?_cons_zero, Option.some.injEq] at hb
    subst hb
    refine ⟨u, by rw [List.getElem?_append_right (by omega), show i - xs.length = 0 by omega]; rfl, ?_⟩
    rcases h.now.2 with ⟨rfl, h0⟩ | ⟨g, cap, cur, rfl, hbg, hh, hle, _, _, htk⟩
    · rw [List.eq_nil_of_length_eq_zero h0]
      exact ⟨none, 0, rfl, Nat.le_refl _, fun hn => absurd rfl hn⟩
    · refine ⟨_, cap, rfl, hle, fun _ => ⟨g, cur, rfl, hbg, hfar g cur hh, by simp [Value.ownBlock], fun j z hj => ?_⟩⟩
      have h1 : (N.map (Value.int k))[j]? = some (.int k z) := by rw [List.getElem?_map, hj]; rfl
      rw [← htk, List.getElem?_take] at h1
      split at h1
      · rw [← Array.getElem?_toList]; exact h1
      · simp at h1
end

/-- a slice of slices of numbers that lies at A, below B -/
def ListAt (k : IntKind) (w : World) (B : Nat) (A : Option Addr) (bl : List (List Int)) : Prop :=
  ∀ (i : Nat) (b : List Int), bl[i]? = some b → ∃ (g : Nat) (Ai : Option Addr) (ci : Nat), A = some ⟨g, 0, none⟩ ∧ g < B ∧ w.cell? ⟨g, i, none⟩ = some (.slice Ai b.length ci) ∧ b.length ≤ ci ∧ Nums k w B Ai b
theorem ListAt.below {k : IntKind} {w w' : World} {B : Nat} {A : Option Addr} {bl : List (List Int)} (h : ListAt k w B A bl) (hb : Below B w w') : ListAt k w' B A bl := fun i b hi => by
  obtain ⟨g, Ai, ci, e, hg, hc, hl, hn⟩ := h i b hi
  exact ⟨g, Ai, ci, e, hg, (hb.cell (p := ⟨g, i, none⟩) hg).trans hc, hl, hn.below hb⟩
theorem ListAt.mono {k : IntKind} {w : World} {B B' : Nat} {A : Option Addr} {bl : List (List Int)} (h : ListAt k w B A bl) (hB : B ≤ B') : ListAt k w B' A bl := fun i b hi => by
  obtain ⟨g, Ai, ci, e, hg, hc, hl, hn⟩ := h i b hi
  exact ⟨g, Ai, ci, e, Nat.lt_of_lt_of_le hg hB, hc, hl, hn.mono hB⟩
theorem Ls.lies {te tl : TypeId} {k : IntKind} {base : Nat} {W : World} {v u : Value} {xs : List Value} {O : List (List Int)} {N : List Int} (h : Ls te tl k base W v u xs O N) : ∃ A c, v = .slice A O.length c ∧ O.length ≤ c ∧ ListAt k W W.heap.size A O := by
  rcases h.out.2 with ⟨rfl, h0⟩ | ⟨g, cap, cur, rfl, hbg, hh, hle, _⟩
  · rw [List.eq_nil_of_length_eq_zero h0]
    exact ⟨none, 0, rfl, Nat.le_refl _, fun i b hi => by simp at hi⟩
  · refine ⟨_, cap, rfl, hle, fun i b hi => ?_⟩
    obtain ⟨x, hx, A, c, rfl, hc, hcell⟩ := h.els i b hi
    have h1 := h.out.cells (g := g) rfl i _ hx
    rw [Addr.add_lit, Nat.zero_add] at h1
    refine ⟨g, A, c, rfl, (Array.getElem?_eq_some_iff.1 hh).1, h1, hc, fun hn => ?_⟩
    obtain ⟨g2, cur2, rfl, _, hh2, _, hz⟩ := hcell hn
    refine ⟨g2, 0, rfl, (Array.getElem?_eq_some_iff.1 hh2).1, fun j z hj => ?_⟩
    rw [Nat.zero_add]
    simp [World.cell?, hh2, hz j z hj]
end Go.Proofs.Ytfdbcfkjablnkaa

namespace Go.Proofs.Ytfdbcfkjablnkaa
open Go.RowKit
set_option maxRecDepth 100000

/-- what the document's Blocks leaves -/
def RBlk (w : World) (bl : List (List Int)) (e : Ending) (w' : World) : Prop := ∃ A c, e = .returned (.slice A bl.length c) ∧ bl.length ≤ c ∧ ListAt .u8 w' w'.heap.size A bl ∧ Below w.heap.size w w'
theorem RBlk.of {w w' : World} {bl O : List (List Int)} {N : List Int} {v u : Value} {xs : List Value} {te tl : TypeId} {base : Nat} (h : Ls te tl .u8 base w' v u xs O N) (he : bl = O) (hb : Below w.heap.size w w') : RBlk w bl (.returned v) w' := by
  subst he
  obtain ⟨A, c, rfl, hc, hl⟩ := h.lies
  exact ⟨A, c, rfl, hc, hl, hb⟩

end Go.Proofs.Ytfdbcfkjablnkaa

namespace Go.Proofs.Ytfdbcfkjablnkaa
open Go.RowKit

/-- the numbers zs lie at a, in a block from lo on, below hi -/
def NumsIn (k : IntKind) (w : World) (lo hi : Nat) (a : Option Addr) (zs : List Int) : Prop :=
  zs ≠ [] → ∃ b off, a = some ⟨b, off, none⟩ ∧ lo ≤ b ∧ b < hi ∧ ∀ j c, zs[j]? = some c → w.cell? ⟨b, off + j, none⟩ = some (.int k c)
/-- the blocks from lo on, below hi, are as they were -/
def Keeps (lo hi : Nat) (W W' : World) : Prop := W.heap.size ≤ W'.heap.size ∧ ∀ k, lo ≤ k → k < hi → W'.heap[k]? = W.heap[k]?
theorem Keeps.refl (lo hi : Nat) (W : World) : Keeps lo hi W W := ⟨Nat.le_refl _, fun _ _ _ => rfl⟩
theorem Keeps.trans {lo hi : Nat} {A B C : World} (h : Keeps lo hi A B) (k : Keeps lo hi B C) : Keeps lo hi A C := ⟨Nat.le_trans h.1 k.1, fun i h1 h2 => (k.2 i h1 h2).trans (h.2 i h1 h2)⟩
theorem Keeps.of_below {lo hi : Nat} {A B : World} (h : Below hi A B) : Keeps lo hi A B := ⟨h.size, fun k _ h2 => h.block k h2⟩
theorem Keeps.of_off {S : Nat → Prop} {lo hi : Nat} {A B : World} (h : Off S A B) (hh : hi ≤ A.heap.size) (hS : ∀ k, lo ≤ k → k < hi → ¬ S k) : Keeps lo hi A B := ⟨h.size, fun k h1 h2 => h.block k (by omega) (hS k h1 h2)⟩
theorem Keeps.cell {lo hi : Nat} {A B : World} (h : Keeps lo hi A B) {p : Addr} (h1 : lo ≤ p.block) (h2 : p.block < hi) : B.cell? p = A.cell? p := World.cell?_of_block (h.2 p.block h1 h2)
section
variable {k : IntKind} {lo lo' hi hi' : Nat} {A B : World} {a : Option Addr} {zs : List Int}
theorem NumsIn.keeps (h : NumsIn k A lo hi a zs) (hk : Keeps lo hi A B) : NumsIn k B lo hi a zs := fun hn => by
  obtain ⟨b, off, e, h1, h2, hc⟩ := h hn
  exact ⟨b, off, e, h1, h2, fun j c hj => (hk.cell (p := ⟨b, off + j, none⟩) h1 h2).trans (hc j c hj)⟩
theorem NumsIn.nums (h : NumsIn k A lo hi a zs) : Nums k A hi a zs := fun hn => by
  obtain ⟨b, off, e, _, h2, hc⟩ := h hn
  exact ⟨b, off, e, h2, hc⟩
theorem NumsIn.mono (h : NumsIn k A lo hi a zs) (hh : hi ≤ hi') : NumsIn k A lo hi' a zs := fun hn => by
  obtain ⟨b, off, e, h1, h2, hc⟩ := h hn
  exact ⟨b, off, e, h1, by omega, hc⟩
theorem NumsIn.lower (h : NumsIn k A lo hi a zs) (hh : lo' ≤ lo) : NumsIn k A lo' hi a zs := fun hn => by
  obtain ⟨b, off, e, h1, h2, hc⟩ := h hn
  exact ⟨b, off, e, by omega, h2, hc⟩
end
theorem MadeK.numsIn {e : TypeId} {k : IntKind} {w w1 : World} {L : List Int} {A : Option Addr} {c : Nat} (h : MadeK e k w w1 L (.slice A L.length c)) : NumsIn k w1 w.heap.size w1.heap.size A L := fun hn => by
  obtain ⟨b, off, rfl, hb, hc⟩ := Nums.of_own h.1 hn
  exact ⟨b, off, rfl, (h.own_ge (g := b) rfl).1, hb, hc⟩
theorem MadeK.less {T : TypeId} {k : IntKind} {w w1 w2 : World} {L : List Int} {v : Value} (h : MadeK T k w1 w2 L v) (hb : Below w.heap.size w w1) : MadeK T k w w2 L v := by
  obtain ⟨⟨e, h2⟩, hb2⟩ := h
  refine ⟨⟨e, ?_⟩, hb.trans (hb2.mono hb.size)⟩
  rcases h2 with h0 | ⟨g, cap, cur, q1, q2, q3⟩
  · exact .inl h0
  · exact .inr ⟨g, cap, cur, q1, Nat.le_trans hb.size q2, q3⟩
end Go.Proofs.Ytfdbcfkjablnkaa

namespace Go.Proofs.Ytfdbcfkjablnkaa
open Go.RowKit
set_option maxRecDepth 100000

theorem blocks_254 (zs : List Int) : ∀ b ∈ Cb.blocks zs, b.length ≤ 254 := by
  refine Cb.along (p := fun zs => ∀ b ∈ Cb.blocks zs, b.length ≤ 254) ?_ ?_ ?_ zs
  · intro b h hl x hx
    rw [Cb.blocks_last h hl] at hx
    simp at hx; subst hx; exact hl
  · intro b r h hl ih x hx
    rw [Cb.blocks_nought h hl] at hx
    rcases List.mem_cons.1 hx with rfl | hx
    · omega
    · exact ih x hx
  · intro b r h hl hr ih x hx
    rw [Cb.blocks_full h hl hr] at hx
    rcases List.mem_cons.1 hx with rfl | hx
    · omega
    · exact ih x hx
theorem join_pre {bs ys : List (List Int)} (h : bs <+: ys) : (Cb.join bs).length ≤ (Cb.join ys).length := by
  obtain ⟨t, rfl⟩ := h
  rw [Cb.join_append, List.length_append]
  omega
theorem join_take {bl : List (List Int)} {i : Nat} {b : List Int} (h : bl[i]? = some b) : Cb.join (bl.take (i + 1)) = (Cb.join (bl.take i) ++ [(b.length : Int) + 1]) ++ b := by
  rw [List.take_add_one, h, Cb.join_append]
  simp [Cb.join, Cb.one]

end Go.Proofs.Ytfdbcfkjablnkaa

namespace Go.Proofs.Ytfdbcfkjablnkaa
open Go.RowKit Go.Shelf
set_option maxRecDepth 100000
attribute [local go_sem] Oper.semAt_some

theorem flat_take {α : Type} (bl : List (List α)) (k : Nat) {b : List α} (hb : bl[k]? = some b) : (bl.take (k + 1)).flatten = (bl.take k).flatten ++ b := by
  rw [List.take_add_one, hb]
  simp
theorem flat_take_le {α : Type} (bl : List (List α)) (k : Nat) : (bl.take k).flatten.length ≤ bl.flatten.length := by
  conv => rhs; rw [← List.take_append_drop k bl, List.flatten_append, List.length_append]
  omega
theorem MadeK.of_row {e : TypeId} {k : IntKind} {w w' : World} {A : Option Addr} {cap : Nat} {cur : List Int} (hr : KRow e k w' A cap cur) (hA : ∀ g o s, A = some ⟨g, o, s⟩ → w.heap.size ≤ g) (hb : Below w.heap.size w w') : MadeK e k w w' [] (.slice A 0 cap) := by
  refine ⟨⟨by simp, ?_⟩, hb⟩
  rcases hr.2 with ⟨rfl, rfl⟩ | ⟨g, rfl, hm, hh⟩
  · exact .inl ⟨rfl, rfl⟩
  · exact .inr ⟨g, cap, _, rfl, hA _ _ _ rfl, hh, by simp, hm, by simp [hr.1], by simp⟩

end Go.Proofs.Ytfdbcfkjablnkaa

namespace Go.Proofs.Ytfdbcfkjablnkaa
open Go.RowKit Go.Shelf
set_option maxRecDepth 100000
attribute [local go_sem] Oper.semAt_some

/-- a head's bytes -/
def hdB (v k s i c : Int) : List Int := [v, k, s % 256, s / 256 % 256, s / 65536 % 256, s / 16777216, i, c]
/-- what Bytes answers -/
def HdBR (B : Nat) (v k s i c : Int) (w' : World) (e : Ending) : Prop :=
  (chk v k i c ≠ 0 ∧ e = .returned (.tuple #[.slice none 0 0, .int .i64 (chk v k i c)])) ∨
  (chk v k i c = 0 ∧ ∃ g, B ≤ g ∧ e = .returned (.tuple #[.slice (some ⟨g, 0, none⟩) 8 8, .int .i64 0]) ∧ Nums .u8 w' w'.heap.size (some ⟨g, 0, none⟩) (hdB v k s i c))

end Go.Proofs.Ytfdbcfkjablnkaa

namespace Go.Proofs.Ytfdbcfkjablnkaa
open Go.RowKit
set_option maxRecDepth 100000

/-- what Open answers of bytes: the error, the bytes -/
def openOf (zs : List Int) : Int × List Int :=
  if zs.length < 4 then (13, []) else if zs.take (zs.length - 4) ++ Cr.le4 (Cr.sum (zs.take (zs.length - 4))) = zs then (0, zs.take (zs.length - 4)) else (11, [])
/-- what Open leaves -/
def OpenR (w w' : World) (r : Int × List Int) (e : Ending) : Prop := ∃ A c, e = .returned (.tuple #[.slice A r.2.length c, .int .i64 r.1]) ∧ r.2.length ≤ c ∧ Nums .u8 w' w'.heap.size A r.2 ∧ Below w.heap.size w w'

theorem le4_bytes (n : Nat) : Bytes (Cr.le4 n) := fun z hz => ⟨Cr.le4_ge n z hz, Cr.le4_lt n z hz⟩

end Go.Proofs.Ytfdbcfkjablnkaa

namespace Go.Proofs.Ytfdbcfkjablnkaa
open Go.RowKit Go.Shelf
set_option maxRecDepth 100000
attribute [local go_sem] Oper.semAt_some

/-- bytes and their sum's -/
def sld (L : List Int) : List Int := L ++ Cr.le4 (Cr.sum L)
/-- a frame's block -/
def fblk (v k s i c : Int) (zs : List Int) : List Int := sld (hdB v k s i c ++ zs)
theorem fblk_len (v k s i c : Int) (zs : List Int) : (fblk v k s i c zs).length = zs.length + 12 := by
  simp [fblk, sld, hdB, Cr.le4]
theorem hdB_bytes {v k s i c : Int} (h : chk v k i c = 0) (hs : 0 ≤ s ∧ s ≤ 4294967295) : Bytes (hdB v k s i c) := by
  have := chk_zero h
  intro z hz
  simp only [hdB, List.mem_cons, List.not_mem_nil, or_false] at hz
  omega
theorem sld_bytes {L : List Int} (h : Bytes L) : Bytes (sld L) := h.append (le4_bytes _)
theorem fblk_bytes {v k s i c : Int} {zs : List Int} (h : chk v k i c = 0) (hs : 0 ≤ s ∧ s ≤ 4294967295) (hz : Bytes zs) : Bytes (fblk v k s i c zs) := sld_bytes ((hdB_bytes h hs).append hz)
/-- what Segment answers -/
def SegR (w w' : World) (r : Int) (L : List Int) (e : Ending) : Prop :=
  (r ≠ 0 ∧ e = .returned (.tuple #[.slice none 0 0, .int .i64 r]) ∧ Below w.heap.size w w') ∨ (r = 0 ∧ ∃ v, e = .returned (.tuple #[v, .int .i64 0]) ∧ MadeK 5 .u8 w w' L v)

/-- what the slots hold whose values are known by what they are good for -/
def FRg (B : Nat) (p1 p2 : Part) (h z : List Int) (q : Tmp) (x : Value) (W : World) : Prop :=
  if q = 29 then ∃ a c, x = .slice a 2 c ∧ Parts W W.heap.size a [p1, p2]
  else if q = 30 then ∃ A c, x = .slice A 4 c ∧ 4 ≤ c ∧ Nums .u8 W W.heap.size A (Cr.le4 (Cr.sum (h ++ z)))
  else if q = 31 then ∃ A c, x = .slice A 3 c ∧ 3 ≤ c ∧ ListAt .u8 W W.heap.size A [h, z, Cr.le4 (Cr.sum (h ++ z))]
  else W.ownsRow B 5 1 x (sld (h ++ z)).length ((sld (h ++ z)).map (Value.int .u8))
theorem FRg.later {B : Nat} {p1 p2 : Part} {h z : List Int} {q : Tmp} {x : Value} {W W' : World} (hh : FRg B p1 p2 h z q x W) (hb : Below W.heap.size W W') : FRg B p1 p2 h z q x W' := by
  unfold FRg at *
  split
  · rename_i h1
    rw [if_pos h1] at hh
    obtain ⟨a, c, e, hg⟩ := hh
    refine ⟨a, c, e, fun p hp => ((hg.1 p hp).below hb).mono hb.size, fun hn => ?_⟩
    obtain ⟨b, off, e2, hc⟩ := hg.2 hn
    refine ⟨b, off, e2, fun j p hj => ?_⟩
    have h3 := hc j p hj
    exact (hb.cell (p := ⟨b, off + j, none⟩) (block_of_cell h3)).trans h3
  · rename_i h1
    rw [if_neg h1] at hh
    split
    · rename_i h2
      rw [if_pos h2] at hh
      obtain ⟨A, c, e, hc, hn⟩ := hh
      exact ⟨A, c, e, hc, (hn.below hb).mono hb.size⟩
    · rename_i h2
      rw [if_neg h2] at hh
      split
      · rename_i h3
        rw [if_pos h3] at hh
        obtain ⟨A, c, e, hc, hn⟩ := hh
        exact ⟨A, c, e, hc, (hn.below hb).mono hb.size⟩
      · rename_i h3
        rw [if_neg h3] at hh
        exact ⟨hh.1, hh.2.imp id fun ⟨g, cap, cur, hv, hg, hx, r⟩ => ⟨g, cap, cur, hv, hg, (hb.block g (Array.getElem?_eq_some_iff.1 hx).1).trans hx, r⟩⟩

end Go.Proofs.Ytfdbcfkjablnkaa

namespace Go.Proofs.Ytfdbcfkjablnkaa
namespace Fc
open Cb

/-- the segments, each with its place: p: where we are; now: what is open there -/
def scan : Nat → List Int → List Int → List (Nat × List Int)
  | _, _, [] => []
  | p, now, z :: r => if z = 0 then (if now = [] then scan (p + 1) [] r else (p - now.length, now) :: scan (p + 1) [] r) else scan (p + 1) (now ++ [z]) r
/-- what is open behind the last 0 -/
def opn : List Int → List Int → List Int
  | now, [] => now
  | now, z :: r => if z = 0 then opn [] r else opn (now ++ [z]) r
def segs (zs : List Int) : List (List Int) := (scan 0 [] zs).map (·.2)

theorem scan_zero (p : Nat) (now r : List Int) : scan p now (0 :: r) = (if now = [] then [] else [(p - now.length, now)]) ++ scan (p + 1) [] r := by
  rw [scan, if_pos rfl]; split <;> simp
theorem scan_ne {z : Int} (hz : z ≠ 0) (p : Nat) (now r : List Int) : scan p now (z :: r) = scan (p + 1) (now ++ [z]) r := by rw [scan, if_neg hz]
theorem scan_nz {b : List Int} (h : NZ b) (r : List Int) : ∀ (p : Nat) (now : List Int), scan p now (b ++ r) = scan (p + b.length) (now ++ b) r := by
  induction b with
  | nil => intro p now; simp
  | cons z b ih =>
    intro p now
    rw [List.cons_append, scan_ne (h z (by simp)), ih (fun c hc => h c (by simp [hc])), List.length_cons, List.append_assoc, List.singleton_append]
    congr 1; omega
theorem scan_end {b : List Int} (h : NZ b) (p : Nat) (now : List Int) : scan p now b = [] := by
  have := scan_nz h [] p now
  rw [List.append_nil] at this
  rw [this, scan]
theorem opn_zero (now r : List Int) : opn now (0 :: r) = opn [] r := by rw [opn, if_pos rfl]
theorem opn_ne {z : Int} (hz : z ≠ 0) (now r : List Int) : opn now (z :: r) = opn (now ++ [z]) r := by rw [opn, if_neg hz]
theorem opn_nz {b : List Int} (h : NZ b) (r : List Int) : ∀ now : List Int, opn now (b ++ r) = opn (now ++ b) r := by
  induction b with
  | nil => intro now; simp
  | cons z b ih =>
    intro now
    rw [List.cons_append, opn_ne (h z (by simp)), ih (fun c hc => h c (by simp [hc])), List.append_assoc, List.singleton_append]
theorem opn_end {b : List Int} (h : NZ b) (now : List Int) : opn now b = now ++ b := by
  have := opn_nz h [] now
  rw [List.append_nil] at this
  rw [this, opn]
theorem opn_app (x y : List Int) : ∀ now : List Int, opn now (x ++ 0 :: y) = opn [] y := by
  induction x with
  | nil => intro now; rw [List.nil_append, opn_zero]
  | cons z x ih =>
    intro now
    rw [List.cons_append]
    by_cases hz : z = 0
    · subst hz; rw [opn_zero, ih]
    · rw [opn_ne hz, ih]
/-- .. as a cut of the bytes -/
theorem opn_drop {zs : List Int} {k : Nat} (hk : k = 0 ∨ ∃ i, k = i + 1 ∧ zs[i]? = some 0) (hn : NZ (zs.drop k)) : opn [] zs = zs.drop k := by
  rcases hk with rfl | ⟨i, rfl, hi⟩
  · rw [List.drop_zero] at hn ⊢; rw [opn_end hn, List.nil_append]
  · have hlt : i < zs.length := by
      rcases Nat.lt_or_ge i zs.length with h | h
      · exact h
      · rw [List.getElem?_eq_none h] at hi; cases hi
    have h1 : zs = zs.take i ++ 0 :: zs.drop (i + 1) := by
      rw [List.getElem?_eq_getElem hlt] at hi
      injection hi with hi
      rw [← hi, List.getElem_cons_drop, List.take_append_drop]
    have h2 : opn [] zs = opn [] (zs.drop (i + 1)) := by conv => lhs; rw [h1]; rw [opn_app]
    rw [h2, opn_end hn, List.nil_append]

theorem cut_nz {L : List Int} (h : nz L < L.length) : L = L.take (nz L) ++ 0 :: L.drop (nz L + 1) := by
  have hi := nz_at L h
  rw [List.getElem?_eq_getElem h] at hi
  injection hi with hi
  rw [← hi, List.getElem_cons_drop, List.take_append_drop]
theorem scan_step {L : List Int} (h : nz L < L.length) (p : Nat) : scan p [] L = (if nz L = 0 then [] else [(p, L.take (nz L))]) ++ scan (p + nz L + 1) [] (L.drop (nz L + 1)) := by
  conv => lhs; rw [cut_nz h]
  have hl : (L.take (nz L)).length = nz L := by rw [List.length_take]; omega
  rw [scan_nz (nz_take L), List.nil_append, scan_zero, hl]
  congr 1
  by_cases h0 : nz L = 0
  · rw [if_pos h0, if_pos (by rw [h0]; rfl)]
  · rw [if_neg h0, if_neg (fun e => h0 (by rw [← hl, e]; rfl))]
    congr 2; omega
theorem scan_last {L : List Int} (h : L.length ≤ nz L) (p : Nat) : scan p [] L = [] := by
  refine scan_end ?_ p []
  have := nz_take L
  rwa [List.take_of_length_le h] at this
theorem scan_snd (L : List Int) : ∀ (p q : Nat) (now : List Int), (scan p now L).map (·.2) = (scan q now L).map (·.2) := by
  induction L with
  | nil => intro p q now; simp [scan]
  | cons z r ih =>
    intro p q now
    by_cases hz : z = 0
    · subst hz
      rw [scan_zero, scan_zero, List.map_append, List.map_append, ih (p + 1) (q + 1)]
      split <;> rfl
    · rw [scan_ne hz, scan_ne hz, ih]
theorem scan_length (L : List Int) : ∀ (p : Nat) (now : List Int), (scan p now L).length ≤ L.length := by
  induction L with
  | nil => intro p now; simp [scan]
  | cons z r ih =>
    intro p now
    by_cases hz : z = 0
    · subst hz
      have := ih (p + 1) []
      rw [scan_zero, List.length_append, List.length_cons]
      split <;> simp <;> omega
    · have := ih (p + 1) (now ++ [z])
      rw [scan_ne hz, List.length_cons]; omega
theorem scan_mem (L : List Int) : ∀ (p : Nat) (now : List Int), NZ now → ∀ x ∈ scan p now L, x.2 ≠ [] ∧ NZ x.2 ∧ x.2.length ≤ now.length + L.length := by
  induction L with
  | nil => intro p now _ x hx; simp [scan] at hx
  | cons z r ih =>
    intro p now hn x hx
    by_cases hz : z = 0
    · subst hz
      rw [scan_zero] at hx
      rcases List.mem_append.1 hx with hx | hx
      · split at hx
        · simp at hx
        · rename_i h0
          simp at hx; subst hx
          exact ⟨h0, hn, by simp⟩
      · have h1 := ih (p + 1) [] (fun c hc => by simp at hc) x hx
        exact ⟨h1.1, h1.2.1, by have := h1.2.2; simp only [List.length_nil, List.length_cons] at this ⊢; omega⟩
    · rw [scan_ne hz] at hx
      have h1 := ih (p + 1) (now ++ [z]) (hn.append fun c hc => by simp at hc; subst hc; exact hz) x hx
      exact ⟨h1.1, h1.2.1, by have := h1.2.2; simp only [List.length_append, List.length_cons, List.length_nil] at this ⊢; omega⟩
theorem scan_app (x y : List Int) : ∀ (p : Nat) (now : List Int), scan p now (x ++ 0 :: y) = scan p now (x ++ [0]) ++ scan (p + x.length + 1) [] y := by
  induction x with
  | nil => intro p now; rw [List.nil_append, List.nil_append, scan_zero, scan_zero]; simp [scan]
  | cons z x ih =>
    intro p now
    rw [List.cons_append, List.cons_append]
    by_cases hz : z = 0
    · subst hz
      rw [scan_zero, scan_zero, ih, List.append_assoc, List.length_cons]
      congr 3; omega
    · rw [scan_ne hz, scan_ne hz, ih, List.length_cons]
      congr 2; omega
theorem segs_app (x y : List Int) : segs (x ++ 0 :: y) = segs (x ++ [0]) ++ segs y := by
  unfold segs
  rw [scan_app, List.map_append, scan_snd y _ 0]
theorem segs_len (zs : List Int) : (segs zs).length ≤ zs.length := by unfold segs; rw [List.length_map]; exact scan_length zs 0 []
theorem segs_mem {zs b : List Int} (h : b ∈ segs zs) : b ≠ [] ∧ NZ b ∧ b.length ≤ zs.length := by
  obtain ⟨x, hx, rfl⟩ := List.mem_map.1 h
  have := scan_mem zs 0 [] (fun c hc => by simp at hc) x hx
  exact ⟨this.1, this.2.1, by simpa using this.2.2⟩

/-- lists, each fenced -/
def wrap (ls : List (List Int)) : List Int := ls.flatMap fun b => 0 :: b ++ [0]
theorem wrap_nil : wrap [] = [] := rfl
theorem wrap_cons (b : List Int) (ls : List (List Int)) : wrap (b :: ls) = 0 :: (b ++ 0 :: wrap ls) := by simp [wrap]
theorem wrap_append (x y : List (List Int)) : wrap (x ++ y) = wrap x ++ wrap y := by simp [wrap]
theorem wrap_one (b : List Int) : wrap [b] = [0] ++ b ++ [0] := by simp [wrap]
theorem scan_wrap (ls : List (List Int)) : (∀ b ∈ ls, NZ b) → ∀ p, (scan p [] (wrap ls)).map (·.2) = ls.filter (fun b => decide (b ≠ [])) := by
  induction ls with
  | nil => intro _ p; simp [wrap_nil, scan]
  | cons b ls ih =>
    intro h p
    rw [wrap_cons, scan_zero, scan_nz (h b (by simp)), scan_zero]
    have := ih (fun c hc => h c (by simp [hc])) (p + 1 + b.length + 1)
    by_cases hb : b = []
    · subst hb; simpa using this
    · simp only [if_true, List.nil_append, if_neg hb, List.map_append, this]
      rw [List.filter_cons_of_pos (by simp [hb])]
      simp
theorem segs_wrap {ls : List (List Int)} (h : ∀ b ∈ ls, NZ b) : segs (wrap ls) = ls.filter (fun b => decide (b ≠ [])) := scan_wrap ls h 0
theorem opn_wrap (ls : List (List Int)) : opn [] (wrap ls) = [] := by
  induction ls with
  | nil => rfl
  | cons b ls ih =>
    rw [wrap_cons, opn_zero, opn_app, ih]

/-! parts of sizes -/
/-- how many numbers a size takes of n -/
def clip (s : Int) (n : Nat) : Nat := min (max s 0).toNat n
/-- the parts of L, the sizes R going round, from the i-th on -/
inductive Parts (R : List Int) : Nat → List Int → List (List Int) → Prop
  | done (i : Nat) : Parts R i [] []
  | step (i : Nat) (L : List Int) (s : Int) (ps : List (List Int)) : L ≠ [] → R[i]? = some s → Parts R ((i + 1) % R.length) (L.drop (clip s L.length)) ps → Parts R i L (L.take (clip s L.length) :: ps)
theorem clip_le (s : Int) (n : Nat) : clip s n ≤ n := Nat.min_le_right _ _
theorem Parts.nil {R : List Int} {i : Nat} {L : List Int} {ps : List (List Int)} (h : Parts R i L ps) (hL : L = []) : ps = [] := by
  cases h with
  | done => rfl
  | step _ _ _ _ h1 => exact absurd hL h1
theorem Parts.cons {R : List Int} {i : Nat} {L : List Int} {ps : List (List Int)} (h : Parts R i L ps) (hL : L ≠ []) : ∃ s qs, R[i]? = some s ∧ ps = L.take (clip s L.length) :: qs ∧ Parts R ((i + 1) % R.length) (L.drop (clip s L.length)) qs := by
  cases h with
  | done => exact absurd rfl hL
  | step _ _ s qs _ h2 h3 => exact ⟨s, qs, h2, rfl, h3⟩
theorem Parts.flat {R : List Int} {i : Nat} {L : List Int} {ps : List (List Int)} (h : Parts R i L ps) : ps.flatten = L := by
  induction h with
  | done => rfl
  | step i L s ps _ _ _ ih => rw [List.flatten_cons, ih, List.take_append_drop]
theorem Parts.exists {R : List Int} (q : Nat) (hq : R.length = q) (j : Nat) (hj : j < q) (sj : Int) (hs : R[j]? = some sj) (hp : 0 < sj) :
    ∀ (n : Nat) (L : List Int), L.length = n → ∀ (d i : Nat), i < q → (i + d) % q = j → d < q → ∃ ps, Parts R i L ps ∧ ps.length ≤ n * q + d + 1 := by
  intro n
  induction n using Nat.strongRecOn with
  | ind n ihn =>
    intro L hL d
    by_cases hn : L = []
    · intro i _ _ _; exact ⟨[], hn ▸ Parts.done i, by simp⟩
    · have hLp : 0 < n := by
        rcases Nat.eq_zero_or_pos n with h0 | h0
        · exact absurd (List.eq_nil_of_length_eq_zero (hL.trans h0)) hn
        · exact h0
      induction d with
      | zero =>
        intro i hi hid hd
        rw [Nat.add_zero, Nat.mod_eq_of_lt hi] at hid
        subst hid
        have hc : 0 < clip sj L.length := by unfold clip; omega
        have hcl := clip_le sj L.length
        have hi2 : (i + 1) % q < q := Nat.mod_lt _ (by omega)
        obtain ⟨ps, h1, h2⟩ := ihn (L.drop (clip sj L.length)).length (by rw [List.length_drop]; omega) (L.drop (clip sj L.length)) rfl ((i + q - (i + 1) % q) % q) ((i + 1) % q) hi2
          (by rw [Nat.add_mod_mod, show (i + 1) % q + (i + q - (i + 1) % q) = i + q by omega, Nat.add_mod_right, Nat.mod_eq_of_lt hi]) (Nat.mod_lt _ (by omega))
        refine ⟨_, Parts.step i L sj ps hn hs (by rw [hq]; exact h1), ?_⟩
        have h3 : (i + q - (i + 1) % q) % q < q := Nat.mod_lt _ (by omega)
        have h4 : (L.drop (clip sj L.length)).length + 1 ≤ n := by rw [List.length_drop]; omega
        have h5 := Nat.mul_le_mul_right q h4
        rw [Nat.add_mul, Nat.one_mul] at h5
        rw [List.length_cons]; omega
      | succ d ihd =>
        intro i hi hid hd
        obtain ⟨s, hsi⟩ : ∃ s, R[i]? = some s := ⟨_, List.getElem?_eq_getElem (by omega)⟩
        have hi2 : (i + 1) % q < q := Nat.mod_lt _ (by omega)
        have hid2 : ((i + 1) % q + d) % q = j := by rw [Nat.mod_add_mod, show i + 1 + d = i + (d + 1) by omega]; exact hid
        by_cases h0 : clip s L.length = 0
        · obtain ⟨ps, h1, h2⟩ := ihd ((i + 1) % q) hi2 hid2 (by omega)
          refine ⟨_, Parts.step i L s ps hn hsi (by rw [hq, h0, List.drop_zero]; exact h1), ?_⟩
          rw [List.length_cons]; omega
        · have hcl := clip_le s L.length
          obtain ⟨ps, h1, h2⟩ := ihn (L.drop (clip s L.length)).length (by rw [List.length_drop]; omega) (L.drop (clip s L.length)) rfl d ((i + 1) % q) hi2 hid2 (by omega)
          refine ⟨_, Parts.step i L s ps hn hsi (by rw [hq]; exact h1), ?_⟩
          have h4 : (L.drop (clip s L.length)).length + 1 ≤ n := by rw [List.length_drop]; omega
          have h5 := Nat.mul_le_mul_right q h4
          rw [Nat.add_mul, Nat.one_mul] at h5
          rw [List.length_cons]; omega
theorem parts_some {R : List Int} (hp : ∃ s ∈ R, 0 < s) (L : List Int) : ∃ ps, Parts R 0 L ps ∧ ps.length ≤ (L.length + 1) * R.length + 1 := by
  obtain ⟨s, hs, h0⟩ := hp
  obtain ⟨j, hj, rfl⟩ := List.mem_iff_getElem.1 hs
  obtain ⟨ps, h1, h2⟩ := Parts.exists R.length rfl j hj R[j] (List.getElem?_eq_getElem hj) h0 L.length L rfl j 0 (by omega) (by rw [Nat.zero_add, Nat.mod_eq_of_lt hj]) hj
  refine ⟨ps, h1, ?_⟩
  rw [Nat.add_mul, Nat.one_mul]; omega
theorem parts_whole (L : List Int) : Parts [(L.length : Int)] 0 L (if L = [] then [] else [L]) := by
  by_cases h : L = []
  · subst h; exact Parts.done 0
  · rw [if_neg h]
    have hc : clip (L.length : Int) L.length = L.length := by unfold clip; omega
    have := Parts.step (R := [(L.length : Int)]) 0 L (L.length : Int) [] h rfl (by rw [hc, List.drop_length]; exact Parts.done _)
    rwa [hc, List.take_length] at this
end Fc
end Go.Proofs.Ytfdbcfkjablnkaa

namespace Go.Proofs.Ytfdbcfkjablnkaa
open Go.RowKit Go.Shelf
set_option maxRecDepth 100000
attribute [local go_sem] Oper.semAt_some

end Go.Proofs.Ytfdbcfkjablnkaa

namespace Go.Proofs.Ytfdbcfkjablnkaa
open Go.RowKit Go.Shelf
set_option maxRecDepth 100000
attribute [local go_sem] Oper.semAt_some

end Go.Proofs.Ytfdbcfkjablnkaa
