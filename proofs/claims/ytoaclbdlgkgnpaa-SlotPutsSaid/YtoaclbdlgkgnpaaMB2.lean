/-
  A part of the texts of one proof, put together: Q5, Q6, Q7, Q10, Q9, SloS, SloP, LInfo, SloB, Same, SamA, SloK, SerN, WinN, SerA, WinM, WinL, WinK, StopB, WinZ, WinI, WinO, WinR, WinS, IInfo, SloE, SloG, CrcF, CrcD, CrcS, CrcE, FrS.
-/
import Derived.Below
import Derived.StillTail
import Derived.Maps.OwnIn
import Derived.Test.YtoaclbdlgkgnpaaRows
import Derived.WalkLawsBesides
import Derived.BigQuiet
import Derived.Deep.QuietTactic
import Derived.Deep.LoopGhost
import Derived.Lib.Hide
import Derived.WalkMore
import Derived.WalkSpells
import Derived.Laws.ShiftsVarLaws
import Derived.RangeFuncNested
import Derived.RangeFuncBound
import Derived.RangeFuncCalls
import Derived.RangeFuncLeaves
import Derived.Shelf.Abstract
import Derived.Shelf.RegionOpen
import Derived.OwnWalkIn
import Derived.TacticsInMore
import Derived.LoopNIn
import Derived.LoopIn
import Derived.OpenShut
import Derived.ArgAppend
import Derived.Lib.Strings
import Derived.Lib.Slices
import Derived.Lib.Walk
import Derived.Lib.Bytes
import Derived.Test.YtoaclbdlgkgnpaaMB1
namespace Go.Proofs.Ytoaclbdlgkgnpaa
open Go.RowKit
section
variable {P : Program} {ops : Array Oper} {md : Region.Mode}

/-- it stands while memory grows -/
def Closed (I : World → Prop) : Prop := ∀ w w', I w → Below w.heap.size w w' → I w'
def calmUpon (P : Program) (w : World) (v : Value) : Result Next → Prop
  | .ok (.value u) w' => w' = w ∧ u = v
  | .ok .skip w' => w' = w ∧ v = undef
  | .ok (.enter f args) w' => w' = w ∧ Calls P f args w (fun e w'' => e = .returned v ∧ Below w.heap.size w w'')
  | _ => False
def srcUpon (P : Program) (F : Value → World → Prop) (w : World) : Result Next → Prop
  | .ok (.value u) w' => F u w' ∧ Below w.heap.size w w'
  | .ok (.enter f args) w' => w' = w ∧ Calls P f args w (fun e w'' => ∃ u, e = .returned u ∧ F u w'' ∧ Below w.heap.size w w'')
  | _ => False
/-- one value, in every world of the class -/
def CalmIn (P : Program) (ops : Array Oper) (I : World → Prop) (o : Oper) (v : Value) (a : Act) : Prop :=
  (Region.wanted o (yielded ops a.tmps) = true ∧ ∀ w, I w → calmUpon P w v ((execOp a.eval o).run P w)) ∨ (Region.wanted o (yielded ops a.tmps) = false ∧ v = undef)
theorem put_same {a : Act} {d : Tmp} (v : Value) (h : d < a.tmps.size) : (a.put (some d) v).tmps[d]? = some v := by simp [Act.put, h]
theorem put_other {a : Act} {x : Option Tmp} {d : Tmp} (v : Value) (h : x ≠ some d) : (a.put x v).tmps[d]? = a.tmps[d]? := by
  cases x with
  | none => rfl
  | some e =>
    have hne : e ≠ d := fun he => h (by rw [he])
    simp [Act.put, Array.getElem?_setIfInBounds_ne hne]
theorem put_size (a : Act) (x : Option Tmp) (v : Value) : (a.put x v).tmps.size = a.tmps.size := by cases x <;> simp [Act.put]
theorem put_defers (a : Act) (x : Option Tmp) (v : Value) : (a.put x v).defers = a.defers := by cases x <;> rfl
def fill : List Tmp → (Tmp → Value) → Act → Act
  | [], _, a => a
  | s :: r, xs, a => fill r xs (a.put (some s) (xs s))
theorem fill_size : ∀ (fs : List Tmp) (xs : Tmp → Value) (a : Act), (fill fs xs a).tmps.size = a.tmps.size ∧ (fill fs xs a).defers = a.defers
  | [], _, _ => ⟨rfl, rfl⟩
  | s :: r, xs, a => by
    obtain ⟨h1, h2⟩ := fill_size r xs (a.put (some s) (xs s))
    exact ⟨h1.trans (put_size ..), h2.trans (put_defers ..)⟩
theorem fill_out : ∀ (fs : List Tmp) (xs : Tmp → Value) (a : Act) (d : Tmp), d ∉ fs → (fill fs xs a).tmps[d]? = a.tmps[d]?
  | [], _, _, _, _ => rfl
  | s :: r, xs, a, d, h => by
    rw [List.mem_cons, not_or] at h
    exact (fill_out r xs _ d h.2).trans (put_other _ (by simpa using fun e => h.1 e.symm))
theorem fill_in : ∀ (fs : List Tmp) (xs : Tmp → Value) (a : Act) (d : Tmp), d ∈ fs → d < a.tmps.size → (fill fs xs a).tmps[d]? = some (xs d)
  | s :: r, xs, a, d, h, hlt => by
    by_cases hr : d ∈ r
    · exact fill_in r xs _ d hr (by rw [put_size]; exact hlt)
    · rcases List.mem_cons.1 h with rfl | h
      · exact (fill_out r xs _ d hr).trans (put_same _ hlt)
      · exact absurd h hr
/-- what is to be shown of one operation: it looks at no source; it is one; it looks at one; it is one and looks at others -/
def Ob (P : Program) (ops : Array Oper) (I : World → Prop) (fs : List Tmp) (FS : Tmp → Value → World → Prop) (o : Oper) (v : Value) (a : Act) : Prop :=
  ((∀ d ∈ o.looksAt ops, d ∉ fs) ∧ (∀ d, o.dst = some d → d ∉ fs) ∧ CalmIn P ops I o v a) ∨
  (∃ s, s ∈ fs ∧ o.dst = some s ∧ (∀ d ∈ o.looksAt ops, d ∉ fs) ∧ Region.wanted o (yielded ops a.tmps) = true ∧ ∀ w, I w → srcUpon P (FS s) w ((execOp a.eval o).run P w)) ∨
  (∃ s, s ∈ fs ∧ (∃ j, (ops[j]?).bind (·.dst) = some s ∧ o.after.any (fun e => Region.binds .any e && e.on == j) = true) ∧ (∀ d ∈ o.looksAt ops, d ∈ fs → d = s) ∧ (∀ d, o.dst = some d → d ∉ fs) ∧
    ∀ x w, I w → FS s x w → Region.wanted o (yielded ops (a.put (some s) x).tmps) = true ∧ calmUpon P w v ((execOp (a.put (some s) x).eval o).run P w)) ∨
  (∃ s R, s ∈ fs ∧ o.dst = some s ∧ (∀ r ∈ R, r ∈ fs ∧ ∃ j, (ops[j]?).bind (·.dst) = some r ∧ o.after.any (fun e => Region.binds .any e && e.on == j) = true) ∧ (∀ d ∈ o.looksAt ops, d ∈ fs → d ∈ R) ∧
    ∀ xs w, I w → (∀ r ∈ R, FS r (xs r) w) → Region.wanted o (yielded ops (fill R xs a).tmps) = true ∧ srcUpon P (FS s) w ((execOp (fill R xs a).eval o).run P w))
/-- the walk in the text's order -/
def wpF (P : Program) (ops : Array Oper) (I : World → Prop) (fs : List Tmp) (FS : Tmp → Value → World → Prop) (E : Act → Prop) : List Oper → Act → Prop
  | [], a => E a
  | o :: r, a => ∃ v, Ob P ops I fs FS o v a ∧ wpF P ops I fs FS E r (a.put o.dst v)
def lex : List Oper → List Value → Act → Nat → Act
  | o :: r, v :: vs, a, k + 1 => lex r vs (a.put o.dst v) k
  | _, _, a, _ => a
theorem lex_zero (l : List Oper) (vs : List Value) (a : Act) : lex l vs a 0 = a := by cases l <;> cases vs <;> rfl
section
variable {I : World → Prop} {fs : List Tmp} {FS : Tmp → Value → World → Prop} {E : Act → Prop}
theorem wpF_vals : ∀ (l : List Oper) (a : Act), wpF P ops I fs FS E l a → ∃ vs : List Value, vs.length = l.length ∧
    (∀ (k : Nat) o v, l[k]? = some o → vs[k]? = some v → Ob P ops I fs FS o v (lex l vs a k)) ∧ E (lex l vs a l.length)
  | [], a, h => ⟨[], rfl, by simp, h⟩
  | o :: r, a, ⟨v, hob, hr⟩ => by
    obtain ⟨vs, h1, h2, h3⟩ := wpF_vals r _ hr
    refine ⟨v :: vs, by simp [h1], fun k o' v' ho hv => ?_, h3⟩
    cases k with
    | zero =>
      simp only [List.getElem?_cons_zero, Option.some.injEq] at ho hv
      subst ho hv
      exact hob
    | succ k =>
      simp only [List.getElem?_cons_succ] at ho hv
      exact h2 k o' v' ho hv
end
theorem lex_size : ∀ (l : List Oper) (vs : List Value) (a : Act) (k : Nat), (lex l vs a k).tmps.size = a.tmps.size ∧ (lex l vs a k).defers = a.defers
  | o :: r, v :: vs, a, k + 1 => by
    obtain ⟨h1, h2⟩ := lex_size r vs (a.put o.dst v) k
    exact ⟨h1.trans (put_size ..), h2.trans (put_defers ..)⟩
  | [], _, _, _ => by simp [lex]
  | _ :: _, [], _, _ => by simp [lex]
  | _ :: _, _ :: _, _, 0 => by simp [lex]
theorem lex_out : ∀ (l : List Oper) (vs : List Value) (a : Act) (k : Nat) (d : Tmp), (∀ (j : Nat) o, l[j]? = some o → j < k → o.dst ≠ some d) → (lex l vs a k).tmps[d]? = a.tmps[d]?
  | o :: r, v :: vs, a, k + 1, d, h => by
    have h0 := h 0 o rfl (by omega)
    exact (lex_out r vs (a.put o.dst v) k d fun j o' hj hk => h (j + 1) o' (by simpa using hj) (by omega)).trans (put_other v h0)
  | [], _, _, _, _, _ => by simp [lex]
  | _ :: _, [], _, _, _, _ => by simp [lex]
  | _ :: _, _ :: _, _, 0, _, _ => by simp [lex]
theorem lex_in : ∀ (l : List Oper) (vs : List Value) (a : Act) (k j : Nat) (o : Oper) (d : Tmp) (v : Value), l[j]? = some o → j < k → vs[j]? = some v → o.dst = some d → d < a.tmps.size →
    (∀ (i : Nat) oi, l[i]? = some oi → i < k → i ≠ j → oi.dst ≠ some d) → (lex l vs a k).tmps[d]? = some v
  | o :: r, v :: vs, a, k + 1, 0, o', d, v', ho, _, hv, hd, hlt, hu => by
    simp only [List.getElem?_cons_zero, Option.some.injEq] at ho hv
    subst ho hv
    refine (lex_out r vs _ k d fun i oi hi hik => hu (i + 1) oi (by simpa using hi) (by omega) (by omega)).trans ?_
    rw [hd]
    exact put_same v hlt
  | o :: r, v :: vs, a, k + 1, j + 1, o', d, v', ho, hjk, hv, hd, hlt, hu => by
    simp only [List.getElem?_cons_succ] at ho hv
    exact lex_in r vs _ k j o' d v' ho (by omega) hv hd (by rw [put_size]; exact hlt) fun i oi hi hik hij => hu (i + 1) oi (by simpa using hi) (by omega) (by omega)
  | [], _, _, _, _, _, _, _, ho, _, _, _, _, _ => by simp at ho
  | _ :: _, [], _, _, _, _, _, _, _, _, hv, _, _, _ => by simp at hv
  | _ :: _, _ :: _, _, 0, _, _, _, _, _, hk, _, _, _, _ => by omega

/-- k waits for j -/
def seenB (md : Region.Mode) (ops : Array Oper) (k j : Nat) : Bool :=
  match ops[k]? with
  | some o => o.after.any fun e => Region.binds md e && e.on == j
  | none => false
/-- each operation waits for earlier ones alone; slots are written once; who looks at a slot waits for its writer, or the writer for him -/
def rgB (md : Region.Mode) (ops : Array Oper) (N : Nat) : Bool :=
  Region.noSelect ops && (List.range ops.size).all fun k =>
    match ops[k]? with
    | none => false
    | some o =>
      (match o.dst with | some d => decide (d < N) | none => true) && o.after.all (fun e => !Region.binds md e || decide (e.on < k)) &&
      (List.range ops.size).all fun j =>
        match ops[j]? with
        | none => false
        | some oj =>
          match oj.dst with
          | none => true
          | some d => (k == j || o.dst != some d) && (!(o.looksAt ops).contains d || (decide (j < k) && seenB md ops k j) || (decide (k < j) && seenB md ops j k))
structure RG (md : Region.Mode) (ops : Array Oper) (N : Nat) : Prop where
  sel : ∀ (j : Nat) (o : Oper) cs b, ops[j]? = some o → o.op ≠ .select cs b
  small : ∀ (k : Nat) o d, ops[k]? = some o → o.dst = some d → d < N
  back : ∀ (k : Nat) o, ops[k]? = some o → ∀ e ∈ o.after, Region.binds md e = true → e.on < k
  once : ∀ (k j : Nat) o oj d, ops[k]? = some o → ops[j]? = some oj → oj.dst = some d → k ≠ j → o.dst ≠ some d
  look : ∀ (k j : Nat) o oj d, ops[k]? = some o → ops[j]? = some oj → oj.dst = some d → d ∈ o.looksAt ops →
    (j < k ∧ ∃ e ∈ o.after, Region.binds md e = true ∧ e.on = j) ∨ (k < j ∧ ∃ e ∈ oj.after, Region.binds md e = true ∧ e.on = k)
theorem seenB_spec {k j : Nat} {o : Oper} (ho : ops[k]? = some o) (h : seenB md ops k j = true) : ∃ e ∈ o.after, Region.binds md e = true ∧ e.on = j := by
  simp only [seenB, ho] at h
  obtain ⟨e, he, hb⟩ := Array.any_eq_true'.1 h
  simp only [Bool.and_eq_true, beq_iff_eq] at hb
  exact ⟨e, he, hb.1, hb.2⟩
theorem rgB_spec {N : Nat} (h : rgB md ops N = true) : RG md ops N := by
  simp only [rgB, Bool.and_eq_true, List.all_eq_true, List.mem_range] at h
  obtain ⟨hs, h⟩ := h
  have at_ : ∀ (k : Nat) o, ops[k]? = some o → ((match o.dst with | some d => decide (d < N) | none => true) = true ∧ o.after.all (fun e => !Region.binds md e || decide (e.on < k)) = true) ∧
      ∀ (j : Nat) oj, ops[j]? = some oj → (match oj.dst with | none => true | some d => (k == j || o.dst != some d) && (!(o.looksAt ops).contains d || (decide (j < k) && seenB md ops k j) || (decide (k < j) && seenB md ops j k))) = true := fun k o ho => by
    have h1 := h k (Array.getElem?_eq_some_iff.1 ho).1
    simp only [ho, Bool.and_eq_true, List.all_eq_true, List.mem_range] at h1
    refine ⟨h1.1, fun j oj hj => ?_⟩
    have h2 := h1.2 j (Array.getElem?_eq_some_iff.1 hj).1
    simpa only [hj] using h2
  refine ⟨fun j o cs b hj => Region.noSelect_spec hs j o cs b hj, fun k o d ho hd => ?_, fun k o ho e he hb => ?_, fun k j o oj d ho hj hd hne => ?_, fun k j o oj d ho hj hd hl => ?_⟩
  · have := (at_ k o ho).1.1
    simpa [hd] using this
  · have := (at_ k o ho).1.2
    rw [Array.all_eq_true_iff_forall_mem] at this
    have := this e he
    simpa [hb] using this
  · have := (at_ k o ho).2 j oj hj
    simp only [hd, Bool.and_eq_true, Bool.or_eq_true, beq_iff_eq, hne, false_or, bne_iff_ne, ne_eq] at this
    exact this.1
  · have := (at_ k o ho).2 j oj hj
    simp only [hd, Bool.and_eq_true, Bool.or_eq_true, decide_eq_true_eq, Bool.not_eq_true'] at this
    rcases this.2 with (h1 | h1) | h1
    · have : (o.looksAt ops).contains d = true := by simpa using hl
      rw [this] at h1; cases h1
    · exact .inl ⟨h1.1, seenB_spec ho h1.2⟩
    · exact .inr ⟨h1.1, seenB_spec hj h1.2⟩

/-- two frames agree at the slots that an operation looks at -/
theorem exec_agree {o : Oper} {a b : Act} (hs : ∀ cs c, o.op ≠ .select cs c) (h : ∀ d ∈ o.looksAt ops, a.tmps[d]? = b.tmps[d]?) : execOp a.eval o = execOp b.eval o :=
  execOp_congr o hs fun x hx => by
    cases x with
    | tmp t =>
      have := h t (List.mem_append_left _ (List.mem_filterMap.2 ⟨.tmp t, by simpa using hx, rfl⟩))
      simp [Act.eval, this]
    | _ => rfl
theorem wanted_agree {o : Oper} {a b : Act} (h : ∀ d ∈ o.looksAt ops, a.tmps[d]? = b.tmps[d]?) : Region.wanted o (yielded ops a.tmps) = Region.wanted o (yielded ops b.tmps) := by
  unfold Region.wanted
  cases hg : o.guard with
  | none => rfl
  | some gw =>
    obtain ⟨g, want⟩ := gw
    have hy : yielded ops a.tmps g = yielded ops b.tmps g := by
      unfold yielded
      cases ht : (ops[g]?).bind (·.dst) with
      | none => rfl
      | some t =>
        have := h t (List.mem_append_right _ (by simp [hg, ht]))
        simp [this]
    simp only [hy]

/-! ### what an actual run has left so far -/
section
variable {l : List Oper} {vs : List Value} {fs : List Tmp} {FS : Tmp → Value → World → Prop} {I : World → Prop} {a0 : Act}
structure Inv (l : List Oper) (vs : List Value) (fs : List Tmp) (FS : Tmp → Value → World → Prop) (I : World → Prop) (a0 : Act) (listed : Array Bool) (b : Act) (w : World) : Prop where
  cls : I w
  size : b.tmps.size = a0.tmps.size
  defers : b.defers = a0.defers
  out : ∀ d, (∀ (j : Nat) o, l[j]? = some o → listed.getD j true = true → o.dst ≠ some d) → b.tmps[d]? = a0.tmps[d]?
  ins : ∀ (j : Nat) o d v, l[j]? = some o → listed.getD j true = true → o.dst = some d → vs[j]? = some v → (d ∈ fs → ∃ x, b.tmps[d]? = some x ∧ FS d x w) ∧ (d ∉ fs → b.tmps[d]? = some v)
  down : ∀ (j : Nat) o, l[j]? = some o → listed.getD j true = true → ∀ e ∈ o.after, Region.binds .any e = true → listed.getD e.on true = true
  lsize : listed.size = l.length
theorem getD_set_same (L : Array Bool) (i : Nat) : (L.setIfInBounds i true).getD i true = true := by
  rw [Array.getD_eq_getD_getElem?, Array.getElem?_setIfInBounds, if_pos rfl]
  split <;> rfl
theorem getD_set_far (L : Array Bool) {i j : Nat} (h : i ≠ j) : (L.setIfInBounds i true).getD j true = L.getD j true := by
  rw [Array.getD_eq_getD_getElem?, Array.getElem?_setIfInBounds, if_neg h, ← Array.getD_eq_getD_getElem?]
theorem getD_set_up (L : Array Bool) {i j : Nat} (h : L.getD j true = true) : (L.setIfInBounds i true).getD j true = true := by
  by_cases hij : i = j
  · subst hij; exact getD_set_same L i
  · rw [getD_set_far L hij]; exact h
theorem Inv.next {N : Nat} (hR : RG .any l.toArray N) (hN : N ≤ a0.tmps.size) (hI : Closed I) (hF : ∀ s x w w', FS s x w → Below w.heap.size w w' → FS s x w') {listed : Array Bool} {b : Act} {w w' : World} {i : Nat} {o : Oper} {u : Value}
    (h : Inv l vs fs FS I a0 listed b w) (ho : l[i]? = some o) (hp : ∀ e ∈ o.after, Region.binds .any e = true → listed.getD e.on true = true) (hb : Below w.heap.size w w')
    (hu : ∀ d, o.dst = some d → (d ∈ fs → FS d u w') ∧ (d ∉ fs → vs[i]? = some u)) : Inv l vs fs FS I a0 (listed.setIfInBounds i true) (b.put o.dst u) w' := by
  have ho' : l.toArray[i]? = some o := by simpa using ho
  refine ⟨hI w w' h.cls hb, (put_size ..).trans h.size, (put_defers ..).trans h.defers, fun d hd => ?_, fun j oj d v hj hlj hdj hv => ?_, fun j oj hj hlj e he hbe => ?_, by simpa using h.lsize⟩
  · rw [put_other u (hd i o ho (getD_set_same _ _))]
    exact h.out d fun j oj hj hlj => hd j oj hj (getD_set_up _ hlj)
  · by_cases hij : i = j
    · subst hij
      obtain rfl : o = oj := Option.some.inj (ho.symm.trans hj)
      obtain ⟨h1, h2⟩ := hu d hdj
      rw [hdj]
      have hlt : d < b.tmps.size := by rw [h.size]; exact Nat.lt_of_lt_of_le (hR.small i o d ho' hdj) hN
      refine ⟨fun hd => ⟨u, put_same u hlt, h1 hd⟩, fun hd => ?_⟩
      rw [put_same u hlt]
      exact (h2 hd).symm.trans hv
    · rw [getD_set_far _ hij] at hlj
      obtain ⟨h1, h2⟩ := h.ins j oj d v hj hlj hdj hv
      have hne : o.dst ≠ some d := hR.once i j o oj d ho' (by simpa using hj) hdj hij
      rw [put_other u hne]
      exact ⟨fun hd => let ⟨x, hx, hfx⟩ := h1 hd; ⟨x, hx, hF d x w w' hfx hb⟩, h2⟩
  · by_cases hij : i = j
    · subst hij
      obtain rfl : o = oj := Option.some.inj (ho.symm.trans hj)
      exact getD_set_up _ (hp e he hbe)
    · rw [getD_set_far _ hij] at hlj
      exact getD_set_up _ (h.down j oj hj hlj e he hbe)
/-- at what an operation looks at, the run and the walk agree -/
theorem Inv.agree {N : Nat} (hR : RG .any l.toArray N) (hN : N ≤ a0.tmps.size) (hlen : vs.length = l.length) {listed : Array Bool} {b : Act} {w : World} {k : Nat} {o : Oper}
    (h : Inv l vs fs FS I a0 listed b w) (ho : l[k]? = some o) (hun : listed.getD k true = false) (hp : ∀ e ∈ o.after, Region.binds .any e = true → listed.getD e.on true = true) {d : Tmp} (hd : d ∈ o.looksAt l.toArray) (hf : d ∉ fs) :
    (lex l vs a0 k).tmps[d]? = b.tmps[d]? := by
  have ho' : l.toArray[k]? = some o := by simpa using ho
  by_cases hw : ∃ (j : Nat) (oj : Oper), l[j]? = some oj ∧ oj.dst = some d
  · obtain ⟨j, oj, hj, hdj⟩ := hw
    have hj' : l.toArray[j]? = some oj := by simpa using hj
    rcases hR.look k j o oj d ho' hj' hdj hd with ⟨hjk, e, he, hbe, rfl⟩ | ⟨hkj, e, he, hbe, rfl⟩
    · obtain ⟨v, hv⟩ : ∃ v, vs[e.on]? = some v := ⟨_, List.getElem?_eq_getElem (by rw [hlen]; exact (List.getElem?_eq_some_iff.1 hj).1)⟩
      rw [lex_in l vs a0 k e.on oj d v hj hjk hv hdj (Nat.lt_of_lt_of_le (hR.small _ _ _ hj' hdj) hN) fun i oi hi _ hne => hR.once i e.on oi oj d (by simpa using hi) hj' hdj hne]
      exact ((h.ins e.on oj d v hj (hp e he hbe) hdj hv).2 hf).symm
    · have hjun : listed.getD j true = false := by
        cases hc : listed.getD j true with
        | false => rfl
        | true => rw [h.down j oj hj hc e he hbe] at hun; cases hun
      rw [lex_out l vs a0 _ d fun i oi hi hik hdi => hR.once i j oi oj d (by simpa using hi) hj' hdj (by omega) hdi]
      refine (h.out d fun i oi hi hli hdi => ?_).symm
      by_cases hij : i = j
      · subst hij; rw [hjun] at hli; cases hli
      · exact hR.once i j oi oj d (by simpa using hi) hj' hdj hij hdi
  · rw [lex_out l vs a0 k d fun i oi hi _ hdi => hw ⟨i, oi, hi, hdi⟩]
    exact (h.out d fun i oi hi _ hdi => hw ⟨i, oi, hi, hdi⟩).symm
theorem count_zero {L : Array Bool} (h : L.toList.count false = 0) (j : Nat) : L.getD j true = true := by
  rw [List.count_eq_zero] at h
  rw [Array.getD_eq_getD_getElem?]
  cases hc : L[j]? with
  | none => rfl
  | some x =>
    cases x with
    | true => rfl
    | false => exact absurd (Array.mem_toList_iff.2 (Array.mem_of_getElem? hc)) h
theorem count_set {L : Array Bool} {i : Nat} (h : L.getD i true = false) : (L.setIfInBounds i true).toList.count false + 1 = L.toList.count false := by
  have h1 : L.toList[i]? = some false := by
    rw [Array.getD_eq_getD_getElem?] at h
    cases hc : L[i]? with
    | none => rw [hc] at h; simp at h
    | some x => rw [hc] at h; simp at h; subst h; simpa using hc
  rw [Array.toList_setIfInBounds]
  generalize L.toList = M at h1
  clear h
  induction M generalizing i with
  | nil => simp at h1
  | cons y M ih =>
    cases i with
    | zero =>
      simp at h1
      subst h1
      simp
    | succ i =>
      have := ih (i := i) (by simpa using h1)
      rw [List.set_cons_succ, List.count_cons, List.count_cons, ← this]
      omega
theorem ready_all {N : Nat} (hR : RG .any l.toArray N) {listed : Array Bool} (hs : listed.size = l.length) (h : Region.ready .any l.toArray listed = []) : ∀ j, listed.getD j true = true := by
  intro j
  induction j using Nat.strongRecOn with
  | ind j ih =>
    cases hc : listed.getD j true with
    | true => rfl
    | false =>
      have hlt : j < l.length := by
        rcases Nat.lt_or_ge j l.length with h1 | h1
        · exact h1
        · rw [Array.getD_eq_getD_getElem?, Array.getElem?_eq_none (by omega)] at hc; simp at hc
      have ho : l.toArray[j]? = some l[j] := by simp [hlt]
      have : j ∈ Region.ready .any l.toArray listed := mem_ready.2 ⟨hc, l[j], ho, fun e he hb => by
        have hlt2 := hR.back j l[j] ho e he hb
        have := ih e.on hlt2
        rw [Array.getD_eq_getD_getElem?] at this ⊢
        rw [Array.getElem?_eq_getElem (show e.on < listed.size by omega)] at this ⊢
        simpa using this⟩
      rw [h] at this
      cases this

theorem any_of_F {N : Nat} {Q' : Exit → Act → World → Prop} (hR : RG .any l.toArray N) (hN : N ≤ a0.tmps.size) (hlen : vs.length = l.length) (hI : Closed I) (hF : ∀ s x w w', FS s x w → Below w.heap.size w w' → FS s x w')
    (hob : ∀ (k : Nat) o v, l[k]? = some o → vs[k]? = some v → Ob P l.toArray I fs FS o v (lex l vs a0 k))
    (hQ : ∀ (listed : Array Bool) b w, (∀ j, listed.getD j true = true) → Inv l vs fs FS I a0 listed b w → Q' .normal b w) :
    ∀ (fuel : Nat) (listed : Array Bool) (b : Act) (w : World), listed.toList.count false ≤ fuel → Inv l vs fs FS I a0 listed b w → wpAny P .any l.toArray Q' fuel listed b w
  | 0, listed, b, w, hc, h => by
    have hall := count_zero (L := listed) (by omega)
    refine ⟨?_, hQ listed b w hall h⟩
    rw [List.eq_nil_iff_forall_not_mem]
    intro i hi
    have := (mem_ready.1 hi).1
    rw [hall i] at this
    cases this
  | fuel + 1, listed, b, w, hc, h => by
    refine ⟨fun h0 => hQ listed b w (ready_all hR h.lsize h0) h, fun i hi => ?_⟩
    obtain ⟨hun, o, ho, hall⟩ := mem_ready.1 hi
    have ho2 : l[i]? = some o := by simpa using ho
    have hp : ∀ e ∈ o.after, Region.binds .any e = true → listed.getD e.on true = true := fun e he hb => by
      have h1 := hall e he hb
      rw [Array.getD_eq_getD_getElem?] at h1 ⊢
      cases hx : listed[e.on]? with
      | none => rfl
      | some y => rw [hx] at h1; simpa using h1
    obtain ⟨v, hv⟩ : ∃ v, vs[i]? = some v := ⟨_, List.getElem?_eq_getElem (by rw [hlen]; exact (List.getElem?_eq_some_iff.1 ho2).1)⟩
    have K : ∀ u w', Below w.heap.size w w' → (∀ d, o.dst = some d → (d ∈ fs → FS d u w') ∧ (d ∉ fs → vs[i]? = some u)) → wpAny P .any l.toArray Q' fuel (listed.setIfInBounds i true) (b.put o.dst u) w' := fun u w' hb hu =>
      any_of_F hR hN hlen hI hF hob hQ fuel _ _ _ (by have := count_set hun; omega) (h.next hR hN hI hF ho2 hp hb hu)
    have hsel : ∀ cs c, o.op ≠ .select cs c := fun cs c => hR.sel i o cs c ho
    have ag : ∀ d ∈ o.looksAt l.toArray, d ∉ fs → (lex l vs a0 i).tmps[d]? = b.tmps[d]? := fun d hd hf => h.agree hR hN hlen ho2 hun hp hd hf
    unfold Go.wpOp
    simp only [ho]
    rcases hob i o v ho2 hv with ⟨h1, h2, hcalm⟩ | ⟨s, hs, hds, h1, hwt, hsrc⟩ | ⟨s, hs, ⟨j, hj, hje⟩, h1, h2, huse⟩ | ⟨s, R, hs, hds, hRs, h1, hmix⟩
    · have he := exec_agree (ops := l.toArray) hsel fun d hd => ag d hd (h1 d hd)
      have hw := wanted_agree (ops := l.toArray) fun d hd => ag d hd (h1 d hd)
      have kv : ∀ w', Below w.heap.size w w' → wpAny P .any l.toArray Q' fuel (listed.setIfInBounds i true) (b.put o.dst v) w' := fun w' hb => K v w' hb fun d hd => ⟨fun hf => absurd hf (h2 d hd), fun _ => hv⟩
      rcases hcalm with ⟨hwt, hval⟩ | ⟨hwf, rfl⟩
      · rw [hw] at hwt
        rw [if_pos hwt]
        left
        have h3 := hval w h.cls
        rw [he] at h3
        unfold Oper.wp
        generalize (execOp b.eval o).run P w = r at h3
        cases r with
        | ok n w' =>
          cases n <;> simp only [calmUpon] at h3 <;> simp only [Oper.upon]
          case value u => obtain ⟨rfl, rfl⟩ := h3; exact kv _ (Below.refl _ _)
          case skip => obtain ⟨rfl, rfl⟩ := h3; exact kv _ (Below.refl _ _)
          case enter f args =>
            obtain ⟨rfl, hcc⟩ := h3
            exact hcc.mono fun e w'' ⟨he, hb⟩ => by subst he; exact kv _ hb
        | halt x w' => simp only [calmUpon] at h3
      · rw [hw] at hwf
        rw [hwf, if_neg (by simp)]
        exact kv w (Below.refl _ _)
    · have he := exec_agree (ops := l.toArray) hsel fun d hd => ag d hd (h1 d hd)
      have hw := wanted_agree (ops := l.toArray) fun d hd => ag d hd (h1 d hd)
      rw [hw] at hwt
      rw [if_pos hwt]
      left
      have h3 := hsrc w h.cls
      rw [he] at h3
      have kf : ∀ u w', FS s u w' → Below w.heap.size w w' → wpAny P .any l.toArray Q' fuel (listed.setIfInBounds i true) (b.put o.dst u) w' := fun u w' hf hb => K u w' hb fun d hd => by
        obtain rfl : d = s := Option.some.inj (hd.symm.trans hds)
        exact ⟨fun _ => hf, fun hnf => absurd hs hnf⟩
      unfold Oper.wp
      generalize (execOp b.eval o).run P w = r at h3
      cases r with
      | ok n w' =>
        cases n <;> simp only [srcUpon] at h3 <;> simp only [Oper.upon]
        case value u => exact kf u w' h3.1 h3.2
        case enter f args =>
          obtain ⟨rfl, hcc⟩ := h3
          exact hcc.mono fun e w'' ⟨u, he, hf, hb⟩ => by subst he; exact kf u w'' hf hb
      | halt x w' => simp only [srcUpon] at h3
    · obtain ⟨e, hee, heb⟩ := Array.any_eq_true'.1 hje
      simp only [Bool.and_eq_true, beq_iff_eq] at heb
      obtain ⟨hbe, rfl⟩ := heb
      obtain ⟨oj, hoj, hdj⟩ := Option.bind_eq_some_iff.1 hj
      have hoj2 : l[e.on]? = some oj := by simpa using hoj
      obtain ⟨vj, hvj⟩ : ∃ v, vs[e.on]? = some v := ⟨_, List.getElem?_eq_getElem (by rw [hlen]; exact (List.getElem?_eq_some_iff.1 hoj2).1)⟩
      obtain ⟨x, hbx, hfx⟩ := (h.ins e.on oj s vj hoj2 (hp e hee hbe) hdj hvj).1 hs
      have hslt : s < (lex l vs a0 i).tmps.size := by rw [(lex_size l vs a0 i).1]; exact Nat.lt_of_lt_of_le (hR.small _ _ _ hoj hdj) hN
      have ag2 : ∀ d ∈ o.looksAt l.toArray, ((lex l vs a0 i).put (some s) x).tmps[d]? = b.tmps[d]? := fun d hd => by
        by_cases hsd : s = d
        · subst hsd
          rw [put_same x hslt, hbx]
        · rw [put_other x (by simpa using hsd)]
          exact ag d hd fun hf => hsd (h1 d hd hf).symm
      obtain ⟨hwt, h3⟩ := huse x w h.cls hfx
      rw [wanted_agree (ops := l.toArray) ag2] at hwt
      rw [exec_agree (ops := l.toArray) hsel ag2] at h3
      have kv : ∀ w', Below w.heap.size w w' → wpAny P .any l.toArray Q' fuel (listed.setIfInBounds i true) (b.put o.dst v) w' := fun w' hb => K v w' hb fun d hd => ⟨fun hf => absurd hf (h2 d hd), fun _ => hv⟩
      rw [if_pos hwt]
      left
      unfold Oper.wp
      generalize (execOp b.eval o).run P w = r at h3
      cases r with
      | ok n w' =>
        cases n <;> simp only [calmUpon] at h3 <;> simp only [Oper.upon]
        case value u => obtain ⟨rfl, rfl⟩ := h3; exact kv _ (Below.refl _ _)
        case skip => obtain ⟨rfl, rfl⟩ := h3; exact kv _ (Below.refl _ _)
        case enter f args =>
          obtain ⟨rfl, hcc⟩ := h3
          exact hcc.mono fun e w'' ⟨he, hb⟩ => by subst he; exact kv _ hb
      | halt x w' => simp only [calmUpon] at h3

    · have got : ∀ r ∈ R, ∃ x, b.tmps[r]? = some x ∧ FS r x w ∧ r < (lex l vs a0 i).tmps.size := fun r hr => by
        obtain ⟨hrf, j, hj, hje⟩ := hRs r hr
        obtain ⟨e, hee, heb⟩ := Array.any_eq_true'.1 hje
        simp only [Bool.and_eq_true, beq_iff_eq] at heb
        obtain ⟨hbe, rfl⟩ := heb
        obtain ⟨oj, hoj, hdj⟩ := Option.bind_eq_some_iff.1 hj
        have hoj2 : l[e.on]? = some oj := by simpa using hoj
        obtain ⟨vj, hvj⟩ : ∃ v, vs[e.on]? = some v := ⟨_, List.getElem?_eq_getElem (by rw [hlen]; exact (List.getElem?_eq_some_iff.1 hoj2).1)⟩
        obtain ⟨x, hbx, hfx⟩ := (h.ins e.on oj r vj hoj2 (hp e hee hbe) hdj hvj).1 hrf
        exact ⟨x, hbx, hfx, by rw [(lex_size l vs a0 i).1]; exact Nat.lt_of_lt_of_le (hR.small _ _ _ hoj hdj) hN⟩
      have ag2 : ∀ d ∈ o.looksAt l.toArray, (fill R (fun s => b.tmps.getD s undef) (lex l vs a0 i)).tmps[d]? = b.tmps[d]? := fun d hd => by
        by_cases hdR : d ∈ R
        · obtain ⟨x, hbx, _, hlt⟩ := got d hdR
          rw [fill_in R _ _ d hdR hlt, hbx]
          simp [hbx]
        · rw [fill_out R _ _ d hdR]
          exact ag d hd fun hf => hdR (h1 d hd hf)
      obtain ⟨hwt, h3⟩ := hmix (fun s => b.tmps.getD s undef) w h.cls fun r hr => by
        obtain ⟨x, hbx, hfx, _⟩ := got r hr
        simpa [hbx] using hfx
      rw [wanted_agree (ops := l.toArray) ag2] at hwt
      rw [exec_agree (ops := l.toArray) hsel ag2] at h3
      rw [if_pos hwt]
      left
      have kf : ∀ u w', FS s u w' → Below w.heap.size w w' → wpAny P .any l.toArray Q' fuel (listed.setIfInBounds i true) (b.put o.dst u) w' := fun u w' hf hb => K u w' hb fun d hd => by
        obtain rfl : d = s := Option.some.inj (hd.symm.trans hds)
        exact ⟨fun _ => hf, fun hnf => absurd hs hnf⟩
      unfold Oper.wp
      generalize (execOp b.eval o).run P w = r at h3
      cases r with
      | ok n w' =>
        cases n <;> simp only [srcUpon] at h3 <;> simp only [Oper.upon]
        case value u => exact kf u w' h3.1 h3.2
        case enter f args =>
          obtain ⟨rfl, hcc⟩ := h3
          exact hcc.mono fun e w'' ⟨u, he, hf, hb⟩ => by subst he; exact kf u w'' hf hb
      | halt x w' => simp only [srcUpon] at h3

/-- ONE WALK IN THE TEXT's ORDER SERVES EVERY ORDER -/
theorem wp_region_F {id : Nat} {Q : Exit → Act → World → Prop} {a : Act} {w : World} {l : List Oper} (N : Nat) (fs : List Tmp) (FS : Tmp → Value → World → Prop) (I : World → Prop) (hm : P.follows .mixedOrders = true) (hB : rgB .any l.toArray N = true)
    (hfs : (fs.all fun s => l.any fun o => o.dst == some s) = true) (hN : N ≤ a.tmps.size) (hI : Closed I) (hF : ∀ s x w w', FS s x w → Below w.heap.size w w' → FS s x w') (hC : I w.drew)
    (h : wpF P l.toArray I fs FS (fun a' => ∀ xs w', I w' → (∀ s ∈ fs, FS s (xs s) w') → Q .normal (fill fs xs a') w') l a) : (Code.region id l.toArray true).wp P Q a w := by
  have hR := rgB_spec hB
  obtain ⟨vs, hlen, hob, hE⟩ := wpF_vals l a h
  refine wp_region_any hm ?_
  refine any_of_F (l := l) (vs := vs) (fs := fs) (FS := FS) (I := I) (a0 := a) hR hN hlen hI hF hob ?_ _ _ _ _ ?_ ?_
  · intro listed b w' hall hinv
    have hw : ∀ s ∈ fs, ∃ x, b.tmps[s]? = some x ∧ FS s x w' := fun s hs => by
      rw [List.all_eq_true] at hfs
      have h1 := hfs s hs
      rw [List.any_eq_true] at h1
      obtain ⟨o, ho, hd⟩ := h1
      obtain ⟨j, hj, rfl⟩ := List.getElem_of_mem ho
      have hd' : (l[j]).dst = some s := by simpa using hd
      obtain ⟨v, hv⟩ : ∃ v, vs[j]? = some v := ⟨_, List.getElem?_eq_getElem (by rw [hlen]; exact hj)⟩
      exact (hinv.ins j l[j] s v (List.getElem?_eq_getElem hj) (hall j) hd' hv).1 hs
    have hb : b = fill fs (fun s => b.tmps.getD s undef) (lex l vs a l.length) := by
      have ht : b.tmps = (fill fs (fun s => b.tmps.getD s undef) (lex l vs a l.length)).tmps := by
        apply Array.ext_getElem?
        intro d
        by_cases hd : d ∈ fs
        · obtain ⟨x, hx, _⟩ := hw d hd
          have hlt : d < (lex l vs a l.length).tmps.size := by
            rw [(lex_size l vs a l.length).1, ← hinv.size]
            exact (Array.getElem?_eq_some_iff.1 hx).1
          rw [fill_in fs _ _ d hd hlt, hx]
          simp [hx]
        · rw [fill_out fs _ _ d hd]
          by_cases hwr : ∃ (j : Nat) (oj : Oper), l[j]? = some oj ∧ oj.dst = some d
          · obtain ⟨j, oj, hj, hdj⟩ := hwr
            obtain ⟨v, hv⟩ : ∃ v, vs[j]? = some v := ⟨_, List.getElem?_eq_getElem (by rw [hlen]; exact (List.getElem?_eq_some_iff.1 hj).1)⟩
            have hj' : l.toArray[j]? = some oj := by simpa using hj
            rw [(hinv.ins j oj d v hj (hall j) hdj hv).2 hd]
            exact (lex_in l vs a l.length j oj d v hj (List.getElem?_eq_some_iff.1 hj).1 hv hdj (Nat.lt_of_lt_of_le (hR.small _ _ _ hj' hdj) hN) fun i oi hi _ hne => hR.once i j oi oj d (by simpa using hi) hj' hdj hne).symm
          · rw [lex_out l vs a l.length d fun i oi hi _ hdi => hwr ⟨i, oi, hi, hdi⟩]
            exact hinv.out d fun i oi hi _ hdi => hwr ⟨i, oi, hi, hdi⟩
      have hd : b.defers = (fill fs (fun s => b.tmps.getD s undef) (lex l vs a l.length)).defers := by
        rw [(fill_size ..).2, (lex_size ..).2]
        exact hinv.defers
      cases b
      simp only at ht hd
      rw [Act.mk.injEq]
      exact ⟨ht, hd⟩
    rw [hb]
    refine hE _ w' hinv.cls fun s hs => ?_
    obtain ⟨x, hx, hf⟩ := hw s hs
    simpa [hx] using hf
  · simp
  · refine ⟨hC, rfl, rfl, fun _ _ => rfl, fun j o d v hj hlj => ?_, fun j o hj hlj => ?_, by simp⟩
    all_goals
      have hlt := (List.getElem?_eq_some_iff.1 hj).1
      rw [Array.getD_eq_getD_getElem?] at hlj
      simp [hlt] at hlj
end
end
end Go.Proofs.Ytoaclbdlgkgnpaa

namespace Go.Proofs.Ytoaclbdlgkgnpaa
open Go.RowKit
section
variable {P : Program} {l : List Oper} {I : World → Prop} {fs : List Tmp} {FS : Tmp → Value → World → Prop} {E : Act → Prop} {o : Oper} {rest : List Oper} {a : Act}
def noB (ops : Array Oper) (fs : List Tmp) (o : Oper) : Bool := ((o.looksAt ops).all fun d => !fs.contains d) && (match o.dst with | some d => !fs.contains d | none => true)
theorem noB_spec (h : noB l.toArray fs o = true) : (∀ d ∈ o.looksAt l.toArray, d ∉ fs) ∧ (∀ d, o.dst = some d → d ∉ fs) := by
  simp only [noB, Bool.and_eq_true, List.all_eq_true, Bool.not_eq_true'] at h
  refine ⟨fun d hd hf => ?_, fun d hd hf => ?_⟩
  · have := h.1 d hd
    simp [hf] at this
  · have := h.2
    rw [hd] at this
    simp [hf] at this
/-- it looks at no memory and enters no function -/
theorem wpF_pure (hk : kindOf o = 0) (hn : noB l.toArray fs o = true) (h : wpQuiet P l.toArray (fun _ => True) (fun a' => wpF P l.toArray I fs FS E rest a') [o] a) : wpF P l.toArray I fs FS E (o :: rest) a := by
  obtain ⟨h1, h2⟩ := noB_spec hn
  unfold wpQuiet at h
  by_cases hw : Region.wanted o (yielded l.toArray a.tmps) = true
  · simp only [hw, if_true] at h
    obtain ⟨v, hv, hr⟩ := h
    refine ⟨v, .inl ⟨h1, h2, .inl ⟨hw, fun w _ => ?_⟩⟩, hr⟩
    have h3 := hv w trivial
    have h4 := pure_no_enter (P := P) (kind_pure hk) a.eval w
    unfold Oper.quietAt at h3
    generalize (execOp a.eval o).run P w = r at h3 h4
    cases r with
    | ok n w' =>
      cases n with
      | enter f args => exact absurd rfl (h4 w' f args)
      | value u => exact h3
      | skip => exact h3
      | _ => simp only [Oper.quietUpon] at h3
    | halt x w' => simp only [Oper.quietUpon] at h3
  · simp only [hw] at h
    exact ⟨undef, .inl ⟨h1, h2, .inr ⟨by simpa using hw, rfl⟩⟩, h⟩
/-- a call of one value -/
theorem wpF_call {f : FuncId} {args : Array Value} (v : Value) (hn : noB l.toArray fs o = true) (hw : Region.wanted o (yielded l.toArray a.tmps) = true) (hrun : ∀ w, (execOp a.eval o).run P w = .ok (.enter f args) w)
    (hc : ∀ w, I w → Calls P f args w fun e w'' => e = .returned v ∧ Below w.heap.size w w'') (h : wpF P l.toArray I fs FS E rest (a.put o.dst v)) : wpF P l.toArray I fs FS E (o :: rest) a := by
  obtain ⟨h1, h2⟩ := noB_spec hn
  refine ⟨v, .inl ⟨h1, h2, .inl ⟨hw, fun w hI => ?_⟩⟩, h⟩
  rw [hrun w]
  exact ⟨rfl, hc w hI⟩
/-- a load -/
theorem wpF_load {t : TypeId} {x : Operand} {ad : Addr} (v : Value) (hop : o.op = .load t x) (hn : noB l.toArray fs o = true) (hw : Region.wanted o (yielded l.toArray a.tmps) = true) (hx : a.eval x = .pointer (some ad))
    (hrun : ∀ w, I w → (Instr.loadAt t (.pointer (some ad))).run P w = .ok v w) (h : wpF P l.toArray I fs FS E rest (a.put o.dst v)) : wpF P l.toArray I fs FS E (o :: rest) a := by
  obtain ⟨h1, h2⟩ := noB_spec hn
  refine ⟨v, .inl ⟨h1, h2, .inl ⟨hw, fun w hI => ?_⟩⟩, h⟩
  unfold execOp
  simp only [hop, hx]
  rw [Sem.run_bind, hrun w hI]
  exact ⟨rfl, rfl⟩
/-- an operation that makes memory: its value is known by what it is good for -/
theorem wpF_src (s : Tmp) (hs : s ∈ fs) (hd : o.dst = some s) (hn : ((o.looksAt l.toArray).all fun d => !fs.contains d) = true) (hw : Region.wanted o (yielded l.toArray a.tmps) = true)
    (hrun : ∀ w, I w → ∃ u w', (execOp a.eval o).run P w = .ok (.value u) w' ∧ FS s u w' ∧ Below w.heap.size w w') (h : wpF P l.toArray I fs FS E rest (a.put o.dst undef)) : wpF P l.toArray I fs FS E (o :: rest) a := by
  refine ⟨undef, .inr (.inl ⟨s, hs, hd, fun d hd hf => ?_, hw, fun w hI => ?_⟩), h⟩
  · rw [List.all_eq_true] at hn
    have := hn d hd
    simp [hf] at this
  · obtain ⟨u, w', hr, h1, h2⟩ := hrun w hI
    rw [hr]
    exact ⟨h1, h2⟩
/-- a call that is handed such a value -/
theorem wpF_use (s : Tmp) (j : Nat) {f : FuncId} (args : Value → Array Value) (v : Value) (hs : s ∈ fs) (hj : (l[j]?).bind (·.dst) = some s) (hje : (o.after.any fun e => Region.binds .any e && e.on == j) = true)
    (hn : ((o.looksAt l.toArray).all fun d => !fs.contains d || d == s) = true) (hdst : (match o.dst with | some d => !fs.contains d | none => true) = true) (hw : ∀ x, Region.wanted o (yielded l.toArray (a.put (some s) x).tmps) = true)
    (hrun : ∀ x w, (execOp (a.put (some s) x).eval o).run P w = .ok (.enter f (args x)) w)
    (hc : ∀ x w, I w → FS s x w → Calls P f (args x) w fun e w'' => e = .returned v ∧ Below w.heap.size w w'') (h : wpF P l.toArray I fs FS E rest (a.put o.dst v)) : wpF P l.toArray I fs FS E (o :: rest) a := by
  refine ⟨v, .inr (.inr (.inl ⟨s, hs, ⟨j, by simpa using hj, hje⟩, fun d hd hf => ?_, fun d hd hf => ?_, fun x w hI hx => ⟨hw x, ?_⟩⟩)), h⟩
  · rw [List.all_eq_true] at hn
    have := hn d hd
    simpa [hf] using this
  · rw [hd] at hdst
    simp [hf] at hdst
  · rw [hrun x w]
    exact ⟨rfl, hc x w hI hx⟩
/-- a call that hands back a value that is known by what it is good for -/
theorem wpF_callsrc (s : Tmp) {f : FuncId} {args : Array Value} (hs : s ∈ fs) (hd : o.dst = some s) (hn : ((o.looksAt l.toArray).all fun d => !fs.contains d) = true) (hw : Region.wanted o (yielded l.toArray a.tmps) = true)
    (hrun : ∀ w, (execOp a.eval o).run P w = .ok (.enter f args) w) (hc : ∀ w, I w → Calls P f args w fun e w'' => ∃ u, e = .returned u ∧ FS s u w'' ∧ Below w.heap.size w w'') (h : wpF P l.toArray I fs FS E rest (a.put o.dst undef)) : wpF P l.toArray I fs FS E (o :: rest) a := by
  refine ⟨undef, .inr (.inl ⟨s, hs, hd, fun d hd hf => ?_, hw, fun w hI => ?_⟩), h⟩
  · rw [List.all_eq_true] at hn
    have := hn d hd
    simp [hf] at this
  · rw [hrun w]
    exact ⟨rfl, hc w hI⟩
/-- an operation that looks at such values (R) and yields such a value -/
theorem wpF_mix (s : Tmp) (R : List Tmp) (hs : s ∈ fs) (hd : o.dst = some s)
    (hR : (R.all fun r => fs.contains r && (List.range l.length).any fun j => (((l[j]?).bind (·.dst)) == some r) && o.after.any fun e => Region.binds .any e && e.on == j) = true)
    (hn : ((o.looksAt l.toArray).all fun d => !fs.contains d || R.contains d) = true) (hw : ∀ xs, Region.wanted o (yielded l.toArray (fill R xs a).tmps) = true)
    (hrun : ∀ xs w, I w → (∀ r ∈ R, FS r (xs r) w) → ∃ u w', (execOp (fill R xs a).eval o).run P w = .ok (.value u) w' ∧ FS s u w' ∧ Below w.heap.size w w') (h : wpF P l.toArray I fs FS E rest (a.put o.dst undef)) : wpF P l.toArray I fs FS E (o :: rest) a := by
  refine ⟨undef, .inr (.inr (.inr ⟨s, R, hs, hd, fun r hr => ?_, fun d hd hf => ?_, fun xs w hI hx => ⟨hw xs, ?_⟩⟩)), h⟩
  · rw [List.all_eq_true] at hR
    have := hR r hr
    simp only [Bool.and_eq_true, List.contains_iff_mem, List.any_eq_true, beq_iff_eq] at this
    obtain ⟨h1, j, _, h2, h3⟩ := this
    exact ⟨h1, j, by simpa using h2, h3⟩
  · rw [List.all_eq_true] at hn
    have := hn d hd
    simpa [hf] using this
  · obtain ⟨u, w', hr, h1, h2⟩ := hrun xs w hI hx
    rw [hr]
    exact ⟨h1, h2⟩
/-- a call that is handed such values (R) and hands back such a value -/
theorem wpF_mixcall (s : Tmp) (R : List Tmp) {f : FuncId} (args : (Tmp → Value) → Array Value) (hs : s ∈ fs) (hd : o.dst = some s)
    (hR : (R.all fun r => fs.contains r && (List.range l.length).any fun j => (((l[j]?).bind (·.dst)) == some r) && o.after.any fun e => Region.binds .any e && e.on == j) = true)
    (hn : ((o.looksAt l.toArray).all fun d => !fs.contains d || R.contains d) = true) (hw : ∀ xs, Region.wanted o (yielded l.toArray (fill R xs a).tmps) = true)
    (hrun : ∀ xs w, (execOp (fill R xs a).eval o).run P w = .ok (.enter f (args xs)) w)
    (hc : ∀ xs w, I w → (∀ r ∈ R, FS r (xs r) w) → Calls P f (args xs) w fun e w'' => ∃ u, e = .returned u ∧ FS s u w'' ∧ Below w.heap.size w w'') (h : wpF P l.toArray I fs FS E rest (a.put o.dst undef)) : wpF P l.toArray I fs FS E (o :: rest) a := by
  refine ⟨undef, .inr (.inr (.inr ⟨s, R, hs, hd, fun r hr => ?_, fun d hd hf => ?_, fun xs w hI hx => ⟨hw xs, ?_⟩⟩)), h⟩
  · rw [List.all_eq_true] at hR
    have := hR r hr
    simp only [Bool.and_eq_true, List.contains_iff_mem, List.any_eq_true, beq_iff_eq] at this
    obtain ⟨h1, j, _, h2, h3⟩ := this
    exact ⟨h1, j, by simpa using h2, h3⟩
  · rw [List.all_eq_true] at hn
    have := hn d hd
    simpa [hf] using this
  · rw [hrun xs w]
    exact ⟨rfl, hc xs w hI hx⟩
end
end Go.Proofs.Ytoaclbdlgkgnpaa

namespace Go.Proofs.Ytoaclbdlgkgnpaa
open Go.RowKit
section
variable {P : Program} {l : List Oper} {vs : List Value} {fs : List Tmp} {FS : Tmp → Value → World → Prop} {I : World → Prop} {a0 : Act}
/-- one operation of such a run -/
theorem op_of_F {N : Nat} {Q' : Exit → Act → World → Prop} {K : Act → World → Prop} (hR : RG .any l.toArray N) (hN : N ≤ a0.tmps.size) (hlen : vs.length = l.length) {listed : Array Bool} {b : Act} {w : World} {i : Nat} {o : Oper} {v : Value}
    (h : Inv l vs fs FS I a0 listed b w) (ho2 : l[i]? = some o) (hun : listed.getD i true = false) (hp : ∀ e ∈ o.after, Region.binds .any e = true → listed.getD e.on true = true) (hv : vs[i]? = some v) (hob : Ob P l.toArray I fs FS o v (lex l vs a0 i))
    (hK : ∀ u w', Below w.heap.size w w' → (∀ d, o.dst = some d → (d ∈ fs → FS d u w') ∧ (d ∉ fs → vs[i]? = some u)) → K (b.put o.dst u) w') : Go.wpOp P l.toArray Q' i K b w := by
  have ho : l.toArray[i]? = some o := by simpa using ho2
  have hsel : ∀ cs c, o.op ≠ .select cs c := fun cs c => hR.sel i o cs c ho
  have ag : ∀ d ∈ o.looksAt l.toArray, d ∉ fs → (lex l vs a0 i).tmps[d]? = b.tmps[d]? := fun d hd hf => h.agree hR hN hlen ho2 hun hp hd hf
  unfold Go.wpOp
  simp only [ho]
  rcases hob with ⟨h1, h2, hcalm⟩ | ⟨s, hs, hds, h1, hwt, hsrc⟩ | ⟨s, hs, ⟨j, hj, hje⟩, h1, h2, huse⟩ | ⟨s, R, hs, hds, hRs, h1, hmix⟩
  · have he := exec_agree (ops := l.toArray) hsel fun d hd => ag d hd (h1 d hd)
    have hw := wanted_agree (ops := l.toArray) fun d hd => ag d hd (h1 d hd)
    have kv : ∀ w', Below w.heap.size w w' → K (b.put o.dst v) w' := fun w' hb => hK v w' hb fun d hd => ⟨fun hf => absurd hf (h2 d hd), fun _ => hv⟩
    rcases hcalm with ⟨hwt, hval⟩ | ⟨hwf, rfl⟩
    · rw [hw] at hwt
      rw [if_pos hwt]
      left
      have h3 := hval w h.cls
      rw [he] at h3
      unfold Oper.wp
      generalize (execOp b.eval o).run P w = r at h3
      cases r with
      | ok n w' =>
        cases n <;> simp only [calmUpon] at h3 <;> simp only [Oper.upon]
        case value u => obtain ⟨rfl, rfl⟩ := h3; exact kv _ (Below.refl _ _)
        case skip => obtain ⟨rfl, rfl⟩ := h3; exact kv _ (Below.refl _ _)
        case enter f args =>
          obtain ⟨rfl, hcc⟩ := h3
          exact hcc.mono fun e w'' ⟨he, hb⟩ => by subst he; exact kv _ hb
      | halt x w' => simp only [calmUpon] at h3
    · rw [hw] at hwf
      rw [hwf, if_neg (by simp)]
      exact kv w (Below.refl _ _)
  · have he := exec_agree (ops := l.toArray) hsel fun d hd => ag d hd (h1 d hd)
    have hw := wanted_agree (ops := l.toArray) fun d hd => ag d hd (h1 d hd)
    rw [hw] at hwt
    rw [if_pos hwt]
    left
    have h3 := hsrc w h.cls
    rw [he] at h3
    have kf : ∀ u w', FS s u w' → Below w.heap.size w w' → K (b.put o.dst u) w' := fun u w' hf hb => hK u w' hb fun d hd => by
      obtain rfl : d = s := Option.some.inj (hd.symm.trans hds)
      exact ⟨fun _ => hf, fun hnf => absurd hs hnf⟩
    unfold Oper.wp
    generalize (execOp b.eval o).run P w = r at h3
    cases r with
    | ok n w' =>
      cases n <;> simp only [srcUpon] at h3 <;> simp only [Oper.upon]
      case value u => exact kf u w' h3.1 h3.2
      case enter f args =>
        obtain ⟨rfl, hcc⟩ := h3
        exact hcc.mono fun e w'' ⟨u, he, hf, hb⟩ => by subst he; exact kf u w'' hf hb
    | halt x w' => simp only [srcUpon] at h3
  · obtain ⟨e, hee, heb⟩ := Array.any_eq_true'.1 hje
    simp only [Bool.and_eq_true, beq_iff_eq] at heb
    obtain ⟨hbe, rfl⟩ := heb
    obtain ⟨oj, hoj, hdj⟩ := Option.bind_eq_some_iff.1 hj
    have hoj2 : l[e.on]? = some oj := by simpa using hoj
    obtain ⟨vj, hvj⟩ : ∃ v, vs[e.on]? = some v := ⟨_, List.getElem?_eq_getElem (by rw [hlen]; exact (List.getElem?_eq_some_iff.1 hoj2).1)⟩
    obtain ⟨x, hbx, hfx⟩ := (h.ins e.on oj s vj hoj2 (hp e hee hbe) hdj hvj).1 hs
    have hslt : s < (lex l vs a0 i).tmps.size := by rw [(lex_size l vs a0 i).1]; exact Nat.lt_of_lt_of_le (hR.small _ _ _ hoj hdj) hN
    have ag2 : ∀ d ∈ o.looksAt l.toArray, ((lex l vs a0 i).put (some s) x).tmps[d]? = b.tmps[d]? := fun d hd => by
      by_cases hsd : s = d
      · subst hsd
        rw [put_same x hslt, hbx]
      · rw [put_other x (by simpa using hsd)]
        exact ag d hd fun hf => hsd (h1 d hd hf).symm
    obtain ⟨hwt, h3⟩ := huse x w h.cls hfx
    rw [wanted_agree (ops := l.toArray) ag2] at hwt
    rw [exec_agree (ops := l.toArray) hsel ag2] at h3
    have kv : ∀ w', Below w.heap.size w w' → K (b.put o.dst v) w' := fun w' hb => hK v w' hb fun d hd => ⟨fun hf => absurd hf (h2 d hd), fun _ => hv⟩
    rw [if_pos hwt]
    left
    unfold Oper.wp
    generalize (execOp b.eval o).run P w = r at h3
    cases r with
    | ok n w' =>
      cases n <;> simp only [calmUpon] at h3 <;> simp only [Oper.upon]
      case value u => obtain ⟨rfl, rfl⟩ := h3; exact kv _ (Below.refl _ _)
      case skip => obtain ⟨rfl, rfl⟩ := h3; exact kv _ (Below.refl _ _)
      case enter f args =>
        obtain ⟨rfl, hcc⟩ := h3
        exact hcc.mono fun e w'' ⟨he, hb⟩ => by subst he; exact kv _ hb
    | halt x w' => simp only [calmUpon] at h3

  · have got : ∀ r ∈ R, ∃ x, b.tmps[r]? = some x ∧ FS r x w ∧ r < (lex l vs a0 i).tmps.size := fun r hr => by
      obtain ⟨hrf, j, hj, hje⟩ := hRs r hr
      obtain ⟨e, hee, heb⟩ := Array.any_eq_true'.1 hje
      simp only [Bool.and_eq_true, beq_iff_eq] at heb
      obtain ⟨hbe, rfl⟩ := heb
      obtain ⟨oj, hoj, hdj⟩ := Option.bind_eq_some_iff.1 hj
      have hoj2 : l[e.on]? = some oj := by simpa using hoj
      obtain ⟨vj, hvj⟩ : ∃ v, vs[e.on]? = some v := ⟨_, List.getElem?_eq_getElem (by rw [hlen]; exact (List.getElem?_eq_some_iff.1 hoj2).1)⟩
      obtain ⟨x, hbx, hfx⟩ := (h.ins e.on oj r vj hoj2 (hp e hee hbe) hdj hvj).1 hrf
      exact ⟨x, hbx, hfx, by rw [(lex_size l vs a0 i).1]; exact Nat.lt_of_lt_of_le (hR.small _ _ _ hoj hdj) hN⟩
    have ag2 : ∀ d ∈ o.looksAt l.toArray, (fill R (fun s => b.tmps.getD s undef) (lex l vs a0 i)).tmps[d]? = b.tmps[d]? := fun d hd => by
      by_cases hdR : d ∈ R
      · obtain ⟨x, hbx, _, hlt⟩ := got d hdR
        rw [fill_in R _ _ d hdR hlt, hbx]
        simp [hbx]
      · rw [fill_out R _ _ d hdR]
        exact ag d hd fun hf => hdR (h1 d hd hf)
    obtain ⟨hwt, h3⟩ := hmix (fun s => b.tmps.getD s undef) w h.cls fun r hr => by
      obtain ⟨x, hbx, hfx, _⟩ := got r hr
      simpa [hbx] using hfx
    rw [wanted_agree (ops := l.toArray) ag2] at hwt
    rw [exec_agree (ops := l.toArray) hsel ag2] at h3
    rw [if_pos hwt]
    left
    have kf : ∀ u w', FS s u w' → Below w.heap.size w w' → K (b.put o.dst u) w' := fun u w' hf hb => hK u w' hb fun d hd => by
      obtain rfl : d = s := Option.some.inj (hd.symm.trans hds)
      exact ⟨fun _ => hf, fun hnf => absurd hs hnf⟩
    unfold Oper.wp
    generalize (execOp b.eval o).run P w = r at h3
    cases r with
    | ok n w' =>
      cases n <;> simp only [srcUpon] at h3 <;> simp only [Oper.upon]
      case value u => exact kf u w' h3.1 h3.2
      case enter f args =>
        obtain ⟨rfl, hcc⟩ := h3
        exact hcc.mono fun e w'' ⟨u, he, hf, hb⟩ => by subst he; exact kf u w'' hf hb
    | halt x w' => simp only [srcUpon] at h3

/-- an operation that looks at no memory, in whatever world -/
def purUpon (w : World) (v : Value) : Result Next → Prop
  | .ok (.value u) w' => w' = w ∧ u = v
  | .ok .skip w' => w' = w ∧ v = undef
  | _ => False
def PureOb (P : Program) (ops : Array Oper) (fs : List Tmp) (o : Oper) (v : Value) (a : Act) : Prop :=
  (∀ d ∈ o.looksAt ops, d ∉ fs) ∧ (∀ d, o.dst = some d → d ∉ fs) ∧
  ((Region.wanted o (yielded ops a.tmps) = true ∧ ∀ w, purUpon w v ((execOp a.eval o).run P w)) ∨ (Region.wanted o (yielded ops a.tmps) = false ∧ v = undef))
theorem PureOb.ob {ops : Array Oper} {o : Oper} {v : Value} {a : Act} (h : PureOb P ops fs o v a) : Ob P ops I fs FS o v a := by
  obtain ⟨h1, h2, h3⟩ := h
  refine .inl ⟨h1, h2, h3.imp (fun h => ⟨h.1, fun w _ => ?_⟩) id⟩
  have h4 := h.2 w
  generalize (execOp a.eval o).run P w = r at h4
  cases r with
  | ok n w' =>
    cases n <;> simp only [purUpon] at h4
    case value u => exact h4
    case skip => exact h4
  | halt x w' => simp only [purUpon] at h4
def stUpon (S : World → Prop) : Result Next → Prop
  | .ok (.value _) w' => S w'
  | .ok .skip w' => S w'
  | _ => False
/-- the store -/
def StOb (P : Program) (ops : Array Oper) (I : World → Prop) (fs : List Tmp) (FS : Tmp → Value → World → Prop) (St : (Tmp → Value) → World → World → Prop) (o : Oper) (a : Act) : Prop :=
  o.dst = none ∧ ∀ xs w, I w → (∀ s ∈ fs, FS s (xs s) w) → Region.wanted o (yielded ops (fill fs xs a).tmps) = true ∧ stUpon (St xs w) ((execOp (fill fs xs a).eval o).run P w)
/-- the walk in the text's order: so many operations, the store, the rest -/
def wpFS (P : Program) (ops : Array Oper) (I : World → Prop) (fs : List Tmp) (FS : Tmp → Value → World → Prop) (St : (Tmp → Value) → World → World → Prop) (E : Act → Prop) : Option Nat → List Oper → Act → Prop
  | _, [], a => E a
  | some 0, o :: r, a => StOb P ops I fs FS St o a ∧ wpFS P ops I fs FS St E none r a
  | some (c + 1), o :: r, a => ∃ v, Ob P ops I fs FS o v a ∧ wpFS P ops I fs FS St E (some c) r (a.put o.dst v)
  | none, o :: r, a => ∃ v, PureOb P ops fs o v a ∧ wpFS P ops I fs FS St E none r (a.put o.dst v)
section
variable {ops : Array Oper} {St : (Tmp → Value) → World → World → Prop} {E : Act → Prop}
theorem wpFS_vals0 : ∀ (l : List Oper) (a : Act), wpFS P ops I fs FS St E none l a → ∃ vs : List Value, vs.length = l.length ∧
    (∀ (j : Nat) o v, l[j]? = some o → vs[j]? = some v → PureOb P ops fs o v (lex l vs a j)) ∧ E (lex l vs a l.length)
  | [], a, h => ⟨[], rfl, by simp, h⟩
  | o :: r, a, ⟨v, hob, hr⟩ => by
    obtain ⟨vs, h1, h2, h3⟩ := wpFS_vals0 r _ hr
    refine ⟨v :: vs, by simp [h1], fun j o' v' ho hv => ?_, h3⟩
    cases j with
    | zero =>
      simp only [List.getElem?_cons_zero, Option.some.injEq] at ho hv
      subst ho hv
      exact hob
    | succ j =>
      simp only [List.getElem?_cons_succ] at ho hv
      exact h2 j o' v' ho hv
theorem wpFS_vals : ∀ (k : Nat) (l : List Oper) (a : Act), wpFS P ops I fs FS St E (some k) l a → ∃ vs : List Value, vs.length = l.length ∧
    (∀ (j : Nat) o v, l[j]? = some o → vs[j]? = some v → (j < k → Ob P ops I fs FS o v (lex l vs a j)) ∧ (j = k → StOb P ops I fs FS St o (lex l vs a j)) ∧ (k < j → PureOb P ops fs o v (lex l vs a j))) ∧ E (lex l vs a l.length)
  | _, [], a, h => ⟨[], rfl, by simp, h⟩
  | 0, o :: r, a, ⟨hob, hr⟩ => by
    obtain ⟨vs, h1, h2, h3⟩ := wpFS_vals0 r _ hr
    have hput : a.put o.dst undef = a := by rw [hob.1]; rfl
    refine ⟨undef :: vs, by simp [h1], fun j o' v' ho hv => ?_, ?_⟩
    · cases j with
      | zero =>
        simp only [List.getElem?_cons_zero, Option.some.injEq] at ho hv
        subst ho hv
        exact ⟨by omega, fun _ => hob, by omega⟩
      | succ j =>
        simp only [List.getElem?_cons_succ] at ho hv
        refine ⟨by omega, by omega, fun _ => ?_⟩
        show PureOb P ops fs o' v' (lex r vs (a.put o.dst undef) j)
        rw [hput]
        exact h2 j o' v' ho hv
    · show E (lex r vs (a.put o.dst undef) r.length)
      rw [hput]
      exact h3
  | k + 1, o :: r, a, ⟨v, hob, hr⟩ => by
    obtain ⟨vs, h1, h2, h3⟩ := wpFS_vals k r _ hr
    refine ⟨v :: vs, by simp [h1], fun j o' v' ho hv => ?_, h3⟩
    cases j with
    | zero =>
      simp only [List.getElem?_cons_zero, Option.some.injEq] at ho hv
      subst ho hv
      exact ⟨fun _ => hob, by omega, by omega⟩
    | succ j =>
      simp only [List.getElem?_cons_succ] at ho hv
      obtain ⟨q1, q2, q3⟩ := h2 j o' v' ho hv
      exact ⟨fun h => q1 (by omega), fun h => q2 (by omega), fun h => q3 (by omega)⟩
end
/-- k waits for j, by way of others -/
def reachB (md : Region.Mode) (ops : Array Oper) : Nat → Nat → Nat → Bool
  | 0, _, _ => false
  | f + 1, k, j => match ops[k]? with
    | none => false
    | some o => o.after.any fun e => Region.binds md e && (e.on == j || reachB md ops f e.on j)
theorem reach_listed {listed : Array Bool} {b : Act} {w : World} (h : Inv l vs fs FS I a0 listed b w) : ∀ (f m j : Nat), listed.getD m true = true → reachB .any l.toArray f m j = true → listed.getD j true = true
  | 0, _, _, _, hr => by simp [reachB] at hr
  | f + 1, m, j, hm, hr => by
    unfold reachB at hr
    cases ho : l.toArray[m]? with
    | none => rw [ho] at hr; cases hr
    | some o =>
      rw [ho] at hr
      obtain ⟨e, he, hb⟩ := Array.any_eq_true'.1 hr
      simp only [Bool.and_eq_true, Bool.or_eq_true, beq_iff_eq] at hb
      have h1 := h.down m o (by simpa using ho) hm e he hb.1
      rcases hb.2 with rfl | h2
      · exact h1
      · exact reach_listed h f e.on j h1 h2
theorem reach_ready {listed : Array Bool} {b : Act} {w : World} (h : Inv l vs fs FS I a0 listed b w) {k : Nat} {o : Oper} (ho : l[k]? = some o) (hp : ∀ e ∈ o.after, Region.binds .any e = true → listed.getD e.on true = true) (f j : Nat) (hr : reachB .any l.toArray f k j = true) : listed.getD j true = true := by
  cases f with
  | zero => simp [reachB] at hr
  | succ f =>
    unfold reachB at hr
    have ho' : l.toArray[k]? = some o := by simpa using ho
    rw [ho'] at hr
    obtain ⟨e, he, hb⟩ := Array.any_eq_true'.1 hr
    simp only [Bool.and_eq_true, Bool.or_eq_true, beq_iff_eq] at hb
    have h1 := hp e he hb.1
    rcases hb.2 with rfl | h2
    · exact h1
    · exact reach_listed h f e.on j h1 h2

theorem any_of_FS {N k f : Nat} {late : Nat → Bool} {Q' : Exit → Act → World → Prop} {St : (Tmp → Value) → World → World → Prop} (hR : RG .any l.toArray N) (hN : N ≤ a0.tmps.size) (hlen : vs.length = l.length) (hI : Closed I) (hF : ∀ s x w w', FS s x w → Below w.heap.size w w' → FS s x w')
    (hob : ∀ (j : Nat) o v, l[j]? = some o → vs[j]? = some v → (j < k → Ob P l.toArray I fs FS o v (lex l vs a0 j)) ∧ (j = k → StOb P l.toArray I fs FS St o (lex l vs a0 j)) ∧ (k < j ∨ late j = true → PureOb P l.toArray fs o v (lex l vs a0 j)))
    (hk : k < l.length) (hreach : ∀ j, j < k → late j = false → reachB .any l.toArray f k j = true) (hfs : ∀ s ∈ fs, ∃ (j : Nat) (o : Oper), j < k ∧ late j = false ∧ l[j]? = some o ∧ o.dst = some s)
    (hQ : ∀ (listed : Array Bool) b W w xs, (∀ j, listed.getD j true = true) → Inv l vs fs FS I a0 listed b W → (∀ s ∈ fs, b.tmps[s]? = some (xs s) ∧ FS s (xs s) W) → St xs W w → Q' .normal b w) :
    ∀ (fuel : Nat) (listed : Array Bool) (b : Act) (W w : World), listed.toList.count false ≤ fuel → Inv l vs fs FS I a0 listed b W →
      ((listed.getD k true = false ∧ w = W) ∨ (listed.getD k true = true ∧ ∃ xs, (∀ s ∈ fs, b.tmps[s]? = some (xs s) ∧ FS s (xs s) W) ∧ St xs W w)) → wpAny P .any l.toArray Q' fuel listed b w
  | 0, listed, b, W, w, hc, h, hp => by
    have hall := count_zero (L := listed) (by omega)
    rcases hp with ⟨h0, _⟩ | ⟨_, xs, hx, hst⟩
    · rw [hall k] at h0; cases h0
    refine ⟨?_, hQ listed b W w xs hall h hx hst⟩
    rw [List.eq_nil_iff_forall_not_mem]
    intro i hi
    have := (mem_ready.1 hi).1
    rw [hall i] at this
    cases this
  | fuel + 1, listed, b, W, w, hc, h, hph => by
    refine ⟨fun h0 => ?_, fun i hi => ?_⟩
    · have hall := ready_all hR h.lsize h0
      rcases hph with ⟨h0, _⟩ | ⟨_, xs, hx, hst⟩
      · rw [hall k] at h0; cases h0
      · exact hQ listed b W w xs hall h hx hst
    obtain ⟨hun, o, ho, hall⟩ := mem_ready.1 hi
    have ho2 : l[i]? = some o := by simpa using ho
    have hp : ∀ e ∈ o.after, Region.binds .any e = true → listed.getD e.on true = true := fun e he hb => by
      have h1 := hall e he hb
      rw [Array.getD_eq_getD_getElem?] at h1 ⊢
      cases hx : listed[e.on]? with
      | none => rfl
      | some y => rw [hx] at h1; simpa using h1
    obtain ⟨v, hv⟩ : ∃ v, vs[i]? = some v := ⟨_, List.getElem?_eq_getElem (by rw [hlen]; exact (List.getElem?_eq_some_iff.1 ho2).1)⟩
    obtain ⟨q1, q2, q3⟩ := hob i o v ho2 hv
    have hcnt := count_set hun
    have hsel : ∀ cs c, o.op ≠ .select cs c := fun cs c => hR.sel i o cs c ho
    have ag : ∀ d ∈ o.looksAt l.toArray, d ∉ fs → (lex l vs a0 i).tmps[d]? = b.tmps[d]? := fun d hd hf => h.agree hR hN hlen ho2 hun hp hd hf
    rcases hph with ⟨hk0, rfl⟩ | ⟨hk1, xs, hx, hst⟩
    · by_cases hik : i = k
      · subst hik
        obtain ⟨hdst, hstore⟩ := q2 rfl
        have got : ∀ s ∈ fs, ∃ x, b.tmps[s]? = some x ∧ FS s x w ∧ s < (lex l vs a0 i).tmps.size := fun s hs => by
          obtain ⟨j, oj, hji, hlj, hoj, hdj⟩ := hfs s hs
          obtain ⟨vj, hvj⟩ : ∃ v, vs[j]? = some v := ⟨_, List.getElem?_eq_getElem (by rw [hlen]; exact (List.getElem?_eq_some_iff.1 hoj).1)⟩
          obtain ⟨x, hbx, hfx⟩ := (h.ins j oj s vj hoj (reach_ready h ho2 hp f j (hreach j hji hlj)) hdj hvj).1 hs
          exact ⟨x, hbx, hfx, by rw [(lex_size l vs a0 i).1]; exact Nat.lt_of_lt_of_le (hR.small j oj s (by simpa using hoj) hdj) hN⟩
        have hxs : ∀ s ∈ fs, b.tmps[s]? = some (b.tmps.getD s undef) ∧ FS s (b.tmps.getD s undef) w := fun s hs => by
          obtain ⟨x, hbx, hfx, _⟩ := got s hs
          simpa [hbx] using hfx
        have ag2 : ∀ d ∈ o.looksAt l.toArray, (fill fs (fun s => b.tmps.getD s undef) (lex l vs a0 i)).tmps[d]? = b.tmps[d]? := fun d hd => by
          by_cases hdf : d ∈ fs
          · obtain ⟨x, hbx, _, hlt⟩ := got d hdf
            rw [fill_in fs _ _ d hdf hlt, hbx]
            simp [hbx]
          · rw [fill_out fs _ _ d hdf]
            exact ag d hd hdf
        obtain ⟨hwt, h3⟩ := hstore (fun s => b.tmps.getD s undef) w h.cls fun s hs => (hxs s hs).2
        rw [wanted_agree (ops := l.toArray) ag2] at hwt
        rw [exec_agree (ops := l.toArray) hsel ag2] at h3
        have hin : ∀ u, Inv l vs fs FS I a0 (listed.setIfInBounds i true) (b.put o.dst u) w := fun u => h.next hR hN hI hF ho2 hp (Below.refl _ _) fun d hd => by rw [hdst] at hd; cases hd
        have hput : ∀ u, b.put o.dst u = b := fun u => by rw [hdst]; rfl
        have kk : ∀ u w', St (fun s => b.tmps.getD s undef) w w' → wpAny P .any l.toArray Q' fuel (listed.setIfInBounds i true) (b.put o.dst u) w' := fun u w' hs =>
          any_of_FS hR hN hlen hI hF hob hk hreach hfs hQ fuel _ _ w w' (by omega) (hin u) (.inr ⟨getD_set_same _ _, _, by rw [hput u]; exact hxs, hs⟩)
        unfold Go.wpOp
        simp only [ho]
        rw [if_pos hwt]
        left
        unfold Oper.wp
        generalize (execOp b.eval o).run P w = r at h3
        cases r with
        | ok n w' =>
          cases n <;> simp only [stUpon] at h3 <;> simp only [Oper.upon]
          case value u => exact kk _ _ h3
          case skip => exact kk _ _ h3
        | halt x w' => simp only [stUpon] at h3
      · have hob' : Ob P l.toArray I fs FS o v (lex l vs a0 i) := by
          rcases Nat.lt_or_gt_of_ne hik with hlt | hgt
          · exact q1 hlt
          · exact (q3 (.inl hgt)).ob
        exact op_of_F hR hN hlen h ho2 hun hp hv hob' fun u w' hb hu =>
          any_of_FS hR hN hlen hI hF hob hk hreach hfs hQ fuel _ _ w' w' (by omega) (h.next hR hN hI hF ho2 hp hb hu) (.inl ⟨by rw [getD_set_far _ hik]; exact hk0, rfl⟩)
    · have hki : k < i ∨ late i = true := by
        rcases Nat.lt_trichotomy i k with hlt | rfl | hgt
        · cases hla : late i with
          | true => exact .inr rfl
          | false => rw [reach_listed h f k i hk1 (hreach i hlt hla)] at hun; cases hun
        · rw [hk1] at hun; cases hun
        · exact .inl hgt
      obtain ⟨h1, h2, h3⟩ := q3 hki
      have he := exec_agree (ops := l.toArray) hsel fun d hd => ag d hd (h1 d hd)
      have hw := wanted_agree (ops := l.toArray) fun d hd => ag d hd (h1 d hd)
      have kv : wpAny P .any l.toArray Q' fuel (listed.setIfInBounds i true) (b.put o.dst v) w :=
        any_of_FS hR hN hlen hI hF hob hk hreach hfs hQ fuel _ _ W w (by omega) (h.next hR hN hI hF ho2 hp (Below.refl _ _) fun d hd => ⟨fun hf => absurd hf (h2 d hd), fun _ => hv⟩)
          (.inr ⟨getD_set_up _ hk1, xs, fun s hs => ⟨by rw [put_other v (fun e => h2 s e hs)]; exact (hx s hs).1, (hx s hs).2⟩, hst⟩)
      unfold Go.wpOp
      simp only [ho]
      rcases h3 with ⟨hwt, hval⟩ | ⟨hwf, rfl⟩
      · rw [hw] at hwt
        rw [if_pos hwt]
        left
        have h4 := hval w
        rw [he] at h4
        unfold Oper.wp
        generalize (execOp b.eval o).run P w = r at h4
        cases r with
        | ok n w' =>
          cases n <;> simp only [purUpon] at h4 <;> simp only [Oper.upon]
          case value u => obtain ⟨rfl, rfl⟩ := h4; exact kv
          case skip => obtain ⟨rfl, rfl⟩ := h4; exact kv
        | halt x w' => simp only [purUpon] at h4
      · rw [hw] at hwf
        rw [hwf, if_neg (by simp)]
        exact kv

theorem region_of_FS {id : Nat} {Q : Exit → Act → World → Prop} {a : Act} {w : World} {l : List Oper} {vs : List Value} {N k f : Nat} {late : Nat → Bool} {fs : List Tmp} {FS : Tmp → Value → World → Prop} {I : World → Prop} {St : (Tmp → Value) → World → World → Prop} (hm : P.follows .mixedOrders = true) (hR : RG .any l.toArray N)
    (hk' : k < l.length) (hreach : ∀ j, j < k → late j = false → reachB .any l.toArray f k j = true) (hfs' : ∀ s ∈ fs, ∃ (j : Nat) (o : Oper), j < k ∧ late j = false ∧ l[j]? = some o ∧ o.dst = some s) (hN : N ≤ a.tmps.size) (hI : Closed I) (hF : ∀ s x w w', FS s x w → Below w.heap.size w w' → FS s x w') (hC : I w.drew)
    (hlen : vs.length = l.length) (hob : ∀ (j : Nat) o v, l[j]? = some o → vs[j]? = some v → (j < k → Ob P l.toArray I fs FS o v (lex l vs a j)) ∧ (j = k → StOb P l.toArray I fs FS St o (lex l vs a j)) ∧ (k < j ∨ late j = true → PureOb P l.toArray fs o v (lex l vs a j)))
    (hE : ∀ xs W w', I W → (∀ s ∈ fs, FS s (xs s) W) → St xs W w' → Q .normal (fill fs xs (lex l vs a l.length)) w') : (Code.region id l.toArray true).wp P Q a w := by
  refine wp_region_any hm ?_
  refine any_of_FS (l := l) (vs := vs) (fs := fs) (FS := FS) (I := I) (a0 := a) (St := St) (k := k) (f := f) (late := late) hR hN hlen hI hF hob hk' hreach hfs' ?_ _ _ _ w.drew _ ?_ ?_ ?_
  · intro listed b W w' xs hall hinv hx hst
    have hb : b = fill fs xs (lex l vs a l.length) := by
      have ht : b.tmps = (fill fs xs (lex l vs a l.length)).tmps := by
        apply Array.ext_getElem?
        intro d
        by_cases hd : d ∈ fs
        · have hlt : d < (lex l vs a l.length).tmps.size := by
            rw [(lex_size l vs a l.length).1, ← hinv.size]
            exact (Array.getElem?_eq_some_iff.1 (hx d hd).1).1
          rw [fill_in fs _ _ d hd hlt, (hx d hd).1]
        · rw [fill_out fs _ _ d hd]
          by_cases hwr : ∃ (j : Nat) (oj : Oper), l[j]? = some oj ∧ oj.dst = some d
          · obtain ⟨j, oj, hj, hdj⟩ := hwr
            obtain ⟨v, hv⟩ : ∃ v, vs[j]? = some v := ⟨_, List.getElem?_eq_getElem (by rw [hlen]; exact (List.getElem?_eq_some_iff.1 hj).1)⟩
            have hj' : l.toArray[j]? = some oj := by simpa using hj
            rw [(hinv.ins j oj d v hj (hall j) hdj hv).2 hd]
            exact (lex_in l vs a l.length j oj d v hj (List.getElem?_eq_some_iff.1 hj).1 hv hdj (Nat.lt_of_lt_of_le (hR.small _ _ _ hj' hdj) hN) fun i oi hi _ hne => hR.once i j oi oj d (by simpa using hi) hj' hdj hne).symm
          · rw [lex_out l vs a l.length d fun i oi hi _ hdi => hwr ⟨i, oi, hi, hdi⟩]
            exact hinv.out d fun i oi hi _ hdi => hwr ⟨i, oi, hi, hdi⟩
      have hd : b.defers = (fill fs xs (lex l vs a l.length)).defers := by
        rw [(fill_size ..).2, (lex_size ..).2]
        exact hinv.defers
      cases b
      simp only at ht hd
      rw [Act.mk.injEq]
      exact ⟨ht, hd⟩
    rw [hb]
    exact hE xs W w' hinv.cls (fun s hs => (hx s hs).2) hst
  · simp
  · refine ⟨hC, rfl, rfl, fun _ _ => rfl, fun j o d v hj hlj => ?_, fun j o hj hlj => ?_, by simp⟩
    all_goals
      have hlt := (List.getElem?_eq_some_iff.1 hj).1
      rw [Array.getD_eq_getD_getElem?] at hlj
      simp [hlt] at hlj
  · refine .inl ⟨?_, rfl⟩
    rw [Array.getD_eq_getD_getElem?]
    simp [hk']
/-- ONE WALK IN THE TEXT's ORDER SERVES EVERY ORDER, the store at place k -/
theorem wp_region_FS {id : Nat} {Q : Exit → Act → World → Prop} {a : Act} {w : World} {l : List Oper} (N k f : Nat) (fs : List Tmp) (FS : Tmp → Value → World → Prop) (I : World → Prop) (St : (Tmp → Value) → World → World → Prop) (hm : P.follows .mixedOrders = true) (hB : rgB .any l.toArray N = true)
    (hk : decide (k < l.length) = true) (hreach : ((List.range k).all fun j => reachB .any l.toArray f k j) = true) (hfs : (fs.all fun s => (l.take k).any fun o => o.dst == some s) = true) (hN : N ≤ a.tmps.size) (hI : Closed I) (hF : ∀ s x w w', FS s x w → Below w.heap.size w w' → FS s x w') (hC : I w.drew)
    (h : wpFS P l.toArray I fs FS St (fun a' => ∀ xs W w', I W → (∀ s ∈ fs, FS s (xs s) W) → St xs W w' → Q .normal (fill fs xs a') w') (some k) l a) : (Code.region id l.toArray true).wp P Q a w := by
  have hR := rgB_spec hB
  have hk' : k < l.length := by simpa using hk
  obtain ⟨vs, hlen, hob, hE⟩ := wpFS_vals k l a h
  have hfs' : ∀ s ∈ fs, ∃ (j : Nat) (o : Oper), j < k ∧ (fun _ : Nat => false) j = false ∧ l[j]? = some o ∧ o.dst = some s := fun s hs => by
    rw [List.all_eq_true] at hfs
    have h1 := hfs s hs
    rw [List.any_eq_true] at h1
    obtain ⟨o, ho, hd⟩ := h1
    obtain ⟨j, hj, rfl⟩ := List.getElem_of_mem ho
    have hj1 : j < k := by rw [List.length_take] at hj; omega
    have hj2 : j < l.length := by rw [List.length_take] at hj; omega
    exact ⟨j, l[j], hj1, rfl, List.getElem?_eq_getElem hj2, by simpa using hd⟩
  exact region_of_FS (late := fun _ => false) hm hR hk' (fun j hj _ => by rw [List.all_eq_true] at hreach; exact hreach j (List.mem_range.2 hj)) hfs' hN hI hF hC hlen (fun j o v h1 h2 => ⟨(hob j o v h1 h2).1, (hob j o v h1 h2).2.1, fun h => (hob j o v h1 h2).2.2 (h.elim (fun h => h) (fun h => absurd h Bool.false_ne_true))⟩) hE

/-! ### its steps -/
section
variable {St : (Tmp → Value) → World → World → Prop} {E : Act → Prop} {o : Oper} {rest : List Oper} {a : Act}
/-- any of XQ6's steps: shown of the operation alone, with what follows taken as it comes -/
theorem wpFS_step {k : Nat} (h : wpF P l.toArray I fs FS (fun a' => wpFS P l.toArray I fs FS St E (some k) rest a') [o] a) : wpFS P l.toArray I fs FS St E (some (k + 1)) (o :: rest) a := by
  obtain ⟨v, hob, hr⟩ := h
  exact ⟨v, hob, hr⟩
/-- the store -/
theorem wpFS_store {t : TypeId} {x y : Operand} (ho : o.op = .store t x y) (hd : o.dst = none) (hg : o.guard = none) (ad : Addr) (v : (Tmp → Value) → Value) (hx : ∀ xs, (fill fs xs a).eval x = .pointer (some ad)) (hy : ∀ xs, (fill fs xs a).eval y = v xs)
    (hrun : ∀ xs w, I w → (∀ s ∈ fs, FS s (xs s) w) → ∃ w', (Instr.storeAt t (.pointer (some ad)) (v xs)).run P w = .ok () w' ∧ St xs w w') (h : wpFS P l.toArray I fs FS St E none rest a) : wpFS P l.toArray I fs FS St E (some 0) (o :: rest) a := by
  refine ⟨⟨hd, fun xs w hI hs => ⟨by simp [Region.wanted, hg], ?_⟩⟩, h⟩
  obtain ⟨w', hr, hst⟩ := hrun xs w hI hs
  unfold execOp
  simp only [ho, hx xs, hy xs]
  rw [Sem.run_bind, hr]
  exact hst
/-- behind the store -/
theorem wpFS_pure (hk : kindOf o = 0) (hn : noB l.toArray fs o = true) (h : wpQuiet P l.toArray (fun _ => True) (fun a' => wpFS P l.toArray I fs FS St E none rest a') [o] a) : wpFS P l.toArray I fs FS St E none (o :: rest) a := by
  obtain ⟨h1, h2⟩ := noB_spec hn
  unfold wpQuiet at h
  by_cases hw : Region.wanted o (yielded l.toArray a.tmps) = true
  · simp only [hw, if_true] at h
    obtain ⟨v, hv, hr⟩ := h
    refine ⟨v, ⟨h1, h2, .inl ⟨hw, fun w => ?_⟩⟩, hr⟩
    have h3 := hv w trivial
    have h4 := pure_no_enter (P := P) (kind_pure hk) a.eval w
    unfold Oper.quietAt at h3
    generalize (execOp a.eval o).run P w = r at h3 h4
    cases r with
    | ok n w' =>
      cases n with
      | enter f args => exact absurd rfl (h4 w' f args)
      | value u => exact h3
      | skip => exact h3
      | _ => simp only [Oper.quietUpon] at h3
    | halt x w' => simp only [Oper.quietUpon] at h3
  · simp only [hw] at h
    exact ⟨undef, ⟨h1, h2, .inr ⟨by simpa using hw, rfl⟩⟩, h⟩
end
end
end Go.Proofs.Ytoaclbdlgkgnpaa

namespace Go.Proofs.Ytoaclbdlgkgnpaa
open Go.RowKit
section
variable {P : Program} {l : List Oper} {fs : List Tmp} {FS : Tmp → Value → World → Prop} {I : World → Prop} {E : Act → Prop} {o : Oper} {rest : List Oper} {a : Act}
/-- an operation whose value is the same in every world of the class, and which leaves the world -/
theorem wpF_val (v : Value) (hn : noB l.toArray fs o = true) (hw : Region.wanted o (yielded l.toArray a.tmps) = true)
    (hrun : ∀ w, I w → (execOp a.eval o).run P w = .ok (.value v) w) (h : wpF P l.toArray I fs FS E rest (a.put o.dst v)) : wpF P l.toArray I fs FS E (o :: rest) a := by
  obtain ⟨h1, h2⟩ := noB_spec hn
  refine ⟨v, .inl ⟨h1, h2, .inl ⟨hw, fun w hI => ?_⟩⟩, h⟩
  rw [hrun w hI]
  exact ⟨rfl, rfl⟩
theorem wpF_nil {x : Operand} {ad : Addr} (hop : o.op = .nilCheck x) (hn : noB l.toArray fs o = true) (hw : Region.wanted o (yielded l.toArray a.tmps) = true) (hx : a.eval x = .pointer (some ad))
    (h : wpF P l.toArray I fs FS E rest (a.put o.dst (.pointer (some ad)))) : wpF P l.toArray I fs FS E (o :: rest) a :=
  wpF_val _ hn hw (fun w _ => by simp only [execOp, hop, hx]; rfl) h
/-- the store of XQ7's law, to an address that a source has given -/
theorem wpFS_storeX {St : (Tmp → Value) → World → World → Prop} {t : TypeId} {x y : Operand} (ho : o.op = .store t x y) (hd : o.dst = none) (hg : o.guard = none)
    (hrun : ∀ xs w, I w → (∀ s ∈ fs, FS s (xs s) w) → ∃ w', (Instr.storeAt t ((fill fs xs a).eval x) ((fill fs xs a).eval y)).run P w = .ok () w' ∧ St xs w w') (h : wpFS P l.toArray I fs FS St E none rest a) : wpFS P l.toArray I fs FS St E (some 0) (o :: rest) a := by
  refine ⟨⟨hd, fun xs w hI hs => ⟨by simp [Region.wanted, hg], ?_⟩⟩, h⟩
  obtain ⟨w', hr, hst⟩ := hrun xs w hI hs
  unfold execOp
  simp only [ho]
  rw [Sem.run_bind, hr]
  exact hst
end
end Go.Proofs.Ytoaclbdlgkgnpaa

namespace Go.Proofs.Ytoaclbdlgkgnpaa
open Go.RowKit
section
variable {P : Program} {l : List Oper} {vs : List Value} {fs : List Tmp} {FS : Tmp → Value → World → Prop} {I : World → Prop} {a0 : Act}
theorem lex_take : ∀ (l : List Oper) (vs us : List Value) (a : Act) (n j : Nat), j ≤ n → vs.length = (l.take n).length → lex (l.take n) vs a j = lex l (vs ++ us) a j
  | _, _, _, _, _, 0, _, _ => by rw [lex_zero, lex_zero]
  | [], vs, us, a, n, j + 1, _, _ => by simp [lex]
  | o :: r, [], us, a, n + 1, j + 1, _, h2 => by simp at h2
  | o :: r, v :: vs, us, a, n + 1, j + 1, h1, h2 => by
    rw [List.take_succ_cons, List.cons_append, lex, lex]
    exact lex_take r vs us _ n j (by omega) (by simpa using h2)
theorem count_take {L : Array Bool} {n i : Nat} (hi : i < n) (h : L.getD i true = false) : ((L.setIfInBounds i true).toList.take n).count false + 1 = (L.toList.take n).count false := by
  have hL : (L.setIfInBounds i true).toList.take n = (((L.toList.take n).toArray).setIfInBounds i true).toList := by
    simp [List.take_set]
  rw [hL]
  refine count_set (L := (L.toList.take n).toArray) ?_
  rw [Array.getD_eq_getD_getElem?] at h ⊢
  simpa [List.getElem?_take, hi] using h
theorem count_take_zero {L : Array Bool} {n : Nat} (h : (L.toList.take n).count false = 0) (j : Nat) (hj : j < n) : L.getD j true = true := by
  have := count_zero (L := (L.toList.take n).toArray) (by simpa using h) j
  rw [Array.getD_eq_getD_getElem?] at this ⊢
  simpa [List.getElem?_take, hj] using this
theorem count_take_pos {L : Array Bool} {n f : Nat} (h : (L.toList.take n).count false = f + 1) : ∃ i, i < n ∧ L.getD i true = false := by
  have : 0 < (L.toList.take n).count false := by omega
  rw [List.count_pos_iff] at this
  obtain ⟨i, hi, hv⟩ := List.getElem_of_mem this
  rw [List.length_take] at hi
  refine ⟨i, by omega, ?_⟩
  rw [Array.getD_eq_getD_getElem?]
  have h2 : i < L.size := by have : L.toList.length = L.size := by simp
                             omega
  rw [List.getElem_take] at hv
  simp [h2]
  simpa using hv

theorem any_of_FT {N n : Nat} {Q' : Exit → Act → World → Prop} (hR : RG .any l.toArray N) (hN : N ≤ a0.tmps.size) (hlen : vs.length = l.length) (hI : Closed I) (hF : ∀ s x w w', FS s x w → Below w.heap.size w w' → FS s x w')
    (hob : ∀ (j : Nat) o v, j < n → l[j]? = some o → vs[j]? = some v → Ob P l.toArray I fs FS o v (lex l vs a0 j)) (hn : n < l.length) (hs : Region.sinkB .any l.toArray n = true) (hc : Region.chainB .any l.toArray n = true)
    (hQ : ∀ (listed : Array Bool) b w, (∀ j, j < n → listed.getD j true = true) → (∀ t, n ≤ t → t < l.length → listed.getD t true = false) → Inv l vs fs FS I a0 listed b w → wpAny P .any l.toArray Q' (l.length - n) listed b w) :
    ∀ (f : Nat) (listed : Array Bool) (b : Act) (w : World), (listed.toList.take n).count false = f → HeadInv .any l.toArray n listed → Inv l vs fs FS I a0 listed b w → wpAny P .any l.toArray Q' (f + (l.length - n)) listed b w
  | 0, listed, b, w, hcn, hh, h => by
    rw [Nat.zero_add]
    exact hQ listed b w (fun j hj => count_take_zero hcn j hj) (fun t h1 h2 => hh.tail t h1 (by simpa using h2)) h
  | f + 1, listed, b, w, hcn, hh, h => by
    obtain ⟨i0, hi0, hu0⟩ := count_take_pos hcn
    rw [show f + 1 + (l.length - n) = (f + (l.length - n)) + 1 by omega]
    refine ⟨fun h0 => ?_, fun i hi => ?_⟩
    · have hall := ready_all hR h.lsize h0
      rw [hall i0] at hu0
      cases hu0
    have hin : i < n := by
      rcases Nat.lt_or_ge i n with h1 | h1
      · exact h1
      · exact absurd hi (tail_waits hs hc (by simpa using hn) hh _ i0 rfl hi0 hu0 i h1)
    obtain ⟨hun, o, ho, hall⟩ := mem_ready.1 hi
    have ho2 : l[i]? = some o := by simpa using ho
    have hp : ∀ e ∈ o.after, Region.binds .any e = true → listed.getD e.on true = true := fun e he hb => by
      have h1 := hall e he hb
      rw [Array.getD_eq_getD_getElem?] at h1 ⊢
      cases hx : listed[e.on]? with
      | none => rfl
      | some y => rw [hx] at h1; simpa using h1
    obtain ⟨v, hv⟩ : ∃ v, vs[i]? = some v := ⟨_, List.getElem?_eq_getElem (by rw [hlen]; exact (List.getElem?_eq_some_iff.1 ho2).1)⟩
    have hcnt := count_take hin hun
    exact op_of_F hR hN hlen h ho2 hun hp hv (hob i o v hin ho2 hv) fun u w' hb hu =>
      any_of_FT hR hN hlen hI hF hob hn hs hc hQ f _ _ w' (by omega) (hh.set hi hin) (h.next hR hN hI hF ho2 hp hb hu)

/-- ONE WALK IN THE TEXT's ORDER SERVES EVERY ORDER; the tail, behind place n, as it stands -/
theorem wp_region_FT {id : Nat} {Q : Exit → Act → World → Prop} {a : Act} {w : World} {l : List Oper} (N n : Nat) (fs : List Tmp) (FS : Tmp → Value → World → Prop) (I : World → Prop) (hm : P.follows .mixedOrders = true) (hB : rgB .any l.toArray N = true)
    (hn : decide (n < l.length) = true) (hs : Region.sinkB .any l.toArray n = true) (hc : Region.chainB .any l.toArray n = true)
    (hq : Region.seqB .any l.toArray (l.length - n) n (List.replicate n true ++ List.replicate (l.length - n) false).toArray = true)
    (hfs : (fs.all fun s => (l.take n).any fun o => o.dst == some s) = true) (hN : N ≤ a.tmps.size) (hI : Closed I) (hF : ∀ s x w w', FS s x w → Below w.heap.size w w' → FS s x w') (hC : I w.drew)
    (h : wpF P l.toArray I fs FS (fun a' => ∀ xs w', I w' → (∀ s ∈ fs, FS s (xs s) w') → wpList P l.toArray Q (l.drop n) (fill fs xs a') w') (l.take n) a) : (Code.region id l.toArray true).wp P Q a w := by
  have hR := rgB_spec hB
  have hn' : n < l.length := by simpa using hn
  obtain ⟨vs0, hlen0, hob0, hE0⟩ := wpF_vals (l.take n) a h
  have htl : (l.take n).length = n := by rw [List.length_take]; omega
  rw [htl] at hlen0 hE0
  obtain ⟨vs, hvs⟩ : ∃ vs, vs0 ++ List.replicate (l.length - n) undef = vs := ⟨_, rfl⟩
  have hlen : vs.length = l.length := by rw [← hvs, List.length_append, List.length_replicate]; omega
  have hlex : ∀ j, j ≤ n → lex (l.take n) vs0 a j = lex l vs a j := fun j hj => by rw [← hvs]; exact lex_take l vs0 _ a n j hj (by rw [hlen0, htl])
  have hob : ∀ (j : Nat) o v, j < n → l[j]? = some o → vs[j]? = some v → Ob P l.toArray I fs FS o v (lex l vs a j) := fun j o v hj ho hv => by
    rw [← hlex j (by omega)]
    refine hob0 j o v (by rw [List.getElem?_take, if_pos hj]; exact ho) ?_
    rw [← hvs, List.getElem?_append_left (by omega)] at hv
    exact hv
  rw [hlex n (Nat.le_refl _)] at hE0
  have inv0 : HeadInv .any l.toArray n (Array.replicate l.toArray.size false) :=
    ⟨by simp, fun j oj _ hl => (by rw [getD_replicate_false] at hl; cases hl), fun t _ ht => getD_in (by simpa using ht) (getD_replicate_false _ _)⟩
  refine wp_region_any hm ?_
  have key := any_of_FT (Q' := Q) (l := l) (vs := vs) (fs := fs) (FS := FS) (I := I) (a0 := a) (n := n) hR hN hlen hI hF hob hn' hs hc ?_ n (Array.replicate l.toArray.size false) a w.drew (by
      simp only [List.size_toArray, Array.toList_replicate, List.take_replicate, List.count_replicate_self]; omega) inv0 ?_
  · rw [show n + (l.length - n) = l.toArray.size by simp; omega] at key
    exact key
  · intro listed b W hall hno hinv
    have hw : ∀ s ∈ fs, ∃ x, b.tmps[s]? = some x ∧ FS s x W := fun s hs => by
      rw [List.all_eq_true] at hfs
      have h1 := hfs s hs
      rw [List.any_eq_true] at h1
      obtain ⟨o, ho, hd⟩ := h1
      obtain ⟨j, hj, rfl⟩ := List.getElem_of_mem ho
      have hj1 : j < n := by rw [List.length_take] at hj; omega
      have hj2 : j < l.length := by omega
      have hd' : (l[j]).dst = some s := by simpa using hd
      obtain ⟨v, hv⟩ : ∃ v, vs[j]? = some v := ⟨_, List.getElem?_eq_getElem (by rw [hlen]; exact hj2)⟩
      exact (hinv.ins j l[j] s v (List.getElem?_eq_getElem hj2) (hall j hj1) hd' hv).1 hs
    have hb : b = fill fs (fun s => b.tmps.getD s undef) (lex l vs a n) := by
      have ht : b.tmps = (fill fs (fun s => b.tmps.getD s undef) (lex l vs a n)).tmps := by
        apply Array.ext_getElem?
        intro d
        by_cases hd : d ∈ fs
        · obtain ⟨x, hx, _⟩ := hw d hd
          have hlt : d < (lex l vs a n).tmps.size := by
            rw [(lex_size l vs a n).1, ← hinv.size]
            exact (Array.getElem?_eq_some_iff.1 hx).1
          rw [fill_in fs _ _ d hd hlt, hx]
          simp [hx]
        · rw [fill_out fs _ _ d hd]
          by_cases hwr : ∃ (j : Nat) (oj : Oper), j < n ∧ l[j]? = some oj ∧ oj.dst = some d
          · obtain ⟨j, oj, hjn, hj, hdj⟩ := hwr
            obtain ⟨v, hv⟩ : ∃ v, vs[j]? = some v := ⟨_, List.getElem?_eq_getElem (by rw [hlen]; exact (List.getElem?_eq_some_iff.1 hj).1)⟩
            have hj' : l.toArray[j]? = some oj := by simpa using hj
            rw [(hinv.ins j oj d v hj (hall j hjn) hdj hv).2 hd]
            exact (lex_in l vs a n j oj d v hj hjn hv hdj (Nat.lt_of_lt_of_le (hR.small _ _ _ hj' hdj) hN) fun i oi hi _ hne => hR.once i j oi oj d (by simpa using hi) hj' hdj hne).symm
          · rw [lex_out l vs a n d fun i oi hi hin hdi => hwr ⟨i, oi, hin, hi, hdi⟩]
            refine hinv.out d fun i oi hi hli hdi => hwr ⟨i, oi, ?_, hi, hdi⟩
            rcases Nat.lt_or_ge i n with h1 | h1
            · exact h1
            · rw [hno i h1 (List.getElem?_eq_some_iff.1 hi).1] at hli; cases hli
      have hd : b.defers = (fill fs (fun s => b.tmps.getD s undef) (lex l vs a n)).defers := by
        rw [(fill_size ..).2, (lex_size ..).2]
        exact hinv.defers
      cases b
      simp only at ht hd
      rw [Act.mk.injEq]
      exact ⟨ht, hd⟩
    have hL : listed = (List.replicate n true ++ List.replicate (l.length - n) false).toArray := by
      apply Array.ext
      · simp [hinv.lsize]; omega
      · intro j h1 h2
        have hj : j < l.length := by rw [← hinv.lsize]; exact h1
        by_cases hjn : j < n
        · have h3 := hall j hjn
          rw [Array.getD_eq_getD_getElem?, Array.getElem?_eq_getElem h1] at h3
          simp only [List.getElem_toArray]
          rw [List.getElem_append_left (by simpa using hjn)]
          simpa using h3
        · have h3 := hno j (by omega) hj
          rw [Array.getD_eq_getD_getElem?, Array.getElem?_eq_getElem h1] at h3
          simp only [List.getElem_toArray]
          rw [List.getElem_append_right (by simpa using Nat.le_of_not_lt hjn)]
          simpa using h3
    have hE := hE0 (fun s => b.tmps.getD s undef) W hinv.cls fun s hs => by
      obtain ⟨x, hx, hf⟩ := hw s hs
      simpa [hx] using hf
    rw [← hb] at hE
    have := wpAny_of_seq (md := .any) (Q' := Q) (l.drop n) n listed b W (fun j => by simp [List.getElem?_drop]) (by rw [List.length_drop, hL]; exact hq) hE
    rwa [List.length_drop] at this
  · refine ⟨hC, rfl, rfl, fun _ _ => rfl, fun j o d v hj hlj => ?_, fun j o hj hlj => ?_, by simp⟩
    all_goals
      have hlt := (List.getElem?_eq_some_iff.1 hj).1
      rw [Array.getD_eq_getD_getElem?] at hlj
      simp [hlt] at hlj
end
end Go.Proofs.Ytoaclbdlgkgnpaa

namespace Go.Proofs.Ytoaclbdlgkgnpaa
open Go.RowKit
set_option maxRecDepth 100000

section
variable {w : World} {b m : Nat} {v k s c : Int} {E : List Pl}
theorem tot_le {D R E : List Pl} (hp : (D ++ R).Perm E) : Sl.tot (D.map Pl.ct) ≤ Sl.tot (E.map Pl.ct) := by
  rw [← Sl.tot_perm (hp.map Pl.ct)]
  simp [Sl.tot]
theorem ssize_any (h : SlotAt w b m v k s c E) : Calls Try.prog 23 #[.pointer (some ⟨b, 0, none⟩)] w fun e w' => e = .returned (.int .i64 (Sl.tot (E.map Pl.ct) : Int)) ∧ Below w.heap.size w w' := by
  obtain ⟨c0, c1, c2, c3, c4, c5⟩ := h.cells
  have hmap := h.map
  have hmost := h.most
  clear h c0 c1 c2 c3 c4
  go_enter Try.func23, Try.ntmps23
  go_wp2_with (at_range; refine wpList_range_map rfl (.tmp 11) 66 rfl 3 37 Try.underlying66 rfl hmap ?_; intro w0 hrg0 hb0 hs0)
  go_frame
  go_loopw [3] (fun n wr => ∃ D : List Pl, RangeAt wr m w.heap.size E D ∧ Below w.heap.size w wr ∧ n = .int .i64 (Sl.tot (D.map Pl.ct) : Int)) (fun _ wr => wr.rangeLeft m w.heap.size)
  case atStart => exact ⟨[], hrg0, hb0, rfl⟩
  case round =>
    obtain ⟨D, hrg, hbw, rfl⟩ := hrel
    go_wp2_with (at_next; refine wpList_next_map rfl (.tmp 12) rfl rfl hrg ?_ ?_)
    · intro hd
      have e1 := Lib.hid (Sl.tot_perm (hd.map Pl.ct))
      go_wp2
      go_ret
      exact ⟨by rw [← e1.out]; rfl, hbw⟩
    · intro p w1 hp hrg1 ho1 hs1 hen
      have hd1 := hrg1.left
      have hd0 := hrg.left
      obtain ⟨R, hperm⟩ := hrg1.sub
      have htot := tot_le hperm
      have hlen := hperm.length_eq
      have e1 : Sl.tot ((D ++ [p]).map Pl.ct) = Sl.tot (D.map Pl.ct) + p.zs.length := by rw [List.map_append]; exact Sl.tot_push _ _
      rw [e1] at htot
      have hb1 : Below w.heap.size w w1 := hbw.trans (ho1.below (fun q hq => by subst hq; exact Nat.le_refl _) hbw.size)
      go_wp2
      go_roundw
      case rel => exact ⟨D ++ [p], hrg1, hb1, by rw [e1]; simp⟩
      case measure =>
        rw [hd1, hd0]
        simp at hlen ⊢
        omega
end
/-- the first error of a frame that comes to a slot -/
def sErr (v k s c v' k' s' i' c' : Int) (C : Sl.Ct) (zs : List Int) : Int :=
  if mateZ v k s c v' k' s' c' = false then 17 else if i' < 0 ∨ c ≤ i' then 3 else if zs.length = 0 then 13 else if Sl.has C i'.toNat then 16 else if 192 < Sl.tot C + zs.length then 6 else 0
theorem sErr_zero {v k s c v' k' s' i' c' : Int} {C : Sl.Ct} {zs : List Int} (h : sErr v k s c v' k' s' i' c' C zs = 0) :
    (v = v' ∧ k = k' ∧ s = s' ∧ c = c') ∧ 0 ≤ i' ∧ i' < c ∧ zs ≠ [] ∧ Sl.has C i'.toNat = false ∧ Sl.tot C + zs.length ≤ 192 := by
  unfold sErr at h
  repeat' split at h
  all_goals first | omega | skip
  rename_i h1 h2 h3 h4 h5
  refine ⟨by simpa [mateZ] using h1, by omega, by omega, ?_, by simpa using h4, by omega⟩
  intro e; subst e; simp at h3

theorem ret_intS {a b : Int} (h : a = b) : Ending.returned (.int .i64 a) = Ending.returned (.int .i64 b) := by rw [h]
theorem scheck_nil (v' k' s' i' c' : Int) (p : Value) (w : World) : Calls Try.prog 29 #[.pointer none, frV v' k' s' i' c' p] w fun e w' => e = .returned (.int .i64 1) ∧ Below w.heap.size w w' := by
  unfold frV frC
  go_enter Try.func29, Try.ntmps29
  go_wp2
  go_ret
  exact ⟨rfl, (Below.refl _ w).alloc (Nat.le_refl _) _⟩
theorem sput_nil (v' k' s' i' c' : Int) (A : Option Addr) (n cp : Nat) (w : World) : Calls Try.prog 14 #[.pointer none, frV v' k' s' i' c' (.slice A n cp)] w fun e w' => e = .returned (.int .i64 1) ∧ Below w.heap.size w w' := by
  have HK := Lib.hid (fun W => scheck_nil v' k' s' i' c' (.slice A n cp) W)
  unfold frV frC at *
  go_enter Try.func14, Try.ntmps14
  go_wp2_with fail
  refine (HK.out _).mono ?_
  rintro e w1 ⟨rfl, hb⟩
  have hbw : Below w.heap.size w w1 := by
    rw [World.size_alloc] at hb
    exact ((Below.refl _ w).alloc (Nat.le_refl _) _).trans (hb.mono (by omega))
  clear hb
  go_wp2
  go_ret
  exact ⟨rfl, hbw⟩

set_option maxHeartbeats 8000000 in
theorem scheck_any {w : World} {b m : Nat} {v k s c : Int} {E : List Pl} (h : SlotAt w b m v k s c E) (v' k' s' i' c' : Int) (a : Option Addr) (n cp : Nat) (zs : List Int) (hn : zs.length = n) :
    Calls Try.prog 29 #[.pointer (some ⟨b, 0, none⟩), frV v' k' s' i' c' (.slice a n cp)] w fun e w' => e = .returned (.int .i64 (sErr v k s c v' k' s' i' c' (E.map Pl.ct) zs)) ∧ Below w.heap.size w w' := by
  obtain ⟨w1, hw1⟩ : ∃ w1, w.alloc (.cells (frC v' k' s' i' c' (.slice a n cp)) 39) = w1 := ⟨_, rfl⟩
  have hlt := h.size
  have hb1 : Below w.heap.size w w1 := by rw [← hw1]; exact (Below.refl _ w).alloc (Nat.le_refl _) _
  have hs1 : w1.heap.size = w.heap.size + 1 := by rw [← hw1]; simp
  have h1 := h.below hb1
  have hbx : w1.heap[w.heap.size]? = some (.cells (frC v' k' s' i' c' (.slice a n cp)) 39 (0, 0)) := by rw [← hw1]; exact World.alloc_heap_new _ _
  have SL : ∀ V, Below w1.heap.size w1 V → SlotAt V b m v k s c E := fun V hV => h1.below hV
  have BX : ∀ V, Below w1.heap.size w1 V → V.cell? ⟨w.heap.size, 0, none⟩ = some (.int .i64 v') ∧ V.cell? ⟨w.heap.size, 1, none⟩ = some (.int .i64 k') ∧ V.cell? ⟨w.heap.size, 2, none⟩ = some (.int .u32 s') ∧ V.cell? ⟨w.heap.size, 3, none⟩ = some (.int .i64 i') ∧ V.cell? ⟨w.heap.size, 4, none⟩ = some (.int .i64 c') ∧ V.cell? ⟨w.heap.size, 5, none⟩ = some (.slice a n cp) :=
    fun V hV => fr_block ((hV.block _ (by omega)).trans hbx)
  have L1 : ∀ V, Below w1.heap.size w1 V → (Instr.loadAt 24 (.pointer (some ⟨b, 0, none⟩))).run Try.prog V = .ok (.agg #[.int .i64 v, .int .i64 k, .int .u32 s, .int .i64 0, .int .i64 c]) V := fun V hV => by
    obtain ⟨d0, d1, d2, d3, d4, d5⟩ := (SL V hV).cells
    simp [Instr.loadAt, go_sem, d0, d1, d2, d3, d4]
  have L2 : ∀ V, Below w1.heap.size w1 V → (Instr.loadAt 24 (.pointer (some ⟨w.heap.size, 0, none⟩))).run Try.prog V = .ok (.agg #[.int .i64 v', .int .i64 k', .int .u32 s', .int .i64 i', .int .i64 c']) V := fun V hV => by
    obtain ⟨d0, d1, d2, d3, d4, d5⟩ := BX V hV
    simp [Instr.loadAt, go_sem, d0, d1, d2, d3, d4]
  have L3 : ∀ V, Below w1.heap.size w1 V → (Instr.loadAt 3 (.pointer (some ⟨w.heap.size, 3, none⟩))).run Try.prog V = .ok (.int .i64 i') V := fun V hV => by
    obtain ⟨d0, d1, d2, d3, d4, d5⟩ := BX V hV
    simp [Instr.loadAt, go_sem, d3]
  have L4 : ∀ V, Below w1.heap.size w1 V → (Instr.loadAt 3 (.pointer (some ⟨b, 4, none⟩))).run Try.prog V = .ok (.int .i64 c) V := fun V hV => by
    obtain ⟨d0, d1, d2, d3, d4, d5⟩ := (SL V hV).cells
    simp [Instr.loadAt, go_sem, d4]
  have L5 : ∀ V, Below w1.heap.size w1 V → (Instr.loadAt 37 (.pointer (some ⟨w.heap.size, 5, none⟩))).run Try.prog V = .ok (.slice a n cp) V := fun V hV => by
    obtain ⟨d0, d1, d2, d3, d4, d5⟩ := BX V hV
    simp [Instr.loadAt, go_sem, d5]
  have KM := Lib.hid (fun (V : World) (_ : Below w1.heap.size w1 V) => mates_any v k s 0 c v' k' s' i' c' V)
  have KS := Lib.hid (fun (V : World) (hV : Below w1.heap.size w1 V) => ssize_any (SL V hV))
  obtain ⟨nc, hnc, nc1, nc2, _⟩ := h.count
  have KH := Lib.hid (fun (V : World) (hV : Below w1.heap.size w1 V) (j : Nat) (hj : j ≤ 255) => shas_any (SL V hV) j hj)
  have HT := Lib.hid h.most
  have HSL := Lib.hid SL
  have HBX := Lib.hid BX
  have HW1 : Hid (w.alloc (.cells #[.int .i64 v', .int .i64 k', .int .u32 s', .int .i64 i', .int .i64 c', .slice a n cp] 39) = w1) := Lib.hid hw1
  have HB1 := Lib.hid hb1
  have HSE := Lib.hid (show sErr v k s c v' k' s' i' c' (E.map Pl.ct) zs = if mateZ v k s c v' k' s' c' = false then 17 else if i' < 0 ∨ c ≤ i' then 3 else if n = 0 then 13 else if Sl.has (E.map Pl.ct) i'.toNat then 16 else if 192 < Sl.tot (E.map Pl.ct) + n then 6 else 0 by rw [← hn]; rfl)
  have HHas := Lib.hid (fun j => Pl.has_ct E j)
  clear h h1 hbx hw1 hb1 SL BX hn
  generalize sErr v k s c v' k' s' i' c' (E.map Pl.ct) zs = SE at *
  generalize Sl.tot (E.map Pl.ct) = T at *
  generalize mateZ v k s c v' k' s' c' = M at *
  unfold frV frC hdV at *
  go_enter Try.func29, Try.ntmps29
  go_wp2_with fail
  rw [HW1.out]
  refine wp_region_F 50 [] (fun _ _ _ => True) (fun V => Below w1.heap.size w1 V) (by kernel_rfl) (by kernel_rfl) (by rfl) (by simp) (fun W W' h hb => h.trans (hb.mono h.size)) (fun _ _ _ _ _ _ => trivial) (Below.refl _ _).drew ?_
  repeat (first | (refine wpF_nil rfl rfl rfl rfl ?_; simp only [Act.put, List.setIfInBounds_toArray, List.set_cons_succ, List.set_cons_zero]) | (refine wpF_pure rfl rfl ?_; go_big_quiet_step (fail); refine wpQuiet_nil ?_))
  refine wpF_load _ rfl (by rfl) (by rfl) (by rfl) L1 ?_
  simp only [Act.put, List.setIfInBounds_toArray, List.set_cons_succ, List.set_cons_zero]
  repeat (refine wpF_pure rfl rfl ?_; go_big_quiet_step (fail); refine wpQuiet_nil ?_)
  refine wpF_load _ rfl (by rfl) (by rfl) (by rfl) L2 ?_
  simp only [Act.put, List.setIfInBounds_toArray, List.set_cons_succ, List.set_cons_zero]
  refine wpF_call (f := 37) (args := #[.agg #[.int .i64 v, .int .i64 k, .int .u32 s, .int .i64 0, .int .i64 c], .agg #[.int .i64 v', .int .i64 k', .int .u32 s', .int .i64 i', .int .i64 c']]) (.bool M) rfl rfl (fun x => by first | rfl | (simp [go_sem]; done)) KM.out ?_
  simp only [Act.put, List.setIfInBounds_toArray, List.set_cons_succ, List.set_cons_zero]
  repeat (refine wpF_pure rfl rfl ?_; go_big_quiet_step (fail); refine wpQuiet_nil ?_)
  intro xs' V hV _
  simp only [fill]
  have HV := Lib.hid (HB1.out.trans (hV.mono HB1.out.size))
  cases M with
  | false =>
    rw [if_pos rfl] at HSE
    clear L1 L2 L3 L4 L5
    go_wp2
    go_ret
    exact ⟨ret_intS HSE.out.symm, HV.out⟩
  | true =>
    rw [if_neg (by simp)] at HSE
    obtain ⟨d0, d1, d2, d3, d4, d5⟩ := HBX.out V hV
    have HVV := Lib.hid hV
    clear hV
    by_cases hi0 : i' < 0
    · rw [if_pos (.inl hi0)] at HSE
      clear L1 L2 L3 L4 L5
      go_wp2
      go_ret
      exact ⟨ret_intS HSE.out.symm, HV.out⟩
    · go_wp2_with fail
      refine wp_region_F 50 [] (fun _ _ _ => True) (fun V => Below w1.heap.size w1 V) (by kernel_rfl) (by kernel_rfl) (by rfl) (by simp) (fun W W' h hb => h.trans (hb.mono h.size)) (fun _ _ _ _ _ _ => trivial) HVV.out.drew ?_
      repeat (first | (refine wpF_nil rfl rfl rfl rfl ?_; simp only [Act.put, List.setIfInBounds_toArray, List.set_cons_succ, List.set_cons_zero]) | (refine wpF_pure rfl rfl ?_; go_big_quiet_step (fail); refine wpQuiet_nil ?_))
      refine wpF_load _ rfl (by rfl) (by rfl) (by rfl) L3 ?_
      simp only [Act.put, List.setIfInBounds_toArray, List.set_cons_succ, List.set_cons_zero]
      repeat (first | (refine wpF_nil rfl rfl rfl rfl ?_; simp only [Act.put, List.setIfInBounds_toArray, List.set_cons_succ, List.set_cons_zero]) | (refine wpF_pure rfl rfl ?_; go_big_quiet_step (fail); refine wpQuiet_nil ?_))
      refine wpF_load _ rfl (by rfl) (by rfl) (by rfl) L4 ?_
      simp only [Act.put, List.setIfInBounds_toArray, List.set_cons_succ, List.set_cons_zero]
      repeat (first | (refine wpF_nil rfl rfl rfl rfl ?_; simp only [Act.put, List.setIfInBounds_toArray, List.set_cons_succ, List.set_cons_zero]) | (refine wpF_pure rfl rfl ?_; go_big_quiet_step (fail); refine wpQuiet_nil ?_))
      clear d0 d1 d2 d3 d4 d5 HV HVV
      intro xs2 V2 hV2 _
      simp only [fill]
      have HV2 := Lib.hid (HB1.out.trans (hV2.mono HB1.out.size))
      obtain ⟨d0, d1, d2, d3, d4, d5⟩ := HBX.out V2 hV2
      by_cases hi1 : c ≤ i'
      · rw [if_pos (.inr hi1)] at HSE
        clear L1 L2 L3 L4 L5
        go_wp2
        go_ret
        exact ⟨ret_intS HSE.out.symm, HV2.out⟩
      · rw [if_neg (by omega)] at HSE
        obtain ⟨j, rfl⟩ := Int.eq_ofNat_of_zero_le (a := i') (by omega)
        by_cases hn0 : n = 0
        · rw [if_pos hn0] at HSE
          subst hn0
          clear L1 L2 L3 L4 L5
          go_wp2
          go_ret
          exact ⟨ret_intS HSE.out.symm, HV2.out⟩
        · rw [if_neg hn0, Int.toNat_natCast, HHas.out] at HSE
          have hn0' : ¬ (n : Int) = 0 := by omega
          have KH2 := KH.out V2 hV2 j (by omega)
          have HVV2 := Lib.hid hV2
          generalize (Pl.at E j).isSome = has at *
          clear hV2 HHas
          go_wp2_with fail
          refine KH2.mono ?_
          rintro e V3 ⟨rfl, rfl⟩
          cases has with
          | true =>
            rw [if_pos rfl] at HSE
            clear L1 L2 L3 L4 L5
            go_wp2
            go_ret
            exact ⟨ret_intS HSE.out.symm, HV2.out⟩
          | false =>
            rw [if_neg (by simp)] at HSE
            have hT := HT.out
            go_wp2_with fail
            refine wp_region_F 50 [] (fun _ _ _ => True) (fun V => Below w1.heap.size w1 V) (by kernel_rfl) (by kernel_rfl) (by rfl) (by simp) (fun W W' h hb => h.trans (hb.mono h.size)) (fun _ _ _ _ _ _ => trivial) HVV2.out.drew ?_
            repeat (first | (refine wpF_nil rfl rfl rfl rfl ?_; simp only [Act.put, List.setIfInBounds_toArray, List.set_cons_succ, List.set_cons_zero]) | (refine wpF_pure rfl rfl ?_; go_big_quiet_step (fail); refine wpQuiet_nil ?_))
            refine wpF_load _ rfl (by rfl) (by rfl) (by rfl) L5 ?_
            simp only [Act.put, List.setIfInBounds_toArray, List.set_cons_succ, List.set_cons_zero]
            repeat (first | (refine wpF_nil rfl rfl rfl rfl ?_; simp only [Act.put, List.setIfInBounds_toArray, List.set_cons_succ, List.set_cons_zero]) | (refine wpF_pure rfl rfl ?_; go_big_quiet_step (fail); refine wpQuiet_nil ?_))
            refine wpF_call (f := 23) (args := #[.pointer (some ⟨b, 0, none⟩)]) (.int .i64 (T : Int)) rfl rfl (fun x => by first | rfl | (simp [go_sem]; done)) KS.out ?_
            simp only [Act.put, List.setIfInBounds_toArray, List.set_cons_succ, List.set_cons_zero]
            repeat (first | (refine wpF_nil rfl rfl rfl rfl ?_; simp only [Act.put, List.setIfInBounds_toArray, List.set_cons_succ, List.set_cons_zero]) | (refine wpF_pure rfl rfl ?_; go_big_quiet_step (fail); refine wpQuiet_nil ?_))
            intro xs3 V4 hV4 _
            simp only [fill]
            have HV4 := Lib.hid (HB1.out.trans (hV4.mono HB1.out.size))
            clear L1 L2 L3 L4 L5 hV4 d0 d1 d2 d3 d4 d5
            by_cases ht : 192 < T + n
            · rw [if_pos ht] at HSE
              have ht2 : (192 : Int) - (T : Int) < (n : Int) := by omega
              go_wp2
              go_ret
              exact ⟨ret_intS HSE.out.symm, HV4.out⟩
            · rw [if_neg ht] at HSE
              have ht2 : ¬ (192 : Int) - (T : Int) < (n : Int) := by omega
              go_wp2
              go_ret
              exact ⟨ret_intS HSE.out.symm, HV4.out⟩
end Go.Proofs.Ytoaclbdlgkgnpaa

namespace Go.Proofs.Ytoaclbdlgkgnpaa
open Go.RowKit
set_option maxRecDepth 100000

section
variable {P : Program} {l : List Oper} {fs : List Tmp} {FS : Tmp → Value → World → Prop} {I : World → Prop} {E : Act → Prop} {o : Oper} {rest : List Oper} {a : Act}
/-- XQ7's last operation may be a store into a map -/
theorem wpFS_upd {St : (Tmp → Value) → World → World → Prop} {t : TypeId} {x y z : Operand} (ho : o.op = .mapUpdate t x y z) (hd : o.dst = none) (hg : o.guard = none)
    (hrun : ∀ xs w, I w → (∀ s ∈ fs, FS s (xs s) w) → ∃ w', (Instr.mapUpdate t ((fill fs xs a).eval x) ((fill fs xs a).eval y) ((fill fs xs a).eval z)).run P w = .ok () w' ∧ St xs w w') (h : wpFS P l.toArray I fs FS St E none rest a) : wpFS P l.toArray I fs FS St E (some 0) (o :: rest) a := by
  refine ⟨⟨hd, fun xs w hI hs => ⟨by simp [Region.wanted, hg], ?_⟩⟩, h⟩
  obtain ⟨w', hr, hst⟩ := hrun xs w hI hs
  unfold execOp
  simp only [ho]
  rw [Sem.run_bind, hr]
  exact hst
end
theorem MadeK.pay {w w1 : World} {zs : List Int} {v : Value} (h : MadeK 5 .u8 w w1 zs v) (hz : zs ≠ []) (hb : Bytes zs) (i : Nat) : ∃ A c, v = .slice A zs.length c ∧ PayAt w1 ⟨i, A, c, zs⟩ := by
  have h1 := h.1
  obtain ⟨hl, h2⟩ := h1
  rcases h2 with ⟨rfl, h0⟩ | ⟨g, cap, cur, rfl, hg, hh, hn, _, hs, ht⟩
  · exact absurd (List.eq_nil_of_length_eq_zero h0) hz
  · refine ⟨_, cap, rfl, hn, hz, hb, g, cur, rfl, hh, fun j c hj => ?_⟩
    have h3 : (zs.map (Value.int .u8))[j]? = some (.int .u8 c) := by
      have hj' : zs[j]? = some c := hj
      rw [List.getElem?_map, hj']
      rfl
    rw [← ht, List.getElem?_take] at h3
    split at h3
    · simpa using h3
    · cases h3
/-- what Put leaves -/
def PutR (w : World) (b m : Nat) (v k s c : Int) (E : List Pl) (i : Nat) (zs : List Int) (er : Int) (e : Ending) (w' : World) : Prop :=
  e = .returned (.int .i64 er) ∧ Off (fun q => q = m) w w' ∧ ((er ≠ 0 ∧ SlotAt w' b m v k s c E) ∨ (er = 0 ∧ ∃ p : Pl, p.i = i ∧ p.zs = zs ∧ SlotAt w' b m v k s c (E ++ [p])))
set_option maxHeartbeats 8000000 in
theorem sput_any {w : World} {b m : Nat} {v k s c : Int} {E : List Pl} (h : SlotAt w b m v k s c E) (v' k' s' i' c' : Int) (a : Option Addr) (n cp : Nat) (zs : List Int) (hn : zs.length = n) (hz : Bytes zs) (h1 : Nums .u8 w w.heap.size a zs) :
    Calls Try.prog 14 #[.pointer (some ⟨b, 0, none⟩), frV v' k' s' i' c' (.slice a n cp)] w (PutR w b m v k s c E i'.toNat zs (sErr v k s c v' k' s' i' c' (E.map Pl.ct) zs)) := by
  obtain ⟨w1, hw1⟩ : ∃ w1, w.alloc (.cells (frC v' k' s' i' c' (.slice a n cp)) 39) = w1 := ⟨_, rfl⟩
  have hlt := h.size
  have hbm : b ≠ m := fun e => h.map.not_cells _ _ _ (by rw [← e]; exact h.row)
  have hb1 : Below w.heap.size w w1 := by rw [← hw1]; exact (Below.refl _ w).alloc (Nat.le_refl _) _
  have hs1 : w1.heap.size = w.heap.size + 1 := by rw [← hw1]; simp
  have hbx : w1.heap[w.heap.size]? = some (.cells (frC v' k' s' i' c' (.slice a n cp)) 39 (0, 0)) := by rw [← hw1]; exact World.alloc_heap_new _ _
  obtain ⟨d0, d1, d2, d3, d4, d5⟩ := fr_block hbx
  have K1 := scheck_any (h.below hb1) v' k' s' i' c' a n cp zs hn
  have HS0 := Lib.hid h
  have HN := Lib.hid h1
  have HW1 : Hid (w.alloc (.cells #[.int .i64 v', .int .i64 k', .int .u32 s', .int .i64 i', .int .i64 c', .slice a n cp] 39) = w1) := Lib.hid hw1
  have HB1 := Lib.hid hb1
  have HZ : Hid (sErr v k s c v' k' s' i' c' (E.map Pl.ct) zs = 0 → _) := Lib.hid (sErr_zero (v := v) (k := k) (s := s) (c := c) (v' := v') (k' := k') (s' := s') (i' := i') (c' := c') (C := E.map Pl.ct) (zs := zs))
  have HNL := Lib.hid hn
  have HBY := Lib.hid hz
  have HBX := Lib.hid hbx
  generalize sErr v k s c v' k' s' i' c' (E.map Pl.ct) zs = SE at *
  clear h h1 hb1 hz hn hw1 hbx
  unfold frV frC at K1 ⊢
  have HG : Hid (∀ e w', _ → PutR w b m v k s c E i'.toNat zs SE e w') := Lib.hid (fun e w' (h : e = .returned (.int .i64 SE) ∧ Off (fun q => q = m) w w' ∧ ((SE ≠ 0 ∧ SlotAt w' b m v k s c E) ∨ (SE = 0 ∧ ∃ p : Pl, p.i = i'.toNat ∧ p.zs = zs ∧ SlotAt w' b m v k s c (E ++ [p])))) => h)
  generalize PutR w b m v k s c E i'.toNat zs SE = G at *
  go_enter Try.func14, Try.ntmps14
  go_wp2_with fail
  rw [HW1.out]
  go_wp2_with fail
  refine K1.mono ?_
  rintro e w2 ⟨rfl, hb2⟩
  have hb2w := HB1.out.trans (hb2.mono HB1.out.size)
  by_cases h0 : SE = 0
  · subst h0
    obtain ⟨⟨rfl, rfl, rfl, rfl⟩, hi0, hi1, hzs, hhas, htot⟩ := HZ.out rfl
    obtain ⟨j, rfl⟩ := Int.eq_ofNat_of_zero_le (a := i') hi0
    rw [Int.toNat_natCast] at hhas HG
    have hS2 := HS0.out.below hb2w
    have hnone : Pl.at E j = none := by
      have := Pl.has_ct E j
      rw [hhas] at this
      cases h9 : Pl.at E j with
      | none => rfl
      | some p => rw [h9] at this; cases this
    obtain ⟨nc, hnc, nc1, nc2, hEl, _⟩ := hS2.count
    have hjb : j ≤ 9223372036854775807 := by omega
    have hbx2 := (hb2.block _ (by omega)).trans HBX.out
    have SL : ∀ V, Below w2.heap.size w2 V → SlotAt V b m v k s c E := fun V hV => hS2.below hV
    have L1 : ∀ V, Below w2.heap.size w2 V → (Instr.loadAt 66 (.pointer (some ⟨b, 5, none⟩))).run Try.prog V = .ok (.map (some m)) V := fun V hV => by
      obtain ⟨d0, d1, d2, d3, d4, d5⟩ := (SL V hV).cells
      simp [Instr.loadAt, go_sem, d5]
    have BX : ∀ V, Below w2.heap.size w2 V → V.cell? ⟨w.heap.size, 3, none⟩ = some (.int .i64 (j : Int)) ∧ V.cell? ⟨w.heap.size, 5, none⟩ = some (.slice a n cp) := fun V hV => by
      obtain ⟨_, _, _, d3, _, d5⟩ := fr_block ((hV.block w.heap.size (by have := hb2.size; omega)).trans hbx2)
      exact ⟨d3, d5⟩
    have L2 : ∀ V, Below w2.heap.size w2 V → (Instr.loadAt 3 (.pointer (some ⟨w.heap.size, 3, none⟩))).run Try.prog V = .ok (.int .i64 (j : Int)) V := fun V hV => by
      have d3 := (BX V hV).1
      simp [Instr.loadAt, go_sem, d3]
    have L3 : ∀ V, Below w2.heap.size w2 V → (Instr.loadAt 37 (.pointer (some ⟨w.heap.size, 5, none⟩))).run Try.prog V = .ok (.slice a n cp) V := fun V hV => by
      have d5 := (BX V hV).2
      simp [Instr.loadAt, go_sem, d5]
    have HB2 := Lib.hid hb2w
    have HSL := Lib.hid SL
    have HHAS := Lib.hid (And.intro hi1 (And.intro hzs htot))
    have hn192 : n ≤ 192 := by have := HNL.out; omega
    have HNO := Lib.hid hnone
    clear K1 d0 d1 d2 d3 d4 d5 hb2 hb2w hS2 hbx2 BX SL hhas hzs htot hnone hi0 hi1 hEl hnc nc1 nc2
    go_wp2_with fail
    refine wp_region_FS 22 10 4 [21] (fun _ x V => ∃ A c2, x = .slice A n c2 ∧ PayAt V ⟨j, A, c2, zs⟩) (fun V => Below w2.heap.size w2 V) (fun xs V V' => ∃ A c2, xs 21 = .slice A n c2 ∧ PayAt V ⟨j, A, c2, zs⟩ ∧ MapAt V' m (E ++ [⟨j, A, c2, zs⟩]) ∧ Off (fun q => q = m) V V') (by kernel_rfl) (by kernel_rfl) (by rfl) (by kernel_rfl) (by rfl) (by simp) (fun W W' h hb => h.trans (hb.mono h.size)) (fun q x W W' ⟨A, c2, h1, h2⟩ hb => ⟨A, c2, h1, h2.below hb⟩) (Below.refl _ _).drew ?_
    repeat (first | (refine wpFS_step (wpF_nil rfl rfl rfl rfl ?_); simp only [wpF, Act.put, List.setIfInBounds_toArray, List.set_cons_succ, List.set_cons_zero]) | (refine wpFS_step (wpF_pure rfl rfl ?_); go_big_quiet_step (fail); refine wpQuiet_nil ?_; simp only [wpF]))
    refine wpFS_step (wpF_load _ rfl (by rfl) (by rfl) (by rfl) L1 ?_)
    simp only [wpF, Act.put, List.setIfInBounds_toArray, List.set_cons_succ, List.set_cons_zero]
    repeat (refine wpFS_step (wpF_pure rfl rfl ?_); go_big_quiet_step (fail); refine wpQuiet_nil ?_; simp only [wpF])
    refine wpFS_step (wpF_load _ rfl (by rfl) (by rfl) (by rfl) L2 ?_)
    simp only [wpF, Act.put, List.setIfInBounds_toArray, List.set_cons_succ, List.set_cons_zero]
    repeat (refine wpFS_step (wpF_pure rfl rfl ?_); go_big_quiet_step (fail); refine wpQuiet_nil ?_; simp only [wpF])
    refine wpFS_step (wpF_load _ rfl (by rfl) (by rfl) (by rfl) L3 ?_)
    simp only [wpF, Act.put, List.setIfInBounds_toArray, List.set_cons_succ, List.set_cons_zero]
    refine wpFS_step (wpF_callsrc 21 (f := 25) (args := #[.slice a n cp]) (by simp) rfl rfl rfl (fun x => by first | rfl | (simp [go_sem]; done)) (fun V hV => (clone_any a n cp zs V HNL.out (by omega) ((HN.out.below (HB2.out.trans (hV.mono HB2.out.size))).mono (HB2.out.trans (hV.mono HB2.out.size)).size)).mono fun e V' ⟨x, he, hm⟩ => ?_) ?_)
    · obtain ⟨A, c2, rfl, hp⟩ := hm.pay HHAS.out.2.1 HBY.out j
      exact ⟨_, he, ⟨A, c2, by rw [HNL.out], hp⟩, hm.2⟩
    simp only [wpF, Act.put, List.setIfInBounds_toArray, List.set_cons_succ, List.set_cons_zero]
    refine wpFS_upd rfl rfl rfl (fun xs V hV hx => ?_) ?_
    · obtain ⟨A, c2, e21, hp⟩ := hx 21 (by simp)
      obtain ⟨V', hrun, hmap, hoff, _⟩ := (HSL.out V hV).map.run_upd (P := Try.prog) (t := 66) Try.underlying66 Try.underlying3 ⟨j, A, c2, zs⟩ hjb HNO.out
      refine ⟨V', ?_, A, c2, e21, hp, hmap, hoff⟩
      simp only [Pl.val, HNL.out] at hrun
      simp only [fill, Act.put, Act.eval, e21]
      exact hrun
    simp only [wpFS]
    rintro xs V V' hV hx ⟨A, c2, e21, hp, hmap, hoff⟩
    have hSV := HSL.out V hV
    have hbV := HB2.out.trans (hV.mono HB2.out.size)
    have hncell : ∀ g cs, V.heap[g]? = some (.cells cs 5 (0, 0)) → ¬ (g = m) := fun g cs hg e => hSV.map.not_cells _ _ _ (by rw [← e]; exact hg)
    have hfin : SlotAt V' b m v k s c (E ++ [⟨j, A, c2, zs⟩]) := by
      refine ⟨(hoff.block b hSV.size hbm).trans hSV.row, hmap, fun q hq => ?_, fun q hq => ?_, hSV.good, ?_, hSV.word⟩
      · rcases List.mem_append.1 hq with hq | hq
        · exact (hSV.pays q hq).off hoff hncell
        · obtain rfl := List.mem_singleton.1 hq
          exact hp.off hoff hncell
      · rcases List.mem_append.1 hq with hq | hq
        · exact hSV.few q hq
        · obtain rfl := List.mem_singleton.1 hq
          exact HHAS.out.1
      · rw [List.map_append, List.map_singleton, Sl.tot_push]
        exact HHAS.out.2.2
    have HFIN := Lib.hid (HG.out (.returned (.int .i64 0)) V' ⟨rfl, (Off.of_below hbV).trans hoff (fun q _ hq => hq), .inr ⟨trivial, _, rfl, rfl, hfin⟩⟩)
    clear hp hmap hoff hSV hbV hncell hfin hV hx
    simp only [fill]
    generalize xs 21 = x21
    go_wp2
    exact HFIN.out
  · have hS2 := HS0.out.below hb2w
    have HFIN := Lib.hid (HG.out (.returned (.int .i64 SE)) w2 ⟨rfl, Off.of_below hb2w, .inl ⟨h0, hS2⟩⟩)
    clear K1 hS2 d0 d1 d2 d3 d4 d5 hb2 hb2w
    go_wp2
    exact HFIN.out
end Go.Proofs.Ytoaclbdlgkgnpaa

namespace Go.Proofs.Ytoaclbdlgkgnpaa
open Go.RowKit
set_option maxRecDepth 100000
theorem listInfo : (Try.prog.info? 37).map (fun i => (i.zero, i.size, i.bytes)) = some (some (.slice none 0 0), 1, 24) := by kernel_rfl
theorem own_slice {w : World} {base : Nat} {e : TypeId} {size n : Nat} {v : Value} {xs : List Value} (h : w.ownsRow base e size v n xs) : ∃ A c, v = .slice A n c := by
  rcases h.2 with ⟨rfl, h0⟩ | ⟨g, cap, cur, rfl, _⟩
  · subst h0; exact ⟨none, 0, rfl⟩
  · exact ⟨_, cap, rfl⟩
end Go.Proofs.Ytoaclbdlgkgnpaa

namespace Go.Proofs.Ytoaclbdlgkgnpaa
open Go.RowKit
set_option maxRecDepth 100000

theorem slot_look {w : World} {b m : Nat} {v k s c : Int} {E : List Pl} (h : SlotAt w b m v k s c E) (i : Nat) (hi : i ≤ 255) :
    ∃ A n cp, (Instr.lookup 66 (.map (some m)) (.int .i64 (i : Int)) false).run Try.prog w = .ok (.slice A n cp) w ∧ (Sl.at' (E.map Pl.ct) i).length = n ∧ Nums .u8 w w.heap.size A (Sl.at' (E.map Pl.ct) i) := by
  have hz : (zeroValue 37).run Try.prog w = .ok (.slice none 0 0) w := by kernel_rfl
  have hlook := h.map.run_look (P := Try.prog) (t := 66) false Try.underlying66 Try.underlying3 hz (i := i) (by omega)
  have hct := Pl.at_ct h.map.keys.1 i
  cases hp : Pl.at E i with
  | none =>
    rw [hp] at hlook hct
    exact ⟨none, 0, 0, hlook, by rw [hct]; rfl, by rw [hct]; exact Nums.nil⟩
  | some p =>
    rw [hp] at hlook hct
    have hm := (Pl.at_mem hp).1
    exact ⟨p.a, p.zs.length, p.cp, hlook, by rw [hct]; rfl, by rw [hct]; exact (h.pays p hm).nums⟩
/-- what Bytes answers -/
def BytesR (w : World) (c : Int) (E : List Pl) (e : Ending) (w' : World) : Prop :=
  Below w.heap.size w w' ∧ (((E.length : Int) ≠ c ∧ e = .returned (.tuple #[.slice none 0 0, .bool false])) ∨
    ((E.length : Int) = c ∧ ∃ A cp, e = .returned (.tuple #[.slice A (Sl.cat (E.map Pl.ct) E.length).length cp, .bool true]) ∧ (Sl.cat (E.map Pl.ct) E.length).length ≤ cp ∧ Nums .u8 w' w'.heap.size A (Sl.cat (E.map Pl.ct) E.length)))
set_option maxHeartbeats 8000000 in
theorem sbytes_any {w : World} {b m : Nat} {v k s c : Int} {E : List Pl} (h : SlotAt w b m v k s c E) :
    Calls Try.prog 19 #[.pointer (some ⟨b, 0, none⟩)] w (BytesR w c E) := by
  obtain ⟨i0, hi, hz0, hz1, hz2⟩ := info_parts byteInfo
  have K := sfull_any h
  obtain ⟨n, rfl, n1, n2, hEn, _⟩ := h.count
  have hmost := h.most
  have HS := Lib.hid h
  clear h
  generalize hG : BytesR w (n : Int) E = G
  have HG := Lib.hid hG
  clear hG
  by_cases hf : E.length = n
  · have e1 : ((E.length : Int) == (n : Int)) = true := by rw [hf]; simp
    rw [e1] at K
    have HF := Lib.hid hf
    clear hf e1 hEn
    go_enter Try.func19, Try.ntmps19
    go_wp2_with fail
    refine K.mono ?_
    rintro e w1 ⟨rfl, d, rfl⟩
    have hb1 : Below w.heap.size w (w.drewN d) := below_drewN (Below.refl _ _) d
    have HB1 := Lib.hid hb1
    obtain ⟨c0, c1, c2, c3, c4, c5⟩ := (HS.out.below hb1).cells
    generalize w.drewN d = w1 at *
    clear K hb1
    go_wp2
    go_loopw [4, 14] (fun u i wr => ∃ j : Nat, j ≤ n ∧ i = .int .i64 (j : Int) ∧ Hid (MadeK 5 .u8 w wr (Sl.cat (E.map Pl.ct) j) u)) (fun _ i _ => n - (intOf i).toNat)
    case atStart => exact ⟨0, by omega, rfl, MadeK.nil _ _ HB1.out⟩
    case round =>
      obtain ⟨j, hj, rfl, HM⟩ := hrel
      have hsl := HS.out.below HM.out.2
      obtain ⟨d0, d1, d2, d3, d4, d5⟩ := hsl.cells
      by_cases hjn : j < n
      · obtain ⟨A, q, cp, hlook, hq, hnum⟩ := slot_look hsl j (by omega)
        have hql := Sl.at_len (E.map Pl.ct) j
        have hcl := Sl.cat_len (E.map Pl.ct) j
        have hcb : (Sl.cat (E.map Pl.ct) j).length ≤ 48960 := by
          have : j * Sl.tot (E.map Pl.ct) ≤ 255 * 192 := Nat.mul_le_mul (by omega) hmost
          omega
        have HQ := Lib.hid hq
        have HNM := Lib.hid hnum
        have hX1 : (Sl.cat (E.map Pl.ct) j).length + q ≤ maxLen := by unfold maxLen; omega
        have hX2 : ((Sl.cat (E.map Pl.ct) j).length + q) * 1 ≤ 140737488355328 := by omega
        have HX1 := Lib.hid hX1
        have HX2 := Lib.hid hX2
        have hbs := HM.out.2.size
        clear hsl hq hnum hX1 hX2 hql hcl hcb
        go_wp2_with (at_builtin; refine wpList_append_any rfl (.tmp 17) (.tmp 23) 37 rfl w.heap.size 5 i0 (.int .u8 0) 1 Try.underlying37 hi hz0 hz1 hz2 rfl .u8 (Sl.cat (E.map Pl.ct) j) (Sl.at' (E.map Pl.ct) j) _ rfl HM.out.1 A q cp _ rfl HQ.out HNM.out HX1.out HX2.out hbs ?_)
        intro v2 w2 hown hg
        have HM2 : Hid (MadeK 5 .u8 w w2 (Sl.cat (E.map Pl.ct) (j + 1)) v2) := by rw [Sl.cat_succ]; exact HM.out.more hown hg
        clear hown hg
        go_wp2
        go_roundw
        case rel => exact ⟨j + 1, by omega, by go_num, HM2⟩
        case measure => simp [intOf]; omega
      · have hjn' : j = n := by omega
        subst hjn'
        have hbs := HM.out.2
        obtain ⟨A, cp, hv, hcp, hnum⟩ := HM.out.slice
        subst hv
        have HFIN : Hid (G (.returned (.tuple #[.slice A (Sl.cat (E.map Pl.ct) E.length).length cp, .bool true])) wr) := by
          rw [← HG.out]
          exact ⟨hbs, .inr ⟨by rw [HF.out], A, cp, rfl, by rw [HF.out]; exact hcp, by rw [HF.out]; exact hnum⟩⟩
        rw [HF.out] at HFIN
        clear hsl hbs hnum hcp
        go_wp2
        exact HFIN.out
  · have e1 : ((E.length : Int) == (n : Int)) = false := by simp; omega
    rw [e1] at K
    have HF := Lib.hid hf
    clear hf e1 hEn
    go_enter Try.func19, Try.ntmps19
    go_wp2_with fail
    refine K.mono ?_
    rintro e w1 ⟨rfl, d, rfl⟩
    have HFIN : Hid (G (.returned (.tuple #[.slice none 0 0, .bool false])) (w.drewN d)) := by
      rw [← HG.out]
      exact ⟨below_drewN (Below.refl _ _) d, .inl ⟨by have := HF.out; omega, rfl⟩⟩
    clear K
    go_wp2
    exact HFIN.out
end Go.Proofs.Ytoaclbdlgkgnpaa

namespace Go.Proofs.Ytoaclbdlgkgnpaa
open Go.RowKit
set_option maxRecDepth 100000

/-- Same, of lists that are the same -/
theorem same_eq (B : Nat) (a1 a2 : Option Addr) (c1 c2 : Nat) (zs : List Int) (w : World) (hl : zs.length ≤ 9223372036854775807) (h1 : Nums .u8 w B a1 zs) (h2 : Nums .u8 w B a2 zs) :
    Calls Try.prog 20 #[.slice a1 zs.length c1, .slice a2 zs.length c2] w fun e w' => e = .returned (.bool true) ∧ ∃ n, w' = w.drewN n := by
  go_enter Try.func20, Try.ntmps20
  go_wp2
  go_loopw [5] (fun i wr => ∃ k : Nat, k ≤ zs.length ∧ i = .int .i64 k ∧ ∃ n, wr = w.drewN n) (fun i _ => zs.length - (intOf i).toNat)
  case atStart => exact ⟨0, by omega, rfl, 0, rfl⟩
  case round =>
    obtain ⟨k, hk, rfl, n, rfl⟩ := hrel
    by_cases hlt : k < zs.length
    · obtain ⟨c, hc⟩ : ∃ c, zs[k]? = some c := ⟨_, List.getElem?_eq_getElem hlt⟩
      obtain ⟨b1, o1, rfl, hb1, hc1⟩ := h1.open hc
      obtain ⟨b2, o2, rfl, hb2, hc2⟩ := h2.open hc
      clear h1 h2 hc
      have hlt' : (k : Int) < (zs.length : Int) := by omega
      go_wp2
      go_quiet (fail)
      go_wp2
      go_roundw
      case rel => exact ⟨k + 1, by omega, by go_num, _, rfl⟩
      case measure => simp [intOf]; omega
    · go_wp2
      go_ret
      exact ⟨rfl, n, rfl⟩

theorem same_len (B : Nat) (a1 a2 : Option Addr) (n1 n2 c1 c2 : Nat) (x y : List Int) (w : World) (hxy : x = y) (hn1 : x.length = n1) (hn2 : y.length = n2) (hl : n1 ≤ 9223372036854775807) (h1 : Nums .u8 w B a1 x) (h2 : Nums .u8 w B a2 y) :
    Calls Try.prog 20 #[.slice a1 n1 c1, .slice a2 n2 c2] w fun e w' => e = .returned (.bool true) ∧ ∃ n, w' = w.drewN n := by
  subst hxy hn1 hn2; exact same_eq B a1 a2 c1 c2 x w hl h1 h2

end Go.Proofs.Ytoaclbdlgkgnpaa

namespace Go.Proofs.Ytoaclbdlgkgnpaa
open Go.RowKit
set_option maxRecDepth 100000

theorem same_lens (a1 a2 : Option Addr) (n1 n2 c1 c2 : Nat) (w : World) (h : n1 ≠ n2) :
    Calls Try.prog 20 #[.slice a1 n1 c1, .slice a2 n2 c2] w fun e w' => e = .returned (.bool false) ∧ ∃ n, w' = w.drewN n := by
  have h2 : ((n1 : Int) != (n2 : Int)) = true := by simp; omega
  have h3 : ¬ (n1 : Int) = (n2 : Int) := by omega
  go_enter Try.func20, Try.ntmps20
  go_wp2
  go_ret
  exact ⟨rfl, 0, rfl⟩

/-- Same of any two lists -/
theorem same_any (B : Nat) (a1 a2 : Option Addr) (n1 n2 c1 c2 : Nat) (xs ys : List Int) (w : World) (e1 : xs.length = n1) (e2 : ys.length = n2) (l1 : n1 ≤ 9223372036854775807) (h1 : Nums .u8 w B a1 xs) (h2 : Nums .u8 w B a2 ys) :
    Calls Try.prog 20 #[.slice a1 n1 c1, .slice a2 n2 c2] w fun e w' => e = .returned (.bool (decide (xs = ys))) ∧ ∃ n, w' = w.drewN n := by
  by_cases hl : n1 = n2
  · subst hl
    have HE1 := Lib.hid e1
    have HE2 := Lib.hid e2
    clear e1 e2
    go_enter Try.func20, Try.ntmps20
    go_wp2
    go_loopw [5] (fun i wr => ∃ k : Nat, k ≤ n1 ∧ i = .int .i64 k ∧ Hid (xs.take k = ys.take k) ∧ ∃ n, wr = w.drewN n) (fun i _ => n1 - (intOf i).toNat)
    case atStart => exact ⟨0, by omega, rfl, rfl, 0, rfl⟩
    case round =>
      obtain ⟨k, hk, rfl, HT, n, rfl⟩ := hrel
      by_cases hlt : k < n1
      · obtain ⟨x, hx⟩ : ∃ x, xs[k]? = some x := ⟨_, List.getElem?_eq_getElem (by rw [HE1.out]; exact hlt)⟩
        obtain ⟨y, hy⟩ : ∃ y, ys[k]? = some y := ⟨_, List.getElem?_eq_getElem (by rw [HE2.out]; exact hlt)⟩
        obtain ⟨b1, o1, rfl, hb1, hc1⟩ := h1.open hx
        obtain ⟨b2, o2, rfl, hb2, hc2⟩ := h2.open hy
        have HX := Lib.hid hx
        have HY := Lib.hid hy
        clear h1 h2 hx hy
        have hlt' : (k : Int) < (n1 : Int) := by omega
        by_cases hxy : x = y
        · have hq : (x != y) = false := by simp [hxy]
          have HQ : Hid (xs.take (k + 1) = ys.take (k + 1)) := by
            show _ = _
            rw [List.take_add_one, List.take_add_one, HT.out, HX.out, HY.out, hxy]
          subst hxy
          go_wp2
          go_quiet (fail)
          go_wp2
          go_roundw
          case rel => exact ⟨k + 1, by omega, by go_num, HQ, _, rfl⟩
          case measure => simp [intOf]; omega
        · have hq : (x != y) = true := by simp [hxy]
          have HQ : Hid (¬ xs = ys) := fun e => hxy (by
            have h3 := HX.out
            rw [e, HY.out] at h3
            exact (Option.some.inj h3).symm)
          have HN := Lib.hid hxy
          clear hxy
          go_wp2
          go_quiet (fail)
          go_wp2
          go_ret
          exact ⟨by rw [decide_eq_false HQ.out]; rfl, n + nq, by simp [World.drewN, Nat.add_assoc]⟩
      · have hk' : k = n1 := by omega
        have HQ : Hid (xs = ys) := by
          have h3 := HT.out
          rw [List.take_of_length_le (by rw [HE1.out]; omega), List.take_of_length_le (by rw [HE2.out]; omega)] at h3
          exact h3
        go_wp2
        go_ret
        exact ⟨by rw [decide_eq_true HQ.out]; rfl, n, rfl⟩
  · refine (same_lens a1 a2 n1 n2 c1 c2 w hl).mono ?_
    rintro e w' ⟨rfl, hd⟩
    exact ⟨by rw [decide_eq_false (fun e => hl (by rw [← e1, ← e2, e]))], hd⟩
end Go.Proofs.Ytoaclbdlgkgnpaa

namespace Go.Proofs.Ytoaclbdlgkgnpaa
open Go.RowKit
set_option maxRecDepth 100000

theorem put_ok {w w' : World} {b m : Nat} {v k s c : Int} {E : List Pl} {i : Nat} {zs : List Int} {e : Ending} (h : PutR w b m v k s c E i zs 0 e w') :
    e = .returned (.int .i64 0) ∧ Off (fun q => q = m) w w' ∧ ∃ p : Pl, p.i = i ∧ p.zs = zs ∧ SlotAt w' b m v k s c (E ++ [p]) := by
  obtain ⟨h1, h2, ⟨h3, _⟩ | ⟨_, h3⟩⟩ := h
  · exact absurd rfl h3
  · exact ⟨h1, h2, h3⟩
theorem two_heads {w W3 : World} {t : TypeId} (hw : (w.alloc (.cells #[.int .i64 1, .int .i64 1, .int .u32 0, .int .i64 0, .int .i64 2] t)).alloc (.cells #[.int .i64 1, .int .i64 1, .int .u32 0, .int .i64 1, .int .i64 2] t) = W3) :
    Below w.heap.size w W3 ∧ W3.heap.size = w.heap.size + 2 ∧ ∀ W, Below W3.heap.size W3 W →
      (W.cell? ⟨w.heap.size, 0, none⟩ = some (.int .i64 1) ∧ W.cell? ⟨w.heap.size, 1, none⟩ = some (.int .i64 1) ∧ W.cell? ⟨w.heap.size, 2, none⟩ = some (.int .u32 0) ∧ W.cell? ⟨w.heap.size, 3, none⟩ = some (.int .i64 0) ∧ W.cell? ⟨w.heap.size, 4, none⟩ = some (.int .i64 2)) ∧
      (W.cell? ⟨w.heap.size + 1, 0, none⟩ = some (.int .i64 1) ∧ W.cell? ⟨w.heap.size + 1, 1, none⟩ = some (.int .i64 1) ∧ W.cell? ⟨w.heap.size + 1, 2, none⟩ = some (.int .u32 0) ∧ W.cell? ⟨w.heap.size + 1, 3, none⟩ = some (.int .i64 1) ∧ W.cell? ⟨w.heap.size + 1, 4, none⟩ = some (.int .i64 2)) := by
  have hs : W3.heap.size = w.heap.size + 2 := by rw [← hw]; simp
  have h0 : W3.heap[w.heap.size]? = some (.cells #[.int .i64 1, .int .i64 1, .int .u32 0, .int .i64 0, .int .i64 2] t (0, 0)) := by rw [← hw]; exact (Below.heap_alloc _ _ _ (by simp)).trans (World.alloc_heap_new _ _)
  have h1 : W3.heap[w.heap.size + 1]? = some (.cells #[.int .i64 1, .int .i64 1, .int .u32 0, .int .i64 1, .int .i64 2] t (0, 0)) := by
    have := World.alloc_heap_new (w.alloc (.cells #[.int .i64 1, .int .i64 1, .int .u32 0, .int .i64 0, .int .i64 2] t)) (.cells #[.int .i64 1, .int .i64 1, .int .u32 0, .int .i64 1, .int .i64 2] t)
    rw [World.size_alloc] at this
    rw [← hw]; exact this
  exact ⟨by rw [← hw]; exact ((Below.refl _ w).alloc (Nat.le_refl _) _).alloc (by simp) _, hs, fun W hW => ⟨hd_block ((hW.block _ (by omega)).trans h0), hd_block ((hW.block _ (by omega)).trans h1)⟩⟩
/-- a row of bytes that is written out, in a world that goes on -/
theorem new_row (W : World) (zs : List Int) (cs : Array Value) (h : cs = (zs.map (Value.int .u8)).toArray) : Nums .u8 (W.alloc (.cells cs 5)) (W.alloc (.cells cs 5)).heap.size (some ⟨W.heap.size, 0, none⟩) zs := by
  have := Nums.new .u8 W 5 zs cs h
  rwa [World.size_alloc]
set_option maxHeartbeats 8000000 in
theorem sknown_any (w : World) : Calls Try.prog 8 #[] w fun e w' => e = .returned (.bool true) ∧ Below w.heap.size w w' := by
  have HN := Lib.hid (fun W => snew_any13 1 1 0 0 2 (by omega) W)
  obtain ⟨W3, hW3⟩ : ∃ W3, (w.alloc (.cells #[.int .i64 1, .int .i64 1, .int .u32 0, .int .i64 0, .int .i64 2] 24)).alloc (.cells #[.int .i64 1, .int .i64 1, .int .u32 0, .int .i64 1, .int .i64 2] 24) = W3 := ⟨_, rfl⟩
  obtain ⟨hb3, hs3, hcell⟩ := two_heads hW3
  have HW3 := Lib.hid hW3
  have HBW := Lib.hid hb3
  have HC := Lib.hid hcell
  have HS3 := Lib.hid hs3
  clear hW3 hb3 hcell hs3
  unfold hdV at HN
  go_enter Try.func8, Try.ntmps8
  go_wp2_with fail
  rw [HW3.out]
  refine (HN.out W3).mono ?_
  rintro e w1 (⟨h0, _⟩ | ⟨_, b, m, rfl, hsl, hb, hbl, hml, hbm⟩)
  · exact absurd (by decide) h0
  obtain ⟨⟨d0, d1, d2, d3, d4⟩, ⟨e0, e1, e2, e3, e4⟩⟩ := HC.out w1 hb
  have KP1 := sput_any (hsl.below ((Below.refl _ w1).alloc (Nat.le_refl _) (.cells #[.int .u8 8, .int .u8 9] 5))) 1 1 0 1 2 (some ⟨w1.heap.size, 0, none⟩) 2 2 [8, 9] rfl (fun z hz => by simp at hz; omega) (new_row w1 [8, 9] _ rfl)
  rw [show sErr 1 1 0 2 1 1 0 1 2 (([] : List Pl).map Pl.ct) [8, 9] = 0 by decide] at KP1
  have hb1a := hb.alloc hb.size (.cells #[.int .u8 8, .int .u8 9] 5)
  unfold frV frC at KP1
  have HB1 := Lib.hid hb1a
  have HBL := Lib.hid hml
  clear hsl hb hb1a HN
  go_wp2_with fail
  refine KP1.mono ?_
  rintro e w2 hp1
  obtain ⟨rfl, ho1, p1, hi1, hz1, hsl⟩ := put_ok hp1
  have hb2 := HB1.out.trans (ho1.below (fun q hq => by have := HBL.out; omega) HB1.out.size)
  have hct1 : ([] ++ [p1]).map Pl.ct = [(1, [8, 9])] := by simp [Pl.ct, hi1, hz1]
  obtain ⟨⟨d0, d1, d2, d3, d4⟩, _⟩ := HC.out w2 hb2
  have KP2 := sput_any (hsl.below ((Below.refl _ w2).alloc (Nat.le_refl _) (.cells #[.int .u8 7] 5))) 1 1 0 0 2 (some ⟨w2.heap.size, 0, none⟩) 1 1 [7] rfl (fun z hz => by simp at hz; omega) (new_row w2 [7] _ rfl)
  rw [hct1, show sErr 1 1 0 2 1 1 0 0 2 [(1, [8, 9])] [7] = 0 by decide] at KP2
  have hb2a := hb2.alloc hb2.size (.cells #[.int .u8 7] 5)
  unfold frV frC at KP2
  have HB2 := Lib.hid hb2a
  have HCT := Lib.hid hct1
  clear hsl hb2 hb2a HB1 KP1 hp1 ho1 hi1 hz1 hct1 e0 e1 e2 e3 e4
  go_wp2_with fail
  refine KP2.mono ?_
  rintro e w3 hp2
  obtain ⟨rfl, ho2, p2, hi2, hz2, hsl⟩ := put_ok hp2
  have hb3 := HB2.out.trans (ho2.below (fun q hq => by have := HBL.out; omega) HB2.out.size)
  have hct2 : (([] ++ [p1]) ++ [p2]).map Pl.ct = [(1, [8, 9]), (0, [7])] := by rw [List.map_append, HCT.out]; simp [Pl.ct, hi2, hz2]
  obtain ⟨_, ⟨e0, e1, e2, e3, e4⟩⟩ := HC.out w3 hb3
  have KP3 := sput_any (hsl.below ((Below.refl _ w3).alloc (Nat.le_refl _) (.cells #[.int .u8 8, .int .u8 9] 5))) 1 1 0 1 2 (some ⟨w3.heap.size, 0, none⟩) 2 2 [8, 9] rfl (fun z hz => by simp at hz; omega) (new_row w3 [8, 9] _ rfl)
  rw [hct2, show sErr 1 1 0 2 1 1 0 1 2 [(1, [8, 9]), (0, [7])] [8, 9] = 16 by decide] at KP3
  have hb3a := hb3.alloc hb3.size (.cells #[.int .u8 8, .int .u8 9] 5)
  unfold frV frC at KP3
  have HB3 := Lib.hid hb3a
  have HCT2 := Lib.hid hct2
  clear hsl hb3 hb3a HB2 KP2 hp2 ho2 hi2 hz2 hct2 d0 d1 d2 d3 d4
  go_wp2_with fail
  refine KP3.mono ?_
  rintro e w4 ⟨rfl, ho3, hor⟩
  have hsl := (hor.resolve_right fun h => absurd h.1 (by decide)).2
  have hb4 := HB3.out.trans (ho3.below (fun q hq => by have := HBL.out; omega) HB3.out.size)
  have KB := sbytes_any hsl
  unfold BytesR at KB
  rw [HCT2.out] at KB
  have HB4 := Lib.hid hb4
  clear hsl hor hb4 HB3 KP3 ho3 e0 e1 e2 e3 e4
  go_wp2_with fail
  refine KB.mono ?_
  rintro e w5 ⟨hb5, ⟨h0, _⟩ | ⟨_, A, cp, rfl, hcp, hnum⟩⟩
  · exact absurd rfl h0
  have hcat : Sl.cat [(1, [8, 9]), (0, [7])] (([] ++ [p1]) ++ [p2]).length = [7, 8, 9] := by rfl
  rw [hcat] at hcp hnum ⊢
  have hb5w := HB4.out.trans (hb5.mono HB4.out.size)
  have hal := (Below.refl _ w5).alloc (Nat.le_refl _) (.cells #[.int .u8 7, .int .u8 8, .int .u8 9] 5)
  have KS := same_any (w5.alloc (.cells #[.int .u8 7, .int .u8 8, .int .u8 9] 5)).heap.size A (some ⟨w5.heap.size, 0, none⟩) 3 3 cp 3 [7, 8, 9] [7, 8, 9] (w5.alloc (.cells #[.int .u8 7, .int .u8 8, .int .u8 9] 5)) rfl rfl (by omega) ((hnum.below hal).mono hal.size) (new_row w5 [7, 8, 9] _ rfl)
  rw [decide_eq_true rfl] at KS
  have hb5a := hb5w.alloc hb5w.size (.cells #[.int .u8 7, .int .u8 8, .int .u8 9] 5)
  have HB5 := Lib.hid hb5a
  clear KB hb5 hb5w hal hnum hb5a
  go_wp2_with fail
  refine KS.mono ?_
  rintro e w6 ⟨rfl, nd, rfl⟩
  have hfin : Below w.heap.size w ((w5.alloc (.cells #[.int .u8 7, .int .u8 8, .int .u8 9] 5)).drewN nd) := by
    have h1 := below_drewN HB5.out nd
    exact HBW.out.trans (h1.mono (by have := HS3.out; omega))
  have HFIN := Lib.hid hfin
  clear hfin KS
  go_wp2
  go_ret
  exact ⟨rfl, HFIN.out⟩
end Go.Proofs.Ytoaclbdlgkgnpaa

namespace Go.Proofs.Ytoaclbdlgkgnpaa
open Go.RowKit
namespace Sr
def way (a b : Int) : Int := (b - a) % 4294967296
def add (a n : Int) : Int := (a + n) % 4294967296
def after (a b : Int) : Bool := decide (1 ≤ way b a ∧ way b a < 2147483648)
def diff (a b : Int) : Int := if 2147483648 ≤ way b a then way b a - 4294967296 else way b a
theorem way_lt (a b : Int) : 0 ≤ way a b ∧ way a b < 4294967296 := by unfold way; omega
theorem add_lt (a b : Int) : 0 ≤ add a b ∧ add a b < 4294967296 := by unfold add; omega
theorem diff_lt (a b : Int) : -2147483648 ≤ diff a b ∧ diff a b < 2147483648 := by
  have := way_lt b a
  unfold diff
  split <;> omega
/-- numbers of 32 bits -/
def U (zs : List Int) : Prop := ∀ z ∈ zs, 0 ≤ z ∧ z < 4294967296
/-- is n to be taken in the stead of now? -/
def st (nw : Bool) (n now : Int) : Bool := if nw then after n now else after now n
/-- those that are taken, one behind the other -/
def tk (nw : Bool) : Bool → Int → List Int → List Int
  | _, _, [] => []
  | f, now, z :: zs => if (f || st nw z now) = true then z :: tk nw false z zs else tk nw false now zs
def best (nw : Bool) : Int → List Int → Int
  | now, [] => now
  | now, z :: zs => best nw (if st nw z now = true then z else now) zs
/-- the one that is taken last; 0 without any -/
def bst (nw : Bool) : List Int → Int
  | [] => 0
  | z :: zs => best nw z zs
theorem tk_last (nw : Bool) : ∀ (zs : List Int) (now : Int), (tk nw false now zs).getLastD now = best nw now zs
  | [], _ => rfl
  | z :: zs, now => by
    unfold tk best
    by_cases h : st nw z now = true
    · rw [if_pos (by simp [h]), if_pos h, ← tk_last nw zs z, List.getLastD_cons]
    · rw [if_neg (by simp [h]), if_neg h, tk_last nw zs now]
theorem tk_bst (nw : Bool) : ∀ (zs : List Int), (tk nw true 0 zs).getLastD 0 = bst nw zs
  | [] => rfl
  | z :: zs => by
    show (z :: tk nw false z zs).getLastD 0 = best nw z zs
    rw [List.getLastD_cons, tk_last]
theorem tk_pos (nw : Bool) (zs : List Int) : decide (0 < (tk nw true 0 zs).length) = decide (0 < zs.length) := by
  cases zs with
  | nil => rfl
  | cons z zs => rw [tk, if_pos (by simp)]; simp
theorem tk_len (nw : Bool) : ∀ (zs : List Int) (f : Bool) (now : Int), (tk nw f now zs).length ≤ zs.length
  | [], _, _ => Nat.le_refl _
  | z :: zs, f, now => by
    unfold tk
    split
    · simpa using tk_len nw zs false z
    · have := tk_len nw zs false now; simp; omega
/-- one step of the loop over the list -/
theorem tk_step {zs : List Int} {k : Nat} {z : Int} (nw f : Bool) (now : Int) (h : zs[k]? = some z) :
    tk nw f now (zs.drop k) = if (f || st nw z now) = true then z :: tk nw false z (zs.drop (k + 1)) else tk nw false now (zs.drop (k + 1)) := by
  have hd : zs.drop k = z :: zs.drop (k + 1) := by
    have hk : k < zs.length := by
      rcases Nat.lt_or_ge k zs.length with h1 | h1
      · exact h1
      · rw [List.getElem?_eq_none h1] at h; cases h
    rw [List.getElem?_eq_getElem hk] at h
    injection h with h
    rw [← h, List.getElem_cons_drop]
  rw [hd, tk]
theorem best_step {zs : List Int} {k : Nat} {z : Int} (nw : Bool) (now : Int) (h : zs[k]? = some z) :
    best nw now (zs.drop k) = best nw (if st nw z now = true then z else now) (zs.drop (k + 1)) := by
  have hd : zs.drop k = z :: zs.drop (k + 1) := by
    have hk : k < zs.length := by
      rcases Nat.lt_or_ge k zs.length with h1 | h1
      · exact h1
      · rw [List.getElem?_eq_none h1] at h; cases h
    rw [List.getElem?_eq_getElem hk] at h
    injection h with h
    rw [← h, List.getElem_cons_drop]
  rw [hd, best]
theorem last_next {L : List Int} {j : Nat} {x d : Int} (h : L[j]? = some x) : (L.take (j + 1)).getLastD d = x := by
  rw [List.take_add_one, h]
  simp
theorem bst_mem (nw : Bool) : ∀ (zs : List Int) (now : Int), best nw now zs = now ∨ best nw now zs ∈ zs
  | [], _ => .inl rfl
  | z :: zs, now => by
    unfold best
    rcases bst_mem nw zs (if st nw z now = true then z else now) with h | h
    · rw [h]
      by_cases hs : st nw z now = true
      · rw [if_pos hs]; exact .inr (by simp)
      · rw [if_neg hs]; exact .inl rfl
    · exact .inr (List.mem_cons_of_mem _ h)
theorem best_U {nw : Bool} {zs : List Int} {now : Int} (h : U zs) (hn : 0 ≤ now ∧ now < 4294967296) : 0 ≤ best nw now zs ∧ best nw now zs < 4294967296 := by
  rcases bst_mem nw zs now with e | e
  · rw [e]; exact hn
  · exact h _ e
theorem bst_U {nw : Bool} {zs : List Int} (h : U zs) : 0 ≤ bst nw zs ∧ bst nw zs < 4294967296 := by
  cases zs with
  | nil => exact ⟨Int.le_refl _, (by decide : (0 : Int) < 4294967296)⟩
  | cons z zs => exact best_U (fun c hc => h c (List.mem_cons_of_mem _ hc)) (h z (by simp))
end Sr
end Go.Proofs.Ytoaclbdlgkgnpaa

namespace Go.Proofs.Ytoaclbdlgkgnpaa
open Go.RowKit
namespace Wn
/-- 0: new; 14: it has come; 15: old -/
def look (t : Int) (q : Nat) (n : Int) : Int :=
  if Sr.after n t = true then 0 else if 64 ≤ Sr.way n t then 15 else if q.testBit (Sr.way n t).toNat = true then 14 else 0
/-- the top behind a new one -/
def nt (t n : Int) : Int := if Sr.after n t = true then n else t
/-- the bits, moved by so many -/
def shl (q v : Nat) : Nat := if 64 ≤ v then 0 else q * 2 ^ v % 18446744073709551616
/-- the bits behind a new one -/
def nq (t : Int) (q : Nat) (n : Int) : Nat := if Sr.after n t = true then shl q (Sr.way t n).toNat ||| 1 else q ||| 2 ^ (Sr.way n t).toNat
theorem shl_lt (q v : Nat) : shl q v < 18446744073709551616 := by unfold shl; split <;> omega
theorem or_lt {a b : Nat} (ha : a < 18446744073709551616) (hb : b < 18446744073709551616) : a ||| b < 18446744073709551616 := by
  have := @Nat.or_lt_two_pow a b 64 (by simpa using ha) (by simpa using hb)
  simpa using this
theorem pow_lt {d : Nat} (h : d < 64) : 2 ^ d < 18446744073709551616 := by
  have : (2 : Nat) ^ d < 2 ^ 64 := Nat.pow_lt_pow_right (by omega) h
  simpa using this
theorem nt_lt {t n : Int} (ht : 0 ≤ t ∧ t < 4294967296) (hn : 0 ≤ n ∧ n < 4294967296) : 0 ≤ nt t n ∧ nt t n < 4294967296 := by unfold nt; split <;> assumption
theorem after_way {n t : Int} (h : Sr.after n t = true) : 1 ≤ Sr.way t n ∧ Sr.way t n < 2147483648 := of_decide_eq_true h
theorem shl_bit (q v d : Nat) : (shl q v).testBit d = (decide (v ≤ d ∧ d < 64) && q.testBit (d - v)) := by
  unfold shl
  split
  · rename_i h
    rw [Nat.zero_testBit, decide_eq_false (by omega), Bool.false_and]
  · rename_i h
    rw [show (18446744073709551616 : Nat) = 2 ^ 64 from rfl, Nat.testBit_mod_two_pow, Nat.mul_comm, Nat.testBit_two_pow_mul]
    by_cases h1 : d < 64 <;> by_cases h2 : v ≤ d <;> simp [h1, h2]
theorem one_bit (d : Nat) : (1 : Nat).testBit d = decide (d = 0) := by
  rw [show (1 : Nat) = 2 ^ 0 from rfl, Nat.testBit_two_pow]
  simp [eq_comm]
theorem nq_lt {t : Int} {q : Nat} {n : Int} (hq : q < 18446744073709551616) (h : look t q n = 0) : nq t q n < 18446744073709551616 := by
  unfold nq
  unfold look at h
  split
  · exact or_lt (shl_lt _ _) (by omega)
  · rename_i h1
    rw [if_neg h1] at h
    have h3 := Sr.way_lt n t
    by_cases h2 : 64 ≤ Sr.way n t
    · rw [if_pos h2] at h; exact absurd h (by decide)
    · exact or_lt hq (pow_lt (by omega))
theorem nq_after {t : Int} {q : Nat} {n : Int} (h : Sr.after n t = true) (d : Nat) (hd : d < 64) :
    (nq t q n).testBit d = (decide (d = 0) || (decide ((Sr.way t n).toNat ≤ d) && q.testBit (d - (Sr.way t n).toNat))) := by
  unfold nq
  rw [if_pos h, Nat.testBit_or, shl_bit, one_bit, Bool.or_comm]
  congr 2
  exact decide_eq_decide.2 ⟨fun h => h.1, fun h => ⟨h, hd⟩⟩
theorem nq_in {t : Int} {q : Nat} {n : Int} (h : ¬ Sr.after n t = true) (d : Nat) : (nq t q n).testBit d = (decide (d = (Sr.way n t).toNat) || q.testBit d) := by
  unfold nq
  rw [if_neg h, Nat.testBit_or, Nat.testBit_two_pow, Bool.or_comm]
  congr 1
  exact decide_eq_decide.2 eq_comm
/-- what has come isn't new -/
theorem look_again {t : Int} {q : Nat} {n : Int} (h : look t q n = 0) : look (nt t n) (nq t q n) n = 14 := by
  have hw := Sr.way_lt n t
  by_cases ha : Sr.after n t = true
  · have h0 : Sr.way n n = 0 := by unfold Sr.way; omega
    have h1 : ¬ Sr.after n n = true := by unfold Sr.after; rw [h0]; decide
    unfold look
    rw [show nt t n = n from if_pos ha, if_neg h1, h0, if_neg (by decide), if_pos]
    rw [Int.toNat_zero, nq_after ha 0 (by decide)]
    rfl
  · unfold look at h ⊢
    rw [if_neg ha] at h
    rw [show nt t n = t from if_neg ha, if_neg ha]
    by_cases h2 : 64 ≤ Sr.way n t
    · rw [if_pos h2] at h; exact absurd h (by decide)
    · rw [if_neg h2, if_pos]
      rw [nq_in ha, decide_eq_true rfl, Bool.true_or]
/-- a bit that stands changes nothing -/
theorem or_same {q d : Nat} (h : q.testBit d = true) : q ||| 2 ^ d = q := by
  apply Nat.eq_of_testBit_eq
  intro i
  rw [Nat.testBit_or, Nat.testBit_two_pow]
  by_cases hi : d = i
  · subst hi; simp [h]
  · simp [hi]
theorem or_other {q d : Nat} (h : q.testBit d = false) : q ||| 2 ^ d ≠ q := fun e => by
  have : (q ||| 2 ^ d).testBit d = true := by rw [Nat.testBit_or, Nat.testBit_two_pow]; simp
  rw [e, h] at this
  cases this
/-! ### numbers by their places -/
/-- the top is at place P from s on; bits tell of the places behind it which have come (S) -/
structure Inv (s : Int) (P : Int) (S : Int → Prop) (t : Int) (q : Nat) : Prop where
  top : t = Sr.add s P
  lo : -1 ≤ P
  hi : P < 1000000
  bit : ∀ d : Nat, d < 64 → (q.testBit d = true ↔ S (P - d))
  le : ∀ p, S p → p ≤ P
  lt : q < 18446744073709551616
section
variable {s P p t : Int} {S : Int → Prop} {q : Nat}
theorem ones_bit (d : Nat) (h : d < 64) : (18446744073709551615 : Nat).testBit d = true := by
  rw [show (18446744073709551615 : Nat) = 2 ^ 64 - 1 from rfl, Nat.testBit_two_pow_sub_one]
  exact decide_eq_true h
theorem Inv.start (s : Int) : Inv s (-1) (fun p => p < 0) (Sr.add s (-1)) 18446744073709551615 :=
  ⟨rfl, by decide, by decide, fun d h => ⟨fun _ => by omega, fun _ => ones_bit d h⟩, fun p h => by omega, by decide⟩
theorem Inv.ways (h : Inv s P S t q) (hp : -1000 ≤ p ∧ p < 1000000) :
    (P < p → Sr.after (Sr.add s p) t = true ∧ Sr.way t (Sr.add s p) = p - P) ∧ (p ≤ P → ¬ Sr.after (Sr.add s p) t = true ∧ Sr.way (Sr.add s p) t = P - p) := by
  have ht := h.top
  have h1 := h.lo
  have h2 := h.hi
  have e1 : Sr.way t (Sr.add s p) = (p - P) % 4294967296 := by rw [ht]; unfold Sr.way Sr.add; omega
  have e2 : Sr.way (Sr.add s p) t = (P - p) % 4294967296 := by rw [ht]; unfold Sr.way Sr.add; omega
  refine ⟨fun h3 => ⟨decide_eq_true ?_, by rw [e1]; omega⟩, fun h3 => ⟨fun h4 => ?_, by rw [e2]; omega⟩⟩
  · rw [e1]; omega
  · have := after_way h4
    rw [e1] at this
    omega
theorem Inv.look_new (h : Inv s P S t q) (hp : -1000 ≤ p ∧ p < 1000000) : look t q (Sr.add s p) = 0 ↔ P < p ∨ (P - p < 64 ∧ ¬ S p) := by
  obtain ⟨w1, w2⟩ := h.ways hp
  unfold look
  rcases Int.lt_or_le P p with h1 | h1
  · rw [if_pos (w1 h1).1]
    exact ⟨fun _ => .inl h1, fun _ => rfl⟩
  · obtain ⟨h2, h3⟩ := w2 h1
    rw [if_neg h2, h3]
    by_cases h4 : 64 ≤ P - p
    · rw [if_pos h4]
      exact ⟨fun h => absurd h (by decide), fun h => by omega⟩
    · have hb := h.bit (P - p).toNat (by omega)
      rw [show P - ((P - p).toNat : Int) = p by omega] at hb
      rw [if_neg h4]
      by_cases h5 : q.testBit (P - p).toNat = true
      · rw [if_pos h5]
        exact ⟨fun h => absurd h (by decide), fun h => (h.elim (fun h => by omega) (fun h => absurd (hb.1 h5) h.2))⟩
      · rw [if_neg h5]
        exact ⟨fun _ => .inr ⟨by omega, fun h => h5 (hb.2 h)⟩, fun _ => rfl⟩
/-- a new one comes -/
theorem Inv.come (h : Inv s P S t q) (hp : -1000 ≤ p ∧ p < 1000000) (hl : look t q (Sr.add s p) = 0) :
    Inv s (max P p) (fun x => S x ∨ x = p) (nt t (Sr.add s p)) (nq t q (Sr.add s p)) := by
  obtain ⟨w1, w2⟩ := h.ways hp
  have h1 := h.lo
  have h2 := h.hi
  rcases Int.lt_or_le P p with h3 | h3
  · obtain ⟨h4, h5⟩ := w1 h3
    have hm : max P p = p := by omega
    rw [hm]
    refine ⟨if_pos h4, by omega, hp.2, fun d hd => ?_, fun x hx => ?_, nq_lt h.lt hl⟩
    · rw [nq_after h4 d hd, h5]
      by_cases h6 : d = 0
      · subst h6; simp
      · by_cases h7 : (p - P).toNat ≤ d
        · have hb := h.bit (d - (p - P).toNat) (by omega)
          rw [show P - ((d - (p - P).toNat : Nat) : Int) = p - d by omega] at hb
          rw [decide_eq_false h6, decide_eq_true h7, Bool.false_or, Bool.true_and, hb]
          exact ⟨.inl, fun h => h.elim id fun h => by omega⟩
        · rw [decide_eq_false h6, decide_eq_false h7, Bool.false_or, Bool.false_and]
          refine ⟨fun h => (by cases h), fun h8 => ?_⟩
          rcases h8 with h8 | h8
          · have := h.le _ h8; omega
          · omega
    · rcases hx with hx | hx
      · have := h.le _ hx; omega
      · omega
  · obtain ⟨h4, h5⟩ := w2 h3
    have hm : max P p = P := by omega
    rw [hm]
    have hd0 : P - p < 64 := by
      rcases (h.look_new hp).1 hl with h | h <;> omega
    refine ⟨(if_neg h4).trans h.top, h1, h2, fun d hd => ?_, fun x hx => ?_, nq_lt h.lt hl⟩
    · rw [nq_in h4, h5]
      by_cases h6 : d = (P - p).toNat
      · rw [decide_eq_true h6, Bool.true_or]
        exact ⟨fun _ => .inr (by omega), fun _ => rfl⟩
      · rw [decide_eq_false h6, Bool.false_or, h.bit d hd]
        exact ⟨.inl, fun h => h.elim id fun h => by omega⟩
    · rcases hx with hx | hx
      · exact h.le _ hx
      · omega
theorem Inv.congr {S' : Int → Prop} (h : Inv s P S t q) (hS : ∀ x, S' x ↔ S x) : Inv s P S' t q :=
  ⟨h.top, h.lo, h.hi, fun d hd => (h.bit d hd).trans (hS _).symm, fun p hp => h.le p ((hS p).1 hp), h.lt⟩
end
/-! ### those that have come, and those that haven't -/
def cnt (q : Nat) (c : Bool) : Nat → Nat
  | 0 => 0
  | k + 1 => cnt q c k + (if q.testBit k = c then 1 else 0)
/-- of the first k those that have (haven't) come -/
def gv (t : Int) (q : Nat) (c : Bool) : Nat → List Int
  | 0 => []
  | k + 1 => if q.testBit k = c then gv t q c k ++ [Sr.add t (-(k : Int))] else gv t q c k
theorem gv_len (t : Int) (q : Nat) (c : Bool) : ∀ k, (gv t q c k).length = cnt q c k
  | 0 => rfl
  | k + 1 => by
    unfold gv cnt
    split
    · rw [List.length_append, gv_len t q c k]; rfl
    · exact gv_len t q c k
theorem cnt_mono (q : Nat) (c : Bool) : ∀ {k m : Nat}, k ≤ m → cnt q c k ≤ cnt q c m := by
  intro k m h
  induction m with
  | zero => have : k = 0 := by omega
            subst this; exact Nat.le_refl _
  | succ m ih =>
    rcases Nat.lt_or_ge k (m + 1) with h1 | h1
    · have := ih (by omega)
      show _ ≤ cnt q c m + _
      omega
    · have : k = m + 1 := by omega
      subst this; exact Nat.le_refl _
theorem cnt_le (q : Nat) (c : Bool) : ∀ k, cnt q c k ≤ k
  | 0 => Nat.le_refl _
  | k + 1 => by
    have := cnt_le q c k
    show cnt q c k + _ ≤ _
    split <;> omega
theorem cnt_step {q k : Nat} {c : Bool} (h : q.testBit k = c) : cnt q c (k + 1) = cnt q c k + 1 := by
  show cnt q c k + _ = _
  rw [if_pos h]
theorem cnt_stay {q k : Nat} {c : Bool} (h : ¬ q.testBit k = c) : cnt q c (k + 1) = cnt q c k := by
  show cnt q c k + _ = _
  rw [if_neg h]
  rfl
theorem gv_at (t : Int) {q i : Nat} {c : Bool} (h : q.testBit i = c) : ∀ {k : Nat}, i < k → (gv t q c k)[cnt q c i]? = some (Sr.add t (-(i : Int))) := by
  intro k hk
  induction k with
  | zero => omega
  | succ k ih =>
    unfold gv
    rcases Nat.lt_or_ge i k with h1 | h1
    · split
      · rw [List.getElem?_append_left (by rw [gv_len]; have := cnt_mono q c (show i + 1 ≤ k by omega); rw [cnt_step h] at this; omega)]
        exact ih h1
      · exact ih h1
    · have : i = k := by omega
      subst this
      rw [if_pos h, List.getElem?_append_right (by rw [gv_len]; exact Nat.le_refl _), gv_len, Nat.sub_self]
      rfl
theorem gv_U {t : Int} {q : Nat} {c : Bool} : ∀ k, Sr.U (gv t q c k)
  | 0 => fun z hz => by cases hz
  | k + 1 => fun z hz => by
    unfold gv at hz
    split at hz
    · rcases List.mem_append.1 hz with h | h
      · exact gv_U k z h
      · rw [List.mem_singleton] at h; subst h; exact Sr.add_lt _ _
    · exact gv_U k z hz
/-- those from v on, ahead of k: none, if so many are ahead of either -/
theorem cnt_none {q v k : Nat} {c : Bool} (h : cnt q c v = cnt q c k) {i : Nat} (h1 : v ≤ i) (h2 : i < k) : ¬ q.testBit i = c := fun e => by
  have h3 := cnt_mono q c h1
  have h4 := cnt_mono q c (show i + 1 ≤ k by omega)
  rw [cnt_step e] at h4
  omega
/-- what is the bit k -/
theorem cnt_past {q v k : Nat} {c : Bool} (h : cnt q c v = cnt q c k) (hk : q.testBit k = c) : v ≤ k := by
  rcases Nat.lt_or_ge k v with h1 | h1
  · have := cnt_mono q c (show k + 1 ≤ v by omega)
    rw [cnt_step hk] at this
    omega
  · exact h1
theorem cnt_both (q : Nat) : ∀ k, cnt q true k + cnt q false k = k
  | 0 => rfl
  | k + 1 => by
    have := cnt_both q k
    show cnt q true k + _ + (cnt q false k + _) = _
    cases q.testBit k <;> simp <;> omega
/-- all have come: none is missing -/
theorem cnt_zero {q : Nat} : ∀ {k}, (∀ d, d < k → q.testBit d = true) → cnt q false k = 0
  | 0, _ => rfl
  | k + 1, h => by
    rw [cnt_stay (by rw [h k (by omega)]; decide)]
    exact cnt_zero fun d hd => h d (by omega)
end Wn
end Go.Proofs.Ytoaclbdlgkgnpaa

namespace Go.Proofs.Ytoaclbdlgkgnpaa
open Go.RowKit
set_option maxRecDepth 100000

theorem ret_bool {a b : Bool} (h : a = b) : Ending.returned (.bool a) = .returned (.bool b) := by rw [h]
theorem tmod_round (n : Int) : ∃ r : Int, n.tmod 4294967296 = r ∧ -4294967296 < r ∧ r < 4294967296 ∧ (∀ a : Int, (a + r) % 4294967296 = (a + n) % 4294967296) := by
  refine ⟨_, rfl, ?_⟩
  have h := Int.tmod_add_mul_tdiv n 4294967296
  rcases Int.le_total 0 n with h0 | h0
  · rw [Int.tmod_eq_emod_of_nonneg h0]
    refine ⟨by omega, by omega, fun a => by omega⟩
  · have h1 : n.tmod 4294967296 = -((-n) % 4294967296) := by
      have := Int.neg_tmod (a := -n) (b := 4294967296)
      rw [Int.neg_neg] at this
      rw [this, Int.tmod_eq_emod_of_nonneg (by omega)]
    rw [h1]
    refine ⟨by omega, by omega, fun a => by omega⟩
end Go.Proofs.Ytoaclbdlgkgnpaa

namespace Go.Proofs.Ytoaclbdlgkgnpaa
open Go.RowKit
set_option maxRecDepth 100000

section
variable {w w' : World} {b : Nat} {t : Int} {q : Nat}
end
/-- a row by value -/
def rowV (t : Int) (q : Nat) : Value := .agg #[.int .u32 t, .int .u64 (q : Int)]

/-- the shifts as the walk spells them -/
theorem shl_val (q n : Nat) : IntKind.u64.wrap ((q : Int) * 2 ^ min n 64) = ((Wn.shl q n : Nat) : Int) := by
  rw [IntKind.wrap_u64]
  unfold Wn.shl
  split
  · rename_i h
    rw [show min n 64 = 64 by omega]
    exact Int.mul_emod_left _ _
  · rename_i h
    rw [show min n 64 = n by omega]
    simp
theorem shl_or (q n : Nat) : bits .or .u64 (IntKind.u64.wrap ((q : Int) * 2 ^ min n 64)) 1 = ((Wn.shl q n ||| 1 : Nat) : Int) := by
  rw [shl_val]
  exact u64_or_nat _ 1 (Wn.shl_lt _ _) (by omega)
theorem one_or (q n : Nat) (hq : q < 18446744073709551616) (h : n < 64) : bits .or .u64 (q : Int) (IntKind.u64.wrap (2 ^ min n 64)) = ((q ||| 2 ^ n : Nat) : Int) := by
  rw [IntKind.wrap_u64, show min n 64 = n by omega, show ((2 : Int) ^ n) = ((2 ^ n : Nat) : Int) by simp, Int.emod_eq_of_lt (Int.natCast_nonneg _) (by have := Wn.pow_lt h; omega)]
  exact u64_or_nat _ _ hq (Wn.pow_lt h)
theorem wquiet_of {f : FuncId} {args : Array Value} {w : World} {n : Nat} {v : Value} (h : Calls Try.prog f args (w.drewN n) fun e w' => e = .returned v ∧ w' = w.drewN n) : Calls Try.prog f args (w.drewN n) fun e w' => e = .returned v ∧ ∃ m, w' = w.drewN m :=
  h.mono fun _ _ h => ⟨h.1, n, h.2⟩
section
variable {w : World} {b : Nat} {t : Int} {q : Nat}
end
end Go.Proofs.Ytoaclbdlgkgnpaa

namespace Go.Proofs.Ytoaclbdlgkgnpaa
open Go.RowKit
set_option maxRecDepth 100000

end Go.Proofs.Ytoaclbdlgkgnpaa

namespace Go.Proofs.Ytoaclbdlgkgnpaa
open Go.RowKit
set_option maxRecDepth 100000

theorem below_off {b B : Nat} {w w' : World} (h : Off (fun k => k = b) w w') (hb : B ≤ b) (hB : B ≤ w.heap.size) : Below B w w' := h.below (fun k hk => by omega) hB
end Go.Proofs.Ytoaclbdlgkgnpaa

namespace Go.Proofs.Ytoaclbdlgkgnpaa
open Go.RowKit

section
variable {F : Fence} {n : Nat} {P : Program} {g : Operand} {ps : Array Tmp} {assign body : Code} {Q : Exit → Act → World → Prop} {a : Act} {w : World}
theorem range_stopb {α : Type} (hro : F.round = none) (h1 : 1 ≤ n) {gf : Nat} {lb : Array Value} (hg : a.eval g = .func (.func gf) #[] lb) (hFg : F.fn gf) (eg : ∀ args w, (callFunc gf args).run P w = .ok (.enter gf args) w)
    (enc : α → Array Value) (hps : ∀ x, (enc x).size = ps.size) (Rd : Nat → α → World → Prop) (Fx : Nat → α → Nat → World → Prop) (Dn : Nat → World → Prop) (Sx : Code → World → Prop) (Kp : World → World → Prop) (N : Nat)
    (hFp : ∀ j x q W l o o', Fx j x q W → w.heap.size ≤ l → W.heap[l]? = some o → o.isCells = false → Fx j x q (W.putObj l o'))
    (hDp : ∀ j W l o o', Dn j W → w.heap.size ≤ l → W.heap[l]? = some o → o.isCells = false → Dn j (W.putObj l o'))
    (hSp : ∀ c W l o o', Sx c W → w.heap.size ≤ l → W.heap[l]? = some o → o.isCells = false → Sx c (W.putObj l o'))
    (hKt : ∀ A B C, Kp A B → Kp B C → Kp A C)
    (hKp : ∀ W l o o', w.heap.size ≤ l → W.heap[l]? = some o → o.isCells = false → Kp W (W.putObj l o'))
    (hD0 : ∀ o, Dn 0 ((w.alloc (.deferred (some []))).alloc o))
    (hround : ∀ (l j : Nat) (x : α) (W : World) (K : Act → World → Prop), Rd j x W → j < N →
      (∀ b q W', Fx j x q W' → KeepsFrom w.heap.size W W' → Kp W W' → (∀ l V, w.heap.size ≤ l → Fx j x q V → body.wpIn (F.inRound l) (n - 1 - 1) P (stopPost w.heap.size Kp (Dn (j + 1)) Sx V) b V) → K b W') →
      assign.wpIn (F.inRound l) (n - 1 - 1) P (Exit.then K (fun _ _ _ => False)) { tmps := (ps.zip (enc x)).foldl (fun t (p, v) => t.setIfInBounds p v) a.tmps, defers := [] } W)
    (hiter : ∀ (Bk : World → Prop) (X : World → Prop) (l : Nat) (W : World), (∀ A B, Bk A → A.heap.size ≤ B.heap.size → (∀ k, w.heap.size ≤ k → k < w.heap.size + 2 → B.heap[k]? = A.heap[k]?) → Bk B) → (∀ A, Bk A → w.heap.size + 2 ≤ A.heap.size) →
      (∀ A l' o o', X A → w.heap.size + 2 ≤ l' → A.heap[l']? = some o → o.isCells = false → X (A.putObj l' o')) → l < w.heap.size + 2 → Dn 0 W → Bk W →
      (∀ j x W1, Rd j x W1 → Bk W1 → j < N → YieldAt F (n - 1 - 1) P l (enc x) W1 (YPost w.heap.size l Kp (fun W2 => Dn (j + 1) W2 ∧ Bk W2) X W1)) →
      CallsIn F (n - 1) P gf (#[.func (.yield l) #[] #[]] ++ lb) W fun e W' => (∃ v, e = .returned v) ∧ ((Dn N W' ∧ Bk W') ∨ X W'))
    (hdone : ∀ (D : Nat) (W : World), w.heap.size ≤ D → Dn N W → W.heap[D]? = some (.deferred (some [])) → Q .normal { a with defers := { target := .collected D, args := #[] } :: a.defers } W)
    (hstop : ∀ (D : Nat) (c : Code) (W : World), w.heap.size ≤ D → Sx c W → W.heap[D]? = some (.deferred (some [])) → c.wpIn F n P Q { a with defers := { target := .collected D, args := #[] } :: a.defers } W) :
    (Code.rangeFunc g ps assign body).wpIn F n P Q a w :=
  range_stopa hro h1 hg hFg eg enc hps Rd
    (fun j x b W => ∃ q, Fx j x q W ∧ ∀ l V, w.heap.size ≤ l → Fx j x q V → body.wpIn (F.inRound l) (n - 1 - 1) P (stopPost w.heap.size Kp (Dn (j + 1)) Sx V) b V) Dn Sx Kp N
    (fun j x _ W l o o' h hl ho hc => by
      obtain ⟨q, h1, h2⟩ := h
      exact ⟨q, hFp j x q W l o o' h1 hl ho hc, h2⟩)
    hDp hSp hKt hKp hD0
    (fun l j x W K hr hj hK => hround l j x W K hr hj fun b q W' h1 h2 h3 h4 => hK b W' ⟨q, h1, h4⟩ h2 h3)
    (fun l _ _ _ W hl h _ => by
      obtain ⟨q, h1, h2⟩ := h
      exact h2 l W hl h1)
    hiter hdone hstop
end
end Go.Proofs.Ytoaclbdlgkgnpaa

namespace Go.Proofs.Ytoaclbdlgkgnpaa
open Go.RowKit Go.Shelf
set_option maxRecDepth 100000
attribute [local go_sem] Oper.semAt_some

end Go.Proofs.Ytoaclbdlgkgnpaa

namespace Go.Proofs.Ytoaclbdlgkgnpaa
open Go.RowKit Go.Shelf
set_option maxRecDepth 100000
attribute [local go_sem] Oper.semAt_some

theorem bit_val (q k : Nat) (hq : q < 18446744073709551616) : (bits .and .u64 ((q : Int) / 2 ^ k) 1 == 1) = q.testBit k := by
  rw [show ((q : Int) / 2 ^ k) = ((q / 2 ^ k : Nat) : Int) by simp, show (1 : Int) = ((1 : Nat) : Int) from rfl, u64_and_nat _ _ (Nat.lt_of_le_of_lt (Nat.div_le_self _ _) hq) (by omega), Nat.and_one_is_mod, Nat.testBit_eq_decide_div_mod_eq]
  rcases Nat.mod_two_eq_zero_or_one (q / 2 ^ k) with h | h <;> (rw [h]; rfl)
end Go.Proofs.Ytoaclbdlgkgnpaa

namespace Go.Proofs.Ytoaclbdlgkgnpaa
open Go.RowKit
set_option maxRecDepth 100000

theorem wu32Info : (Try.prog.info? 22).map (fun i => (i.zero, i.size, i.bytes)) = some (some (.int .u32 0), 1, 4) := by kernel_rfl
theorem own_off {w w' : World} {lo e n : Nat} {v : Value} {xs : List Value} {S : Nat → Prop} (h : w.ownsRow lo e 1 v n xs) (hf : Off S w w') (hS : ∀ k, S k → k < lo) : w'.ownsRow lo e 1 v n xs := by
  refine ⟨h.1, ?_⟩
  rcases h.2 with h3 | ⟨g, cap, cur, rfl, hg, hh, r⟩
  · exact .inl h3
  · exact .inr ⟨g, cap, cur, rfl, hg, (hf.block g (Array.getElem?_eq_some_iff.1 hh).1 (fun hs => by have := hS g hs; omega)).trans hh, r⟩
theorem own_len {w : World} {lo e : Nat} {v : Value} {L : List Int} (h : w.ownsRow lo e 1 v L.length (L.map (Value.int .u32))) : ∃ A c, v = .slice A L.length c ∧ L.length ≤ c ∧ Nums .u32 w w.heap.size A L := by
  rcases h.2 with ⟨rfl, h0⟩ | ⟨g, cap, cur, rfl, hg, hh, hn, _⟩
  · have : L = [] := List.eq_nil_of_length_eq_zero h0
    subst this
    exact ⟨none, 0, rfl, by simp, Nums.nil⟩
  · exact ⟨some ⟨g, 0, none⟩, cap, rfl, hn, Nums.of_own h⟩
theorem nums_off {k : IntKind} {w w' : World} {B b : Nat} {a : Option Addr} {zs : List Int} (h : Nums k w B a zs) (hf : Off (fun k => k = b) w w') (hb : B ≤ b) (hB : B ≤ w.heap.size) : Nums k w' B a zs :=
  h.kept fun p hp => World.cell?_of_block (hf.block p.block (by omega) (by omega))
/-- a row above w has grown -/
theorem off_grown {w wr w2 : World} {o : Obj} {S : Nat → Prop} {own : Option Nat} (h : Off S w wr) (hg : (wr.alloc o).grownBy w2 own) (ho : ∀ g, own = some g → w.heap.size ≤ g) : Off S w w2 := by
  have h1 := hg.size
  have h2 := h.size
  rw [World.size_alloc] at h1
  refine ⟨hg.os.trans h.os, hg.tape.trans h.tape, hg.output.trans h.output, by omega, fun k hk hn => ?_⟩
  exact ((hg.block k (by rw [World.size_alloc]; omega) (fun e => by have := ho k e.symm; omega)).trans (Below.heap_alloc _ _ _ (by omega))).trans (h.block k hk hn)
theorem own_ge {w : World} {lo e n : Nat} {v : Value} {xs : List Value} (h : w.ownsRow lo e 1 v n xs) {g : Nat} (hg : v.ownBlock = some g) : lo ≤ g := by
  rcases h.2 with ⟨rfl, _⟩ | ⟨g', cap, cur, rfl, hg', _⟩
  · simp [Value.ownBlock] at hg
  · simp [Value.ownBlock] at hg; subst hg; exact hg'
end Go.Proofs.Ytoaclbdlgkgnpaa

namespace Go.Proofs.Ytoaclbdlgkgnpaa
open Go.RowKit
set_option maxRecDepth 100000

/-- numbers that lie in block g, whole; all blocks but g are as they were in w -/
structure RowU (w : World) (g : Nat) (L : List Int) (wr : World) : Prop where
  row : ∃ cs, wr.heap[g]? = some (.cells cs 22 (0, 0)) ∧ ∀ (j : Nat) c, L[j]? = some c → cs[j]? = some (.int .u32 c)
  off : Off (fun k => k = g) w wr
section
variable {w wr : World} {g : Nat} {L : List Int}
theorem RowU.cell (h : RowU w g L wr) {j : Nat} {c : Int} (hj : L[j]? = some c) : wr.cell? ⟨g, j, none⟩ = some (.int .u32 c) := by
  obtain ⟨cs, hh, hc⟩ := h.row
  rw [cell_of_row wr g j cs _ _ hh]
  exact hc j c hj
theorem RowU.frozen (h : RowU w g L wr) (j : Nat) : wr.frozen? ⟨g, j, none⟩ = false := by
  obtain ⟨cs, hh, hc⟩ := h.row
  simp [World.frozen?, hh]
theorem RowU.drewN (h : RowU w g L wr) (n : Nat) : RowU w g L (wr.drewN n) := ⟨h.row, ⟨h.off.os, h.off.tape, h.off.output, h.off.size, h.off.block⟩⟩
theorem RowU.set (h : RowU w g L wr) (j : Nat) (c : Int) : RowU w g (L.set j c) (wr.setCell ⟨g, j, none⟩ (.int .u32 c)) := by
  obtain ⟨cs, hh, hc⟩ := h.row
  refine ⟨⟨_, setCell_at hh, fun i x hi => ?_⟩, h.off.setCell rfl _⟩
  rw [Array.getElem?_setIfInBounds]
  rw [List.getElem?_set] at hi
  by_cases hji : j = i
  · subst hji
    rw [if_pos rfl] at hi ⊢
    split at hi
    · rename_i hlt
      injection hi with hi
      subst hi
      have h2 := hc j L[j] (List.getElem?_eq_getElem hlt)
      rw [if_pos (Array.getElem?_eq_some_iff.1 h2).1]
    · simp at hi
  · rw [if_neg hji] at hi ⊢
    exact hc i x hi
theorem RowU.nums (h : RowU w g L wr) : Nums .u32 wr wr.heap.size (some ⟨g, 0, none⟩) L := fun hn => by
  obtain ⟨cs, hh, hc⟩ := h.row
  refine ⟨g, 0, rfl, (Array.getElem?_eq_some_iff.1 hh).1, fun j c hj => ?_⟩
  rw [Nat.zero_add]
  exact h.cell hj
theorem RowU.same (h : RowU w g L wr) {M : List Int} (hM : ∀ (j : Nat) (c : Int), M[j]? = some c → L[j]? = some c) : RowU w g M wr := by
  obtain ⟨cs, hh, hc⟩ := h.row
  exact ⟨⟨cs, hh, fun j c hj => hc j c (hM j c hj)⟩, h.off⟩
theorem RowU.below {w' : World} (h : RowU w g L wr) (hb : Below wr.heap.size wr w') : RowU w g L w' := by
  obtain ⟨cs, hh, hc⟩ := h.row
  exact ⟨⟨cs, (hb.block g (Array.getElem?_eq_some_iff.1 hh).1).trans hh, hc⟩, h.off.trans (S' := fun _ => False) (Off.of_below hb) (fun _ _ h => h.elim)⟩
end
theorem RowU.of_own {w : World} {lo c : Nat} {A : Option Addr} {L : List Int} (h : w.ownsRow lo 22 1 (.slice A L.length c) L.length (L.map (Value.int .u32))) (hL : 0 < L.length) : ∃ g, A = some ⟨g, 0, none⟩ ∧ lo ≤ g ∧ L.length ≤ c ∧ RowU w g L w := by
  rcases h.2 with ⟨_, h0⟩ | ⟨g, cap, cur, hv, hg, hh, hn, hcur⟩
  · omega
  · injection hv with hv1 hv2 hv3
    subst hv1 hv3
    refine ⟨g, rfl, hg, hn, ⟨cur, hh, fun j z hj => ?_⟩, Off.refl _ _⟩
    have := h.cells (g := g) rfl j (.int .u32 z) (by rw [List.getElem?_map, hj]; rfl)
    rw [show (⟨g, 0, none⟩ : Addr).add j = ⟨g, j, none⟩ by unfold Addr.add; split <;> simp_all] at this
    rwa [cell_of_row w g j cur _ _ hh] at this

/-- the first k and the last k have changed places -/
structure RvTo (L : List Int) (k : Nat) (M : List Int) : Prop where
  len : M.length = L.length
  at' : ∀ p, p < L.length → M[p]? = if p < k ∨ L.length - k ≤ p then L[L.length - 1 - p]? else L[p]?
theorem RvTo.start (L : List Int) : RvTo L 0 L := ⟨rfl, fun p hp => by rw [if_neg (by omega)]⟩
theorem RvTo.step {L M : List Int} {k : Nat} {x y : Int} (h : RvTo L k M) (hk : k < L.length - 1 - k) (hx : M[k]? = some x) (hy : M[L.length - 1 - k]? = some y) : RvTo L (k + 1) ((M.set k y).set (L.length - 1 - k) x) := by
  have hl := h.len
  refine ⟨by simp [hl], fun p hp => ?_⟩
  have h1 := h.at' p hp
  have e1 : L[L.length - 1 - k]? = some y := by
    have := h.at' (L.length - 1 - k) (by omega)
    rw [if_neg (by omega)] at this
    rw [← this]; exact hy
  have e2 : L[k]? = some x := by
    have := h.at' k (by omega)
    rw [if_neg (by omega)] at this
    rw [← this]; exact hx
  rw [List.getElem?_set, List.getElem?_set, List.length_set, hl]
  by_cases h2 : L.length - 1 - k = p
  · rw [if_pos h2, if_pos (by omega), if_pos (by omega), show L.length - 1 - p = k by omega, e2]
  · rw [if_neg h2]
    by_cases h3 : k = p
    · rw [if_pos h3, if_pos (by omega), if_pos (by omega), ← h3, e1]
    · rw [if_neg h3, h1]
      by_cases h4 : p < k ∨ L.length - k ≤ p
      · rw [if_pos h4, if_pos (by omega)]
      · rw [if_neg h4, if_neg (by omega)]
theorem RvTo.done {L M : List Int} {k : Nat} (h : RvTo L k M) (hk : ¬ (k : Int) < (L.length : Int) - 1 - k) : M = L.reverse := by
  apply List.ext_getElem?
  intro p
  rcases Nat.lt_or_ge p L.length with h1 | h1
  · rw [h.at' p h1, List.getElem?_reverse h1]
    by_cases h2 : p < k ∨ L.length - k ≤ p
    · rw [if_pos h2]
    · rw [if_neg h2, show L.length - 1 - p = p by omega]
  · rw [List.getElem?_eq_none (by rw [h.len]; exact h1), List.getElem?_eq_none (by rw [List.length_reverse]; exact h1)]

end Go.Proofs.Ytoaclbdlgkgnpaa

namespace Go.Proofs.Ytoaclbdlgkgnpaa
open Go.RowKit Go.Shelf
set_option maxRecDepth 100000
attribute [local go_sem] Oper.semAt_some

/-- a block of another type holds no row's numbers -/
theorem blk_not_row {W : World} {b base n : Nat} {cs : Array Value} {t e : TypeId} {v : Value} {xs : List Value} (h : W.heap[b]? = some (.cells cs t (0, 0))) (hte : t ≠ e) (hr : W.ownsRow base e 1 v n xs) : v.ownBlock ≠ some b := fun e' => by
  rcases hr.2 with ⟨rfl, _⟩ | ⟨g, cap, cur, rfl, _, hh, _⟩
  · simp [Value.ownBlock] at e'
  · simp [Value.ownBlock] at e'
    subst e'
    rw [h] at hh
    injection hh with hh
    injection hh with _ ht
    exact hte ht
section
variable {w V : World} {b0 j : Nat} {t : Int} {q : Nat} {LM : List Int}
end
end Go.Proofs.Ytoaclbdlgkgnpaa

namespace Go.Proofs.Ytoaclbdlgkgnpaa
open Go.RowKit
set_option maxRecDepth 100000
theorem intInfo : (Try.prog.info? 3).map (fun i => (i.zero, i.size, i.bytes)) = some (some (.int .i64 0), 1, 8) := by kernel_rfl
end Go.Proofs.Ytoaclbdlgkgnpaa

namespace Go.Proofs.Ytoaclbdlgkgnpaa
open Go.RowKit
set_option maxRecDepth 100000
attribute [local go_sem] Oper.semAt_some

theorem sempty_any (v : Option Addr) (w : World) : Calls Try.prog 34 #[.pointer v] w fun e w' => e = .returned (.func (.func 41) #[] #[.pointer (some ⟨w.heap.size, 0, none⟩)]) ∧ w' = w.alloc (.cells #[.pointer v] 26) := by
  have hmf : ∀ W, (Instr.makeFunc (.func 41) #[] #[.pointer (some ⟨w.heap.size, 0, none⟩)]).run Try.prog W = .ok (.func (.func 41) #[] #[.pointer (some ⟨w.heap.size, 0, none⟩)]) W := fun W => by kernel_rfl
  go_enter Try.func34, Try.ntmps34
  go_wp2
  go_ret
  exact ⟨rfl, rfl⟩
theorem sempty_nil_in (n l Bs : Nat) (W : World) (hBs : W.cell? ⟨Bs, 0, none⟩ = some (.pointer none)) :
    CallsIn Fence.wide n Try.prog 41 #[.func (.yield l) #[] #[], .pointer (some ⟨Bs, 0, none⟩)] W fun e W' => (∃ v, e = .returned v) ∧ W' = W := by
  refine callsIn_of_wp Try.func41 rfl trivial ?_ rfl
  simp only [Try.ntmps41, List.size_toArray, List.length_cons, List.length_nil, Nat.reduceAdd, Nat.reduceSub, Array.replicate_succ, Array.replicate_zero, List.push_toArray, List.append_toArray, List.nil_append, List.cons_append]
  gi_wp2
  refine wpIn_wide.2 (wp_scope_straight ((wpIn_wide (n := n)).1 ?_))
  gi_wp2
  first | go_end0 | (rw [Exit.noGoto_normal]; go_end0) | (simp only [Exit.noGoto]; refine bodyPost_ret (results_none rfl _ _ _) rfl ?_)
  exact ⟨⟨_, rfl⟩, rfl⟩
theorem sempty_in (n : Nat) (hn : 1 ≤ n) (m' l Bs b m : Nat) (v k s c : Int) (E : List Pl) (q : Nat) (hq : c = (q : Int)) (hq2 : q ≤ 255) (J : Nat → World → Prop) (Jx : World → Prop)
    (hJ : ∀ j W, J j W → W.cell? ⟨Bs, 0, none⟩ = some (.pointer (some ⟨b, 0, none⟩)) ∧ SlotAt W b m v k s c E)
    (hs : ∀ j W, J j W → j < q → Sl.has (E.map Pl.ct) j = true → J (j + 1) W)
    (hY : ∀ (j : Nat) (W : World), J j W → j < q → Sl.has (E.map Pl.ct) j = false →
      YieldAt Fence.wide m' Try.prog l #[.int .i64 (j : Int)] W fun e W' => (e = .returned (.bool true) ∧ J (j + 1) W') ∨ (e = .returned (.bool false) ∧ Jx W'))
    (W : World) (h0 : J 0 W) :
    CallsIn Fence.wide n Try.prog 41 #[.func (.yield l) #[] #[], .pointer (some ⟨Bs, 0, none⟩)] W fun e W' => (∃ v, e = .returned v) ∧ (J q W' ∨ Jx W') := by
  subst hq
  obtain ⟨c0, hsl⟩ := hJ 0 W h0
  obtain ⟨d0, d1, d2, d3, d4, d5⟩ := hsl.cells
  clear hsl
  refine callsIn_of_wp Try.func41 rfl trivial ?_ rfl
  simp only [Try.ntmps41, List.size_toArray, List.length_cons, List.length_nil, Nat.reduceAdd, Nat.reduceSub, Array.replicate_succ, Array.replicate_zero, List.push_toArray, List.append_toArray, List.nil_append, List.cons_append]
  gi_wp2
  refine wpIn_wide.2 (wp_scope_straight ((wpIn_wide (n := n)).1 ?_))
  gi_wp2
  apply wpIn_label
  gi_wp2
  gi_loopw [11] (fun x wr => ∃ j : Nat, j ≤ q ∧ x = .int .i64 (j : Int) ∧ J j wr) (fun x _ => q - (intOf x).toNat)
  case atStart => exact ⟨0, by omega, rfl, h0⟩
  case round =>
    obtain ⟨j, hj, rfl, hJj⟩ := hrel
    rcases Nat.lt_or_ge j q with h4 | h4
    · have hlt : (j : Int) < (q : Int) := by omega
      obtain ⟨c0, hsl⟩ := hJ j wr hJj
      have K := shas_any hsl j (by omega)
      have hhas := Pl.has_ct E j
      rw [← hhas] at K
      have HJ := Lib.hid hJj
      clear hsl hhas hJj
      cases hb : Sl.has (E.map Pl.ct) j with
      | true =>
        rw [hb] at K
        have HN := Lib.hid (hs j wr HJ.out h4 hb)
        clear hb
        gi_wp2_with fail
        refine ⟨trivial, ?_⟩
        refine (callsIn_wide.2 K).mono ?_
        rintro e w1 ⟨rfl, rfl⟩
        gi_wp2
        go_roundw
        case rel => exact ⟨j + 1, by omega, by go_num, HN.out⟩
        case measure => simp [intOf]; omega
      | false =>
        rw [hb] at K
        have HYr := Lib.hid (hY j wr HJ.out h4 hb)
        obtain ⟨fn, tmps, assign, body, hy, hR⟩ := yield_any (n - 1) HYr.out
        have HR := Lib.hid hR
        clear hR HYr hb
        gi_wp2_with fail
        refine ⟨trivial, ?_⟩
        refine (callsIn_wide.2 K).mono ?_
        rintro e w1 ⟨rfl, hw1⟩
        rw [hw1]
        clear K hw1
        gi_wp2_with fail
        refine HR.out.mono ?_
        rintro e W3 (⟨rfl, hJ3⟩ | ⟨rfl, hJx3⟩)
        · gi_wp2
          go_roundw
          case rel => exact ⟨j + 1, by omega, by go_num, hJ3⟩
          case measure => simp [intOf]; omega
        · gi_wp2
          first | go_end0 | (rw [Exit.noGoto_normal]; go_end0) | (refine bodyPost_ret (results_none rfl _ _ _) rfl ?_)
          exact ⟨⟨_, rfl⟩, .inr hJx3⟩
    · have hk4 : j = q := by omega
      subst hk4
      gi_wp2
      first | go_end0 | (rw [Exit.noGoto_normal]; go_end0)
      exact ⟨⟨_, rfl⟩, .inl hJj⟩

theorem values_any (A : Option Addr) (n cp : Nat) (w : World) : Calls Try.prog 35 #[.slice A n cp] w fun e w' => e = .returned (.func (.func 42) #[] #[.pointer (some ⟨w.heap.size, 0, none⟩)]) ∧ w' = w.alloc (.cells #[.slice A n cp] 50) := by
  have hmf : ∀ W, (Instr.makeFunc (.func 42) #[] #[.pointer (some ⟨w.heap.size, 0, none⟩)]).run Try.prog W = .ok (.func (.func 42) #[] #[.pointer (some ⟨w.heap.size, 0, none⟩)]) W := fun W => by kernel_rfl
  go_enter Try.func35, Try.ntmps35
  go_wp2
  go_ret
  exact ⟨rfl, rfl⟩
theorem values_not_nil (b : Nat) (w : World) : (binOp .eql 61 (.func (.func 42) #[] #[.pointer (some ⟨b, 0, none⟩)]) .nilFunc).run Try.prog w = .ok (.bool false) w := by kernel_rfl
theorem values_in (n : Nat) (hn : 1 ≤ n) (m' l Bs : Nat) (A : Option Addr) (q cp : Nat) (zs : List Int) (hq : zs.length = q) (hq2 : q ≤ 1000000) (J : Nat → World → Prop) (Jx : World → Prop)
    (hJ : ∀ j W, J j W → ∃ B, Nums .i64 W B A zs)
    (hY : ∀ (j : Nat) (x : Int) (W : World), J j W → zs[j]? = some x →
      YieldAt Fence.wide m' Try.prog l #[.int .i64 x] W fun e W' => (e = .returned (.bool true) ∧ J (j + 1) W') ∨ (e = .returned (.bool false) ∧ Jx W'))
    (W : World) (hBs : W.cell? ⟨Bs, 0, none⟩ = some (.slice A q cp)) (h0 : J 0 W) :
    CallsIn Fence.wide n Try.prog 42 #[.func (.yield l) #[] #[], .pointer (some ⟨Bs, 0, none⟩)] W fun e W' => (∃ v, e = .returned v) ∧ (J q W' ∨ Jx W') := by
  have HQ := Lib.hid hq
  clear hq
  refine callsIn_of_wp Try.func42 rfl trivial ?_ rfl
  simp only [Try.ntmps42, List.size_toArray, List.length_cons, List.length_nil, Nat.reduceAdd, Nat.reduceSub, Array.replicate_succ, Array.replicate_zero, List.push_toArray, List.append_toArray, List.nil_append, List.cons_append]
  gi_wp2
  gi_loopw [7] (fun x wr => ∃ j : Nat, j ≤ q ∧ x = .int .i64 (j : Int) ∧ J j wr) (fun x _ => q - (intOf x).toNat)
  case atStart => exact ⟨0, by omega, rfl, h0⟩
  case round =>
    obtain ⟨j, hj, rfl, hJj⟩ := hrel
    rcases Nat.lt_or_ge j q with h4 | h4
    · have hlt : (j : Int) < (q : Int) := by omega
      obtain ⟨B, hB⟩ := hJ j wr hJj
      obtain ⟨x, hx⟩ : ∃ x, zs[j]? = some x := ⟨_, List.getElem?_eq_getElem (by rw [HQ.out]; exact h4)⟩
      obtain ⟨g, o, rfl, _, hc⟩ := hB.open hx
      have HYr := Lib.hid (hY j x wr hJj hx)
      obtain ⟨fn, tmps, assign, body, hy, hR⟩ := yield_any (n - 1) HYr.out
      have HR := Lib.hid hR
      clear hR HYr hB hx hJj
      gi_wp2_with fail
      refine HR.out.mono ?_
      rintro e W3 (⟨rfl, hJ3⟩ | ⟨rfl, hJx3⟩)
      · gi_wp2
        go_roundw
        case rel => exact ⟨j + 1, by omega, by go_num, hJ3⟩
        case measure => simp [intOf]; omega
      · gi_wp2
        first | go_end0 | (rw [Exit.noGoto_normal]; go_end0) | (refine bodyPost_ret (results_none rfl _ _ _) rfl ?_)
        exact ⟨⟨_, rfl⟩, .inr hJx3⟩
    · have hk4 : j = q := by omega
      subst hk4
      gi_wp2
      first | go_end0 | (rw [Exit.noGoto_normal]; go_end0)
      exact ⟨⟨_, rfl⟩, .inl hJj⟩
end Go.Proofs.Ytoaclbdlgkgnpaa

namespace Go.Proofs.Ytoaclbdlgkgnpaa
open Go.RowKit Go.Shelf
set_option maxRecDepth 100000
attribute [local go_sem] Oper.semAt_some

theorem NumsS.putObj {k : IntKind} {V : World} {S : Nat → Prop} {l : Nat} {a : Option Addr} {zs : List Int} {o : Obj} (h : NumsS k V S a zs) (ho : V.heap[l]? = some o) (hc : o.isCells = false) (o' : Obj) : NumsS k (V.putObj l o') S a zs := fun hn => by
  obtain ⟨b, off, e, hb, hcl⟩ := h hn
  refine ⟨b, off, e, hb, fun j c hj => ?_⟩
  have h1 := hcl j c hj
  obtain ⟨o2, h2, h3⟩ := cells_of_cell h1
  refine (World.cell?_of_block (World.putObj_heap_other (fun e => ?_))).trans h1
  simp only at h2 e
  subst e
  rw [ho] at h2
  injection h2 with h2
  subst h2
  rw [hc] at h3; cases h3
/-- what Missing answers: a function over a slice of new memory -/
def MissR (w : World) (L : List Int) (e : Ending) (w' : World) : Prop :=
  ∃ Bv A cp, e = .returned (.func (.func 42) #[] #[.pointer (some ⟨Bv, 0, none⟩)]) ∧ Below w.heap.size w w' ∧ w.heap.size ≤ Bv ∧ Boxed w' Bv 50 (.slice A L.length cp) ∧ L.length ≤ cp ∧ NumsS .i64 w' (fun g => w.heap.size ≤ g ∧ g < Bv) A L
structure MsS (w : World) (b0 : Nat) (v : Option Addr) (LM : List Int) (j : Nat) (V : World) : Prop where
  out : ∃ u, Boxed V b0 50 u ∧ V.ownsRow w.heap.size 3 1 u (LM.take j).length ((LM.take j).map (Value.int .i64))
  box : Boxed V (b0 + 1) 26 (.pointer v)
  below : Below w.heap.size w V
section
variable {w V : World} {b0 j : Nat} {v : Option Addr} {LM : List Int}
theorem MsS.put (h : MsS w b0 v LM j V) (hb : w.heap.size = b0) {l : Nat} {o : Obj} (hl : b0 + 2 ≤ l) (ho : V.heap[l]? = some o) (hc : o.isCells = false) (o' : Obj) : MsS w b0 v LM j (V.putObj l o') := by
  obtain ⟨v, h1, h2⟩ := h.out
  exact ⟨⟨v, (World.putObj_heap_other (by omega)).trans h1, ownsRow_putObj h2 _ ho hc⟩, (World.putObj_heap_other (by omega)).trans h.box, h.below.trans (below_put V o' (by omega))⟩
end
set_option maxHeartbeats 4000000 in
theorem smissing_go (v : Option Addr) (LM : List Int) (hl : LM.length ≤ 255) (w : World)
    (hI : ∀ (l Bs : Nat) (J : Nat → World → Prop) (Jx : World → Prop), (∀ j W, J j W → W.cell? ⟨Bs, 0, none⟩ = some (.pointer v) ∧ Below w.heap.size w W) →
      (∀ (j : Nat) (x : Int) (W : World), J j W → LM[j]? = some x → YieldAt Fence.wide 1 Try.prog l #[.int .i64 x] W fun e W' => (e = .returned (.bool true) ∧ J (j + 1) W') ∨ (e = .returned (.bool false) ∧ Jx W')) →
      ∀ W, J 0 W → CallsIn Fence.wide 2 Try.prog 41 #[.func (.yield l) #[] #[], .pointer (some ⟨Bs, 0, none⟩)] W fun e W' => (∃ v, e = .returned v) ∧ (J LM.length W' ∨ Jx W')) :
    Calls Try.prog 21 #[.pointer v] w (MissR w LM) := by
  obtain ⟨j0, hi, hj0, hj1, hj2⟩ := info_parts intInfo
  have HI := Lib.hid hI
  clear hI
  generalize hG : MissR w LM = G
  have HG := Lib.hid hG
  clear hG
  refine (callsIn_wide (n := 3)).1 ?_
  refine callsIn_of_wp_marks Try.func21 rfl trivial ?_ rfl
  simp only [Try.ntmps21, List.size_toArray, List.length_cons, List.length_nil, Nat.reduceAdd, Nat.reduceSub, Array.replicate_succ, Array.replicate_zero, List.push_toArray, List.append_toArray, List.nil_append, List.cons_append]
  obtain ⟨w1, hw1⟩ : ∃ w1, w.alloc (Obj.cells #[Value.slice none 0 0] 50) = w1 := ⟨_, rfl⟩
  have hs1 : w1.heap.size = w.heap.size + 1 := by rw [← hw1]; simp
  have hb1 : Below w.heap.size w w1 := by rw [← hw1]; exact (Below.refl _ w).alloc (Nat.le_refl _) _
  have bL1 : Boxed w1 w.heap.size 50 (.slice none 0 0) := by rw [← hw1]; exact Boxed.new w _ _
  have K := sempty_any v w1
  obtain ⟨b0, hb0⟩ : ∃ b0, w.heap.size = b0 := ⟨_, rfl⟩
  have HB0 := Lib.hid hb0
  gi_wp2_with fail
  clear hw1
  refine ⟨trivial, ?_⟩
  refine (callsIn_wide.2 K).mono ?_
  rintro e w2 ⟨rfl, hw2⟩
  clear K
  have hs2 : w2.heap.size = w1.heap.size + 1 := by rw [hw2]; simp
  have bC2 : Boxed w2 w1.heap.size 26 (.pointer v) := by rw [hw2]; exact Boxed.new w1 _ _
  have hb12 : Below w1.heap.size w1 w2 := by rw [hw2]; exact (Below.refl _ w1).alloc (Nat.le_refl _) _
  clear hw2
  have hb2 : Below w.heap.size w w2 := hb1.trans (hb12.mono (by omega))
  have bL2 : Boxed w2 w.heap.size 50 (.slice none 0 0) := (hb12.block _ (by omega)).trans bL1
  rw [hb0] at hs1 bL2
  rw [hs1] at bC2 hs2 ⊢
  clear hb1 hb12 bL1 hs1
  have hM0 : MsS w b0 v LM 0 w2 := ⟨⟨_, bL2, by rw [List.take_zero]; exact World.ownsRow_nil _ _ _ _⟩, bC2, hb2⟩
  clear bL2 bC2 hb2
  gi_wp2_with fail
  refine range_stops rfl (by omega) (gf := 41) (lb := #[.pointer (some ⟨b0 + 1, 0, none⟩)]) rfl trivial (enters_of Try.func41 (by kernel_rfl) rfl)
    (fun x : Int => #[Value.int .i64 x]) (fun _ => rfl)
    (fun j x V => MsS w b0 v LM j V ∧ LM[j]? = some x)
    (fun j V => MsS w b0 v LM j V)
    (fun _ _ => False) (fun _ _ => True) LM.length
    (fun j x V l o o' h hl ho hc' => ⟨h.1.put HB0.out (by omega) ho hc' o', h.2⟩)
    (fun j V l o o' h hl ho hc' => h.put HB0.out (by omega) ho hc' o')
    (fun _ _ _ _ _ h _ _ _ => h)
    (fun _ _ _ _ _ => trivial) (fun _ _ _ _ _ _ _ => trivial)
    (fun o => ?_) ?a1 ?assign ?body ?iter ?done ?stop
  · obtain ⟨v, h1, h2⟩ := hM0.out
    exact ⟨⟨v, (h1.alloc _).alloc _, (h2.alloc _).alloc _⟩, (hM0.box.alloc _).alloc _, (hM0.below.alloc hM0.below.size _).alloc (by have := hM0.below.size; simp; omega) _⟩
  case assign =>
    intro l x V K hK
    gi_wp2
    exact hK
  case body =>
    rintro l j x V hl ⟨hM, hx⟩ hj
    obtain ⟨u, hO, hR⟩ := hM.out
    have hside := hM.box
    have hbe := hM.below
    have kO := hO.cell
    have hszV := hO.lt
    have hbs := hbe.size
    have hlt : (LM.take j).length ≤ 255 := by rw [List.length_take]; omega
    have hnx : LM.take (j + 1) = LM.take j ++ [x] := by rw [List.take_add_one, hx]; rfl
    obtain ⟨L0, hL0⟩ : ∃ L0, LM.take j = L0 := ⟨_, rfl⟩
    rw [hL0] at hR hlt hnx
    have HNX := Lib.hid hnx
    clear hL0
    have HN1 := Lib.hid (Nums.new .i64 V 3 [x] #[.int .i64 x] rfl)
    have HO := Lib.hid hO
    have HR := Lib.hid hR
    have HS := Lib.hid hside
    have HB := Lib.hid hbe
    clear hM hM0 hO hR hside hbe hnx hb0 hx
    gi_wp2_with (gi_at_builtin; refine wpListIn_append_any rfl (.tmp 8) (.tmp 10) 50 rfl w.heap.size 3 j0 (.int .i64 0) 8 Try.underlying50 hi hj0 hj1 hj2 rfl .i64 _ _ [x] u rfl (HR.out.alloc _) (some ⟨V.heap.size, 0, none⟩) 1 1 _ rfl rfl HN1.out ?c1 ?c2 ?c3 ?_)
    case c1 => unfold maxLen; omega
    case c2 => omega
    case c3 => rw [World.size_alloc]; omega
    intro v1 w4 hown1 hg1
    have hg2 := grown_of_alloc hg1
    obtain ⟨g1, cap1, rfl⟩ := ownsRow_succ hown1
    have hnr : some b0 ≠ u.ownBlock := HO.out.not_row (by decide) HR.out
    have bO4 : Boxed w4 b0 50 u := HO.out.kept hg2 hnr
    have kO4 := bO4.cell
    have fO4 := bO4.frozen
    have hnr4 : some b0 ≠ (Value.slice (some ⟨g1, 0, none⟩) (L0.length + 1) cap1).ownBlock := bO4.not_row (show (50 : Nat) ≠ 3 by decide) hown1
    have hside4 : Boxed w4 (b0 + 1) 26 (.pointer v) := HS.out.kept hg2 (HS.out.not_row (by decide) HR.out)
    have hbe4 : Below w.heap.size w w4 := HB.out.grown hg2 hbs (fun g hg => (HR.out.lt g hg).1)
    have hko : KeepsOthers V w4 := KeepsOthers.of_grownBy hg2 fun j o ej hj => by
      rcases HR.out.2 with ⟨rfl, _⟩ | ⟨g, cap, cur, rfl, _, hgb, _⟩
      · simp [Value.ownBlock] at ej
      · obtain rfl : g = j := by simpa [Value.ownBlock] using ej
        rw [hgb] at hj; cases hj; rfl
    have HF : Hid (KeepsFrom w2.heap.size V (w4.setCell ⟨b0, 0, none⟩ (.slice (some ⟨g1, 0, none⟩) (L0.length + 1) cap1)) ∧ MsS w b0 v LM (j + 1) (w4.setCell ⟨b0, 0, none⟩ (.slice (some ⟨g1, 0, none⟩) (L0.length + 1) cap1))) := by
      refine ⟨(hko.trans (KeepsOthers.setCell _ _ _)).from _, ⟨_, bO4.set _, ?_⟩, hside4.other (by omega) _, hbe4.setCell (p := ⟨b0, 0, none⟩) (Nat.le_of_eq HB0.out) _⟩
      rw [HNX.out, List.length_append, List.map_append]
      exact hown1.kept (grownBy_setCell' w4 b0 _) (.inr hnr4.symm)
    clear hown1 hg1 hg2 hside4 hbe4 hko hnr hnr4 bO4 HN1 HO HR HS HB
    gi_wp2
    exact ⟨HF.out.1, HF.out.2, trivial⟩
  case iter =>
    intro Bk X l V hBk hBlt hX hlw hD hB hY
    refine (HI.out l (b0 + 1) (fun k V => MsS w b0 v LM k V ∧ Bk V) X ?_ ?_ V ⟨hD, hB⟩).mono ?_
    · rintro k W ⟨h1, _⟩
      exact ⟨h1.box.cell, h1.below⟩
    · rintro k x W ⟨h1, h2⟩ hx
      refine (hY _ _ W ⟨h1, hx⟩ h2 (List.getElem?_eq_some_iff.1 hx).1).mono ?_
      rintro e V2 (⟨rfl, hd, _, _⟩ | ⟨rfl, hx, _⟩)
      · exact .inl ⟨rfl, hd⟩
      · exact .inr ⟨rfl, hx⟩
    · exact fun _ _ h => h
  case done =>
    rintro D V hD hM hK
    obtain ⟨u, hO, hR⟩ := hM.out
    rw [List.take_length] at hR
    have hbe := hM.below
    have kO := hO.cell
    have hbv := hbe.size
    have hwD : w.heap.size ≤ D := by omega
    have hDlt := (Array.getElem?_eq_some_iff.1 hK).1
    obtain ⟨A, c, rfl, hc, hnum⟩ := MadeK.slice ⟨hR, hbe⟩
    have hnS := MadeK.numsS ⟨hR, hbe⟩ rfl
    have KV := values_any A LM.length c V
    have HBE := Lib.hid hbe
    have HK := Lib.hid hK
    have HNS := Lib.hid hnS
    have HC := Lib.hid hc
    clear hM hM0 hb0 hbe hK hO hR hnum hnS hc
    obtain ⟨q, hq⟩ : ∃ q, LM.length = q := ⟨_, rfl⟩
    rw [hq] at KV kO HC hl
    have HQ := Lib.hid hq
    clear hq
    gi_wp2_with fail
    refine ⟨trivial, ?_⟩
    refine (callsIn_wide.2 KV).mono ?_
    rintro e V1 ⟨rfl, hV1⟩
    have hb1 : Below V.heap.size V V1 := by rw [hV1]; exact (Below.refl _ V).alloc (Nat.le_refl _) _
    have hbx : Boxed V1 V.heap.size 50 (.slice A q c) := by rw [hV1]; exact Boxed.new V _ _
    have hK1 := (hb1.block D hDlt).trans HK.out
    have HFIN : Hid (G (.returned (.func (.func 42) #[] #[.pointer (some ⟨V.heap.size, 0, none⟩)])) (V1.putObj D (.deferred none))) := by
      rw [← HG.out]
      refine ⟨V.heap.size, A, c, rfl, (HBE.out.trans (hb1.mono hbv)).trans (below_put V1 _ hwD), hbv, by rw [HQ.out]; exact (World.putObj_heap_other (by omega)).trans hbx, by rw [HQ.out]; exact HC.out, ?_⟩
      exact (HNS.out.keeps (KeepS.of_below hb1 fun k hk => hk.2)).putObj hK1 rfl _
    clear hV1 hb1 hbx KV kO
    gi_wp2
    refine ⟨by simp, .inl ⟨_, _, rfl, run_takeDeferred hK1, ?_⟩⟩
    refine ⟨_, results_tmp rfl _ _ _, ?_⟩
    exact HFIN.out
  case stop =>
    rintro D cd W' _ h _
    exact h.elim
theorem smissing_nil (w : World) : Calls Try.prog 21 #[.pointer none] w (MissR w []) :=
  smissing_go none [] (by simp) w fun l Bs J Jx hJ _ W h0 => (sempty_nil_in 2 l Bs W (hJ 0 W h0).1).mono fun e W' ⟨hv, hw⟩ => ⟨hv, .inl (by subst hw; exact h0)⟩
/-- the empty places as ints -/
def misZ (C : Sl.Ct) (n : Nat) : List Int := (Sl.mis C n).map fun (i : Nat) => (i : Int)
theorem misZ_len (C : Sl.Ct) (n : Nat) : (misZ C n).length = (Sl.mis C n).length := by simp [misZ]
theorem smissing_any {w : World} {b m : Nat} {v k s : Int} {n : Nat} {E : List Pl} (h : SlotAt w b m v k s (n : Int) E) :
    Calls Try.prog 21 #[.pointer (some ⟨b, 0, none⟩)] w (MissR w (misZ (E.map Pl.ct) n)) := by
  have n2 : n ≤ 255 := by
    obtain ⟨n', hn', _, n2, _, _⟩ := h.count
    omega
  have hfew := Sl.mis_few (E.map Pl.ct) n
  refine smissing_go (some ⟨b, 0, none⟩) _ (by rw [misZ_len]; omega) w fun l Bs J Jx hJ hY W h0 => ?_
  rw [misZ_len]
  refine sempty_in 2 (by omega) 1 l Bs b m v k s (n : Int) E n rfl n2 (fun j W => J (Sl.mis (E.map Pl.ct) j).length W) Jx (fun j W hj => ?_) (fun j W hj hjn hb => ?_) (fun j W hj hjn hb => ?_) W h0
  · obtain ⟨h1, h2⟩ := hJ _ W hj
    exact ⟨h1, h.below h2⟩
  · simp only [Sl.mis_stay hb]
    exact hj
  · simp only [Sl.mis_step hb, List.length_append, List.length_cons, List.length_nil]
    refine hY _ _ W hj ?_
    unfold misZ
    rw [List.getElem?_map, Sl.mis_at hb n hjn]
    rfl
end Go.Proofs.Ytoaclbdlgkgnpaa

namespace Go.Proofs.Ytoaclbdlgkgnpaa
open Go.RowKit
set_option maxRecDepth 100000

theorem four_word (s z0 z1 z2 z3 : Nat) (hs : s < 4294967296) (h0 : z0 < 256) (h1 : z1 < 256) (h2 : z2 < 256) (h3 : z3 < 256) :
    ∃ x : Nat, x < 4294967296 ∧ bits .xor .u32 (s : Int) (bits .or .u32 (bits .or .u32 (bits .or .u32 (z0 : Int) ((z1 : Int) * 256)) ((z2 : Int) * 65536)) ((z3 : Int) * 16777216)) = (x : Int) ∧
      x = s ^^^ (z0 ^^^ (z1 * 256) ^^^ (z2 * 65536) ^^^ (z3 * 16777216)) := by
  have a1 := Cr.add_xor z0 z1 8 (by omega)
  have a2 := Cr.add_xor (z1 * 256 + z0) z2 16 (by simp only [Nat.reducePow]; omega)
  have a3 := Cr.add_xor (z2 * 65536 + (z1 * 256 + z0)) z3 24 (by simp only [Nat.reducePow]; omega)
  have o1 := Nat.two_pow_add_eq_or_of_lt (i := 8) (show z0 < 2 ^ 8 by omega) z1
  have o2 := Nat.two_pow_add_eq_or_of_lt (i := 16) (show z1 * 256 + z0 < 2 ^ 16 by simp only [Nat.reducePow]; omega) z2
  have o3 := Nat.two_pow_add_eq_or_of_lt (i := 24) (show z2 * 65536 + (z1 * 256 + z0) < 2 ^ 24 by simp only [Nat.reducePow]; omega) z3
  simp only [Nat.reducePow] at a1 a2 a3 o1 o2 o3
  refine ⟨_, ?_, ?_, rfl⟩
  · rw [a1, a2, a3]
    exact Cr.xor_lt 32 hs (by omega)
  · rw [show (z1 : Int) * 256 = ((z1 * 256 : Nat) : Int) by omega, show (z2 : Int) * 65536 = ((z2 * 65536 : Nat) : Int) by omega, show (z3 : Int) * 16777216 = ((z3 * 16777216 : Nat) : Int) by omega]
    rw [u32_or_nat _ _ (by omega) (by omega), Nat.or_comm, Nat.mul_comm z1, ← o1, Nat.mul_comm 256 z1]
    rw [u32_or_nat _ _ (by omega) (by omega), Nat.or_comm, Nat.mul_comm z2, ← o2, Nat.mul_comm 65536 z2]
    rw [u32_or_nat _ _ (by omega) (by omega), Nat.or_comm, Nat.mul_comm z3, ← o3, Nat.mul_comm 16777216 z3]
    rw [u32_xor_nat _ _ hs (by omega), a1, a2, a3]
theorem xor_chain (a b c d : Nat) (ha : a < 4294967296) (hb : b < 4294967296) (hc : c < 4294967296) (hd : d < 4294967296) :
    bits .xor .u32 (bits .xor .u32 (bits .xor .u32 (a : Int) (b : Int)) (c : Int)) (d : Int) = ((a ^^^ b ^^^ c ^^^ d : Nat) : Int) := by
  have h1 := Cr.xor_lt 32 (show a < 2 ^ 32 by omega) (show b < 2 ^ 32 by omega)
  have h2 := Cr.xor_lt 32 h1 (show c < 2 ^ 32 by omega)
  rw [u32_xor_nat _ _ ha hb, u32_xor_nat _ _ (by omega) hc, u32_xor_nat _ _ (by omega) hd]

end Go.Proofs.Ytoaclbdlgkgnpaa

namespace Go.Proofs.Ytoaclbdlgkgnpaa
open Go.RowKit
set_option maxRecDepth 100000

theorem crc_four (s : Nat) (zs : List Int) (z0 z1 z2 z3 : Int) (j : Nat) (h0 : (zs.drop j)[0]? = some z0) (h1 : (zs.drop j)[1]? = some z1) (h2 : (zs.drop j)[2]? = some z2) (h3 : (zs.drop j)[3]? = some z3) :
    Cr.crc s (zs.take (j + 4)) = Cr.shn 8 (Cr.shn 8 (Cr.shn 8 (Cr.shn 8 (Cr.crc s (zs.take j) ^^^ z0.toNat) ^^^ z1.toNat) ^^^ z2.toNat) ^^^ z3.toNat) := by
  rw [List.getElem?_drop] at h0 h1 h2 h3
  rw [show j + 4 = j + 3 + 1 from rfl, crc_more s h3, show j + 3 = j + 2 + 1 from rfl, crc_more s h2, show j + 2 = j + 1 + 1 from rfl, crc_more s h1, crc_more s (k := j) (z := z0) (by simpa using h0)]
/-- the place of what is left behind i elements -/
theorem addr_drop (b1 o1 c i : Nat) (h : i ≠ 0) : (if c = i then (some ⟨b1, o1, none⟩ : Option Addr) else (some ⟨b1, o1, none⟩ : Option Addr).map (·.add i)) = if c = i then some ⟨b1, o1, none⟩ else some ⟨b1, o1 + i, none⟩ := by
  simp [Addr.add, h]

theorem byte_step (m n0 : Nat) (hm : m < 4294967296) (h0 : n0 < 256) : ∃ q : Nat, q < 256 ∧ bits .xor .u8 (IntKind.u8.wrap (m : Int)) (n0 : Int) = (q : Int) ∧ bits .xor .u32 ((Cr.shn 8 q : Nat) : Int) ((m : Int) / 256) = ((Cr.shn 8 (m ^^^ n0) : Nat) : Int) := by
  have hq : m % 256 ^^^ n0 < 2 ^ 8 := Cr.xor_lt 8 (by omega) (by omega)
  refine ⟨m % 256 ^^^ n0, by omega, ?_, ?_⟩
  · rw [IntKind.wrap_u8, show (m : Int) % 256 = ((m % 256 : Nat) : Int) by omega, u8_xor_nat _ _ (by omega) h0]
  · have hl := Cr.shn_lt (n := m % 256 ^^^ n0) 8 (by omega)
    rw [show (m : Int) / 256 = ((m / 256 : Nat) : Int) by omega, u32_xor_nat _ _ (by omega) (by omega), Cr.step m n0 h0]

end Go.Proofs.Ytoaclbdlgkgnpaa

namespace Go.Proofs.Ytoaclbdlgkgnpaa
open Go.RowKit
set_option maxRecDepth 100000

/-- a part: where its bytes lie, its room, its bytes -/
structure Part where
  a : Option Addr
  c : Nat
  zs : List Int
/-- a part as it is in a world -/
structure Part.At (w : World) (B : Nat) (p : Part) : Prop where
  room : p.zs.length ≤ p.c
  few : p.zs.length ≤ 9223372036854775807
  byte : Bytes p.zs
  nums : Nums .u8 w B p.a p.zs
theorem Part.At.below {w w' : World} {B : Nat} {p : Part} (h : p.At w B) (hb : Below B w w') : p.At w' B := ⟨h.room, h.few, h.byte, h.nums.below hb⟩
theorem Part.At.mono {w : World} {B B' : Nat} {p : Part} (h : p.At w B) (hB : B ≤ B') : p.At w B' := ⟨h.room, h.few, h.byte, h.nums.mono hB⟩
/-- parts that lie at a place -/
def Parts (w : World) (B : Nat) (a : Option Addr) (ps : List Part) : Prop :=
  (∀ p ∈ ps, p.At w B) ∧ (ps ≠ [] → ∃ b off, a = some ⟨b, off, none⟩ ∧ ∀ (j : Nat) (p : Part), ps[j]? = some p → w.cell? ⟨b, off + j, none⟩ = some (.slice p.a p.zs.length p.c))
theorem Parts.nil (w : World) (B : Nat) (a : Option Addr) : Parts w B a [] := ⟨by simp, fun h => absurd rfl h⟩
/-- parts that have just been laid -/
theorem Parts.new {w : World} {B : Nat} {ps : List Part} (t : TypeId) (cs : Array Value) (h : ∀ p ∈ ps, p.At w B) (hB : B ≤ w.heap.size) (hc : cs = (ps.map fun p => Value.slice p.a p.zs.length p.c).toArray) : Parts (w.alloc (.cells cs t)) B (some ⟨w.heap.size, 0, none⟩) ps := by
  refine ⟨fun p hp => (h p hp).below ((Below.refl B w).alloc hB _), fun _ => ⟨w.heap.size, 0, rfl, fun j p hj => ?_⟩⟩
  rw [World.cell?_alloc_at _ _ _ _ rfl, hc]
  simp [hj]
def flat (ps : List Part) : List Int := ps.flatMap Part.zs
theorem flat_bytes {w : World} {B : Nat} {ps : List Part} (h : ∀ p ∈ ps, p.At w B) : Bytes (flat ps) := by
  intro z hz
  obtain ⟨p, hp, hz⟩ := List.mem_flatMap.1 hz
  exact (h p hp).byte z hz
theorem flat_more {ps : List Part} {k : Nat} {p : Part} (s : Nat) (h : ps[k]? = some p) : Cr.crc s (flat (ps.take (k + 1))) = Cr.crc (Cr.crc s (flat (ps.take k))) p.zs := by
  have hk : k < ps.length := by
    rcases Nat.lt_or_ge k ps.length with h1 | h1
    · exact h1
    · rw [List.getElem?_eq_none h1] at h; simp at h
  rw [List.getElem?_eq_getElem hk] at h
  injection h with h
  rw [List.take_succ_eq_append_getElem hk, h, ← Cr.crc_append]
  simp [flat]

end Go.Proofs.Ytoaclbdlgkgnpaa

namespace Go.Proofs.Ytoaclbdlgkgnpaa
open Go.RowKit
set_option maxRecDepth 100000

/-- 'string(b)' of bytes that lie somewhere -/
theorem conv_nums (B : Nat) (a : Option Addr) (n c : Nat) (zs : List Int) (w : World) (hn : zs.length = n) (h1 : Nums .u8 w B a zs) :
    (convert 37 9 (.slice a n c)).run Try.prog w = .ok (.string (strOfNums zs)) w := by
  subst hn
  by_cases hz : zs = []
  · subst hz
    rw [run_convert_bytes_string w _ _ _ _ _ _ Try.underlying37 Try.underlying5 Try.underlying9]
    cases a <;> simp [Conv.bytesToString, loadCells] <;> rfl
  · obtain ⟨b, o, rfl, _, hc⟩ := h1 hz
    exact run_convert_bytes_arg (P := Try.prog) w _ _ Try.underlying37 Try.underlying5 b o _ c zs rfl (fun i hi => by
      rw [hc i zs[i] (List.getElem?_eq_getElem hi)]
      simp [List.getElem?_eq_getElem hi]) _ Try.underlying9
theorem bytesOf_inj {xs ys : List Int} (hx : Bytes xs) (hy : Bytes ys) (h : Lib.bytesOf xs = Lib.bytesOf ys) : xs = ys := by
  have hl := congrArg List.length h
  rw [Lib.bytesOf_length, Lib.bytesOf_length] at hl
  apply List.ext_getElem hl
  intro i h1 h2
  have h3 : (Lib.bytesOf xs)[i]? = (Lib.bytesOf ys)[i]? := by rw [h]
  simp only [Lib.bytesOf, List.getElem?_map, List.getElem?_eq_getElem h1, List.getElem?_eq_getElem h2, Option.map_some, Option.some.injEq] at h3
  have b1 := hx _ (List.getElem_mem h1)
  have b2 := hy _ (List.getElem_mem h2)
  have h4 := congrArg UInt8.toNat h3
  rw [UInt8.toNat_ofNat', UInt8.toNat_ofNat'] at h4
  omega
theorem le4_is (S : Nat) (h : S < 4294967296) : Cr.le4 S = [(S : Int) % 256, (S : Int) / 256 % 256, (S : Int) / 65536 % 256, (S : Int) / 16777216] := by
  simp only [Cr.le4, List.cons.injEq, and_true]
  omega
/-- a row that was made later -/
theorem ownsRow_lower {w : World} {e : TypeId} {s n : Nat} {v : Value} {xs : List Value} {b b' : Nat} (h : w.ownsRow b e s v n xs) (hb : b' ≤ b) : w.ownsRow b' e s v n xs := by
  refine ⟨h.1, ?_⟩
  rcases h.2 with h | ⟨g, cap, cur, hv, hg, rest⟩
  · exact .inl h
  · exact .inr ⟨g, cap, cur, hv, by omega, rest⟩

end Go.Proofs.Ytoaclbdlgkgnpaa

namespace Go.Proofs.Ytoaclbdlgkgnpaa
open Go.RowKit Go.Shelf
set_option maxRecDepth 100000
attribute [local go_sem] Oper.semAt_some

/-- what sum answers -/
def SumR (w w' : World) (L : List Int) (e : Ending) : Prop := ∃ g, w.heap.size ≤ g ∧ e = .returned (.slice (some ⟨g, 0, none⟩) 4 4) ∧ Nums .u8 w' w'.heap.size (some ⟨g, 0, none⟩) L
end Go.Proofs.Ytoaclbdlgkgnpaa
