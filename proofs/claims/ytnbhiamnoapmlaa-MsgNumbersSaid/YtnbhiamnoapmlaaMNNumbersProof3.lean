/-
  A part of the texts of one proof, put together: Q3, Q11, Q8, Q15, Q21, MsgK, Q20, Q22, MsgJ, MsgW, MsgV.
-/
import Derived.OrdersIn
import Derived.TacticsIn
import Derived.RangeFuncCalls
import Derived.Deep.WholeRow
import Derived.Deep.MidRow
import Derived.Laws.CopyRow
import Derived.OwnWalkIn
import Derived.Test.YtnbhiamnoapmlaaMNNumbersProof2
namespace Go.Proofs.Ytnbhiamnoapmlaa
section
variable {P : Program} {ops : Array Oper} {md : Region.Mode}

/-- 0: it looks at no memory and enters no function; 1: a load; 2: a store; 3: all others -/
def kind3 (o : Oper) : Nat :=
  if pureOp o then 0 else match o.op with
    | .load _ _ => 1
    | .store _ _ _ => 2
    | _ => 3
theorem kind3_pure {o : Oper} (h : kind3 o = 0) : kindOf o = 0 := by
  unfold kind3 at h
  unfold kindOf
  split at h
  · rename_i hp; rw [if_pos hp]
  · split at h <;> simp at h
theorem kind3_load {o : Oper} (h : kind3 o = 1) : ∃ t x, o.op = .load t x := by
  unfold kind3 at h
  split at h
  · simp at h
  · split at h
    · exact ⟨_, _, by assumption⟩
    · simp at h
    · simp at h
theorem load_no_enter {o : Oper} {t : TypeId} {x : Operand} (ho : o.op = .load t x) (ρ : Operand → Value) (w w' : World) (f : FuncId) (args : Array Value) : (execOp ρ o).run P w ≠ .ok (.enter f args) w' := by
  unfold execOp
  simp only [ho]
  exact run_value _ _ _ _ _
theorem yields_load {o : Oper} {v : Value} {a : Act} {C D : World → Prop} (hk : kind3 o = 1) (h : YieldsIn P ops C o v a) (hD : ∀ w, D w → C w) : YieldsIn P ops D o v a := by
  obtain ⟨t, x, ho⟩ := kind3_load hk
  rcases h with ⟨hw, h⟩ | h
  · refine .inl ⟨hw, fun w hwD => ?_⟩
    have h1 := h w (hD w hwD)
    have h2 := load_no_enter (P := P) ho a.eval w
    unfold Oper.quietAt at h1 ⊢
    generalize (execOp a.eval o).run P w = r at h1 h2
    cases r with
    | ok n w' =>
      cases n with
      | enter f args => exact absurd rfl (h2 w' f args)
      | _ => exact h1
    | halt x w' => exact h1
  · exact .inr h

def famUpon (P : Program) (V : Value → Prop) (C' : Value → World → Prop) : Result Next → Prop
  | .ok (.value u) w' => V u ∧ C' u w'
  | .ok (.enter f args) w' => Calls P f args w' fun e w'' => ∃ v, e = .returned v ∧ V v ∧ C' v w''
  | _ => False
/-- one operation, in a class of worlds -/
def Step3 (P : Program) (ops : Array Oper) (o : Oper) (a : Act) (C : World → Prop) (K : (World → Prop) → Act → Prop) : Prop :=
  (kind3 o = 0 ∧ ∃ v, YieldsIn P ops (fun _ => True) o v a ∧ K C (a.put o.dst v)) ∨
  (kind3 o = 1 ∧ ∃ v, YieldsIn P ops C o v a ∧ K C (a.put o.dst v)) ∨
  (kind3 o = 2 ∧ ∃ v C', StepsIn P ops C C' o v a ∧ K C' (a.put o.dst v)) ∨
  (kind3 o = 3 ∧ ((Region.wanted o (yielded ops a.tmps) = false ∧ K C (a.put o.dst undef)) ∨ (Region.wanted o (yielded ops a.tmps) = true ∧ ∃ (V : Value → Prop) (C' : Value → World → Prop), (∀ v w, C' v w → C w) ∧ (∀ w, C w → famUpon P V C' ((execOp a.eval o).run P w)) ∧ ∀ v, V v → K (C' v) (a.put o.dst v))))

def wpAny3 (P : Program) (md : Region.Mode) (ops : Array Oper) (Q : (World → Prop) → Act → Prop) : Nat → Array Bool → (World → Prop) → Act → Prop
  | 0, listed, C, a => Region.ready md ops listed = [] ∧ Q C a
  | fuel + 1, listed, C, a =>
    (Region.ready md ops listed = [] → Q C a) ∧
    ∀ i ∈ Region.ready md ops listed, ∀ o, ops[i]? = some o → Step3 P ops o a C (wpAny3 P md ops Q fuel (listed.setIfInBounds i true))
theorem Step3.wpOp {C : World → Prop} {i : Nat} {o : Oper} {a : Act} {K : (World → Prop) → Act → Prop} {K' : Act → World → Prop} {Q' : Exit → Act → World → Prop} {w : World} (hi : ops[i]? = some o) (h : Step3 P ops o a C K) (hC : C w) (hK : ∀ (C' : World → Prop) a' w', C' w' → K C' a' → K' a' w') : wpOp P ops Q' i K' a w := by
  rcases h with ⟨hk, v, hy, hn⟩ | ⟨hk, v, hy, hn⟩ | ⟨hk, v, C', hy, hn⟩ | ⟨hk, h⟩
  · exact OpR.wpOp (C := C) (C' := C) hi (.inl ⟨kind3_pure hk, rfl, hy⟩) hC fun w' hw' => hK C _ w' hw' hn
  · have hk1 : kindOf o = 1 := by
      obtain ⟨t, x, ho⟩ := kind3_load hk
      simp [kindOf, pureOp, ho]
    exact OpR.wpOp (C := C) (C' := C) hi (.inr (.inl ⟨hk1, rfl, hy⟩)) hC fun w' hw' => hK C _ w' hw' hn
  · have hk2 : kindOf o = 2 := by
      unfold kind3 at hk
      unfold kindOf
      split at hk
      · simp at hk
      · rename_i hp
        rw [if_neg hp]
        split at hk
        · simp at hk
        · rename_i heq; simp [heq]
        · simp at hk
    exact OpR.wpOp (C := C) (C' := C') hi (.inr (.inr ⟨hk2, hy⟩)) hC fun w' hw' => hK C' _ w' hw' hn
  · unfold Go.wpOp
    simp only [hi]
    rcases h with ⟨hw, hn⟩ | ⟨hw, V, C', _, hv, hn⟩
    · simp only [hw, Bool.false_eq_true, if_false]
      exact hK C _ w hC hn
    · simp only [hw, if_true]
      left
      have h1 := hv w hC
      unfold Oper.wp
      generalize (execOp a.eval o).run P w = r at h1
      cases r with
      | ok n w' =>
        cases n <;> simp only [famUpon] at h1 <;> simp only [Oper.upon]
        case value u => exact hK (C' u) _ w' h1.2 (hn u h1.1)
        case enter f args =>
          refine h1.mono fun e w'' ⟨v, he, hV, hc⟩ => ?_
          subst he
          exact hK (C' v) _ w'' hc (hn v hV)
      | halt x w' => simp only [famUpon] at h1
theorem wpAny_of_3 {Q : (World → Prop) → Act → Prop} {Q' : Exit → Act → World → Prop} (hQ : ∀ (C : World → Prop) a w, C w → Q C a → Q' .normal a w) : ∀ (fuel : Nat) (listed : Array Bool) (C : World → Prop) (a : Act) (w : World), C w →
    wpAny3 P md ops Q fuel listed C a → wpAny P md ops Q' fuel listed a w
  | 0, _, _, _, _, hw, h => ⟨h.1, hQ _ _ _ hw h.2⟩
  | fuel + 1, _, _, _, _, hw, h => ⟨fun h0 => hQ _ _ _ hw (h.1 h0), fun i hi => by
      obtain ⟨_, o, ho, _⟩ := mem_ready.1 hi
      exact (h.2 i hi o ho).wpOp ho hw fun C' a' w' hw' hn => wpAny_of_3 hQ fuel _ C' a' w' hw' hn⟩

/-- what waits for k, through others too -/
def blocked (md : Region.Mode) (ops : Array Oper) (k : Nat) : Array Bool :=
  (List.range ops.size).foldl (fun u j => u.push (j == k || (match ops[j]? with | some oj => oj.after.any (fun e => Region.binds md e && u.getD e.on false) | none => false))) #[]
def free3 (md : Region.Mode) (ops : Array Oper) (listed : Array Bool) (k : Nat) : Bool :=
  let U := blocked md ops k
  U.getD k false && U.size == ops.size &&
  match ops[k]? with
  | none => false
  | some ok => (List.range ops.size).all fun j =>
    match ops[j]? with
    | some oj =>
      if U.getD j false then !listed.getD j false && (j == k || oj.after.any (fun e => Region.binds md e && U.getD e.on false))
      else listed.getD j true || (ok.apart ops oj && (kind3 ok == 0 || (kind3 ok == 1 && kind3 oj != 2)))
    | none => true
structure Free3 (md : Region.Mode) (ops : Array Oper) (listed : Array Bool) (i : Nat) (oi : Oper) (U : Array Bool) : Prop where
  size : U.size = ops.size
  own : U.getD i false = true
  wait : ∀ j oj, ops[j]? = some oj → U.getD j false = true → j ≠ i → ∃ e ∈ oj.after, Region.binds md e = true ∧ U.getD e.on false = true
  un : ∀ j, U.getD j false = true → listed.getD j false = false
  free : ∀ j oj, ops[j]? = some oj → U.getD j false = false → listed.getD j true = false → oi.apart ops oj = true ∧ (kind3 oi = 0 ∨ (kind3 oi = 1 ∧ kind3 oj ≠ 2))
theorem free3_spec {i : Nat} {oi : Oper} {listed : Array Bool} (hi : ops[i]? = some oi) (h : free3 md ops listed i = true) : Free3 md ops listed i oi (blocked md ops i) := by
  simp only [free3, hi, List.all_eq_true, List.mem_range, Bool.and_eq_true, beq_iff_eq] at h
  obtain ⟨⟨hown, hsz⟩, h⟩ := h
  have at_ : ∀ j oj, ops[j]? = some oj → (if (blocked md ops i).getD j false = true then (!listed.getD j false && (j == i || oj.after.any (fun e => Region.binds md e && (blocked md ops i).getD e.on false))) = true
      else (listed.getD j true || (oi.apart ops oj && (kind3 oi == 0 || (kind3 oi == 1 && kind3 oj != 2)))) = true) := fun j oj hj => by
    have h1 := h j (Array.getElem?_eq_some_iff.1 hj).1
    simp only [hj] at h1
    split at h1 <;> rename_i hu
    · rw [if_pos hu]; exact h1
    · rw [if_neg hu]; exact h1
  refine ⟨hsz, hown, fun j oj hj hu hne => ?_, fun j hu => ?_, fun j oj hj hu hun => ?_⟩
  · have h1 := at_ j oj hj
    rw [if_pos hu] at h1
    simp only [Bool.and_eq_true, Bool.or_eq_true, beq_iff_eq, hne, false_or] at h1
    obtain ⟨e, he, hb⟩ := Array.any_eq_true'.1 h1.2
    simp only [Bool.and_eq_true] at hb
    exact ⟨e, he, hb.1, hb.2⟩
  · have hlt : j < ops.size := by
      rw [← hsz]
      rcases Nat.lt_or_ge j (blocked md ops i).size with h' | h'
      · exact h'
      · simp [Array.getElem?_eq_none h'] at hu
    have h1 := at_ j _ (Array.getElem?_eq_getElem hlt)
    rw [if_pos hu] at h1
    simp only [Bool.and_eq_true, Bool.not_eq_true'] at h1
    exact h1.1
  · have h1 := at_ j oj hj
    rw [if_neg (by rw [hu]; exact Bool.false_ne_true)] at h1
    simp only [hun, Bool.or_eq_true, Bool.false_eq_true, false_or, Bool.and_eq_true, beq_iff_eq, bne_iff_ne, ne_eq] at h1
    exact h1
theorem Free3.ready {i j : Nat} {oi oj : Oper} {listed U : Array Bool} (h : Free3 md ops listed i oi U) (hj : ops[j]? = some oj) (hji : j ≠ i) (hall : ∀ e ∈ oj.after, Region.binds md e = true → listed.getD e.on false = true) : U.getD j false = false := by
  cases hu : U.getD j false with
  | false => rfl
  | true =>
    obtain ⟨e, he, hb, hue⟩ := h.wait j oj hj hu hji
    have h1 := hall e he hb
    rw [h.un e.on hue] at h1
    cases h1
theorem Free3.set {i j : Nat} {oi : Oper} {listed U : Array Bool} (h : Free3 md ops listed i oi U) (hu : U.getD j false = false) : Free3 md ops (listed.setIfInBounds j true) i oi U := by
  refine ⟨h.size, h.own, h.wait, fun k hk => ?_, fun k ok hk hku hun => h.free k ok hk hku ?_⟩
  · have hne : j ≠ k := fun e => by subst e; rw [hu] at hk; cases hk
    rw [getD_set_ne false hne]; exact h.un k hk
  · by_cases hjk : j = k
    · subst hjk
      rcases Nat.lt_or_ge j listed.size with h' | h'
      · simp [h'] at hun
      · simp [Array.getElem?_eq_none (show (listed.setIfInBounds j true).size ≤ j by simpa using h')] at hun
    · rw [getD_set_ne true hjk] at hun; exact hun
/-- an operation apart: its step is the same whether another's value is in its slot or not -/
theorem Step3.put {oi oj : Oper} {v : Value} {a : Act} {C : World → Prop} {K1 K2 : (World → Prop) → Act → Prop} (hap : oi.apart ops oj = true) (hsj : ∀ cs b, oj.op ≠ .select cs b)
    (hK : ∀ (C' : World → Prop) u, (C' = C ∨ (kind3 oj = 3 ∧ ∀ w, C' w → C w) ∨ kind3 oj = 2) → K1 C' ((a.put oi.dst v).put oj.dst u) → K2 C' (a.put oj.dst u)) (h : Step3 P ops oj (a.put oi.dst v) C K1) : Step3 P ops oj a C K2 := by
  obtain ⟨p1, p2, p3⟩ := Oper.apart_spec hap
  have he := execOp_put oj hsj a oi.dst v p1
  have hw := wanted_put oj a oi.dst v p1
  rcases h with ⟨hk, u, hy, hn⟩ | ⟨hk, u, hy, hn⟩ | ⟨hk, u, C', hy, hn⟩ | ⟨hk, h⟩
  · exact .inl ⟨hk, u, hy.of_same he.symm hw.symm, hK C u (.inl rfl) hn⟩
  · exact .inr (.inl ⟨hk, u, hy.of_same he.symm hw.symm, hK C u (.inl rfl) hn⟩)
  · refine .inr (.inr (.inl ⟨hk, u, C', ?_, hK C' u (.inr (.inr hk)) hn⟩))
    unfold StepsIn at hy ⊢
    rwa [he, hw] at hy
  · refine .inr (.inr (.inr ⟨hk, ?_⟩))
    rcases h with ⟨hwf, hn⟩ | ⟨hwt, V, C', hsub, hv, hn⟩
    · exact .inl ⟨by rw [← hw]; exact hwf, hK C undef (.inl rfl) hn⟩
    · exact .inr ⟨by rw [← hw]; exact hwt, V, C', hsub, by rwa [he] at hv, fun u hu => hK (C' u) u (.inr (.inl ⟨hk, hsub u⟩)) (hn u hu)⟩
theorem wpAny3_first {Q : (World → Prop) → Act → Prop} {i : Nat} {oi : Oper} (hi : ops[i]? = some oi) (hsel : ∀ (j : Nat) (o : Oper) cs b, ops[j]? = some o → o.op ≠ .select cs b) :
    ∀ (fuel : Nat) (listed : Array Bool) (C : World → Prop) (a : Act) (U : Array Bool), Free3 md ops listed i oi U → i ∈ Region.ready md ops listed →
      Step3 P ops oi a C (wpAny3 P md ops Q fuel (listed.setIfInBounds i true)) → wpAny3 P md ops Q (fuel + 1) listed C a := by
  intro fuel
  induction fuel with
  | zero =>
    intro listed C a U hfree hr H
    refine ⟨fun h => (by rw [h] at hr; cases hr), fun j hj o ho => ?_⟩
    by_cases hji : j = i
    · subst hji
      have : o = oi := Option.some.inj (ho.symm.trans hi)
      subst this
      exact H
    · exfalso
      have hmono := ready_mono hj hji
      obtain ⟨hjun, oj', hoj', hall⟩ := mem_ready.1 hj
      have hju := hfree.ready hoj' hji hall
      obtain ⟨_, hkind⟩ := hfree.free j oj' hoj' hju hjun
      have nil : ∀ {C' : World → Prop} {a' : Act}, wpAny3 P md ops Q 0 (listed.setIfInBounds i true) C' a' → False := fun h => by
        rw [h.1] at hmono; cases hmono
      rcases H with ⟨_, _, _, hn⟩ | ⟨_, _, _, hn⟩ | ⟨hk, _⟩ | ⟨hk, _⟩
      · exact nil hn
      · exact nil hn
      · rcases hkind with h | ⟨h, _⟩ <;> rw [hk] at h <;> simp at h
      · rcases hkind with h | ⟨h, _⟩ <;> rw [hk] at h <;> simp at h
  | succ fuel ih =>
    intro listed C a U hfree hr H
    refine ⟨fun h => (by rw [h] at hr; cases hr), fun j hj oj hoj => ?_⟩
    by_cases hji : j = i
    · subst hji
      have : oj = oi := Option.some.inj (hoj.symm.trans hi)
      subst this
      exact H
    · obtain ⟨hjun, oj', hoj', hall⟩ := mem_ready.1 hj
      have : oj' = oj := Option.some.inj (hoj'.symm.trans hoj)
      subst this
      have hju := hfree.ready hoj' hji hall
      obtain ⟨hap, hkind⟩ := hfree.free j oj' hoj hju hjun
      obtain ⟨p1, p2, p3⟩ := Oper.apart_spec hap
      have hsi : ∀ cs b, oi.op ≠ .select cs b := fun cs b => hsel i oi cs b hi
      have hsj : ∀ cs b, oj'.op ≠ .select cs b := fun cs b => hsel j oj' cs b hoj
      have hfree' := hfree.set hju
      have hr' := ready_mono hr (Ne.symm hji)
      have next : ∀ v, (kind3 oi = 0 ∧ YieldsIn P ops (fun _ => True) oi v a ∨ kind3 oi = 1 ∧ YieldsIn P ops C oi v a) → wpAny3 P md ops Q (fuel + 1) (listed.setIfInBounds i true) C (a.put oi.dst v) → Step3 P ops oj' a C (wpAny3 P md ops Q (fuel + 1) (listed.setIfInBounds j true)) := by
        intro v hy hn
        refine Step3.put (v := v) hap hsj (fun C' u hC' h3 => ih _ C' _ U hfree' hr' ?_) (hn.2 j (ready_mono hj hji) oj' hoj)
        have h4 : wpAny3 P md ops Q fuel ((listed.setIfInBounds j true).setIfInBounds i true) C' ((a.put oj'.dst u).put oi.dst v) := by
          rw [Array.setIfInBounds_comm _ _ hji]
          rw [Act.put_comm a v u p2] at h3
          exact h3
        have hs1 := execOp_put oi hsi a oj'.dst u p3
        have hs2 := wanted_put oi a oj'.dst u p3
        rcases hy with ⟨hk, hy⟩ | ⟨hk, hy⟩
        · exact .inl ⟨hk, v, hy.of_same hs1 hs2, h4⟩
        · refine .inr (.inl ⟨hk, v, yields_load hk (hy.of_same hs1 hs2) ?_, h4⟩)
          rcases hC' with rfl | ⟨_, h⟩ | h
          · exact fun _ h => h
          · exact h
          · rcases hkind with h' | ⟨_, h'⟩
            · rw [hk] at h'; simp at h'
            · exact absurd h h'
      rcases H with ⟨hk, v, hy, hn⟩ | ⟨hk, v, hy, hn⟩ | ⟨hk, _⟩ | ⟨hk, _⟩
      · exact next v (.inl ⟨hk, hy⟩) hn
      · exact next v (.inr ⟨hk, hy⟩) hn
      · rcases hkind with h | ⟨h, _⟩ <;> rw [hk] at h <;> simp at h
      · rcases hkind with h | ⟨h, _⟩ <;> rw [hk] at h <;> simp at h

/-- may the operations be walked in this order? -/
def orderB (md : Region.Mode) (ops : Array Oper) : List Nat → Array Bool → Bool
  | [], listed => (Region.ready md ops listed).isEmpty
  | k :: r, listed => (Region.ready md ops listed).contains k && free3 md ops listed k && orderB md ops r (listed.setIfInBounds k true)
def order3 (md : Region.Mode) (ops : Array Oper) (ks : List Nat) : Bool := Region.noSelect ops && ks.length == ops.size && orderB md ops ks (Array.replicate ops.size false)
/-- the walk in that order -/
def wpO3 (P : Program) (ops : Array Oper) (Q : (World → Prop) → Act → Prop) : List Nat → (World → Prop) → Act → Prop
  | [], C, a => Q C a
  | k :: r, C, a => ∃ o, ops[k]? = some o ∧ Step3 P ops o a C (wpO3 P ops Q r)
theorem Step3.mono {o : Oper} {a : Act} {C : World → Prop} {K K' : (World → Prop) → Act → Prop} (h : Step3 P ops o a C K) (hK : ∀ C a, K C a → K' C a) : Step3 P ops o a C K' := by
  rcases h with ⟨hk, v, hy, hn⟩ | ⟨hk, v, hy, hn⟩ | ⟨hk, v, C', hy, hn⟩ | ⟨hk, h⟩
  · exact .inl ⟨hk, v, hy, hK _ _ hn⟩
  · exact .inr (.inl ⟨hk, v, hy, hK _ _ hn⟩)
  · exact .inr (.inr (.inl ⟨hk, v, C', hy, hK _ _ hn⟩))
  · refine .inr (.inr (.inr ⟨hk, ?_⟩))
    rcases h with ⟨hw, hn⟩ | ⟨hw, V, C', hs, hv, hn⟩
    · exact .inl ⟨hw, hK _ _ hn⟩
    · exact .inr ⟨hw, V, C', hs, hv, fun v hV => hK _ _ (hn v hV)⟩
theorem wpAny3_order {Q : (World → Prop) → Act → Prop} (hs : Region.noSelect ops = true) : ∀ (ks : List Nat) (listed : Array Bool) (C : World → Prop) (a : Act),
    orderB md ops ks listed = true → wpO3 P ops Q ks C a → wpAny3 P md ops Q ks.length listed C a
  | [], _, _, _, hB, h => ⟨by simpa [orderB] using hB, h⟩
  | k :: r, listed, C, a, hB, h => by
    obtain ⟨o, ho, h⟩ := h
    simp only [orderB, Bool.and_eq_true] at hB
    obtain ⟨⟨hr, hf⟩, hB'⟩ := hB
    exact wpAny3_first ho (Region.noSelect_spec hs) r.length listed C a _ (free3_spec ho hf) (by simpa using hr) (h.mono fun C' a' hn => wpAny3_order hs r _ C' a' hB' hn)
theorem wp_region_order {id : Nat} {Q : Exit → Act → World → Prop} {a : Act} {w : World} {l : List Oper} (ks : List Nat) {C : World → Prop} (hm : P.follows .mixedOrders = true) (hB : order3 .any l.toArray ks = true) (hC : C w.drew)
    (h : wpO3 P l.toArray (fun C a' => ∀ w', C w' → Q .normal a' w') ks C a) : (Code.region id l.toArray true).wp P Q a w := by
  simp only [order3, Bool.and_eq_true, beq_iff_eq] at hB
  refine wp_region_any hm (wpAny_of_3 (Q := fun C a' => ∀ w', C w' → Q .normal a' w') (fun C a w' hw' h => h w' hw') _ _ C _ _ hC ?_)
  have := wpAny3_order (md := .any) hB.1.1 ks (Array.replicate l.toArray.size false) C a hB.2 h
  rwa [hB.1.2] at this
/-! one operation of the walk -/
theorem yields_of_quiet {o : Oper} {C : World → Prop} {a : Act} {K : Act → Prop} (h : wpQuiet P ops C K [o] a) : ∃ v, YieldsIn P ops C o v a ∧ K (a.put o.dst v) := by
  unfold wpQuiet at h
  by_cases hw : Region.wanted o (yielded ops a.tmps) = true
  · simp only [hw, if_true] at h
    obtain ⟨v, h1, h2⟩ := h
    exact ⟨v, .inl ⟨hw, h1⟩, h2⟩
  · simp only [hw] at h
    exact ⟨undef, .inr ⟨by simpa using hw, rfl⟩, h⟩
theorem wpO3_pure {Q : (World → Prop) → Act → Prop} {o : Oper} {k : Nat} {r : List Nat} {C : World → Prop} {a : Act} (ho : ops[k]? = some o) (hk : kind3 o = 0) (h : wpQuiet P ops (fun _ => True) (fun a' => wpO3 P ops Q r C a') [o] a) : wpO3 P ops Q (k :: r) C a :=
  ⟨o, ho, .inl ⟨hk, yields_of_quiet h⟩⟩
theorem wpO3_load {Q : (World → Prop) → Act → Prop} {o : Oper} {k : Nat} {r : List Nat} {C : World → Prop} {a : Act} (ho : ops[k]? = some o) (hk : kind3 o = 1) (h : wpQuiet P ops C (fun a' => wpO3 P ops Q r C a') [o] a) : wpO3 P ops Q (k :: r) C a :=
  ⟨o, ho, .inr (.inl ⟨hk, yields_of_quiet h⟩)⟩
theorem wpO3_skip {Q : (World → Prop) → Act → Prop} {o : Oper} {k : Nat} {r : List Nat} {C : World → Prop} {a : Act} (ho : ops[k]? = some o) (hk : kind3 o = 3) (hw : Region.wanted o (yielded ops a.tmps) = false) (h : wpO3 P ops Q r C (a.put o.dst undef)) : wpO3 P ops Q (k :: r) C a :=
  ⟨o, ho, .inr (.inr (.inr ⟨hk, .inl ⟨hw, h⟩⟩))⟩
/-- a call: by its contract, in every world of the class -/
theorem wpO3_call {Q : (World → Prop) → Act → Prop} {o : Oper} {k : Nat} {r : List Nat} {C : World → Prop} {a : Act} (V : Value → Prop) (C' : Value → World → Prop) {f : FuncId} {args : Array Value} (ho : ops[k]? = some o) (hk : kind3 o = 3) (hw : Region.wanted o (yielded ops a.tmps) = true) (hsub : ∀ v w, C' v w → C w)
    (hrun : ∀ w, (execOp a.eval o).run P w = .ok (.enter f args) w) (hc : ∀ w, C w → Calls P f args w fun e w'' => ∃ v, e = .returned v ∧ V v ∧ C' v w'') (h : ∀ v, V v → wpO3 P ops Q r (C' v) (a.put o.dst v)) : wpO3 P ops Q (k :: r) C a :=
  ⟨o, ho, .inr (.inr (.inr ⟨hk, .inr ⟨hw, V, C', hsub, fun w hC => by rw [hrun w]; exact hc w hC, h⟩⟩))⟩
/-- a load, by what every world of the class holds there -/
theorem wpO3_load1 {Q : (World → Prop) → Act → Prop} {o : Oper} {k : Nat} {r : List Nat} {C : World → Prop} {a : Act} {t : TypeId} {x : Operand} {ad : Addr} (v : Value) (ho : ops[k]? = some o) (hop : o.op = .load t x) (hw : Region.wanted o (yielded ops a.tmps) = true) (hx : a.eval x = .pointer (some ad))
    (hrun : ∀ w, C w → (Instr.loadAt t (.pointer (some ad))).run P w = .ok v w) (h : wpO3 P ops Q r C (a.put o.dst v)) : wpO3 P ops Q (k :: r) C a := by
  refine ⟨o, ho, .inr (.inl ⟨by simp [kind3, pureOp, hop], v, .inl ⟨hw, fun w hC => ?_⟩, h⟩)⟩
  unfold Oper.quietAt execOp
  simp only [hop, hx]
  rw [Sem.run_bind, hrun w hC]
  exact ⟨rfl, rfl⟩
/-! the same, the region's operations as a list: so each operation comes written out -/
section
variable {l : List Oper} {Q : (World → Prop) → Act → Prop} {o : Oper} {k : Nat} {r : List Nat} {C : World → Prop} {a : Act}
theorem at_list (ho : l[k]? = some o) : l.toArray[k]? = some o := by simpa using ho
theorem wpO3_pureL (ho : l[k]? = some o) (hk : kind3 o = 0) (h : wpQuiet P l.toArray (fun _ => True) (fun a' => wpO3 P l.toArray Q r C a') [o] a) : wpO3 P l.toArray Q (k :: r) C a := wpO3_pure (at_list ho) hk h
theorem wpO3_skipL (ho : l[k]? = some o) (hk : kind3 o = 3) (hw : Region.wanted o (yielded l.toArray a.tmps) = false) (h : wpO3 P l.toArray Q r C (a.put o.dst undef)) : wpO3 P l.toArray Q (k :: r) C a := wpO3_skip (at_list ho) hk hw h
theorem wpO3_callL (V : Value → Prop) (C' : Value → World → Prop) {f : FuncId} {args : Array Value} (ho : l[k]? = some o) (hk : kind3 o = 3) (hw : Region.wanted o (yielded l.toArray a.tmps) = true) (hsub : ∀ v w, C' v w → C w)
    (hrun : ∀ w, (execOp a.eval o).run P w = .ok (.enter f args) w) (hc : ∀ w, C w → Calls P f args w fun e w'' => ∃ v, e = .returned v ∧ V v ∧ C' v w'') (h : ∀ v, V v → wpO3 P l.toArray Q r (C' v) (a.put o.dst v)) : wpO3 P l.toArray Q (k :: r) C a := wpO3_call V C' (at_list ho) hk hw hsub hrun hc h
theorem wpO3_loadL {t : TypeId} {x : Operand} {ad : Addr} (v : Value) (ho : l[k]? = some o) (hop : o.op = .load t x) (hw : Region.wanted o (yielded l.toArray a.tmps) = true) (hx : a.eval x = .pointer (some ad))
    (hrun : ∀ w, C w → (Instr.loadAt t (.pointer (some ad))).run P w = .ok v w) (h : wpO3 P l.toArray Q r C (a.put o.dst v)) : wpO3 P l.toArray Q (k :: r) C a := wpO3_load1 v (at_list ho) hop hw hx hrun h
end
end
end Go.Proofs.Ytnbhiamnoapmlaa

namespace Go.Proofs.Ytnbhiamnoapmlaa
section
variable {P : Program} {ops : Array Oper} {md : Region.Mode} {I : World → Prop}

/-- one operation, in a class of worlds -/
def Step4 (P : Program) (ops : Array Oper) (I : World → Prop) (o : Oper) (a : Act) (C : World → Prop) (K : (World → Prop) → Act → Prop) : Prop :=
  (kind3 o = 0 ∧ ∃ v, YieldsIn P ops (fun _ => True) o v a ∧ K C (a.put o.dst v)) ∨
  (kind3 o = 1 ∧ ∃ v, YieldsIn P ops I o v a ∧ K C (a.put o.dst v)) ∨
  (kind3 o = 2 ∧ ∃ v C', (∀ w, C' w → I w) ∧ StepsIn P ops C C' o v a ∧ K C' (a.put o.dst v)) ∨
  (kind3 o = 3 ∧ ((Region.wanted o (yielded ops a.tmps) = false ∧ K C (a.put o.dst undef)) ∨ (Region.wanted o (yielded ops a.tmps) = true ∧ ∃ (V : Value → Prop) (C' : Value → World → Prop), (∀ v w, C' v w → I w) ∧ (∀ w, C w → famUpon P V C' ((execOp a.eval o).run P w)) ∧ ∀ v, V v → K (C' v) (a.put o.dst v))))

def wpAny4 (P : Program) (md : Region.Mode) (ops : Array Oper) (I : World → Prop) (Q : (World → Prop) → Act → Prop) : Nat → Array Bool → (World → Prop) → Act → Prop
  | 0, listed, C, a => Region.ready md ops listed = [] ∧ Q C a
  | fuel + 1, listed, C, a =>
    (Region.ready md ops listed = [] → Q C a) ∧
    ∀ i ∈ Region.ready md ops listed, ∀ o, ops[i]? = some o → Step4 P ops I o a C (wpAny4 P md ops I Q fuel (listed.setIfInBounds i true))
theorem Step4.wpOp {C : World → Prop} {i : Nat} {o : Oper} {a : Act} {K : (World → Prop) → Act → Prop} {K' : Act → World → Prop} {Q' : Exit → Act → World → Prop} {w : World} (hi : ops[i]? = some o) (h : Step4 P ops I o a C K) (hC : C w) (hCI : ∀ w, C w → I w) (hK : ∀ (C' : World → Prop) a' w', C' w' → (∀ w, C' w → I w) → K C' a' → K' a' w') : wpOp P ops Q' i K' a w := by
  rcases h with ⟨hk, v, hy, hn⟩ | ⟨hk, v, hy, hn⟩ | ⟨hk, v, C', hI, hy, hn⟩ | ⟨hk, h⟩
  · exact OpR.wpOp (C := C) (C' := C) hi (.inl ⟨kind3_pure hk, rfl, hy⟩) hC fun w' hw' => hK C _ w' hw' hCI hn
  · have hk1 : kindOf o = 1 := by
      obtain ⟨t, x, ho⟩ := kind3_load hk
      simp [kindOf, pureOp, ho]
    exact OpR.wpOp (C := C) (C' := C) hi (.inr (.inl ⟨hk1, rfl, yields_load hk hy hCI⟩)) hC fun w' hw' => hK C _ w' hw' hCI hn
  · have hk2 : kindOf o = 2 := by
      unfold kind3 at hk
      unfold kindOf
      split at hk
      · simp at hk
      · rename_i hp
        rw [if_neg hp]
        split at hk
        · simp at hk
        · rename_i heq; simp [heq]
        · simp at hk
    exact OpR.wpOp (C := C) (C' := C') hi (.inr (.inr ⟨hk2, hy⟩)) hC fun w' hw' => hK C' _ w' hw' hI hn
  · unfold Go.wpOp
    simp only [hi]
    rcases h with ⟨hw, hn⟩ | ⟨hw, V, C', hI, hv, hn⟩
    · simp only [hw, Bool.false_eq_true, if_false]
      exact hK C _ w hC hCI hn
    · simp only [hw, if_true]
      left
      have h1 := hv w hC
      unfold Oper.wp
      generalize (execOp a.eval o).run P w = r at h1
      cases r with
      | ok n w' =>
        cases n <;> simp only [famUpon] at h1 <;> simp only [Oper.upon]
        case value u => exact hK (C' u) _ w' h1.2 (hI u) (hn u h1.1)
        case enter f args =>
          refine h1.mono fun e w'' ⟨v, he, hV, hc⟩ => ?_
          subst he
          exact hK (C' v) _ w'' hc (hI v) (hn v hV)
      | halt x w' => simp only [famUpon] at h1
theorem wpAny_of_4 {Q : (World → Prop) → Act → Prop} {Q' : Exit → Act → World → Prop} (hQ : ∀ (C : World → Prop) a w, C w → Q C a → Q' .normal a w) : ∀ (fuel : Nat) (listed : Array Bool) (C : World → Prop) (a : Act) (w : World), C w → (∀ w, C w → I w) →
    wpAny4 P md ops I Q fuel listed C a → wpAny P md ops Q' fuel listed a w
  | 0, _, _, _, _, hw, _, h => ⟨h.1, hQ _ _ _ hw h.2⟩
  | fuel + 1, _, _, _, _, hw, hI, h => ⟨fun h0 => hQ _ _ _ hw (h.1 h0), fun i hi => by
      obtain ⟨_, o, ho, _⟩ := mem_ready.1 hi
      exact (h.2 i hi o ho).wpOp ho hw hI fun C' a' w' hw' hI' hn => wpAny_of_4 hQ fuel _ C' a' w' hw' hI' hn⟩
/-- an operation apart: its step is the same whether another's value is in its slot or not -/
theorem Step4.put {oi oj : Oper} {v : Value} {a : Act} {C : World → Prop} {K1 K2 : (World → Prop) → Act → Prop} (hap : oi.apart ops oj = true) (hsj : ∀ cs b, oj.op ≠ .select cs b)
    (hK : ∀ (C' : World → Prop) u, K1 C' ((a.put oi.dst v).put oj.dst u) → K2 C' (a.put oj.dst u)) (h : Step4 P ops I oj (a.put oi.dst v) C K1) : Step4 P ops I oj a C K2 := by
  obtain ⟨p1, p2, p3⟩ := Oper.apart_spec hap
  have he := execOp_put oj hsj a oi.dst v p1
  have hw := wanted_put oj a oi.dst v p1
  rcases h with ⟨hk, u, hy, hn⟩ | ⟨hk, u, hy, hn⟩ | ⟨hk, u, C', hI, hy, hn⟩ | ⟨hk, h⟩
  · exact .inl ⟨hk, u, hy.of_same he.symm hw.symm, hK C u hn⟩
  · exact .inr (.inl ⟨hk, u, hy.of_same he.symm hw.symm, hK C u hn⟩)
  · refine .inr (.inr (.inl ⟨hk, u, C', hI, ?_, hK C' u hn⟩))
    unfold StepsIn at hy ⊢
    rwa [he, hw] at hy
  · refine .inr (.inr (.inr ⟨hk, ?_⟩))
    rcases h with ⟨hwf, hn⟩ | ⟨hwt, V, C', hsub, hv, hn⟩
    · exact .inl ⟨by rw [← hw]; exact hwf, hK C undef hn⟩
    · exact .inr ⟨by rw [← hw]; exact hwt, V, C', hsub, by rwa [he] at hv, fun u hu => hK (C' u) u (hn u hu)⟩
/-! as XQ3's, but a load is free of stores too: they stay in I -/
def free4 (md : Region.Mode) (ops : Array Oper) (listed : Array Bool) (k : Nat) : Bool :=
  let U := blocked md ops k
  U.getD k false && U.size == ops.size &&
  match ops[k]? with
  | none => false
  | some ok => (List.range ops.size).all fun j =>
    match ops[j]? with
    | some oj =>
      if U.getD j false then !listed.getD j false && (j == k || oj.after.any (fun e => Region.binds md e && U.getD e.on false))
      else listed.getD j true || (ok.apart ops oj && (kind3 ok == 0 || kind3 ok == 1))
    | none => true
structure Free4 (md : Region.Mode) (ops : Array Oper) (listed : Array Bool) (i : Nat) (oi : Oper) (U : Array Bool) : Prop where
  size : U.size = ops.size
  own : U.getD i false = true
  wait : ∀ j oj, ops[j]? = some oj → U.getD j false = true → j ≠ i → ∃ e ∈ oj.after, Region.binds md e = true ∧ U.getD e.on false = true
  un : ∀ j, U.getD j false = true → listed.getD j false = false
  free : ∀ j oj, ops[j]? = some oj → U.getD j false = false → listed.getD j true = false → oi.apart ops oj = true ∧ (kind3 oi = 0 ∨ kind3 oi = 1)
theorem free4_spec {i : Nat} {oi : Oper} {listed : Array Bool} (hi : ops[i]? = some oi) (h : free4 md ops listed i = true) : Free4 md ops listed i oi (blocked md ops i) := by
  simp only [free4, hi, List.all_eq_true, List.mem_range, Bool.and_eq_true, beq_iff_eq] at h
  obtain ⟨⟨hown, hsz⟩, h⟩ := h
  have at_ : ∀ j oj, ops[j]? = some oj → (if (blocked md ops i).getD j false = true then (!listed.getD j false && (j == i || oj.after.any (fun e => Region.binds md e && (blocked md ops i).getD e.on false))) = true
      else (listed.getD j true || (oi.apart ops oj && (kind3 oi == 0 || kind3 oi == 1))) = true) := fun j oj hj => by
    have h1 := h j (Array.getElem?_eq_some_iff.1 hj).1
    simp only [hj] at h1
    split at h1 <;> rename_i hu
    · rw [if_pos hu]; exact h1
    · rw [if_neg hu]; exact h1
  refine ⟨hsz, hown, fun j oj hj hu hne => ?_, fun j hu => ?_, fun j oj hj hu hun => ?_⟩
  · have h1 := at_ j oj hj
    rw [if_pos hu] at h1
    simp only [Bool.and_eq_true, Bool.or_eq_true, beq_iff_eq, hne, false_or] at h1
    obtain ⟨e, he, hb⟩ := Array.any_eq_true'.1 h1.2
    simp only [Bool.and_eq_true] at hb
    exact ⟨e, he, hb.1, hb.2⟩
  · have hlt : j < ops.size := by
      rw [← hsz]
      rcases Nat.lt_or_ge j (blocked md ops i).size with h' | h'
      · exact h'
      · simp [Array.getElem?_eq_none h'] at hu
    have h1 := at_ j _ (Array.getElem?_eq_getElem hlt)
    rw [if_pos hu] at h1
    simp only [Bool.and_eq_true, Bool.not_eq_true'] at h1
    exact h1.1
  · have h1 := at_ j oj hj
    rw [if_neg (by rw [hu]; exact Bool.false_ne_true)] at h1
    simp only [hun, Bool.or_eq_true, Bool.false_eq_true, false_or, Bool.and_eq_true, beq_iff_eq] at h1
    exact h1
theorem Free4.ready {i j : Nat} {oi oj : Oper} {listed U : Array Bool} (h : Free4 md ops listed i oi U) (hj : ops[j]? = some oj) (hji : j ≠ i) (hall : ∀ e ∈ oj.after, Region.binds md e = true → listed.getD e.on false = true) : U.getD j false = false := by
  cases hu : U.getD j false with
  | false => rfl
  | true =>
    obtain ⟨e, he, hb, hue⟩ := h.wait j oj hj hu hji
    have h1 := hall e he hb
    rw [h.un e.on hue] at h1
    cases h1
theorem Free4.set {i j : Nat} {oi : Oper} {listed U : Array Bool} (h : Free4 md ops listed i oi U) (hu : U.getD j false = false) : Free4 md ops (listed.setIfInBounds j true) i oi U := by
  refine ⟨h.size, h.own, h.wait, fun k hk => ?_, fun k ok hk hku hun => h.free k ok hk hku ?_⟩
  · have hne : j ≠ k := fun e => by subst e; rw [hu] at hk; cases hk
    rw [getD_set_ne false hne]; exact h.un k hk
  · by_cases hjk : j = k
    · subst hjk
      rcases Nat.lt_or_ge j listed.size with h' | h'
      · simp [h'] at hun
      · simp [Array.getElem?_eq_none (show (listed.setIfInBounds j true).size ≤ j by simpa using h')] at hun
    · rw [getD_set_ne true hjk] at hun; exact hun
/-- may the operations be walked in this order? -/
def orderB4 (md : Region.Mode) (ops : Array Oper) : List Nat → Array Bool → Bool
  | [], listed => (Region.ready md ops listed).isEmpty
  | k :: r, listed => (Region.ready md ops listed).contains k && free4 md ops listed k && orderB4 md ops r (listed.setIfInBounds k true)
def order4 (md : Region.Mode) (ops : Array Oper) (ks : List Nat) : Bool := Region.noSelect ops && ks.length == ops.size && orderB4 md ops ks (Array.replicate ops.size false)
theorem wpAny4_first {Q : (World → Prop) → Act → Prop} {i : Nat} {oi : Oper} (hi : ops[i]? = some oi) (hsel : ∀ (j : Nat) (o : Oper) cs b, ops[j]? = some o → o.op ≠ .select cs b) :
    ∀ (fuel : Nat) (listed : Array Bool) (C : World → Prop) (a : Act) (U : Array Bool), Free4 md ops listed i oi U → i ∈ Region.ready md ops listed →
      Step4 P ops I oi a C (wpAny4 P md ops I Q fuel (listed.setIfInBounds i true)) → wpAny4 P md ops I Q (fuel + 1) listed C a := by
  intro fuel
  induction fuel with
  | zero =>
    intro listed C a U hfree hr H
    refine ⟨fun h => (by rw [h] at hr; cases hr), fun j hj o ho => ?_⟩
    by_cases hji : j = i
    · subst hji
      have : o = oi := Option.some.inj (ho.symm.trans hi)
      subst this
      exact H
    · exfalso
      have hmono := ready_mono hj hji
      obtain ⟨hjun, oj', hoj', hall⟩ := mem_ready.1 hj
      have hju := hfree.ready hoj' hji hall
      obtain ⟨_, hkind⟩ := hfree.free j oj' hoj' hju hjun
      have nil : ∀ {C' : World → Prop} {a' : Act}, wpAny4 P md ops I Q 0 (listed.setIfInBounds i true) C' a' → False := fun h => by
        rw [h.1] at hmono; cases hmono
      rcases H with ⟨_, _, _, hn⟩ | ⟨_, _, _, hn⟩ | ⟨hk, _⟩ | ⟨hk, _⟩
      · exact nil hn
      · exact nil hn
      · rcases hkind with h | h <;> rw [hk] at h <;> simp at h
      · rcases hkind with h | h <;> rw [hk] at h <;> simp at h
  | succ fuel ih =>
    intro listed C a U hfree hr H
    refine ⟨fun h => (by rw [h] at hr; cases hr), fun j hj oj hoj => ?_⟩
    by_cases hji : j = i
    · subst hji
      have : oj = oi := Option.some.inj (hoj.symm.trans hi)
      subst this
      exact H
    · obtain ⟨hjun, oj', hoj', hall⟩ := mem_ready.1 hj
      have : oj' = oj := Option.some.inj (hoj'.symm.trans hoj)
      subst this
      have hju := hfree.ready hoj' hji hall
      obtain ⟨hap, hkind⟩ := hfree.free j oj' hoj hju hjun
      obtain ⟨p1, p2, p3⟩ := Oper.apart_spec hap
      have hsi : ∀ cs b, oi.op ≠ .select cs b := fun cs b => hsel i oi cs b hi
      have hsj : ∀ cs b, oj'.op ≠ .select cs b := fun cs b => hsel j oj' cs b hoj
      have hfree' := hfree.set hju
      have hr' := ready_mono hr (Ne.symm hji)
      have next : ∀ v, (kind3 oi = 0 ∧ YieldsIn P ops (fun _ => True) oi v a ∨ kind3 oi = 1 ∧ YieldsIn P ops I oi v a) → wpAny4 P md ops I Q (fuel + 1) (listed.setIfInBounds i true) C (a.put oi.dst v) → Step4 P ops I oj' a C (wpAny4 P md ops I Q (fuel + 1) (listed.setIfInBounds j true)) := by
        intro v hy hn
        refine Step4.put (v := v) hap hsj (fun C' u h3 => ih _ C' _ U hfree' hr' ?_) (hn.2 j (ready_mono hj hji) oj' hoj)
        have h4 : wpAny4 P md ops I Q fuel ((listed.setIfInBounds j true).setIfInBounds i true) C' ((a.put oj'.dst u).put oi.dst v) := by
          rw [Array.setIfInBounds_comm _ _ hji]
          rw [Act.put_comm a v u p2] at h3
          exact h3
        have hs1 := execOp_put oi hsi a oj'.dst u p3
        have hs2 := wanted_put oi a oj'.dst u p3
        rcases hy with ⟨hk, hy⟩ | ⟨hk, hy⟩
        · exact .inl ⟨hk, v, hy.of_same hs1 hs2, h4⟩
        · exact .inr (.inl ⟨hk, v, hy.of_same hs1 hs2, h4⟩)
      rcases H with ⟨hk, v, hy, hn⟩ | ⟨hk, v, hy, hn⟩ | ⟨hk, _⟩ | ⟨hk, _⟩
      · exact next v (.inl ⟨hk, hy⟩) hn
      · exact next v (.inr ⟨hk, hy⟩) hn
      · rcases hkind with h | h <;> rw [hk] at h <;> simp at h
      · rcases hkind with h | h <;> rw [hk] at h <;> simp at h

/-- the walk in that order -/
def wpO4 (P : Program) (ops : Array Oper) (I : World → Prop) (Q : (World → Prop) → Act → Prop) : List Nat → (World → Prop) → Act → Prop
  | [], C, a => Q C a
  | k :: r, C, a => ∃ o, ops[k]? = some o ∧ Step4 P ops I o a C (wpO4 P ops I Q r)
theorem Step4.mono {o : Oper} {a : Act} {C : World → Prop} {K K' : (World → Prop) → Act → Prop} (h : Step4 P ops I o a C K) (hK : ∀ C a, K C a → K' C a) : Step4 P ops I o a C K' := by
  rcases h with ⟨hk, v, hy, hn⟩ | ⟨hk, v, hy, hn⟩ | ⟨hk, v, C', hI, hy, hn⟩ | ⟨hk, h⟩
  · exact .inl ⟨hk, v, hy, hK _ _ hn⟩
  · exact .inr (.inl ⟨hk, v, hy, hK _ _ hn⟩)
  · exact .inr (.inr (.inl ⟨hk, v, C', hI, hy, hK _ _ hn⟩))
  · refine .inr (.inr (.inr ⟨hk, ?_⟩))
    rcases h with ⟨hw, hn⟩ | ⟨hw, V, C', hs, hv, hn⟩
    · exact .inl ⟨hw, hK _ _ hn⟩
    · exact .inr ⟨hw, V, C', hs, hv, fun v hV => hK _ _ (hn v hV)⟩
theorem wpAny4_order {Q : (World → Prop) → Act → Prop} (hs : Region.noSelect ops = true) : ∀ (ks : List Nat) (listed : Array Bool) (C : World → Prop) (a : Act),
    orderB4 md ops ks listed = true → wpO4 P ops I Q ks C a → wpAny4 P md ops I Q ks.length listed C a
  | [], _, _, _, hB, h => ⟨by simpa [orderB4] using hB, h⟩
  | k :: r, listed, C, a, hB, h => by
    obtain ⟨o, ho, h⟩ := h
    simp only [orderB4, Bool.and_eq_true] at hB
    obtain ⟨⟨hr, hf⟩, hB'⟩ := hB
    exact wpAny4_first ho (Region.noSelect_spec hs) r.length listed C a _ (free4_spec ho hf) (by simpa using hr) (h.mono fun C' a' hn => wpAny4_order hs r _ C' a' hB' hn)
theorem wp_region_order4 {id : Nat} {Q : Exit → Act → World → Prop} {a : Act} {w : World} {l : List Oper} (ks : List Nat) (I : World → Prop) {C : World → Prop} (hm : P.follows .mixedOrders = true) (hB : order4 .any l.toArray ks = true) (hC : C w.drew) (hI : ∀ w, C w → I w)
    (h : wpO4 P l.toArray I (fun C a' => ∀ w', C w' → Q .normal a' w') ks C a) : (Code.region id l.toArray true).wp P Q a w := by
  simp only [order4, Bool.and_eq_true, beq_iff_eq] at hB
  refine wp_region_any hm (wpAny_of_4 (I := I) (Q := fun C a' => ∀ w', C w' → Q .normal a' w') (fun C a w' hw' h => h w' hw') _ _ C _ _ hC hI ?_)
  have := wpAny4_order (md := .any) hB.1.1 ks (Array.replicate l.toArray.size false) C a hB.2 h
  rwa [hB.1.2] at this
end
/-! one operation of the walk -/
section
variable {P : Program} {I : World → Prop} {l : List Oper} {Q : (World → Prop) → Act → Prop} {o : Oper} {k : Nat} {r : List Nat} {C : World → Prop} {a : Act}
theorem wpO4_pure (ho : l[k]? = some o) (hk : kind3 o = 0) (h : wpQuiet P l.toArray (fun _ => True) (fun a' => wpO4 P l.toArray I Q r C a') [o] a) : wpO4 P l.toArray I Q (k :: r) C a :=
  ⟨o, at_list ho, .inl ⟨hk, yields_of_quiet h⟩⟩
theorem wpO4_load {t : TypeId} {x : Operand} {ad : Addr} (v : Value) (ho : l[k]? = some o) (hop : o.op = .load t x) (hw : Region.wanted o (yielded l.toArray a.tmps) = true) (hx : a.eval x = .pointer (some ad))
    (hrun : ∀ w, I w → (Instr.loadAt t (.pointer (some ad))).run P w = .ok v w) (h : wpO4 P l.toArray I Q r C (a.put o.dst v)) : wpO4 P l.toArray I Q (k :: r) C a := by
  refine ⟨o, at_list ho, .inr (.inl ⟨by simp [kind3, pureOp, hop], v, .inl ⟨hw, fun w hC => ?_⟩, h⟩)⟩
  unfold Oper.quietAt execOp
  simp only [hop, hx]
  rw [Sem.run_bind, hrun w hC]
  exact ⟨rfl, rfl⟩
theorem wpO4_call (V : Value → Prop) (C' : Value → World → Prop) {f : FuncId} {args : Array Value} (ho : l[k]? = some o) (hk : kind3 o = 3) (hw : Region.wanted o (yielded l.toArray a.tmps) = true) (hsub : ∀ v w, C' v w → I w)
    (hrun : ∀ w, (execOp a.eval o).run P w = .ok (.enter f args) w) (hc : ∀ w, C w → Calls P f args w fun e w'' => ∃ v, e = .returned v ∧ V v ∧ C' v w'') (h : ∀ v, V v → wpO4 P l.toArray I Q r (C' v) (a.put o.dst v)) : wpO4 P l.toArray I Q (k :: r) C a :=
  ⟨o, at_list ho, .inr (.inr (.inr ⟨hk, .inr ⟨hw, V, C', hsub, fun w hC => by rw [hrun w]; exact hc w hC, h⟩⟩))⟩
theorem wpO4_skip (ho : l[k]? = some o) (hk : kind3 o = 3) (hw : Region.wanted o (yielded l.toArray a.tmps) = false) (h : wpO4 P l.toArray I Q r C (a.put o.dst undef)) : wpO4 P l.toArray I Q (k :: r) C a :=
  ⟨o, at_list ho, .inr (.inr (.inr ⟨hk, .inl ⟨hw, h⟩⟩))⟩
theorem wpO4_store (C' : World → Prop) {t : TypeId} {x y : Operand} (ho : l[k]? = some o) (hop : o.op = .store t x y) (hd : o.dst = none) (hg : o.guard = none) (ad : Addr) (v : Value) (hx : a.eval x = .pointer (some ad)) (hy : a.eval y = v) (hsub : ∀ w, C' w → I w)
    (hrun : ∀ w, C w → ∃ w', (Instr.storeAt t (.pointer (some ad)) v).run P w = .ok () w' ∧ C' w') (h : wpO4 P l.toArray I Q r C' a) : wpO4 P l.toArray I Q (k :: r) C a := by
  refine ⟨o, at_list ho, .inr (.inr (.inl ⟨by simp [kind3, pureOp, hop], undef, C', hsub, .inl ⟨by simp [Region.wanted, hg], fun w hw => ?_⟩, ?_⟩))⟩
  · obtain ⟨w', hr, hc⟩ := hrun w hw
    unfold execOp
    simp only [hop, hx, hy]
    rw [Sem.run_bind, hr]
    exact ⟨rfl, hc⟩
  · rw [hd]; exact h
end
end Go.Proofs.Ytnbhiamnoapmlaa

namespace Go.Proofs.Ytnbhiamnoapmlaa
open Go.RowKit
section
variable {P : Program} {ops : Array Oper} {Q : Exit → Act → World → Prop} {md : Region.Mode}
/-- Orders.lean's, with no way out by what an operation asks for -/
def wpOpS (P : Program) (ops : Array Oper) (Q : Exit → Act → World → Prop) (i : Nat) (K : Act → World → Prop) (a : Act) (w : World) : Prop :=
  match ops[i]? with
  | none => K a w
  | some o => if Region.wanted o (yielded ops a.tmps) then o.wp P a w K Q else K (a.put o.dst undef) w
def wpAnyS (P : Program) (md : Region.Mode) (ops : Array Oper) (Q : Exit → Act → World → Prop) : Nat → Array Bool → Act → World → Prop
  | 0, listed, a, w => Region.ready md ops listed = [] ∧ Q .normal a w
  | fuel + 1, listed, a, w =>
    (Region.ready md ops listed = [] → Q .normal a w) ∧
    ∀ i ∈ Region.ready md ops listed, wpOpS P ops Q i (wpAnyS P md ops Q fuel (listed.setIfInBounds i true)) a w
theorem oper_in {lr n : Nat} {o : Oper} {a : Act} {w : World} {K K' : Act → World → Prop} (hd : ∀ c, o.op ≠ .defer c) (hK : ∀ a w, K a w → K' a w) (h : o.wp P a w K Q) : o.wpIn (Fence.wide.inRound lr) n P a w K' Q := by
  refine ⟨fun _ _ => trivial, ?_⟩
  rw [Fence.inRound_round, Oper.semAt_some lr a.eval o hd]
  unfold Oper.wp at h
  generalize (execOp a.eval o).run P w = r at h
  cases r with
  | ok x w' =>
    cases x <;> simp only [Oper.upon, Oper.uponIn] at h ⊢
    case value v => exact hK _ _ h
    case skip => exact hK _ _ h
    case defer d => exact hK _ _ h
    case enter f args =>
      refine ⟨fun hh => by simp [Fence.wide] at hh, CallsIn.inRound lr (callsIn_wide.2 h |>.mono fun e w'' he => ?_)⟩
      cases e <;> first | exact hK _ _ he | exact he
    case row row args => exact ⟨fun hh => by simp [Fence.wide] at hh, fun c cs _ => let ⟨v, w3, r, s⟩ := h c cs; ⟨v, w3, hK _ _ r, stepsIn_wide.2 s⟩⟩
  | halt x w' => cases x <;> simp only [Oper.upon, Oper.uponIn] at h ⊢ <;> exact h
theorem wpAnyIn_of_S {lr n : Nat} (hd : ∀ (j : Nat) o, ops[j]? = some o → ∀ c, o.op ≠ .defer c) : ∀ (fuel : Nat) (listed : Array Bool) (a : Act) (w : World), wpAnyS P md ops Q fuel listed a w → wpAnyIn (Fence.wide.inRound lr) n P md ops Q fuel listed a w
  | 0, _, _, _, h => h
  | fuel + 1, listed, a, w, h => by
    refine ⟨h.1, fun i hi => ?_⟩
    have h1 := h.2 i hi
    unfold wpOpS at h1
    unfold wpOpIn
    cases ho : ops[i]? with
    | none => rw [ho] at h1; exact wpAnyIn_of_S hd fuel _ _ _ h1
    | some o =>
      rw [ho] at h1
      simp only at h1 ⊢
      split
      · rename_i hw
        rw [if_pos hw] at h1
        exact oper_in (hd i o ho) (fun a w hk => wpAnyIn_of_S hd fuel _ a w hk) h1
      · rename_i hw
        rw [if_neg hw] at h1
        exact ⟨fun _ _ => trivial, wpAnyIn_of_S hd fuel _ _ _ h1⟩
end
section
variable {P : Program} {l : List Oper} {vs : List Value} {fs : List Tmp} {FS : Tmp → Value → World → Prop} {I : World → Prop} {a0 : Act}
/-- one operation of such a run -/
theorem op_of_S {N : Nat} {Q' : Exit → Act → World → Prop} {K : Act → World → Prop} (hR : RG .any l.toArray N) (hN : N ≤ a0.tmps.size) (hlen : vs.length = l.length) {listed : Array Bool} {b : Act} {w : World} {i : Nat} {o : Oper} {v : Value}
    (h : Inv l vs fs FS I a0 listed b w) (ho2 : l[i]? = some o) (hun : listed.getD i true = false) (hp : ∀ e ∈ o.after, Region.binds .any e = true → listed.getD e.on true = true) (hv : vs[i]? = some v) (hob : Ob P l.toArray I fs FS o v (lex l vs a0 i))
    (hK : ∀ u w', Below w.heap.size w w' → (∀ d, o.dst = some d → (d ∈ fs → FS d u w') ∧ (d ∉ fs → vs[i]? = some u)) → K (b.put o.dst u) w') : wpOpS P l.toArray Q' i K b w := by
  have ho : l.toArray[i]? = some o := by simpa using ho2
  have hsel : ∀ cs c, o.op ≠ .select cs c := fun cs c => hR.sel i o cs c ho
  have ag : ∀ d ∈ o.looksAt l.toArray, d ∉ fs → (lex l vs a0 i).tmps[d]? = b.tmps[d]? := fun d hd hf => h.agree hR hN hlen ho2 hun hp hd hf
  unfold wpOpS
  simp only [ho]
  rcases hob with ⟨h1, h2, hcalm⟩ | ⟨s, hs, hds, h1, hwt, hsrc⟩ | ⟨s, hs, ⟨j, hj, hje⟩, h1, h2, huse⟩ | ⟨s, R, hs, hds, hRs, h1, hmix⟩
  · have he := exec_agree (ops := l.toArray) hsel fun d hd => ag d hd (h1 d hd)
    have hw := wanted_agree (ops := l.toArray) fun d hd => ag d hd (h1 d hd)
    have kv : ∀ w', Below w.heap.size w w' → K (b.put o.dst v) w' := fun w' hb => hK v w' hb fun d hd => ⟨fun hf => absurd hf (h2 d hd), fun _ => hv⟩
    rcases hcalm with ⟨hwt, hval⟩ | ⟨hwf, rfl⟩
    · rw [hw] at hwt
      rw [if_pos hwt]
      have h3 := hval w h.cls
      rw [he] at h3
      unfold Oper.wp
      generalize (execOp b.eval o).run P w = r at h3
      cases r with
      | ok n w' =>
        cases n <;> simp only [calmUpon] at h3 <;> simp only [Oper.upon]
        case value u => obtain ⟨rfl, rfl⟩ := h3; exact kv _ (Below.refl _ _)
        case skip => obtain ⟨rfl, rfl⟩ := h3; exact kv _ (Below.refl _ _)
        case enter f args =>
          obtain ⟨rfl, hcc⟩ := h3
          exact hcc.mono fun e w'' ⟨he, hb⟩ => by subst he; exact kv _ hb
      | halt x w' => simp only [calmUpon] at h3
    · rw [hw] at hwf
      rw [hwf, if_neg (by simp)]
      exact kv w (Below.refl _ _)
  · have he := exec_agree (ops := l.toArray) hsel fun d hd => ag d hd (h1 d hd)
    have hw := wanted_agree (ops := l.toArray) fun d hd => ag d hd (h1 d hd)
    rw [hw] at hwt
    rw [if_pos hwt]
    have h3 := hsrc w h.cls
    rw [he] at h3
    have kf : ∀ u w', FS s u w' → Below w.heap.size w w' → K (b.put o.dst u) w' := fun u w' hf hb => hK u w' hb fun d hd => by
      obtain rfl : d = s := Option.some.inj (hd.symm.trans hds)
      exact ⟨fun _ => hf, fun hnf => absurd hs hnf⟩
    unfold Oper.wp
    generalize (execOp b.eval o).run P w = r at h3
    cases r with
    | ok n w' =>
      cases n <;> simp only [srcUpon] at h3 <;> simp only [Oper.upon]
      case value u => exact kf u w' h3.1 h3.2
      case enter f args =>
        obtain ⟨rfl, hcc⟩ := h3
        exact hcc.mono fun e w'' ⟨u, he, hf, hb⟩ => by subst he; exact kf u w'' hf hb
    | halt x w' => simp only [srcUpon] at h3
  · obtain ⟨e, hee, heb⟩ := Array.any_eq_true'.1 hje
    simp only [Bool.and_eq_true, beq_iff_eq] at heb
    obtain ⟨hbe, rfl⟩ := heb
    obtain ⟨oj, hoj, hdj⟩ := Option.bind_eq_some_iff.1 hj
    have hoj2 : l[e.on]? = some oj := by simpa using hoj
    obtain ⟨vj, hvj⟩ : ∃ v, vs[e.on]? = some v := ⟨_, List.getElem?_eq_getElem (by rw [hlen]; exact (List.getElem?_eq_some_iff.1 hoj2).1)⟩
    obtain ⟨x, hbx, hfx⟩ := (h.ins e.on oj s vj hoj2 (hp e hee hbe) hdj hvj).1 hs
    have hslt : s < (lex l vs a0 i).tmps.size := by rw [(lex_size l vs a0 i).1]; exact Nat.lt_of_lt_of_le (hR.small _ _ _ hoj hdj) hN
    have ag2 : ∀ d ∈ o.looksAt l.toArray, ((lex l vs a0 i).put (some s) x).tmps[d]? = b.tmps[d]? := fun d hd => by
      by_cases hsd : s = d
      · subst hsd
        rw [put_same x hslt, hbx]
      · rw [put_other x (by simpa using hsd)]
        exact ag d hd fun hf => hsd (h1 d hd hf).symm
    obtain ⟨hwt, h3⟩ := huse x w h.cls hfx
    rw [wanted_agree (ops := l.toArray) ag2] at hwt
    rw [exec_agree (ops := l.toArray) hsel ag2] at h3
    have kv : ∀ w', Below w.heap.size w w' → K (b.put o.dst v) w' := fun w' hb => hK v w' hb fun d hd => ⟨fun hf => absurd hf (h2 d hd), fun _ => hv⟩
    rw [if_pos hwt]
    unfold Oper.wp
    generalize (execOp b.eval o).run P w = r at h3
    cases r with
    | ok n w' =>
      cases n <;> simp only [calmUpon] at h3 <;> simp only [Oper.upon]
      case value u => obtain ⟨rfl, rfl⟩ := h3; exact kv _ (Below.refl _ _)
      case skip => obtain ⟨rfl, rfl⟩ := h3; exact kv _ (Below.refl _ _)
      case enter f args =>
        obtain ⟨rfl, hcc⟩ := h3
        exact hcc.mono fun e w'' ⟨he, hb⟩ => by subst he; exact kv _ hb
    | halt x w' => simp only [calmUpon] at h3

  · have got : ∀ r ∈ R, ∃ x, b.tmps[r]? = some x ∧ FS r x w ∧ r < (lex l vs a0 i).tmps.size := fun r hr => by
      obtain ⟨hrf, j, hj, hje⟩ := hRs r hr
      obtain ⟨e, hee, heb⟩ := Array.any_eq_true'.1 hje
      simp only [Bool.and_eq_true, beq_iff_eq] at heb
      obtain ⟨hbe, rfl⟩ := heb
      obtain ⟨oj, hoj, hdj⟩ := Option.bind_eq_some_iff.1 hj
      have hoj2 : l[e.on]? = some oj := by simpa using hoj
      obtain ⟨vj, hvj⟩ : ∃ v, vs[e.on]? = some v := ⟨_, List.getElem?_eq_getElem (by rw [hlen]; exact (List.getElem?_eq_some_iff.1 hoj2).1)⟩
      obtain ⟨x, hbx, hfx⟩ := (h.ins e.on oj r vj hoj2 (hp e hee hbe) hdj hvj).1 hrf
      exact ⟨x, hbx, hfx, by rw [(lex_size l vs a0 i).1]; exact Nat.lt_of_lt_of_le (hR.small _ _ _ hoj hdj) hN⟩
    have ag2 : ∀ d ∈ o.looksAt l.toArray, (fill R (fun s => b.tmps.getD s undef) (lex l vs a0 i)).tmps[d]? = b.tmps[d]? := fun d hd => by
      by_cases hdR : d ∈ R
      · obtain ⟨x, hbx, _, hlt⟩ := got d hdR
        rw [fill_in R _ _ d hdR hlt, hbx]
        simp [hbx]
      · rw [fill_out R _ _ d hdR]
        exact ag d hd fun hf => hdR (h1 d hd hf)
    obtain ⟨hwt, h3⟩ := hmix (fun s => b.tmps.getD s undef) w h.cls fun r hr => by
      obtain ⟨x, hbx, hfx, _⟩ := got r hr
      simpa [hbx] using hfx
    rw [wanted_agree (ops := l.toArray) ag2] at hwt
    rw [exec_agree (ops := l.toArray) hsel ag2] at h3
    rw [if_pos hwt]
    have kf : ∀ u w', FS s u w' → Below w.heap.size w w' → K (b.put o.dst u) w' := fun u w' hf hb => hK u w' hb fun d hd => by
      obtain rfl : d = s := Option.some.inj (hd.symm.trans hds)
      exact ⟨fun _ => hf, fun hnf => absurd hs hnf⟩
    unfold Oper.wp
    generalize (execOp b.eval o).run P w = r at h3
    cases r with
    | ok n w' =>
      cases n <;> simp only [srcUpon] at h3 <;> simp only [Oper.upon]
      case value u => exact kf u w' h3.1 h3.2
      case enter f args =>
        obtain ⟨rfl, hcc⟩ := h3
        exact hcc.mono fun e w'' ⟨u, he, hf, hb⟩ => by subst he; exact kf u w'' hf hb
    | halt x w' => simp only [srcUpon] at h3

theorem any_of_S {N : Nat} {Q' : Exit → Act → World → Prop} (hR : RG .any l.toArray N) (hN : N ≤ a0.tmps.size) (hlen : vs.length = l.length) (hI : Closed I) (hF : ∀ s x w w', FS s x w → Below w.heap.size w w' → FS s x w')
    (hob : ∀ (k : Nat) o v, l[k]? = some o → vs[k]? = some v → Ob P l.toArray I fs FS o v (lex l vs a0 k))
    (hQ : ∀ (listed : Array Bool) b w, (∀ j, listed.getD j true = true) → Inv l vs fs FS I a0 listed b w → Q' .normal b w) :
    ∀ (fuel : Nat) (listed : Array Bool) (b : Act) (w : World), listed.toList.count false ≤ fuel → Inv l vs fs FS I a0 listed b w → wpAnyS P .any l.toArray Q' fuel listed b w
  | 0, listed, b, w, hc, h => by
    have hall := count_zero (L := listed) (by omega)
    refine ⟨?_, hQ listed b w hall h⟩
    rw [List.eq_nil_iff_forall_not_mem]
    intro i hi
    have := (mem_ready.1 hi).1
    rw [hall i] at this
    cases this
  | fuel + 1, listed, b, w, hc, h => by
    refine ⟨fun h0 => hQ listed b w (ready_all hR h.lsize h0) h, fun i hi => ?_⟩
    obtain ⟨hun, o, ho, hall⟩ := mem_ready.1 hi
    have ho2 : l[i]? = some o := by simpa using ho
    have hp : ∀ e ∈ o.after, Region.binds .any e = true → listed.getD e.on true = true := fun e he hb => by
      have h1 := hall e he hb
      rw [Array.getD_eq_getD_getElem?] at h1 ⊢
      cases hx : listed[e.on]? with
      | none => rfl
      | some y => rw [hx] at h1; simpa using h1
    obtain ⟨v, hv⟩ : ∃ v, vs[i]? = some v := ⟨_, List.getElem?_eq_getElem (by rw [hlen]; exact (List.getElem?_eq_some_iff.1 ho2).1)⟩
    exact op_of_S hR hN hlen h ho2 hun hp hv (hob i o v ho2 hv) fun u w' hb hu =>
      any_of_S hR hN hlen hI hF hob hQ fuel _ _ _ (by have := count_set hun; omega) (h.next hR hN hI hF ho2 hp hb hu)

/-- .. in a round of a loop over a function -/
theorem wpIn_region_F {lr n : Nat} {id : Nat} {Q : Exit → Act → World → Prop} {a : Act} {w : World} {l : List Oper} (N : Nat) (fs : List Tmp) (FS : Tmp → Value → World → Prop) (I : World → Prop) (hm : P.follows .mixedOrders = true) (hB : rgB .any l.toArray N = true)
    (hfs : (fs.all fun s => l.any fun o => o.dst == some s) = true) (hN : N ≤ a.tmps.size) (hI : Closed I) (hF : ∀ s x w w', FS s x w → Below w.heap.size w w' → FS s x w') (hC : I w.drew) (hdf : (l.all fun o => match o.op with | .defer _ => false | _ => true) = true)
    (h : wpF P l.toArray I fs FS (fun a' => ∀ xs w', I w' → (∀ s ∈ fs, FS s (xs s) w') → Q .normal (fill fs xs a') w') l a) : (Code.region id l.toArray true).wpIn (Fence.wide.inRound lr) n P Q a w := by
  have hR := rgB_spec hB
  obtain ⟨vs, hlen, hob, hE⟩ := wpF_vals l a h
  refine wpIn_region_any hm (wpAnyIn_of_S (fun j o ho c hc => ?_) _ _ _ _ ?_)
  · have hmem : o ∈ l := List.mem_of_getElem? (by simpa using ho)
    rw [List.all_eq_true] at hdf
    have := hdf o hmem
    rw [hc] at this
    cases this
  refine any_of_S (l := l) (vs := vs) (fs := fs) (FS := FS) (I := I) (a0 := a) hR hN hlen hI hF hob ?_ _ _ _ _ ?_ ?_
  · intro listed b w' hall hinv
    have hw : ∀ s ∈ fs, ∃ x, b.tmps[s]? = some x ∧ FS s x w' := fun s hs => by
      rw [List.all_eq_true] at hfs
      have h1 := hfs s hs
      rw [List.any_eq_true] at h1
      obtain ⟨o, ho, hd⟩ := h1
      obtain ⟨j, hj, rfl⟩ := List.getElem_of_mem ho
      have hd' : (l[j]).dst = some s := by simpa using hd
      obtain ⟨v, hv⟩ : ∃ v, vs[j]? = some v := ⟨_, List.getElem?_eq_getElem (by rw [hlen]; exact hj)⟩
      exact (hinv.ins j l[j] s v (List.getElem?_eq_getElem hj) (hall j) hd' hv).1 hs
    have hb : b = fill fs (fun s => b.tmps.getD s undef) (lex l vs a l.length) := by
      have ht : b.tmps = (fill fs (fun s => b.tmps.getD s undef) (lex l vs a l.length)).tmps := by
        apply Array.ext_getElem?
        intro d
        by_cases hd : d ∈ fs
        · obtain ⟨x, hx, _⟩ := hw d hd
          have hlt : d < (lex l vs a l.length).tmps.size := by
            rw [(lex_size l vs a l.length).1, ← hinv.size]
            exact (Array.getElem?_eq_some_iff.1 hx).1
          rw [fill_in fs _ _ d hd hlt, hx]
          simp [hx]
        · rw [fill_out fs _ _ d hd]
          by_cases hwr : ∃ (j : Nat) (oj : Oper), l[j]? = some oj ∧ oj.dst = some d
          · obtain ⟨j, oj, hj, hdj⟩ := hwr
            obtain ⟨v, hv⟩ : ∃ v, vs[j]? = some v := ⟨_, List.getElem?_eq_getElem (by rw [hlen]; exact (List.getElem?_eq_some_iff.1 hj).1)⟩
            have hj' : l.toArray[j]? = some oj := by simpa using hj
            rw [(hinv.ins j oj d v hj (hall j) hdj hv).2 hd]
            exact (lex_in l vs a l.length j oj d v hj (List.getElem?_eq_some_iff.1 hj).1 hv hdj (Nat.lt_of_lt_of_le (hR.small _ _ _ hj' hdj) hN) fun i oi hi _ hne => hR.once i j oi oj d (by simpa using hi) hj' hdj hne).symm
          · rw [lex_out l vs a l.length d fun i oi hi _ hdi => hwr ⟨i, oi, hi, hdi⟩]
            exact hinv.out d fun i oi hi _ hdi => hwr ⟨i, oi, hi, hdi⟩
      have hd : b.defers = (fill fs (fun s => b.tmps.getD s undef) (lex l vs a l.length)).defers := by
        rw [(fill_size ..).2, (lex_size ..).2]
        exact hinv.defers
      cases b
      simp only at ht hd
      rw [Act.mk.injEq]
      exact ⟨ht, hd⟩
    rw [hb]
    refine hE _ w' hinv.cls fun s hs => ?_
    obtain ⟨x, hx, hf⟩ := hw s hs
    simpa [hx] using hf
  · simp
  · refine ⟨hC, rfl, rfl, fun _ _ => rfl, fun j o d v hj hlj => ?_, fun j o hj hlj => ?_, by simp⟩
    all_goals
      have hlt := (List.getElem?_eq_some_iff.1 hj).1
      rw [Array.getD_eq_getD_getElem?] at hlj
      simp [hlt] at hlj
end
/-- where the post lets nothing out there is no way out -/
theorem wpAnyS_of {P : Program} {md : Region.Mode} {ops : Array Oper} {Q : Exit → Act → World → Prop} (hno : ¬ LetsOut Q) : ∀ (fuel : Nat) (listed : Array Bool) (a : Act) (w : World), wpAny P md ops Q fuel listed a w → wpAnyS P md ops Q fuel listed a w
  | 0, _, _, _, h => h
  | fuel + 1, listed, a, w, h => by
    refine ⟨h.1, fun i hi => ?_⟩
    have h1 := h.2 i hi
    unfold Go.wpOp at h1
    unfold wpOpS
    cases ho : ops[i]? with
    | none => rw [ho] at h1; exact wpAnyS_of hno fuel _ _ _ h1
    | some o =>
      rw [ho] at h1
      simp only at h1 ⊢
      split
      · rename_i hw
        rw [if_pos hw] at h1
        rcases h1 with h1 | ⟨_, h1⟩
        · exact Oper.wp_mono (fun a w hk => wpAnyS_of hno fuel _ a w hk) h1
        · exact absurd h1 hno
      · rename_i hw
        rw [if_neg hw] at h1
        exact wpAnyS_of hno fuel _ _ _ h1
/-- XQ7's law in a round -/
theorem wpIn_region_FS {P : Program} {lr n : Nat} {id : Nat} {Q : Exit → Act → World → Prop} {a : Act} {w : World} {l : List Oper} (N k f : Nat) (fs : List Tmp) (FS : Tmp → Value → World → Prop) (I : World → Prop) (St : (Tmp → Value) → World → World → Prop) (hm : P.follows .mixedOrders = true) (hno : ¬ LetsOut Q) (hB : rgB .any l.toArray N = true)
    (hk : decide (k < l.length) = true) (hreach : ((List.range k).all fun j => reachB .any l.toArray f k j) = true) (hfs : (fs.all fun s => (l.take k).any fun o => o.dst == some s) = true) (hN : N ≤ a.tmps.size) (hI : Closed I) (hF : ∀ s x w w', FS s x w → Below w.heap.size w w' → FS s x w') (hC : I w.drew) (hdf : (l.all fun o => match o.op with | .defer _ => false | _ => true) = true)
    (h : wpFS P l.toArray I fs FS St (fun a' => ∀ xs W w', I W → (∀ s ∈ fs, FS s (xs s) W) → St xs W w' → Q .normal (fill fs xs a') w') (some k) l a) : (Code.region id l.toArray true).wpIn (Fence.wide.inRound lr) n P Q a w := by
  refine wpIn_region_any hm (wpAnyIn_of_S (fun j o ho c hc => ?_) _ _ _ _ (wpAnyS_of hno _ _ _ _ (any_region_FS N k f fs FS I St hB hk hreach hfs hN hI hF hC h)))
  have hmem : o ∈ l := List.mem_of_getElem? (by simpa using ho)
  rw [List.all_eq_true] at hdf
  have := hdf o hmem
  rw [hc] at this
  cases this
end Go.Proofs.Ytnbhiamnoapmlaa

namespace Go.Proofs.Ytnbhiamnoapmlaa
open Go.RowKit
section
variable {P : Program} {ops : Array Oper} {Q : Exit → Act → World → Prop} {md : Region.Mode}
theorem opIn_of_S {lr m i : Nat} {K : Act → World → Prop} {a : Act} {w : World} (hd : ∀ (j : Nat) o, ops[j]? = some o → ∀ c, o.op ≠ .defer c) (h : wpOpS P ops Q i K a w) : wpOpIn (Fence.wide.inRound lr) m P ops Q i K a w := by
  unfold wpOpS at h
  unfold wpOpIn
  cases ho : ops[i]? with
  | none => rw [ho] at h; exact h
  | some o =>
    rw [ho] at h
    simp only at h ⊢
    split
    · rename_i hw
      rw [if_pos hw] at h
      exact oper_in (hd i o ho) (fun _ _ hk => hk) h
    · rename_i hw
      rw [if_neg hw] at h
      exact ⟨fun _ _ => trivial, h⟩
theorem wpAnyIn_of_seq {lr m : Nat} {Q' : Exit → Act → World → Prop} : ∀ (l : List Oper) (k : Nat) (listed : Array Bool) (a : Act) (w : World), (∀ j, l[j]? = ops[k + j]?) →
    Region.seqB md ops l.length k listed = true → wpListIn (Fence.wide.inRound lr) m P ops Q' l a w → wpAnyIn (Fence.wide.inRound lr) m P md ops Q' l.length listed a w
  | [], _, _, _, _, _, hB, h => ⟨by simpa [Region.seqB] using hB, h⟩
  | o :: l, k, listed, a, w, hl, hB, h => by
    have h0 : ops[k]? = some o := by simpa using (hl 0).symm
    simp only [List.length_cons, Region.seqB, Bool.and_eq_true, decide_eq_true_eq] at hB
    refine ⟨fun h1 => (by rw [hB.1] at h1; cases h1), fun i hi => ?_⟩
    rw [hB.1] at hi
    have hik : i = k := by simpa using hi
    subst hik
    have hw : wpOpIn (Fence.wide.inRound lr) m P ops Q' i (wpListIn (Fence.wide.inRound lr) m P ops Q' l) a w := by unfold wpOpIn; simp only [h0]; exact h
    unfold wpOpIn at hw ⊢
    simp only [h0] at hw ⊢
    have ih := fun a' w' h' => wpAnyIn_of_seq (lr := lr) (m := m) (Q' := Q') l (i + 1) (listed.setIfInBounds i true) a' w' (fun j => by have := hl (j + 1); simpa [Nat.add_assoc, Nat.add_comm 1 j] using this) hB.2 h'
    split
    · rename_i hx
      rw [if_pos hx] at hw
      exact Oper.wpIn_mono ih hw
    · rename_i hx
      rw [if_neg hx] at hw
      exact ⟨hw.1, ih _ _ hw.2⟩
end
section
variable {P : Program} {l : List Oper} {vs : List Value} {fs : List Tmp} {FS : Tmp → Value → World → Prop} {I : World → Prop} {a0 : Act}
theorem any_of_FTIn {N n lr m : Nat} {Q' : Exit → Act → World → Prop} (hR : RG .any l.toArray N) (hN : N ≤ a0.tmps.size) (hlen : vs.length = l.length) (hI : Closed I) (hF : ∀ s x w w', FS s x w → Below w.heap.size w w' → FS s x w')
    (hob : ∀ (j : Nat) o v, j < n → l[j]? = some o → vs[j]? = some v → Ob P l.toArray I fs FS o v (lex l vs a0 j)) (hn : n < l.length) (hs : Region.sinkB .any l.toArray n = true) (hc : Region.chainB .any l.toArray n = true) (hdf : ∀ (j : Nat) o, l.toArray[j]? = some o → ∀ c, o.op ≠ .defer c)
    (hQ : ∀ (listed : Array Bool) b w, (∀ j, j < n → listed.getD j true = true) → (∀ t, n ≤ t → t < l.length → listed.getD t true = false) → Inv l vs fs FS I a0 listed b w → wpAnyIn (Fence.wide.inRound lr) m P .any l.toArray Q' (l.length - n) listed b w) :
    ∀ (f : Nat) (listed : Array Bool) (b : Act) (w : World), (listed.toList.take n).count false = f → HeadInv .any l.toArray n listed → Inv l vs fs FS I a0 listed b w → wpAnyIn (Fence.wide.inRound lr) m P .any l.toArray Q' (f + (l.length - n)) listed b w
  | 0, listed, b, w, hcn, hh, h => by
    rw [Nat.zero_add]
    exact hQ listed b w (fun j hj => count_take_zero hcn j hj) (fun t h1 h2 => hh.tail t h1 (by simpa using h2)) h
  | f + 1, listed, b, w, hcn, hh, h => by
    obtain ⟨i0, hi0, hu0⟩ := count_take_pos hcn
    rw [show f + 1 + (l.length - n) = (f + (l.length - n)) + 1 by omega]
    refine ⟨fun h0 => ?_, fun i hi => ?_⟩
    · have hall := ready_all hR h.lsize h0
      rw [hall i0] at hu0
      cases hu0
    have hin : i < n := by
      rcases Nat.lt_or_ge i n with h1 | h1
      · exact h1
      · exact absurd hi (tail_waits hs hc (by simpa using hn) hh _ i0 rfl hi0 hu0 i h1)
    obtain ⟨hun, o, ho, hall⟩ := mem_ready.1 hi
    have ho2 : l[i]? = some o := by simpa using ho
    have hp : ∀ e ∈ o.after, Region.binds .any e = true → listed.getD e.on true = true := fun e he hb => by
      have h1 := hall e he hb
      rw [Array.getD_eq_getD_getElem?] at h1 ⊢
      cases hx : listed[e.on]? with
      | none => rfl
      | some y => rw [hx] at h1; simpa using h1
    obtain ⟨v, hv⟩ : ∃ v, vs[i]? = some v := ⟨_, List.getElem?_eq_getElem (by rw [hlen]; exact (List.getElem?_eq_some_iff.1 ho2).1)⟩
    have hcnt := count_take hin hun
    exact opIn_of_S hdf (op_of_S (Q' := Q') hR hN hlen h ho2 hun hp hv (hob i o v hin ho2 hv) fun u w' hb hu =>
      any_of_FTIn hR hN hlen hI hF hob hn hs hc hdf hQ f _ _ w' (by omega) (hh.set hi hin) (h.next hR hN hI hF ho2 hp hb hu))

/-- ONE WALK IN THE TEXT's ORDER SERVES EVERY ORDER; the tail, behind place n, as it stands -/
theorem wpIn_region_FT {lr m : Nat} {id : Nat} {Q : Exit → Act → World → Prop} {a : Act} {w : World} {l : List Oper} (N n : Nat) (fs : List Tmp) (FS : Tmp → Value → World → Prop) (I : World → Prop) (hm : P.follows .mixedOrders = true) (hB : rgB .any l.toArray N = true)
    (hn : decide (n < l.length) = true) (hs : Region.sinkB .any l.toArray n = true) (hc : Region.chainB .any l.toArray n = true)
    (hq : Region.seqB .any l.toArray (l.length - n) n (List.replicate n true ++ List.replicate (l.length - n) false).toArray = true)
    (hfs : (fs.all fun s => (l.take n).any fun o => o.dst == some s) = true) (hN : N ≤ a.tmps.size) (hI : Closed I) (hF : ∀ s x w w', FS s x w → Below w.heap.size w w' → FS s x w') (hC : I w.drew) (hdf : (l.all fun o => match o.op with | .defer _ => false | _ => true) = true)
    (h : wpF P l.toArray I fs FS (fun a' => ∀ xs w', I w' → (∀ s ∈ fs, FS s (xs s) w') → wpListIn (Fence.wide.inRound lr) m P l.toArray Q (l.drop n) (fill fs xs a') w') (l.take n) a) : (Code.region id l.toArray true).wpIn (Fence.wide.inRound lr) m P Q a w := by
  have hdf' : ∀ (j : Nat) o, l.toArray[j]? = some o → ∀ c, o.op ≠ .defer c := fun j o ho c hc => by
    have hmem : o ∈ l := List.mem_of_getElem? (by simpa using ho)
    rw [List.all_eq_true] at hdf
    have := hdf o hmem
    rw [hc] at this
    cases this
  have hR := rgB_spec hB
  have hn' : n < l.length := by simpa using hn
  obtain ⟨vs0, hlen0, hob0, hE0⟩ := wpF_vals (l.take n) a h
  have htl : (l.take n).length = n := by rw [List.length_take]; omega
  rw [htl] at hlen0 hE0
  obtain ⟨vs, hvs⟩ : ∃ vs, vs0 ++ List.replicate (l.length - n) undef = vs := ⟨_, rfl⟩
  have hlen : vs.length = l.length := by rw [← hvs, List.length_append, List.length_replicate]; omega
  have hlex : ∀ j, j ≤ n → lex (l.take n) vs0 a j = lex l vs a j := fun j hj => by rw [← hvs]; exact lex_take l vs0 _ a n j hj (by rw [hlen0, htl])
  have hob : ∀ (j : Nat) o v, j < n → l[j]? = some o → vs[j]? = some v → Ob P l.toArray I fs FS o v (lex l vs a j) := fun j o v hj ho hv => by
    rw [← hlex j (by omega)]
    refine hob0 j o v (by rw [List.getElem?_take, if_pos hj]; exact ho) ?_
    rw [← hvs, List.getElem?_append_left (by omega)] at hv
    exact hv
  rw [hlex n (Nat.le_refl _)] at hE0
  have inv0 : HeadInv .any l.toArray n (Array.replicate l.toArray.size false) :=
    ⟨by simp, fun j oj _ hl => (by rw [getD_replicate_false] at hl; cases hl), fun t _ ht => getD_in (by simpa using ht) (getD_replicate_false _ _)⟩
  refine wpIn_region_any hm ?_
  have key := any_of_FTIn (Q' := Q) (lr := lr) (m := m) (l := l) (vs := vs) (fs := fs) (FS := FS) (I := I) (a0 := a) (n := n) hR hN hlen hI hF hob hn' hs hc hdf' ?_ n (Array.replicate l.toArray.size false) a w.drew (by
      simp only [List.size_toArray, Array.toList_replicate, List.take_replicate, List.count_replicate_self]; omega) inv0 ?_
  · rw [show n + (l.length - n) = l.toArray.size by simp; omega] at key
    exact key
  · intro listed b W hall hno hinv
    have hw : ∀ s ∈ fs, ∃ x, b.tmps[s]? = some x ∧ FS s x W := fun s hs => by
      rw [List.all_eq_true] at hfs
      have h1 := hfs s hs
      rw [List.any_eq_true] at h1
      obtain ⟨o, ho, hd⟩ := h1
      obtain ⟨j, hj, rfl⟩ := List.getElem_of_mem ho
      have hj1 : j < n := by rw [List.length_take] at hj; omega
      have hj2 : j < l.length := by omega
      have hd' : (l[j]).dst = some s := by simpa using hd
      obtain ⟨v, hv⟩ : ∃ v, vs[j]? = some v := ⟨_, List.getElem?_eq_getElem (by rw [hlen]; exact hj2)⟩
      exact (hinv.ins j l[j] s v (List.getElem?_eq_getElem hj2) (hall j hj1) hd' hv).1 hs
    have hb : b = fill fs (fun s => b.tmps.getD s undef) (lex l vs a n) := by
      have ht : b.tmps = (fill fs (fun s => b.tmps.getD s undef) (lex l vs a n)).tmps := by
        apply Array.ext_getElem?
        intro d
        by_cases hd : d ∈ fs
        · obtain ⟨x, hx, _⟩ := hw d hd
          have hlt : d < (lex l vs a n).tmps.size := by
            rw [(lex_size l vs a n).1, ← hinv.size]
            exact (Array.getElem?_eq_some_iff.1 hx).1
          rw [fill_in fs _ _ d hd hlt, hx]
          simp [hx]
        · rw [fill_out fs _ _ d hd]
          by_cases hwr : ∃ (j : Nat) (oj : Oper), j < n ∧ l[j]? = some oj ∧ oj.dst = some d
          · obtain ⟨j, oj, hjn, hj, hdj⟩ := hwr
            obtain ⟨v, hv⟩ : ∃ v, vs[j]? = some v := ⟨_, List.getElem?_eq_getElem (by rw [hlen]; exact (List.getElem?_eq_some_iff.1 hj).1)⟩
            have hj' : l.toArray[j]? = some oj := by simpa using hj
            rw [(hinv.ins j oj d v hj (hall j hjn) hdj hv).2 hd]
            exact (lex_in l vs a n j oj d v hj hjn hv hdj (Nat.lt_of_lt_of_le (hR.small _ _ _ hj' hdj) hN) fun i oi hi _ hne => hR.once i j oi oj d (by simpa using hi) hj' hdj hne).symm
          · rw [lex_out l vs a n d fun i oi hi hin hdi => hwr ⟨i, oi, hin, hi, hdi⟩]
            refine hinv.out d fun i oi hi hli hdi => hwr ⟨i, oi, ?_, hi, hdi⟩
            rcases Nat.lt_or_ge i n with h1 | h1
            · exact h1
            · rw [hno i h1 (List.getElem?_eq_some_iff.1 hi).1] at hli; cases hli
      have hd : b.defers = (fill fs (fun s => b.tmps.getD s undef) (lex l vs a n)).defers := by
        rw [(fill_size ..).2, (lex_size ..).2]
        exact hinv.defers
      cases b
      simp only at ht hd
      rw [Act.mk.injEq]
      exact ⟨ht, hd⟩
    have hL : listed = (List.replicate n true ++ List.replicate (l.length - n) false).toArray := by
      apply Array.ext
      · simp [hinv.lsize]; omega
      · intro j h1 h2
        have hj : j < l.length := by rw [← hinv.lsize]; exact h1
        by_cases hjn : j < n
        · have h3 := hall j hjn
          rw [Array.getD_eq_getD_getElem?, Array.getElem?_eq_getElem h1] at h3
          simp only [List.getElem_toArray]
          rw [List.getElem_append_left (by simpa using hjn)]
          simpa using h3
        · have h3 := hno j (by omega) hj
          rw [Array.getD_eq_getD_getElem?, Array.getElem?_eq_getElem h1] at h3
          simp only [List.getElem_toArray]
          rw [List.getElem_append_right (by simpa using Nat.le_of_not_lt hjn)]
          simpa using h3
    have hE := hE0 (fun s => b.tmps.getD s undef) W hinv.cls fun s hs => by
      obtain ⟨x, hx, hf⟩ := hw s hs
      simpa [hx] using hf
    rw [← hb] at hE
    have := wpAnyIn_of_seq (lr := lr) (m := m) (md := .any) (Q' := Q) (l.drop n) n listed b W (fun j => by simp [List.getElem?_drop]) (by rw [List.length_drop, hL]; exact hq) hE
    rwa [List.length_drop] at this
  · refine ⟨hC, rfl, rfl, fun _ _ => rfl, fun j o d v hj hlj => ?_, fun j o hj hlj => ?_, by simp⟩
    all_goals
      have hlt := (List.getElem?_eq_some_iff.1 hj).1
      rw [Array.getD_eq_getD_getElem?] at hlj
      simp [hlt] at hlj
end
end Go.Proofs.Ytnbhiamnoapmlaa

namespace Go.Proofs.Ytnbhiamnoapmlaa
section
variable {P : Program} {ops : Array Oper} {md : Region.Mode} {I : World → Prop}

/-- one operation, in a class of worlds -/
def Step7 (b : Bool) (P : Program) (ops : Array Oper) (I : World → Prop) (o : Oper) (a : Act) (C : World → Prop) (K : (World → Prop) → Act → Prop) : Prop :=
  ((b = false ∧ kind3 o = 0) ∧ ∃ v, YieldsIn P ops (fun _ => True) o v a ∧ K C (a.put o.dst v)) ∨
  ((b = false ∧ kind3 o = 1) ∧ ∃ v, YieldsIn P ops I o v a ∧ K C (a.put o.dst v)) ∨
  (kind3 o = 2 ∧ ∃ v C', (∀ w, C' w → I w) ∧ StepsIn P ops C C' o v a ∧ K C' (a.put o.dst v)) ∨
  ((b = true ∨ kind3 o = 3) ∧ ((Region.wanted o (yielded ops a.tmps) = false ∧ K C (a.put o.dst undef)) ∨ (Region.wanted o (yielded ops a.tmps) = true ∧ ∃ (V : Value → Prop) (C' : Value → World → Prop), (∀ v w, C' v w → I w) ∧ (∀ w, C w → famUpon P V C' ((execOp a.eval o).run P w)) ∧ ∀ v, V v → K (C' v) (a.put o.dst v))))

def wpAny7 (P : Program) (md : Region.Mode) (ops : Array Oper) (I : World → Prop) (Q : (World → Prop) → Act → Prop) : Nat → Array Bool → (World → Prop) → Act → Prop
  | 0, listed, C, a => Region.ready md ops listed = [] ∧ Q C a
  | fuel + 1, listed, C, a =>
    (Region.ready md ops listed = [] → Q C a) ∧
    ∀ i ∈ Region.ready md ops listed, ∀ o, ops[i]? = some o → ∃ b, Step7 b P ops I o a C (wpAny7 P md ops I Q fuel (listed.setIfInBounds i true))
theorem Step7.wpOp {b : Bool} {C : World → Prop} {i : Nat} {o : Oper} {a : Act} {K : (World → Prop) → Act → Prop} {K' : Act → World → Prop} {Q' : Exit → Act → World → Prop} {w : World} (hi : ops[i]? = some o) (h : Step7 b P ops I o a C K) (hC : C w) (hCI : ∀ w, C w → I w) (hK : ∀ (C' : World → Prop) a' w', C' w' → (∀ w, C' w → I w) → K C' a' → K' a' w') : wpOp P ops Q' i K' a w := by
  rcases h with ⟨hk, v, hy, hn⟩ | ⟨hk, v, hy, hn⟩ | ⟨hk, v, C', hI, hy, hn⟩ | ⟨hk, h⟩
  · exact OpR.wpOp (C := C) (C' := C) hi (.inl ⟨kind3_pure hk.2, rfl, hy⟩) hC fun w' hw' => hK C _ w' hw' hCI hn
  · have hk1 : kindOf o = 1 := by
      obtain ⟨t, x, ho⟩ := kind3_load hk.2
      simp [kindOf, pureOp, ho]
    exact OpR.wpOp (C := C) (C' := C) hi (.inr (.inl ⟨hk1, rfl, yields_load hk.2 hy hCI⟩)) hC fun w' hw' => hK C _ w' hw' hCI hn
  · have hk2 : kindOf o = 2 := by
      unfold kind3 at hk
      unfold kindOf
      split at hk
      · simp at hk
      · rename_i hp
        rw [if_neg hp]
        split at hk
        · simp at hk
        · rename_i heq; simp [heq]
        · simp at hk
    exact OpR.wpOp (C := C) (C' := C') hi (.inr (.inr ⟨hk2, hy⟩)) hC fun w' hw' => hK C' _ w' hw' hI hn
  · unfold Go.wpOp
    simp only [hi]
    rcases h with ⟨hw, hn⟩ | ⟨hw, V, C', hI, hv, hn⟩
    · simp only [hw, Bool.false_eq_true, if_false]
      exact hK C _ w hC hCI hn
    · simp only [hw, if_true]
      left
      have h1 := hv w hC
      unfold Oper.wp
      generalize (execOp a.eval o).run P w = r at h1
      cases r with
      | ok n w' =>
        cases n <;> simp only [famUpon] at h1 <;> simp only [Oper.upon]
        case value u => exact hK (C' u) _ w' h1.2 (hI u) (hn u h1.1)
        case enter f args =>
          refine h1.mono fun e w'' ⟨v, he, hV, hc⟩ => ?_
          subst he
          exact hK (C' v) _ w'' hc (hI v) (hn v hV)
      | halt x w' => simp only [famUpon] at h1
theorem wpAny_of_7 {Q : (World → Prop) → Act → Prop} {Q' : Exit → Act → World → Prop} (hQ : ∀ (C : World → Prop) a w, C w → Q C a → Q' .normal a w) : ∀ (fuel : Nat) (listed : Array Bool) (C : World → Prop) (a : Act) (w : World), C w → (∀ w, C w → I w) →
    wpAny7 P md ops I Q fuel listed C a → wpAny P md ops Q' fuel listed a w
  | 0, _, _, _, _, hw, _, h => ⟨h.1, hQ _ _ _ hw h.2⟩
  | fuel + 1, _, _, _, _, hw, hI, h => ⟨fun h0 => hQ _ _ _ hw (h.1 h0), fun i hi => by
      obtain ⟨_, o, ho, _⟩ := mem_ready.1 hi
      obtain ⟨_, h2⟩ := h.2 i hi o ho
      exact h2.wpOp ho hw hI fun C' a' w' hw' hI' hn => wpAny_of_7 hQ fuel _ C' a' w' hw' hI' hn⟩
/-- an operation apart: its step is the same whether another's value is in its slot or not -/
theorem Step7.put {b : Bool} {oi oj : Oper} {v : Value} {a : Act} {C : World → Prop} {K1 K2 : (World → Prop) → Act → Prop} (hap : oi.apart ops oj = true) (hsj : ∀ cs b, oj.op ≠ .select cs b)
    (hK : ∀ (C' : World → Prop) u, K1 C' ((a.put oi.dst v).put oj.dst u) → K2 C' (a.put oj.dst u)) (h : Step7 b P ops I oj (a.put oi.dst v) C K1) : Step7 b P ops I oj a C K2 := by
  obtain ⟨p1, p2, p3⟩ := Oper.apart_spec hap
  have he := execOp_put oj hsj a oi.dst v p1
  have hw := wanted_put oj a oi.dst v p1
  rcases h with ⟨hk, u, hy, hn⟩ | ⟨hk, u, hy, hn⟩ | ⟨hk, u, C', hI, hy, hn⟩ | ⟨hk, h⟩
  · exact .inl ⟨hk, u, hy.of_same he.symm hw.symm, hK C u hn⟩
  · exact .inr (.inl ⟨hk, u, hy.of_same he.symm hw.symm, hK C u hn⟩)
  · refine .inr (.inr (.inl ⟨hk, u, C', hI, ?_, hK C' u hn⟩))
    unfold StepsIn at hy ⊢
    rwa [he, hw] at hy
  · refine .inr (.inr (.inr ⟨hk, ?_⟩))
    rcases h with ⟨hwf, hn⟩ | ⟨hwt, V, C', hsub, hv, hn⟩
    · exact .inl ⟨by rw [← hw]; exact hwf, hK C undef hn⟩
    · exact .inr ⟨by rw [← hw]; exact hwt, V, C', hsub, by rwa [he] at hv, fun u hu => hK (C' u) u (hn u hu)⟩
/-! as XQ3's, but a load is free of stores too: they stay in I -/
def free7 (md : Region.Mode) (ops : Array Oper) (listed : Array Bool) (k : Nat) (b : Bool) : Bool :=
  let U := blocked md ops k
  U.getD k false && U.size == ops.size &&
  match ops[k]? with
  | none => false
  | some ok => (List.range ops.size).all fun j =>
    match ops[j]? with
    | some oj =>
      if U.getD j false then !listed.getD j false && (j == k || oj.after.any (fun e => Region.binds md e && U.getD e.on false))
      else listed.getD j true || (!b && ok.apart ops oj && (kind3 ok == 0 || kind3 ok == 1))
    | none => true
structure Free7 (b : Bool) (md : Region.Mode) (ops : Array Oper) (listed : Array Bool) (i : Nat) (oi : Oper) (U : Array Bool) : Prop where
  size : U.size = ops.size
  own : U.getD i false = true
  wait : ∀ j oj, ops[j]? = some oj → U.getD j false = true → j ≠ i → ∃ e ∈ oj.after, Region.binds md e = true ∧ U.getD e.on false = true
  un : ∀ j, U.getD j false = true → listed.getD j false = false
  free : ∀ j oj, ops[j]? = some oj → U.getD j false = false → listed.getD j true = false → b = false ∧ oi.apart ops oj = true ∧ (kind3 oi = 0 ∨ kind3 oi = 1)
theorem free7_spec {b : Bool} {i : Nat} {oi : Oper} {listed : Array Bool} (hi : ops[i]? = some oi) (h : free7 md ops listed i b = true) : Free7 b md ops listed i oi (blocked md ops i) := by
  simp only [free7, hi, List.all_eq_true, List.mem_range, Bool.and_eq_true, beq_iff_eq] at h
  obtain ⟨⟨hown, hsz⟩, h⟩ := h
  have at_ : ∀ j oj, ops[j]? = some oj → (if (blocked md ops i).getD j false = true then (!listed.getD j false && (j == i || oj.after.any (fun e => Region.binds md e && (blocked md ops i).getD e.on false))) = true
      else (listed.getD j true || (!b && oi.apart ops oj && (kind3 oi == 0 || kind3 oi == 1))) = true) := fun j oj hj => by
    have h1 := h j (Array.getElem?_eq_some_iff.1 hj).1
    simp only [hj] at h1
    split at h1 <;> rename_i hu
    · rw [if_pos hu]; exact h1
    · rw [if_neg hu]; exact h1
  refine ⟨hsz, hown, fun j oj hj hu hne => ?_, fun j hu => ?_, fun j oj hj hu hun => ?_⟩
  · have h1 := at_ j oj hj
    rw [if_pos hu] at h1
    simp only [Bool.and_eq_true, Bool.or_eq_true, beq_iff_eq, hne, false_or] at h1
    obtain ⟨e, he, hb⟩ := Array.any_eq_true'.1 h1.2
    simp only [Bool.and_eq_true] at hb
    exact ⟨e, he, hb.1, hb.2⟩
  · have hlt : j < ops.size := by
      rw [← hsz]
      rcases Nat.lt_or_ge j (blocked md ops i).size with h' | h'
      · exact h'
      · simp [Array.getElem?_eq_none h'] at hu
    have h1 := at_ j _ (Array.getElem?_eq_getElem hlt)
    rw [if_pos hu] at h1
    simp only [Bool.and_eq_true, Bool.not_eq_true'] at h1
    exact h1.1
  · have h1 := at_ j oj hj
    rw [if_neg (by rw [hu]; exact Bool.false_ne_true)] at h1
    simp only [hun, Bool.or_eq_true, Bool.false_eq_true, false_or, Bool.and_eq_true, beq_iff_eq, Bool.not_eq_true'] at h1
    exact ⟨h1.1.1, h1.1.2, h1.2⟩
theorem Free7.ready {b : Bool} {i j : Nat} {oi oj : Oper} {listed U : Array Bool} (h : Free7 b md ops listed i oi U) (hj : ops[j]? = some oj) (hji : j ≠ i) (hall : ∀ e ∈ oj.after, Region.binds md e = true → listed.getD e.on false = true) : U.getD j false = false := by
  cases hu : U.getD j false with
  | false => rfl
  | true =>
    obtain ⟨e, he, hb, hue⟩ := h.wait j oj hj hu hji
    have h1 := hall e he hb
    rw [h.un e.on hue] at h1
    cases h1
theorem Free7.set {b : Bool} {i j : Nat} {oi : Oper} {listed U : Array Bool} (h : Free7 b md ops listed i oi U) (hu : U.getD j false = false) : Free7 b md ops (listed.setIfInBounds j true) i oi U := by
  refine ⟨h.size, h.own, h.wait, fun k hk => ?_, fun k ok hk hku hun => h.free k ok hk hku ?_⟩
  · have hne : j ≠ k := fun e => by subst e; rw [hu] at hk; cases hk
    rw [getD_set_ne false hne]; exact h.un k hk
  · by_cases hjk : j = k
    · subst hjk
      rcases Nat.lt_or_ge j listed.size with h' | h'
      · simp [h'] at hun
      · simp [Array.getElem?_eq_none (show (listed.setIfInBounds j true).size ≤ j by simpa using h')] at hun
    · rw [getD_set_ne true hjk] at hun; exact hun
/-- may the operations be walked in this order? -/
def orderB7 (md : Region.Mode) (ops : Array Oper) : List (Nat × Bool) → Array Bool → Bool
  | [], listed => (Region.ready md ops listed).isEmpty
  | k :: r, listed => (Region.ready md ops listed).contains k.1 && free7 md ops listed k.1 k.2 && orderB7 md ops r (listed.setIfInBounds k.1 true)
def order7 (md : Region.Mode) (ops : Array Oper) (ks : List (Nat × Bool)) : Bool := Region.noSelect ops && ks.length == ops.size && orderB7 md ops ks (Array.replicate ops.size false)
theorem wpAny7_first {b : Bool} {Q : (World → Prop) → Act → Prop} {i : Nat} {oi : Oper} (hi : ops[i]? = some oi) (hsel : ∀ (j : Nat) (o : Oper) cs b, ops[j]? = some o → o.op ≠ .select cs b) :
    ∀ (fuel : Nat) (listed : Array Bool) (C : World → Prop) (a : Act) (U : Array Bool), Free7 b md ops listed i oi U → i ∈ Region.ready md ops listed →
      Step7 b P ops I oi a C (wpAny7 P md ops I Q fuel (listed.setIfInBounds i true)) → wpAny7 P md ops I Q (fuel + 1) listed C a := by
  intro fuel
  induction fuel with
  | zero =>
    intro listed C a U hfree hr H
    refine ⟨fun h => (by rw [h] at hr; cases hr), fun j hj o ho => ?_⟩
    by_cases hji : j = i
    · subst hji
      have : o = oi := Option.some.inj (ho.symm.trans hi)
      subst this
      exact ⟨b, H⟩
    · exfalso
      have hmono := ready_mono hj hji
      obtain ⟨hjun, oj', hoj', hall⟩ := mem_ready.1 hj
      have hju := hfree.ready hoj' hji hall
      obtain ⟨hbf, _, hkind⟩ := hfree.free j oj' hoj' hju hjun
      have nil : ∀ {C' : World → Prop} {a' : Act}, wpAny7 P md ops I Q 0 (listed.setIfInBounds i true) C' a' → False := fun h => by
        rw [h.1] at hmono; cases hmono
      rcases H with ⟨_, _, _, hn⟩ | ⟨_, _, _, hn⟩ | ⟨hk, _⟩ | ⟨hk, _⟩
      · exact nil hn
      · exact nil hn
      · rcases hkind with h | h <;> rw [hk] at h <;> simp at h
      · rcases hk with hk | hk
        · rw [hbf] at hk; cases hk
        · rcases hkind with h | h <;> rw [hk] at h <;> simp at h
  | succ fuel ih =>
    intro listed C a U hfree hr H
    refine ⟨fun h => (by rw [h] at hr; cases hr), fun j hj oj hoj => ?_⟩
    by_cases hji : j = i
    · subst hji
      have : oj = oi := Option.some.inj (hoj.symm.trans hi)
      subst this
      exact ⟨b, H⟩
    · obtain ⟨hjun, oj', hoj', hall⟩ := mem_ready.1 hj
      have : oj' = oj := Option.some.inj (hoj'.symm.trans hoj)
      subst this
      have hju := hfree.ready hoj' hji hall
      obtain ⟨hbf, hap, hkind⟩ := hfree.free j oj' hoj hju hjun
      obtain ⟨p1, p2, p3⟩ := Oper.apart_spec hap
      have hsi : ∀ cs b, oi.op ≠ .select cs b := fun cs b => hsel i oi cs b hi
      have hsj : ∀ cs b, oj'.op ≠ .select cs b := fun cs b => hsel j oj' cs b hoj
      have hfree' := hfree.set hju
      have hr' := ready_mono hr (Ne.symm hji)
      have next : ∀ v, (kind3 oi = 0 ∧ YieldsIn P ops (fun _ => True) oi v a ∨ kind3 oi = 1 ∧ YieldsIn P ops I oi v a) → wpAny7 P md ops I Q (fuel + 1) (listed.setIfInBounds i true) C (a.put oi.dst v) → ∃ b', Step7 b' P ops I oj' a C (wpAny7 P md ops I Q (fuel + 1) (listed.setIfInBounds j true)) := by
        intro v hy hn
        obtain ⟨b', hst⟩ := hn.2 j (ready_mono hj hji) oj' hoj
        refine ⟨b', Step7.put (v := v) hap hsj (fun C' u h3 => ih _ C' _ U hfree' hr' ?_) hst⟩
        have h4 : wpAny7 P md ops I Q fuel ((listed.setIfInBounds j true).setIfInBounds i true) C' ((a.put oj'.dst u).put oi.dst v) := by
          rw [Array.setIfInBounds_comm _ _ hji]
          rw [Act.put_comm a v u p2] at h3
          exact h3
        have hs1 := execOp_put oi hsi a oj'.dst u p3
        have hs2 := wanted_put oi a oj'.dst u p3
        rcases hy with ⟨hk, hy⟩ | ⟨hk, hy⟩
        · exact .inl ⟨⟨hbf, hk⟩, v, hy.of_same hs1 hs2, h4⟩
        · exact .inr (.inl ⟨⟨hbf, hk⟩, v, hy.of_same hs1 hs2, h4⟩)
      rcases H with ⟨hk, v, hy, hn⟩ | ⟨hk, v, hy, hn⟩ | ⟨hk, _⟩ | ⟨hk, _⟩
      · exact next v (.inl ⟨hk.2, hy⟩) hn
      · exact next v (.inr ⟨hk.2, hy⟩) hn
      · rcases hkind with h | h <;> rw [hk] at h <;> simp at h
      · rcases hk with hk | hk
        · rw [hbf] at hk; cases hk
        · rcases hkind with h | h <;> rw [hk] at h <;> simp at h

/-- the walk in that order -/
def wpO7 (P : Program) (ops : Array Oper) (I : World → Prop) (Q : (World → Prop) → Act → Prop) : List (Nat × Bool) → (World → Prop) → Act → Prop
  | [], C, a => Q C a
  | k :: r, C, a => ∃ o, ops[k.1]? = some o ∧ Step7 k.2 P ops I o a C (wpO7 P ops I Q r)
theorem Step7.mono {b : Bool} {o : Oper} {a : Act} {C : World → Prop} {K K' : (World → Prop) → Act → Prop} (h : Step7 b P ops I o a C K) (hK : ∀ C a, K C a → K' C a) : Step7 b P ops I o a C K' := by
  rcases h with ⟨hk, v, hy, hn⟩ | ⟨hk, v, hy, hn⟩ | ⟨hk, v, C', hI, hy, hn⟩ | ⟨hk, h⟩
  · exact .inl ⟨hk, v, hy, hK _ _ hn⟩
  · exact .inr (.inl ⟨hk, v, hy, hK _ _ hn⟩)
  · exact .inr (.inr (.inl ⟨hk, v, C', hI, hy, hK _ _ hn⟩))
  · refine .inr (.inr (.inr ⟨hk, ?_⟩))
    rcases h with ⟨hw, hn⟩ | ⟨hw, V, C', hs, hv, hn⟩
    · exact .inl ⟨hw, hK _ _ hn⟩
    · exact .inr ⟨hw, V, C', hs, hv, fun v hV => hK _ _ (hn v hV)⟩
theorem wpAny7_order {Q : (World → Prop) → Act → Prop} (hs : Region.noSelect ops = true) : ∀ (ks : List (Nat × Bool)) (listed : Array Bool) (C : World → Prop) (a : Act),
    orderB7 md ops ks listed = true → wpO7 P ops I Q ks C a → wpAny7 P md ops I Q ks.length listed C a
  | [], _, _, _, hB, h => ⟨by simpa [orderB7] using hB, h⟩
  | k :: r, listed, C, a, hB, h => by
    obtain ⟨o, ho, h⟩ := h
    simp only [orderB7, Bool.and_eq_true] at hB
    obtain ⟨⟨hr, hf⟩, hB'⟩ := hB
    exact wpAny7_first ho (Region.noSelect_spec hs) r.length listed C a _ (free7_spec ho hf) (by simpa using hr) (h.mono fun C' a' hn => wpAny7_order hs r _ C' a' hB' hn)
theorem wpIn_region_order7 {lr n : Nat} {id : Nat} {Q : Exit → Act → World → Prop} {a : Act} {w : World} {l : List Oper} (ks : List (Nat × Bool)) (I : World → Prop) {C : World → Prop} (hm : P.follows .mixedOrders = true) (hno : ¬ LetsOut Q) (hdf : (l.all fun o => match o.op with | .defer _ => false | _ => true) = true) (hB : order7 .any l.toArray ks = true) (hC : C w.drew) (hI : ∀ w, C w → I w)
    (h : wpO7 P l.toArray I (fun C a' => ∀ w', C w' → Q .normal a' w') ks C a) : (Code.region id l.toArray true).wpIn (Fence.wide.inRound lr) n P Q a w := by
  simp only [order7, Bool.and_eq_true, beq_iff_eq] at hB
  refine wpIn_region_any hm (wpAnyIn_of_S (fun j o ho c hc => ?_) _ _ _ _ (wpAnyS_of hno _ _ _ _ (wpAny_of_7 (I := I) (Q := fun C a' => ∀ w', C w' → Q .normal a' w') (fun C a w' hw' h => h w' hw') _ _ C _ _ hC hI ?_)))
  · have hmem : o ∈ l := List.mem_of_getElem? (by simpa using ho)
    rw [List.all_eq_true] at hdf
    have := hdf o hmem
    rw [hc] at this
    cases this
  · have := wpAny7_order (md := .any) hB.1.1 ks (Array.replicate l.toArray.size false) C a hB.2 h
    rwa [hB.1.2] at this
theorem wp_region_order7 {id : Nat} {Q : Exit → Act → World → Prop} {a : Act} {w : World} {l : List Oper} (ks : List (Nat × Bool)) (I : World → Prop) {C : World → Prop} (hm : P.follows .mixedOrders = true) (hB : order7 .any l.toArray ks = true) (hC : C w.drew) (hI : ∀ w, C w → I w)
    (h : wpO7 P l.toArray I (fun C a' => ∀ w', C w' → Q .normal a' w') ks C a) : (Code.region id l.toArray true).wp P Q a w := by
  simp only [order7, Bool.and_eq_true, beq_iff_eq] at hB
  refine wp_region_any hm (wpAny_of_7 (I := I) (Q := fun C a' => ∀ w', C w' → Q .normal a' w') (fun C a w' hw' h => h w' hw') _ _ C _ _ hC hI ?_)
  have := wpAny7_order (md := .any) hB.1.1 ks (Array.replicate l.toArray.size false) C a hB.2 h
  rwa [hB.1.2] at this
end
/-! one operation of the walk -/
section
variable {P : Program} {I : World → Prop} {l : List Oper} {Q : (World → Prop) → Act → Prop} {o : Oper} {k : Nat} {r : List (Nat × Bool)} {C : World → Prop} {a : Act}
theorem wpO7_pure (ho : l[k]? = some o) (hk : kind3 o = 0) (h : wpQuiet P l.toArray (fun _ => True) (fun a' => wpO7 P l.toArray I Q r C a') [o] a) : wpO7 P l.toArray I Q ((k, false) :: r) C a :=
  ⟨o, at_list ho, .inl ⟨⟨rfl, hk⟩, yields_of_quiet h⟩⟩
theorem wpO7_load {t : TypeId} {x : Operand} {ad : Addr} (v : Value) (ho : l[k]? = some o) (hop : o.op = .load t x) (hw : Region.wanted o (yielded l.toArray a.tmps) = true) (hx : a.eval x = .pointer (some ad))
    (hrun : ∀ w, I w → (Instr.loadAt t (.pointer (some ad))).run P w = .ok v w) (h : wpO7 P l.toArray I Q r C (a.put o.dst v)) : wpO7 P l.toArray I Q ((k, false) :: r) C a := by
  refine ⟨o, at_list ho, .inr (.inl ⟨⟨rfl, by simp [kind3, pureOp, hop]⟩, v, .inl ⟨hw, fun w hC => ?_⟩, h⟩)⟩
  unfold Oper.quietAt execOp
  simp only [hop, hx]
  rw [Sem.run_bind, hrun w hC]
  exact ⟨rfl, rfl⟩
theorem wpO7_call (V : Value → Prop) (C' : Value → World → Prop) {f : FuncId} {args : Array Value} (ho : l[k]? = some o) (hk : kind3 o = 3) (hw : Region.wanted o (yielded l.toArray a.tmps) = true) (hsub : ∀ v w, C' v w → I w)
    (hrun : ∀ w, (execOp a.eval o).run P w = .ok (.enter f args) w) (hc : ∀ w, C w → Calls P f args w fun e w'' => ∃ v, e = .returned v ∧ V v ∧ C' v w'') (h : ∀ v, V v → wpO7 P l.toArray I Q r (C' v) (a.put o.dst v)) : wpO7 P l.toArray I Q ((k, false) :: r) C a :=
  ⟨o, at_list ho, .inr (.inr (.inr ⟨.inr hk, .inr ⟨hw, V, C', hsub, fun w hC => by rw [hrun w]; exact hc w hC, h⟩⟩))⟩
theorem wpO7_skip (ho : l[k]? = some o) (hk : kind3 o = 3) (hw : Region.wanted o (yielded l.toArray a.tmps) = false) (h : wpO7 P l.toArray I Q r C (a.put o.dst undef)) : wpO7 P l.toArray I Q ((k, false) :: r) C a :=
  ⟨o, at_list ho, .inr (.inr (.inr ⟨.inr hk, .inl ⟨hw, h⟩⟩))⟩
theorem wpO7_store (C' : World → Prop) {t : TypeId} {x y : Operand} (ho : l[k]? = some o) (hop : o.op = .store t x y) (hd : o.dst = none) (hg : o.guard = none) (ad : Addr) (v : Value) (hx : a.eval x = .pointer (some ad)) (hy : a.eval y = v) (hsub : ∀ w, C' w → I w)
    (hrun : ∀ w, C w → ∃ w', (Instr.storeAt t (.pointer (some ad)) v).run P w = .ok () w' ∧ C' w') (h : wpO7 P l.toArray I Q r C' a) : wpO7 P l.toArray I Q ((k, false) :: r) C a := by
  refine ⟨o, at_list ho, .inr (.inr (.inl ⟨by simp [kind3, pureOp, hop], undef, C', hsub, .inl ⟨by simp [Region.wanted, hg], fun w hw => ?_⟩, ?_⟩))⟩
  · obtain ⟨w', hr, hc⟩ := hrun w hw
    unfold execOp
    simp only [hop, hx, hy]
    rw [Sem.run_bind, hr]
    exact ⟨rfl, hc⟩
  · rw [hd]; exact h
/-- a bound load: by the class at its turn -/
theorem wpO7_look {t : TypeId} {x : Operand} {ad : Addr} (v : Value) (ho : l[k]? = some o) (hop : o.op = .load t x) (hw : Region.wanted o (yielded l.toArray a.tmps) = true) (hx : a.eval x = .pointer (some ad)) (hsub : ∀ w, C w → I w)
    (hrun : ∀ w, C w → (Instr.loadAt t (.pointer (some ad))).run P w = .ok v w) (h : wpO7 P l.toArray I Q r C (a.put o.dst v)) : wpO7 P l.toArray I Q ((k, true) :: r) C a := by
  refine ⟨o, at_list ho, .inr (.inr (.inr ⟨.inl rfl, .inr ⟨hw, fun u => u = v, fun _ => C, fun _ => hsub, fun w hC => ?_, fun u hu => by subst hu; exact h⟩⟩))⟩
  unfold execOp
  simp only [hop, hx]
  rw [Sem.run_bind, hrun w hC]
  exact ⟨rfl, hC⟩
end
end Go.Proofs.Ytnbhiamnoapmlaa

namespace Go.Proofs.Ytnbhiamnoapmlaa
open Go.RowKit Go.Shelf
set_option maxRecDepth 100000
attribute [local go_sem] Oper.semAt_some

/-- a message's box b0 and an error's box behind it -/
structure CkB (b0 : Nat) (w4 : World) (M : Mg) (E : Int) (V : World) : Prop where
  m : ∃ P C, V.heap[b0]? = some (.cells (mC M P C) 26 (0, 0)) ∧ MAt V b0 M P C
  e : V.heap[b0 + 1]? = some (.cells #[.int .i64 E] 28 (0, 0))
  off : Off (fun q => q = b0 ∨ q = b0 + 1) w4 V
section
variable {b0 : Nat} {w4 V V' : World} {M M' : Mg} {E E' : Int}
theorem MAt.kept {w w' : World} {B : Nat} {M : Mg} {P C : Value} (h : MAt w B M P C) (hk : ∀ p : Addr, p.block < B → w'.cell? p = w.cell? p) : MAt w' B M P C := by
  obtain ⟨⟨a, c, h1, h2, h3⟩, ⟨a', c', h4, h5, h6⟩⟩ := h
  exact ⟨⟨a, c, h1, h2, h3.kept hk⟩, ⟨a', c', h4, h5, h6.kept hk⟩⟩
theorem CkB.later (h : CkB b0 w4 M E V) (hb : Below V.heap.size V V') : CkB b0 w4 M E V' := by
  obtain ⟨P, C, h1, h2⟩ := h.m
  have hl := (Array.getElem?_eq_some_iff.1 h1).1
  exact ⟨⟨P, C, (hb.block _ hl).trans h1, h2.kept fun p hp => hb.cell (by omega)⟩, (hb.block _ (Array.getElem?_eq_some_iff.1 h.e).1).trans h.e, off_below h.off (hb.mono h.off.size)⟩
theorem CkB.putObj {l : Nat} {o' : Obj} (h : CkB b0 w4 M E V) (hw : w4.heap.size ≤ l) (hw4 : b0 + 1 < w4.heap.size) : CkB b0 w4 M E (V.putObj l o') := by
  obtain ⟨P, C, h1, h2⟩ := h.m
  have hp : Below l V (V.putObj l o') := below_put V o' (Nat.le_refl _)
  exact ⟨⟨P, C, (World.putObj_heap_other (by omega)).trans h1, h2.kept fun p hp' => hp.cell (by omega)⟩, (World.putObj_heap_other (by omega)).trans h.e, off_below h.off (below_put V o' hw)⟩
/-- an error is told, and a cell of the message turned -/
theorem CkB.set (h : CkB b0 w4 M E V) (E' : Int) (j : Nat) (u : Value) (hM : ∀ P C, V.heap[b0]? = some (.cells (mC M P C) 26 (0, 0)) → MAt V b0 M P C → ∃ P' C', (mC M P C).setIfInBounds j u = mC M' P' C' ∧ MAt V b0 M' P' C') :
    CkB b0 w4 M' E' ((V.setCell ⟨b0 + 1, 0, none⟩ (.int .i64 E')).setCell ⟨b0, j, none⟩ u) := by
  obtain ⟨P, C, h1, h2⟩ := h.m
  obtain ⟨P', C', h3, h4⟩ := hM P C h1 h2
  have h5 : (V.setCell ⟨b0 + 1, 0, none⟩ (.int .i64 E')).heap[b0]? = some (.cells (mC M P C) 26 (0, 0)) := (Below.heap_setCell _ _ _ _ (by show b0 ≠ b0 + 1; omega)).trans h1
  have h6 : Below b0 V ((V.setCell ⟨b0 + 1, 0, none⟩ (.int .i64 E')).setCell ⟨b0, j, none⟩ u) := ((Below.refl b0 V).setCell (p := ⟨b0 + 1, 0, none⟩) (by show b0 ≤ b0 + 1; omega) _).setCell (p := ⟨b0, j, none⟩) (Nat.le_refl _) _
  refine ⟨⟨P', C', by rw [setCell_at h5, h3], h4.kept fun p hp => h6.cell hp⟩, ?_, ?_⟩
  · rw [Below.heap_setCell _ _ _ _ (by show b0 + 1 ≠ b0; omega), setCell_at h.e]
    rfl
  · exact (h.off.setCell (p := ⟨b0 + 1, 0, none⟩) (.inr rfl) _).setCell (p := ⟨b0, j, none⟩) (.inl rfl) _
end
theorem kf_two {V W : World} {b s : Nat} (h : Off (fun q => q = b ∨ q = b + 1) V W) (hb : b + 1 < s) : KeepsFrom s V W := ⟨h.size, fun q o hq ho _ => (h.block q (Array.getElem?_eq_some_iff.1 ho).1 (by omega)).trans ho⟩
theorem ket_two {V W : World} {b : Nat} {tf ti : TypeId} (h : Off (fun q => q = b ∨ q = b + 1) V W) : KeT tf ti (b + 2) V W := ⟨h.size, fun q cs t hq _ hA => h.block q (Array.getElem?_eq_some_iff.1 hA).1 (by omega)⟩
theorem Msm.strip {M : Mg} (h : Msm M) (f : Fd) : Msm (strip M f) := by
  unfold Proofs.Ytnbhiamnoapmlaa.strip
  repeat' split
  · exact ⟨by simp, h.c, h.tx, h.tg⟩
  · exact ⟨h.p, by simp, h.tx, h.tg⟩
  · exact ⟨h.p, h.c, by show (ByteArray.mk #[]).size ≤ 80; decide, h.tg⟩
  · exact ⟨h.p, h.c, h.tx, by show (ByteArray.mk #[]).size ≤ 80; decide⟩
  · exact ⟨by rw [Mg.put_p]; exact h.p, by rw [Mg.put_c]; exact h.c, by rw [Mg.put_tx]; exact h.tx, by rw [Mg.put_tg]; exact h.tg⟩
theorem Msm.fold {M : Mg} (h : Msm M) : ∀ L : List Fd, Msm (L.foldl Proofs.Ytnbhiamnoapmlaa.strip M) := by
  intro L
  induction L generalizing M with
  | nil => exact h
  | cons f r ih => exact ih (h.strip f)

set_option maxHeartbeats 16000000 in
theorem mcheck_any (M : Mg) (P C : Value) (w : World) (hs : Msm M) (h1 : MAt w w.heap.size M P C) : Calls Try.prog 8 #[mV M P C] w fun e w' => e = .returned (.int .i64 (mck M)) ∧ Below w.heap.size w w' := by
  have KW := Lib.hid (word_any M.k)
  obtain ⟨R, hR⟩ : ∃ R, mck M = R := ⟨_, rfl⟩
  rw [hR]
  unfold mck at hR
  obtain ⟨⟨ap, cp, rfl, hcp, ha⟩, ⟨ac, cc, rfl, hcc, hc⟩⟩ := h1
  by_cases hk : wd M.k = ⟨#[]⟩
  · rw [if_pos ((FD_nil _).2 hk)] at hR
    subst hR
    rw [hk] at KW
    have HB := Lib.hid ((Below.refl _ w).alloc (Nat.le_refl _) (.cells (mC M (.slice ap M.p.length cp) (.slice ac M.c.length cc)) 26))
    unfold mV mC at *
    clear ha hc hcp hcc hs hk
    go_enter Try.func8, Try.ntmps8
    go_wp2
    refine wp_scope_straight ?_
    go_wp2_with fail
    refine (KW.out _).mono ?_
    rintro e w1 ⟨rfl, rfl⟩
    go_wp2
    try simp only [Exit.noGoto]
    go_ret
    exact ⟨rfl, HB.out⟩
  · rw [if_neg (fun e => hk ((FD_nil _).1 e))] at hR
    have hwne := str_nil hk
    have hwn2 : (wd M.k).toList.isEmpty = false := by simpa using hwne
    obtain ⟨w3, hw3⟩ : ∃ w3, w3 = (w.alloc (.cells (mC M (.slice ap M.p.length cp) (.slice ac M.c.length cc)) 26)).alloc (.cells #[.int .i64 0] 28) := ⟨_, rfl⟩
    have hs3 : w3.heap.size = w.heap.size + 2 := by rw [hw3]; simp
    have hb3 : Below w.heap.size w w3 := by rw [hw3]; exact ((Below.refl _ w).alloc (Nat.le_refl _) _).alloc (by simp) _
    have p0 : w3.heap[w.heap.size]? = some (.cells (mC M (.slice ap M.p.length cp) (.slice ac M.c.length cc)) 26 (0, 0)) := by
      rw [hw3, Below.heap_alloc _ _ _ (by simp)]; exact World.alloc_heap_new _ _
    have p1 : w3.heap[w.heap.size + 1]? = some (.cells #[.int .i64 0] 28 (0, 0)) := by
      have := World.alloc_heap_new (w.alloc (.cells (mC M (.slice ap M.p.length cp) (.slice ac M.c.length cc)) 26)) (.cells #[.int .i64 0] 28)
      rw [World.size_alloc] at this
      rw [hw3]; exact this
    have hC3 : CkB w.heap.size w3 M 0 w3 := ⟨⟨_, _, p0, ⟨_, _, rfl, hcp, ha.below hb3⟩, ⟨_, _, rfl, hcc, hc.below hb3⟩⟩, p1, Off.refl _ _⟩
    obtain ⟨np, hnp⟩ : ∃ np, M.p.length = np := ⟨_, rfl⟩
    obtain ⟨nc, hnc⟩ : ∃ nc, M.c.length = nc := ⟨_, rfl⟩
    rw [hnp, hnc] at hw3
    unfold mV mC at *
    rw [hnp, hnc]
    have HW := Lib.hid hw3
    clear hw3 p0 p1 ha hc hcp hcc hnp hnc
    refine (callsIn_wide (n := 9)).1 ?_
    refine callsIn_of_wp_marks Try.func8 rfl trivial ?_ rfl
    simp only [Try.ntmps8, List.size_toArray, List.length_cons, List.length_nil, Nat.reduceAdd, Nat.reduceSub, Array.replicate_succ, Array.replicate_zero, List.push_toArray, List.append_toArray, List.nil_append, List.cons_append]
    gi_wp2_with fail
    refine wpIn_wide.2 (wp_scope_straight ((wpIn_wide (n := 9)).1 ?_))
    gi_wp2_with fail
    refine ⟨trivial, (callsIn_wide.2 (KW.out _)).mono ?_⟩
    rintro e w1 ⟨rfl, rfl⟩
    clear KW
    gi_wp2_with fail
    apply wpIn_label
    gi_wp2_with fail
    refine ⟨trivial, ?_⟩
    rw [← HW.out]
    refine (callsIn_wide.2 (fall_any M.k 2 w3)).mono ?_
    rintro e w4 ⟨rfl, hg0, hg1, hb4⟩
    clear HW
    rw [hs3] at hg0 hg1
    have hs4 := (Array.getElem?_eq_some_iff.1 hg1).1
    have hC4 := hC3.later hb4
    have hb04 := hb3.trans (hb4.mono (by omega))
    have hC4 : CkB w.heap.size w4 M 0 w4 := ⟨hC4.m, hC4.e, Off.refl _ _⟩
    clear hb4 hb3 hC3
    have KA := Lib.hid (FDv_two M.k)
    have KF := Lib.hid (FD_fdok M.k)
    have KE := Lib.hid (fun (j : Nat) (f : Fd) (hj : (FD M.k)[j]? = some f) => fE_at hj M)
    have KS := Lib.hid (fun (j : Nat) => fold_strip_k ((FD M.k).take j) M)
    obtain ⟨L, hL⟩ : ∃ L, FD M.k = L := ⟨_, rfl⟩
    rw [hL] at hR KA KF KE KS
    have HR := Lib.hid hR
    clear hL hR
    gi_wp2_with fail
    refine range_stopb rfl (by omega) (gf := 39) (lb := #[.pointer (some ⟨w.heap.size + 2, 0, none⟩), .pointer (some ⟨w.heap.size + 2 + 1, 0, none⟩)]) rfl trivial (enters_of Try.func39 (by kernel_rfl) rfl)
      (fun f : Fd => #[f.v]) (fun _ => rfl)
      (fun j f V => L[j]? = some f ∧ (∀ g ∈ L.take j, fE M g = 0) ∧ CkB w.heap.size w4 ((L.take j).foldl strip M) 0 V)
      (fun j f q V => (L[j]? = some f ∧ (∀ g ∈ L.take j, fE M g = 0) ∧ CkB w.heap.size w4 ((L.take j).foldl strip M) 0 V) ∧ w4.heap.size ≤ q ∧ V.heap[q]? = some (.cells f.cs 65 (0, 0)))
      (fun j V => (∀ g ∈ L.take j, fE M g = 0) ∧ CkB w.heap.size w4 ((L.take j).foldl strip M) 0 V)
      (fun cd V => cd = .exit 0 ∧ ∃ (E : Int) (M' : Mg), E ≠ 0 ∧ firstE M L = E ∧ CkB w.heap.size w4 M' E V)
      (KeT 65 3 (w.heap.size + 2)) L.length
      (fun j f q V l o o' h hl ho hc' => ⟨⟨h.1.1, h.1.2.1, h.1.2.2.putObj hl (by omega)⟩, h.2.1, (World.putObj_heap_other (fun e => by subst e; rw [h.2.2] at ho; injection ho with ho; subst ho; cases hc')).trans h.2.2⟩)
      (fun j V l o o' h hl ho hc' => ⟨h.1, h.2.putObj hl (by omega)⟩)
      (fun cd V l o o' h hl ho hc' => by
        obtain ⟨h1, E, M', h2, h3, h4⟩ := h
        exact ⟨h1, E, M', h2, h3, h4.putObj hl (by omega)⟩)
      (fun _ _ _ h k => h.trans k) (fun V l o o' hl ho hc' => KeT.putObj ho hc')
      (fun o => ⟨fun g hg => by simp at hg, (hC4.later ((Below.refl _ w4).alloc (Nat.le_refl _) _)).later ((Below.refl _ _).alloc (Nat.le_refl _) _)⟩) ?round ?iter ?done ?stop
    case round =>
      rintro l j f V K ⟨hf, hz, hC⟩ hj hK
      have HK := Lib.hid hK
      have hsz := hC.off.size
      clear hK
      unfold Fd.v Fd.cs
      gi_wp2_with fail
      refine HK.out _ V.heap.size _ ⟨⟨hf, hz, hC.later ((Below.refl _ V).alloc (Nat.le_refl _) _)⟩, hsz, World.alloc_heap_new _ _⟩ ⟨by simp, fun q o _ ho _ => (Below.heap_alloc _ _ _ (Array.getElem?_eq_some_iff.1 ho).1).trans ho⟩ (KeT.of_below ((Below.refl _ V).alloc (Nat.le_refl _) _)) ?_
      clear HK hC hz
      rintro l V2 hl ⟨⟨_, hz, hC⟩, hq, hc⟩
      obtain ⟨qb, hqb⟩ : ∃ qb, V.heap.size = qb := ⟨_, rfl⟩
      rw [hqb] at hq hc ⊢
      clear hqb
      obtain ⟨d0, d1, d2, d3, d4, d5, d6⟩ := fd_block hc
      have hqlt := (Array.getElem?_eq_some_iff.1 hc).1
      have ok := KF.out f (List.mem_of_getElem? hf)
      have hE := KE.out j f hf
      have hst := fold_take hf strip M
      have hsm := hs.fold (L.take j)
      obtain ⟨Mj, hMj⟩ : ∃ Mj, (L.take j).foldl strip M = Mj := ⟨_, rfl⟩
      rw [hMj] at hC hE hst hsm
      obtain ⟨E, hEd⟩ : ∃ E, fE M f = E := ⟨_, rfl⟩
      rw [hEd] at hE
      have HF := Lib.hid hf
      have HZ0 := Lib.hid hz
      have HEd := Lib.hid hEd
      have HST := Lib.hid hst
      clear hf hz hst hEd hMj
      obtain ⟨P, C, m1, ⟨a, cpp, rfl, hcpp, hpa⟩, ⟨b, ccc, rfl, hccc, hcb⟩⟩ := hC.m
      obtain ⟨c0, c1, c2, c3, c4, c5, c6, c7, c8, c9, c10⟩ := mg_block m1
      have ce := row_cell hC.e 0 _ rfl
      have ze := frozen_of_row V2 (w.heap.size + 1) 0 _ _ hC.e
      have hb2 := (Array.getElem?_eq_some_iff.1 hC.e).1
      obtain ⟨np', hnp'⟩ : ∃ np', Mj.p.length = np' := ⟨_, rfl⟩
      obtain ⟨nc', hnc'⟩ : ∃ nc', Mj.c.length = nc' := ⟨_, rfl⟩
      rw [hnp'] at hcpp c7
      rw [hnc'] at hccc c8
      have hNE : w.heap.size ≠ w.heap.size + 1 := by omega
      have hso := ok.so
      by_cases h3 : f.so = 3
      · have hfe : fE Mj f = wP Mj.p f.mo := by unfold fE; rw [if_pos h3]
        have hstF : strip Mj f = { Mj with p := [] } := by unfold strip; rw [if_pos h3]
        rw [h3] at d1
        have KW := Lib.hid (wpath_any a np' cpp Mj.p f.mo V2 hnp' hcpp ok.le.2.2.2.1 (hpa.mono (B' := V2.heap.size) (by omega)))
        rw [← hfe, hE] at KW
        clear hfe d0 d2 d3 d5 d6 c0 c1 c2 c3 c4 c5 c6 c8 c9 c10
        gi_wp2_with fail
        refine ⟨trivial, ((callsIn_wide.2 KW.out).inRound l).mono ?_⟩
        rintro e V3 ⟨rfl, hb3⟩
        have hC3 := hC.later hb3
        have e7 := (hb3.cell (p := ⟨w.heap.size, 7, none⟩) (by show w.heap.size < _; omega)).trans c7
        have ee := (hb3.cell (p := ⟨w.heap.size + 1, 0, none⟩) (by show w.heap.size + 1 < _; omega)).trans ce
        obtain ⟨_, _, m3, _⟩ := hC3.m
        have z7 := frozen_of_row V3 w.heap.size 7 _ _ m3
        have zee := frozen_of_row V3 (w.heap.size + 1) 0 _ _ hC3.e
        have hC5 := hC3.set (M' := strip Mj f) E 7 (.slice none 0 0) (fun P C h1 h2 => ⟨.slice none 0 0, C, by rw [hstF]; rfl, by rw [hstF]; exact ⟨⟨none, 0, rfl, Nat.le_refl _, Nums.nil⟩, h2.c⟩⟩)
        clear KW hC hC3 m1 m3 hstF hpa hcb hc hsm ok hE d1 d4 c7 ce ze
        have hoff : Off (fun q => q = w.heap.size ∨ q = w.heap.size + 1) V2 ((V3.setCell ⟨w.heap.size + 1, 0, none⟩ (.int .i64 E)).setCell ⟨w.heap.size, 7, none⟩ (.slice none 0 0)) := ((Off.of_below hb3).setCell (p := ⟨w.heap.size + 1, 0, none⟩) (.inr rfl) _).setCell (p := ⟨w.heap.size, 7, none⟩) (.inl rfl) _
        have HKF := Lib.hid (kf_two hoff (s := w4.heap.size) (by omega))
        have HKE := Lib.hid (ket_two (tf := 65) (ti := 3) hoff)
        have HC5 := Lib.hid hC5
        clear hoff hC5 hb3
        by_cases hE0 : E = 0
        · subst hE0
          have HZ : Hid (∀ g ∈ L.take (j + 1), fE M g = 0) := Lib.hid (take_zero HF.out HZ0.out HEd.out)
          gi_wp2
          exact ⟨HKF.out, ⟨HZ.out, by rw [HST.out]; exact HC5.out⟩, HKE.out⟩
        · have hEn : (E != 0) = true := by simpa using hE0
          have HFE : Hid (firstE M L = E) := Lib.hid ((firstE_at L M j f HF.out HZ0.out (by rw [HEd.out]; exact hE0)).trans HEd.out)
          gi_wp2
          exact ⟨HKF.out, rfl, E, _, hE0, HFE.out, HC5.out⟩
      by_cases h4 : f.so = 4
      · have hfe : fE Mj f = wC Mj.c f.mo := by unfold fE; rw [if_neg (by omega), if_pos h4]
        have hstF : strip Mj f = { Mj with c := [] } := by unfold strip; rw [if_neg (by omega), if_pos h4]
        rw [h4] at d1
        have KW := Lib.hid ((wcells_any b nc' ccc Mj.c f.mo V2 hnc' hccc ok.le.2.2.2.1 (hcb.mono (B' := V2.heap.size) (by omega))).mono (fun e w' h => (⟨h.1, h.2 ▸ Below.refl _ _⟩ : e = .returned (.int .i64 (wC Mj.c f.mo)) ∧ Below V2.heap.size V2 w')))
        rw [← hfe, hE] at KW
        clear hfe d0 d2 d3 d5 d6 c0 c1 c2 c3 c4 c5 c6 c7 c9 c10
        gi_wp2_with fail
        refine ⟨trivial, ((callsIn_wide.2 KW.out).inRound l).mono ?_⟩
        rintro e V3 ⟨rfl, hb3⟩
        have hC3 := hC.later hb3
        have e7 := (hb3.cell (p := ⟨w.heap.size, 8, none⟩) (by show w.heap.size < _; omega)).trans c8
        have ee := (hb3.cell (p := ⟨w.heap.size + 1, 0, none⟩) (by show w.heap.size + 1 < _; omega)).trans ce
        obtain ⟨_, _, m3, _⟩ := hC3.m
        have z7 := frozen_of_row V3 w.heap.size 8 _ _ m3
        have zee := frozen_of_row V3 (w.heap.size + 1) 0 _ _ hC3.e
        have hC5 := hC3.set (M' := strip Mj f) E 8 (.slice none 0 0) (fun P C h1 h2 => ⟨P, .slice none 0 0, by rw [hstF]; rfl, by rw [hstF]; exact ⟨h2.p, ⟨none, 0, rfl, Nat.le_refl _, Nums.nil⟩⟩⟩)
        clear KW hC hC3 m1 m3 hstF hpa hcb hc hsm ok hE d1 d4 c8 ce ze
        have hoff : Off (fun q => q = w.heap.size ∨ q = w.heap.size + 1) V2 ((V3.setCell ⟨w.heap.size + 1, 0, none⟩ (.int .i64 E)).setCell ⟨w.heap.size, 8, none⟩ (.slice none 0 0)) := ((Off.of_below hb3).setCell (p := ⟨w.heap.size + 1, 0, none⟩) (.inr rfl) _).setCell (p := ⟨w.heap.size, 8, none⟩) (.inl rfl) _
        have HKF := Lib.hid (kf_two hoff (s := w4.heap.size) (by omega))
        have HKE := Lib.hid (ket_two (tf := 65) (ti := 3) hoff)
        have HC5 := Lib.hid hC5
        clear hoff hC5 hb3
        by_cases hE0 : E = 0
        · subst hE0
          have HZ : Hid (∀ g ∈ L.take (j + 1), fE M g = 0) := Lib.hid (take_zero HF.out HZ0.out HEd.out)
          gi_wp2
          exact ⟨HKF.out, ⟨HZ.out, by rw [HST.out]; exact HC5.out⟩, HKE.out⟩
        · have hEn : (E != 0) = true := by simpa using hE0
          have HFE : Hid (firstE M L = E) := Lib.hid ((firstE_at L M j f HF.out HZ0.out (by rw [HEd.out]; exact hE0)).trans HEd.out)
          gi_wp2
          exact ⟨HKF.out, rfl, E, _, hE0, HFE.out, HC5.out⟩
      by_cases h5 : f.so = 5
      · have hfe : fE Mj f = wT Mj.tx f.mo := by unfold fE; rw [if_neg (by omega), if_neg (by omega), if_pos h5]
        have hstF : strip Mj f = { Mj with tx := ⟨#[]⟩ } := by unfold strip; rw [if_neg (by omega), if_neg (by omega), if_pos h5]
        rw [h5] at d1
        have KW := Lib.hid ((wtext_any Mj.tx f.mo (by have := hsm.tx; unfold maxLen; omega) V2).mono (fun e w' h => (⟨h.1, h.2 ▸ Below.refl _ _⟩ : e = .returned (.int .i64 (wT Mj.tx f.mo)) ∧ Below V2.heap.size V2 w')))
        rw [← hfe, hE] at KW
        clear hfe d0 d2 d3 d5 d6 c0 c1 c2 c3 c4 c5 c6 c7 c8 c10
        gi_wp2_with fail
        refine ⟨trivial, ((callsIn_wide.2 KW.out).inRound l).mono ?_⟩
        rintro e V3 ⟨rfl, hb3⟩
        have hC3 := hC.later hb3
        have e7 := (hb3.cell (p := ⟨w.heap.size, 9, none⟩) (by show w.heap.size < _; omega)).trans c9
        have ee := (hb3.cell (p := ⟨w.heap.size + 1, 0, none⟩) (by show w.heap.size + 1 < _; omega)).trans ce
        obtain ⟨_, _, m3, _⟩ := hC3.m
        have z7 := frozen_of_row V3 w.heap.size 9 _ _ m3
        have zee := frozen_of_row V3 (w.heap.size + 1) 0 _ _ hC3.e
        have hC5 := hC3.set (M' := strip Mj f) E 9 (.string ⟨#[]⟩) (fun P C h1 h2 => ⟨P, C, by rw [hstF]; rfl, by rw [hstF]; exact ⟨h2.p, h2.c⟩⟩)
        clear KW hC hC3 m1 m3 hstF hpa hcb hc hsm ok hE d1 d4 c9 ce ze
        have hoff : Off (fun q => q = w.heap.size ∨ q = w.heap.size + 1) V2 ((V3.setCell ⟨w.heap.size + 1, 0, none⟩ (.int .i64 E)).setCell ⟨w.heap.size, 9, none⟩ (.string ⟨#[]⟩)) := ((Off.of_below hb3).setCell (p := ⟨w.heap.size + 1, 0, none⟩) (.inr rfl) _).setCell (p := ⟨w.heap.size, 9, none⟩) (.inl rfl) _
        have HKF := Lib.hid (kf_two hoff (s := w4.heap.size) (by omega))
        have HKE := Lib.hid (ket_two (tf := 65) (ti := 3) hoff)
        have HC5 := Lib.hid hC5
        clear hoff hC5 hb3
        by_cases hE0 : E = 0
        · subst hE0
          have HZ : Hid (∀ g ∈ L.take (j + 1), fE M g = 0) := Lib.hid (take_zero HF.out HZ0.out HEd.out)
          gi_wp2
          exact ⟨HKF.out, ⟨HZ.out, by rw [HST.out]; exact HC5.out⟩, HKE.out⟩
        · have hEn : (E != 0) = true := by simpa using hE0
          have HFE : Hid (firstE M L = E) := Lib.hid ((firstE_at L M j f HF.out HZ0.out (by rw [HEd.out]; exact hE0)).trans HEd.out)
          gi_wp2
          exact ⟨HKF.out, rfl, E, _, hE0, HFE.out, HC5.out⟩
      by_cases h6 : f.so = 6
      · have hfe : fE Mj f = wT Mj.tg f.mo := by unfold fE; rw [if_neg (by omega), if_neg (by omega), if_neg (by omega), if_pos h6]
        have hstF : strip Mj f = { Mj with tg := ⟨#[]⟩ } := by unfold strip; rw [if_neg (by omega), if_neg (by omega), if_neg (by omega), if_pos h6]
        rw [h6] at d1
        have KW := Lib.hid ((wtext_any Mj.tg f.mo (by have := hsm.tg; unfold maxLen; omega) V2).mono (fun e w' h => (⟨h.1, h.2 ▸ Below.refl _ _⟩ : e = .returned (.int .i64 (wT Mj.tg f.mo)) ∧ Below V2.heap.size V2 w')))
        rw [← hfe, hE] at KW
        clear hfe d0 d2 d3 d5 d6 c0 c1 c2 c3 c4 c5 c6 c7 c8 c9
        gi_wp2_with fail
        refine ⟨trivial, ((callsIn_wide.2 KW.out).inRound l).mono ?_⟩
        rintro e V3 ⟨rfl, hb3⟩
        have hC3 := hC.later hb3
        have e7 := (hb3.cell (p := ⟨w.heap.size, 10, none⟩) (by show w.heap.size < _; omega)).trans c10
        have ee := (hb3.cell (p := ⟨w.heap.size + 1, 0, none⟩) (by show w.heap.size + 1 < _; omega)).trans ce
        obtain ⟨_, _, m3, _⟩ := hC3.m
        have z7 := frozen_of_row V3 w.heap.size 10 _ _ m3
        have zee := frozen_of_row V3 (w.heap.size + 1) 0 _ _ hC3.e
        have hC5 := hC3.set (M' := strip Mj f) E 10 (.string ⟨#[]⟩) (fun P C h1 h2 => ⟨P, C, by rw [hstF]; rfl, by rw [hstF]; exact ⟨h2.p, h2.c⟩⟩)
        clear KW hC hC3 m1 m3 hstF hpa hcb hc hsm ok hE d1 d4 c10 ce ze
        have hoff : Off (fun q => q = w.heap.size ∨ q = w.heap.size + 1) V2 ((V3.setCell ⟨w.heap.size + 1, 0, none⟩ (.int .i64 E)).setCell ⟨w.heap.size, 10, none⟩ (.string ⟨#[]⟩)) := ((Off.of_below hb3).setCell (p := ⟨w.heap.size + 1, 0, none⟩) (.inr rfl) _).setCell (p := ⟨w.heap.size, 10, none⟩) (.inl rfl) _
        have HKF := Lib.hid (kf_two hoff (s := w4.heap.size) (by omega))
        have HKE := Lib.hid (ket_two (tf := 65) (ti := 3) hoff)
        have HC5 := Lib.hid hC5
        clear hoff hC5 hb3
        by_cases hE0 : E = 0
        · subst hE0
          have HZ : Hid (∀ g ∈ L.take (j + 1), fE M g = 0) := Lib.hid (take_zero HF.out HZ0.out HEd.out)
          gi_wp2
          exact ⟨HKF.out, ⟨HZ.out, by rw [HST.out]; exact HC5.out⟩, HKE.out⟩
        · have hEn : (E != 0) = true := by simpa using hE0
          have HFE : Hid (firstE M L = E) := Lib.hid ((firstE_at L M j f HF.out HZ0.out (by rw [HEd.out]; exact hE0)).trans HEd.out)
          gi_wp2
          exact ⟨HKF.out, rfl, E, _, hE0, HFE.out, HC5.out⟩
      obtain ⟨jn, hjn, hpl⟩ := ok.pl (by omega)
      have hfe : fE Mj f = wN (Mj.at' jn) f.le f.mo := by unfold fE; rw [if_neg h3, if_neg h4, if_neg h5, if_neg h6, hpl, Int.toNat_natCast]
      have hstF : strip Mj f = Mj.put jn 0 := by unfold strip; rw [if_neg h3, if_neg h4, if_neg h5, if_neg h6, hpl, Int.toNat_natCast]
      have cn := mg_at m1 hjn
      rw [hpl] at d2
      obtain ⟨nv, hnv⟩ : ∃ nv, Mj.at' jn = nv := ⟨_, rfl⟩
      rw [hnv] at cn hfe
      have KW := Lib.hid (wnum_any nv f.le f.mo)
      rw [← hfe, hE] at KW
      have q3 : (f.so == 3) = false := by simp; omega
      have q4 : (f.so == 4) = false := by simp; omega
      have q5 : (f.so == 5) = false := by simp; omega
      have q6 : (f.so == 6) = false := by simp; omega
      clear hfe hpl hnv c0 c1 c2 c3 c4 c5 c6 c7 c8 c9 c10
      have hj6 : (jn : Int) < 6 := by omega
      gi_wp2_with fail
      have lP : ∀ W, W.heap[qb]? = some (.cells f.cs 65 (0, 0)) → (Instr.loadAt 3 (.pointer (some ⟨qb, 2, none⟩))).run Try.prog W = .ok (.int .i64 (jn : Int)) W := fun W hW => by
        have hx : W.cell? ⟨qb, 2, none⟩ = some (.int .i64 (jn : Int)) := by
          rw [← d2]
          simp [World.cell?, hW, hc]
        simp [Instr.loadAt, go_sem, hx]
      have lL : ∀ W, W.heap[qb]? = some (.cells f.cs 65 (0, 0)) → (Instr.loadAt 3 (.pointer (some ⟨qb, 3, none⟩))).run Try.prog W = .ok (.int .i64 f.le) W := fun W hW => by
        obtain ⟨_, _, _, hx, _⟩ := fd_block hW
        simp [Instr.loadAt, go_sem, hx]
      have lM : ∀ W, W.heap[qb]? = some (.cells f.cs 65 (0, 0)) → (Instr.loadAt 3 (.pointer (some ⟨qb, 4, none⟩))).run Try.prog W = .ok (.int .i64 f.mo) W := fun W hW => by
        obtain ⟨_, _, _, _, hx, _⟩ := fd_block hW
        simp [Instr.loadAt, go_sem, hx]
      have hne0 : qb ≠ w.heap.size := by omega
      have hne1 : qb ≠ w.heap.size + 1 := by omega
      refine wpIn_region_order7 ((0, false) :: (1, false) :: (2, false) :: (3, false) :: (4, false) :: (5, false) :: (7, false) :: (8, false) :: (9, false) :: (10, false) :: (13, false) :: (6, true) :: (11, false) :: (12, false) :: (14, false) :: (15, false) :: []) (fun W => W.heap[qb]? = some (.cells f.cs 65 (0, 0))) (C := fun W => Below V2.heap.size V2 W) (by kernel_rfl) (fun ⟨_, _, h⟩ => h) (by kernel_rfl) (by kernel_rfl) (Below.refl _ _).drew (fun W hW => (hW.block _ hqlt).trans hc) ?_
      repeat (refine wpO7_pure rfl rfl ?_; go_big_quiet_step (fail); refine wpQuiet_nil ?_)
      refine wpO7_load (ad := ⟨qb, 2, none⟩) (.int .i64 (jn : Int)) rfl rfl rfl (by rfl) lP ?_
      simp only [Act.put, List.setIfInBounds_toArray, List.set_cons_succ, List.set_cons_zero]
      repeat (refine wpO7_pure rfl rfl ?_; go_big_quiet_step (fail); refine wpQuiet_nil ?_)
      refine wpO7_load (ad := ⟨qb, 2, none⟩) (.int .i64 (jn : Int)) rfl rfl rfl (by rfl) lP ?_
      simp only [Act.put, List.setIfInBounds_toArray, List.set_cons_succ, List.set_cons_zero]
      repeat (refine wpO7_pure rfl rfl ?_; go_big_quiet_step (fail); refine wpQuiet_nil ?_)
      refine wpO7_load (ad := ⟨qb, 3, none⟩) (.int .i64 f.le) rfl rfl rfl (by rfl) lL ?_
      simp only [Act.put, List.setIfInBounds_toArray, List.set_cons_succ, List.set_cons_zero]
      repeat (refine wpO7_pure rfl rfl ?_; go_big_quiet_step (fail); refine wpQuiet_nil ?_)
      refine wpO7_load (ad := ⟨qb, 4, none⟩) (.int .i64 f.mo) rfl rfl rfl (by rfl) lM ?_
      simp only [Act.put, List.setIfInBounds_toArray, List.set_cons_succ, List.set_cons_zero]
      repeat (refine wpO7_pure rfl rfl ?_; go_big_quiet_step (fail); refine wpQuiet_nil ?_)
      refine wpO7_look (ad := ⟨w.heap.size, 1 + jn, none⟩) (.int .i64 nv) rfl rfl rfl (by rfl) (fun W hW => (hW.block _ hqlt).trans hc) (fun W hW => ?_) ?_
      · have hx := (hW.cell (p := ⟨w.heap.size, 1 + jn, none⟩) (by show w.heap.size < _; omega)).trans cn
        simp [Instr.loadAt, go_sem, hx]
      simp only [Act.put, List.setIfInBounds_toArray, List.set_cons_succ, List.set_cons_zero]
      refine wpO7_call (fun v => v = .int .i64 E) (fun _ W => Below V2.heap.size V2 W) (f := 29) (args := #[.int .i64 nv, .int .i64 f.le, .int .i64 f.mo]) rfl rfl rfl (fun _ W hW => (hW.block _ hqlt).trans hc) (fun x => by first | rfl | (simp [go_sem]; done)) (fun W hW => (KW.out W).mono (fun e w' h => ⟨_, h.1, rfl, h.2 ▸ hW⟩)) ?_
      rintro v rfl
      simp only [Act.put, List.setIfInBounds_toArray, List.set_cons_succ, List.set_cons_zero]
      refine wpO7_store (fun W => ∃ W0, Below V2.heap.size V2 W0 ∧ W = W0.setCell ⟨w.heap.size + 1, 0, none⟩ (.int .i64 E)) rfl rfl rfl rfl ⟨w.heap.size + 1, 0, none⟩ (.int .i64 E) (by rfl) (by rfl) (fun W hW => ?_) (fun W hW => ?_) ?_
      · obtain ⟨W0, h1, rfl⟩ := hW
        exact (Below.heap_setCell _ _ _ _ hne1).trans ((h1.block _ hqlt).trans hc)
      · have k0 := (hW.cell (p := ⟨w.heap.size + 1, 0, none⟩) (by show w.heap.size + 1 < _; omega)).trans ce
        have k1 := frozen_of_row W (w.heap.size + 1) 0 _ _ ((hW.block _ hb2).trans hC.e)
        exact ⟨_, by simp [Instr.storeAt, go_sem, k0, k1], W, hW, rfl⟩
      repeat (refine wpO7_pure rfl rfl ?_; go_big_quiet_step (fail); refine wpQuiet_nil ?_)
      refine wpO7_store (fun W => ∃ W0, Below V2.heap.size V2 W0 ∧ W = (W0.setCell ⟨w.heap.size + 1, 0, none⟩ (.int .i64 E)).setCell ⟨w.heap.size, 1 + jn, none⟩ (.int .i64 0)) rfl rfl rfl rfl ⟨w.heap.size, 1 + jn, none⟩ (.int .i64 0) (by rfl) (by rfl) (fun W hW => ?_) (fun W hW => ?_) ?_
      · obtain ⟨W0, h1, rfl⟩ := hW
        exact (Below.heap_setCell _ _ _ _ hne0).trans ((Below.heap_setCell _ _ _ _ hne1).trans ((h1.block _ hqlt).trans hc))
      · obtain ⟨W0, h1, rfl⟩ := hW
        have m5 := (Below.heap_setCell W0 ⟨w.heap.size + 1, 0, none⟩ (.int .i64 E) w.heap.size hNE).trans ((h1.block _ (by omega)).trans m1)
        have k0 := mg_at m5 hjn
        have k1 := frozen_of_row _ w.heap.size (1 + jn) _ _ m5
        exact ⟨_, by simp [Instr.storeAt, go_sem, k0, k1], W0, h1, rfl⟩
      rintro V6 ⟨V3, hb3, rfl⟩
      have hC5 := (hC.later hb3).set (M' := strip Mj f) E (1 + jn) (.int .i64 0) (fun P C h1 h2 => ⟨P, C, by rw [hstF, mC_put hjn], by rw [hstF]; exact ⟨by rw [Mg.put_p]; exact h2.p, by rw [Mg.put_c]; exact h2.c⟩⟩)
      have ee := row_cell hC5.e 0 _ rfl
      clear KW hC m1 hstF hpa hcb hc hsm ok hE d0 d1 d2 d3 d4 d5 d6 ce ze lP lL lM cn
      have hoff : Off (fun q => q = w.heap.size ∨ q = w.heap.size + 1) V2 ((V3.setCell ⟨w.heap.size + 1, 0, none⟩ (.int .i64 E)).setCell ⟨w.heap.size, 1 + jn, none⟩ (.int .i64 0)) := ((Off.of_below hb3).setCell (p := ⟨w.heap.size + 1, 0, none⟩) (.inr rfl) _).setCell (p := ⟨w.heap.size, 1 + jn, none⟩) (.inl rfl) _
      have HKF := Lib.hid (kf_two hoff (s := w4.heap.size) (by omega))
      have HKE := Lib.hid (ket_two (tf := 65) (ti := 3) hoff)
      have HC5 := Lib.hid hC5
      clear hoff hC5 hb3
      by_cases hE0 : E = 0
      · subst hE0
        have HZ : Hid (∀ g ∈ L.take (j + 1), fE M g = 0) := Lib.hid (take_zero HF.out HZ0.out HEd.out)
        gi_wp2
        exact ⟨HKF.out, ⟨HZ.out, by rw [HST.out]; exact HC5.out⟩, HKE.out⟩
      · have hEn : (E != 0) = true := by simpa using hE0
        have HFE : Hid (firstE M L = E) := Lib.hid ((firstE_at L M j f HF.out HZ0.out (by rw [HEd.out]; exact hE0)).trans HEd.out)
        gi_wp2
        exact ⟨HKF.out, rfl, E, _, hE0, HFE.out, HC5.out⟩
    case iter =>
      intro Bk X l V hBk hBlt hX hl hD hB hY
      have h := fall_in 8 (by omega) 7 l (w.heap.size + 2) M.k 2 (fun j V => ((∀ g ∈ L.take j, fE M g = 0) ∧ CkB w.heap.size w4 ((L.take j).foldl strip M) 0 V) ∧ Bk V) X
        (fun j A B h hb => ⟨⟨h.1.1, h.1.2.later hb⟩, hBk A _ h.2 hb.size (fun q h1 h2 => by have := hBlt A h.2; exact hb.block q (by omega))⟩)
        (fun j f W h hf => by
          rw [KA.out] at hf
          exact (hY j f W ⟨hf, h.1⟩ h.2 (List.getElem?_eq_some_iff.1 hf).1).mono (fun e W2 h => h.elim (fun h => .inl ⟨h.1, h.2.1, h.2.2.1⟩) (fun h => .inr ⟨h.1, h.2.1⟩)))
        V ((hD.2.off.block _ (by omega) (by omega)).trans hg0) ((hD.2.off.block _ (by omega) (by omega)).trans hg1) ⟨hD, hB⟩
      rw [KA.out] at h
      exact h
    case done =>
      rintro D V hD ⟨hz, hC⟩ hK
      rw [List.take_length] at hz hC
      have hf0 := (firstE_zero L M).1 hz
      have hR := HR.out
      rw [if_neg (by simp [hf0])] at hR
      have hsm := hs.fold L
      have hkk := KS.out L.length
      rw [List.take_length] at hkk
      obtain ⟨Ms, hMs⟩ : ∃ Ms, L.foldl strip M = Ms := ⟨_, rfl⟩
      rw [hMs] at hR hC hsm hkk
      obtain ⟨P, C, m1, m2⟩ := hC.m
      have KW := msame_any Ms (Mg.zero M.k) P C (.slice none 0 0) (.slice none 0 0) V hsm (m2.mono (by have := (Array.getElem?_eq_some_iff.1 hC.e).1; omega)) ⟨⟨none, 0, rfl, Nat.le_refl _, Nums.nil⟩, ⟨none, 0, rfl, Nat.le_refl _, Nums.nil⟩⟩
      obtain ⟨Q, hQ⟩ : ∃ Q, decide (Ms = Mg.zero M.k) = Q := ⟨_, rfl⟩
      rw [hQ] at KW
      simp only [mV, mC, Mg.zero] at KW
      obtain ⟨c0, c1, c2, c3, c4, c5, c6, c7, c8, c9, c10⟩ := mg_block m1
      rw [hkk] at c0 KW
      have ce := row_cell hC.e 0 _ rfl
      have HC := Lib.hid hC
      have KW := Lib.hid KW
      have HB := Lib.hid (hb04.trans (hC.off.below (B := w.heap.size) (fun k hk => by omega) hb04.size))
      have HKD := Lib.hid hK
      have hDlt := (Array.getElem?_eq_some_iff.1 hK).1
      have hb1lt := (Array.getElem?_eq_some_iff.1 hC.e).1
      have hQR : R = if Q = true then 0 else 3 := by
        rw [← hR, ← hQ]
        by_cases h : Ms = Mg.zero M.k
        · rw [if_pos h, if_pos (decide_eq_true h)]
        · rw [if_neg h, if_neg (by simpa using h)]
      clear hC m1 m2 hz hf0 hR hsm hMs hK hQ
      gi_wp2_with fail
      refine ⟨trivial, (callsIn_wide.2 KW.out).mono ?_⟩
      rintro e V2 ⟨rfl, hb2⟩
      have ee := (hb2.cell (p := ⟨w.heap.size + 1, 0, none⟩) hb1lt).trans ce
      have zee := frozen_of_row V2 (w.heap.size + 1) 0 _ _ ((hb2.block _ hb1lt).trans HC.out.e)
      have HK2 := Lib.hid ((hb2.block _ hDlt).trans HKD.out)
      have HB2 := Lib.hid (HB.out.trans (hb2.mono HB.out.size))
      have hV2 := hb2.size
      clear KW hb2 ce c0 c1 c2 c3 c4 c5 c6 c7 c8 c9 c10 HC
      cases Q
      · obtain rfl : R = 3 := hQR
        have HX := Lib.hid ((Below.heap_setCell V2 ⟨w.heap.size + 1, 0, none⟩ (.int .i64 3) D (by show _ ≠ w.heap.size + 1; omega)).trans HK2.out)
        have HY := Lib.hid (HB2.out.setCell (p := ⟨w.heap.size + 1, 0, none⟩) (Nat.le_succ _) (.int .i64 3))
        gi_wp2
        simp only [Exit.noGoto]
        refine ⟨by simp, .inl ⟨_, _, rfl, run_takeDeferred HX.out, ?_⟩⟩
        refine ⟨_, ?_, rfl, HY.out.trans (below_put _ _ (by omega))⟩
        simp [results, Try.f8, go_sem]
      · obtain rfl : R = 0 := hQR
        gi_wp2
        simp only [Exit.noGoto]
        refine ⟨by simp, .inl ⟨_, _, rfl, run_takeDeferred HK2.out, ?_⟩⟩
        refine ⟨_, ?_, rfl, HB2.out.trans (below_put _ _ (by omega))⟩
        simp [results, Try.f8, go_sem]
    case stop =>
      rintro D cd V hD ⟨rfl, E, M', hne, hfe, hC⟩ hK
      have hR := HR.out
      rw [hfe, if_pos hne] at hR
      subst hR
      have ce := row_cell hC.e 0 _ rfl
      have hEn : (E == 0) = false := by simpa using hne
      have HB := Lib.hid (hb04.trans (hC.off.below (B := w.heap.size) (fun k hk => by omega) hb04.size))
      have HKD := Lib.hid hK
      clear hC hK hfe
      gi_wp2
      refine ⟨trivial, ?_⟩
      gi_wp2
      simp only [Exit.noGoto]
      refine ⟨by simp, .inl ⟨_, _, rfl, run_takeDeferred HKD.out, ?_⟩⟩
      refine ⟨_, ?_, rfl, HB.out.trans (below_put _ _ (by omega))⟩
      simp [results, Try.f8, go_sem]
end Go.Proofs.Ytnbhiamnoapmlaa

namespace Go.Proofs.Ytnbhiamnoapmlaa
open Go.RowKit
section
variable {P : Program} {ops : Array Oper} {rest : List Oper} {op : Oper} {a : Act} {w w' : World} {Q : Exit → Act → World → Prop}
theorem wpList_load_run (hgd : op.guard = none) (ty : TypeId) (x : Operand) (ho : op.op = .load ty x) (ad : Option Addr) (hx : a.eval x = .pointer ad) (v : Value) (hr : (Instr.loadAt ty (.pointer ad)).run P w = .ok v w)
    (h : wpList P ops Q rest (a.put op.dst v) w) : wpList P ops Q (op :: rest) a w :=
  wpList_plain hgd fun _ hK => by
    unfold Oper.wp execOp
    simp only [ho, hx, Sem.run_bind, hr, Result.andThen_ok]
    exact hK _ _ h
/-- .. a guarded load -/
theorem wpList_load_rung (hwt : Region.wanted op (yielded ops a.tmps) = true) (ty : TypeId) (x : Operand) (ho : op.op = .load ty x) (ad : Option Addr) (hx : a.eval x = .pointer ad) (v : Value) (hr : (Instr.loadAt ty (.pointer ad)).run P w = .ok v w)
    (h : wpList P ops Q rest (a.put op.dst v) w) : wpList P ops Q (op :: rest) a w := by
  simp only [wpList, hwt, if_true]
  left
  unfold Oper.wp execOp
  simp only [ho, hx, Sem.run_bind, hr, Result.andThen_ok]
  exact h
theorem wpList_build_run (hgd : op.guard = none) (ty : TypeId) (parts : Array (Nat × Operand)) (ho : op.op = .build ty parts) (ps : List (Nat × Value)) (hp : (parts.toList.map fun p => (p.1, a.eval p.2)) = ps) (v : Value) (hr : (Instr.build ty ps.toArray).run P w = .ok v w)
    (h : wpList P ops Q rest (a.put op.dst v) w) : wpList P ops Q (op :: rest) a w :=
  wpList_plain hgd fun _ hK => by
    have hp2 : (parts.map fun p => (p.1, a.eval p.2)) = ps.toArray := by
      rw [← hp, ← Array.toList_map]
    unfold Oper.wp execOp
    simp only [ho, hp2, Sem.run_bind, hr, Result.andThen_ok]
    exact hK _ _ h
theorem wpList_store_run (hgd : op.guard = none) (ty : TypeId) (x y : Operand) (ho : op.op = .store ty x y) (ad : Option Addr) (hx : a.eval x = .pointer ad) (v : Value) (hy : a.eval y = v) (hr : (Instr.storeAt ty (.pointer ad) v).run P w = .ok () w')
    (h : wpList P ops Q rest (a.put op.dst undef) w') : wpList P ops Q (op :: rest) a w :=
  wpList_plain hgd fun _ hK => by
    unfold Oper.wp execOp
    simp only [ho, hx, hy, Sem.run_bind, hr, Result.andThen_ok]
    exact hK _ _ h
end
theorem fold_set (off : Nat) : ∀ (l : List Value) (i : Nat) (z : List Value), off + i + l.length ≤ z.length → (l.zipIdx i).foldl (fun (cs : Array Value) x => cs.setIfInBounds (off + x.2) x.1) z.toArray = (z.take (off + i) ++ l ++ z.drop (off + i + l.length)).toArray
  | [], i, z, _ => by simp
  | v :: r, i, z, h => by
    rw [List.length_cons] at h
    rw [List.zipIdx_cons, List.foldl_cons]
    have h1 : z.toArray.setIfInBounds (off + i) v = (z.set (off + i) v).toArray := by simp
    rw [h1, fold_set off r (i + 1) (z.set (off + i) v) (by rw [List.length_set]; omega), show off + (i + 1) = off + i + 1 by omega, list_seg_step z (off + i) v r (by omega)]
    rfl
/-- what 'fill' puts at one place -/
theorem fill_part (z cs : Array Value) (off : Nat) (h : off + cs.size ≤ z.size) : cs.zipIdx.foldl (fun (a : Array Value) x => a.setIfInBounds (off + x.2) x.1) z = (z.toList.take off ++ cs.toList ++ z.toList.drop (off + cs.size)).toArray := by
  have h1 := fold_set off cs.toList 0 z.toList (by rw [Nat.add_zero, Array.length_toList, Array.length_toList]; exact h)
  rw [Nat.add_zero, Array.toArray_toList, Array.length_toList] at h1
  rw [← h1, ← Array.foldl_toList, Array.toList_zipIdx]
theorem fill_cons {place : Nat → Option (Nat × Nat)} {cells out : Array Value} {i : Nat} {v : Value} {rest : List (Nat × Value)} {off size : Nat} (h : place i = some (off, size)) (hs : v.cells.size = size) (hf : off + v.cells.size ≤ cells.size)
    (ho : (cells.toList.take off ++ v.cells.toList ++ cells.toList.drop (off + v.cells.size)).toArray = out) : Instr.fill place cells ((i, v) :: rest) = Instr.fill place out rest := by
  rw [Instr.fill, h]
  have e1 : (decide (v.cells.size ≠ size)) = false := by simpa using hs
  have e2 : (decide (off + v.cells.size > cells.size)) = false := by simp; omega
  simp only [e1, e2, Bool.or_self, Bool.false_eq_true, if_false]
  rw [← ho, ← fill_part cells v.cells off hf]
/-- cells stored into a row from place o on -/
theorem run_store_part {P : Program} (W : World) (b o : Nat) (ty t : TypeId) (cur cs : Array Value) (h : W.heap[b]? = some (.cells cur t (0, 0))) (hfit : o + cs.size ≤ cur.size) (hi : (P.info? ty).map (·.size) = some cs.size) (h1 : cs.all (·.oneCell') = true) :
    (Instr.storeAt ty (.pointer (some ⟨b, o, none⟩)) (.agg cs)).run P W = .ok () (W.setRow b (cur.toList.take o ++ cs.toList ++ cur.toList.drop (o + cs.size)).toArray) := by
  have hst := run_storeCells_at (P := P) b o t cs.toList 0 cur W h (by rw [Array.length_toList]; omega) (fun v hv => (Array.all_eq_true_iff_forall_mem.1 h1) v (by simpa using hv))
  rw [Nat.add_zero, Array.length_toList] at hst
  cases hq : P.info? ty with
  | none => simp [hq] at hi
  | some i =>
    have hs : cs.size = i.size := by simp [hq] at hi; omega
    simp only [Instr.storeAt, Instr.sureAddr, Sem.run_bind, Sem.run_pure, Result.andThen_ok]
    simp [storeVar, sizeOf, typeInfo, hq, Value.cells, hs] at hst ⊢
    exact hst
end Go.Proofs.Ytnbhiamnoapmlaa

namespace Go.Proofs.Ytnbhiamnoapmlaa
open Go.RowKit
section
variable {F : Fence} {nF : Nat} {P : Program} {w w' : World} {ops : Array Oper} {rest : List Oper} {o : Oper} {a : Act} {Q : Exit → Act → World → Prop}
theorem wpListIn_store_run (hg : o.guard = none) (t : TypeId) (x y : Operand) (hop : o.op = .store t x y) (ad : Option Addr) (hx : a.eval x = .pointer ad) (v : Value) (hy : a.eval y = v) (hr : (Instr.storeAt t (.pointer ad) v).run P w = .ok () w')
    (hK : wpListIn F nF P ops Q rest (a.put o.dst undef) w') : wpListIn F nF P ops Q (o :: rest) a w := by
  refine wpListIn_plain hg fun K hK' => ?_
  unfold Oper.wpIn
  refine ⟨?_, ?_⟩
  · simp [Oper.about, hop]
  · rw [Oper.semAt_plain F _ _ (by rw [hop]; intro c hc'; cases hc')]
    simp [execOp, hop, hx, hy, hr, Result.andThen]
    exact hK' _ _ hK
theorem wpListIn_load_run (hg : o.guard = none) (t : TypeId) (x : Operand) (hop : o.op = .load t x) (ad : Option Addr) (hx : a.eval x = .pointer ad) (v : Value) (hr : (Instr.loadAt t (.pointer ad)).run P w = .ok v w)
    (hK : wpListIn F nF P ops Q rest (a.put o.dst v) w) : wpListIn F nF P ops Q (o :: rest) a w := by
  refine wpListIn_plain hg fun K hK' => ?_
  unfold Oper.wpIn
  refine ⟨?_, ?_⟩
  · simp [Oper.about, hop]
  · rw [Oper.semAt_plain F _ _ (by rw [hop]; intro c hc'; cases hc')]
    simp [execOp, hop, hx, hr, Result.andThen]
    exact hK' _ _ hK
end
end Go.Proofs.Ytnbhiamnoapmlaa

namespace Go.Proofs.Ytnbhiamnoapmlaa
open Go.RowKit Go.Shelf
set_option maxRecDepth 100000
attribute [local go_sem] Oper.semAt_some

theorem mg_store (w : World) (R : Nat) (old cs : Array Value) (h : w.heap[R]? = some (.cells old 26 (0, 0))) (ho : old.size = 11) (hc : cs.size = 11) (h1 : cs.all (·.oneCell') = true) :
    (Instr.storeAt 26 (.pointer (some ⟨R, 0, none⟩)) (.agg cs)).run Try.prog w = .ok () (w.setRow R cs) := by
  simp only [Instr.storeAt, Instr.sureAddr, Sem.run_bind, Sem.run_pure, Result.andThen]
  exact run_storeVar_row w R 26 26 old cs h (by rw [hc]; exact mgInfo) (by omega) h1
/-- a message's box bp whose lists' slices stay -/
structure PjB (bp : Nat) (w5 : World) (P C : Value) (M : Mg) (V : World) : Prop where
  m : V.heap[bp]? = some (.cells (mC M P C) 26 (0, 0))
  off : Off (fun q => q = bp) w5 V
section
variable {bp : Nat} {w5 V V' : World} {P C : Value} {M M' : Mg}
theorem PjB.later (h : PjB bp w5 P C M V) (hb : Below V.heap.size V V') : PjB bp w5 P C M V' := ⟨(hb.block _ (Array.getElem?_eq_some_iff.1 h.m).1).trans h.m, off_below h.off (hb.mono h.off.size)⟩
theorem PjB.putObj {l : Nat} {o' : Obj} (h : PjB bp w5 P C M V) (hw : w5.heap.size ≤ l) (hbp : bp < w5.heap.size) : PjB bp w5 P C M (V.putObj l o') := ⟨(World.putObj_heap_other (by omega)).trans h.m, off_below h.off (below_put V o' hw)⟩
theorem PjB.set (h : PjB bp w5 P C M V) (j : Nat) (u : Value) (hM : (mC M P C).setIfInBounds j u = mC M' P C) : PjB bp w5 P C M' (V.setCell ⟨bp, j, none⟩ u) := ⟨by rw [setCell_at h.m, hM], h.off.setCell (p := ⟨bp, j, none⟩) rfl _⟩
end
theorem kf_one {V W : World} {b s : Nat} (h : Off (fun q => q = b) V W) (hb : b < s) : KeepsFrom s V W := ⟨h.size, fun q o hq ho _ => (h.block q (Array.getElem?_eq_some_iff.1 ho).1 (by omega)).trans ho⟩
theorem ket_one {V W : World} {b lo : Nat} {tf ti : TypeId} (h : Off (fun q => q = b) V W) (hb : b < lo) : KeT tf ti lo V W := ⟨h.size, fun q cs t hq _ hA => h.block q (Array.getElem?_eq_some_iff.1 hA).1 (by omega)⟩
theorem prj_p (M : Mg) (f : Fd) : (prj M f).p = M.p := by
  unfold prj
  repeat' split
  all_goals first | rfl | exact Mg.put_p ..
theorem prj_c (M : Mg) (f : Fd) : (prj M f).c = M.c := by
  unfold prj
  repeat' split
  all_goals first | rfl | exact Mg.put_c ..
theorem fold_prj_p : ∀ (L : List Fd) (M : Mg), (L.foldl prj M).p = M.p
  | [], _ => rfl
  | f :: r, M => by rw [List.foldl_cons, fold_prj_p r, prj_p]
theorem fold_prj_c : ∀ (L : List Fd) (M : Mg), (L.foldl prj M).c = M.c
  | [], _ => rfl
  | f :: r, M => by rw [List.foldl_cons, fold_prj_c r, prj_c]

set_option maxHeartbeats 16000000 in
theorem mproject_any (M : Mg) (P C : Value) (v : Int) (w : World) (hs : Msm M) (h1 : MAt w w.heap.size M P C) : Calls Try.prog 9 #[mV M P C, .int .i64 v] w fun e w' => MR w (mproj M v) e w' := by
  obtain ⟨w2, hw2⟩ : ∃ w2, w2 = ((w.alloc (.cells (mC M P C) 26)).alloc (.cells #[.int .i64 v] 3)).alloc (.cells (mC (Mg.zero 0) (.slice none 0 0) (.slice none 0 0)) 26) := ⟨_, rfl⟩
  have hs2 : w2.heap.size = w.heap.size + 3 := by rw [hw2]; simp
  have hb2 : Below w.heap.size w w2 := by rw [hw2]; exact (((Below.refl _ w).alloc (Nat.le_refl _) _).alloc (by simp) _).alloc (by simp; omega) _
  have q0 : w2.heap[w.heap.size]? = some (.cells (mC M P C) 26 (0, 0)) := by
    rw [hw2, Below.heap_alloc _ _ _ (by simp; omega), Below.heap_alloc _ _ _ (by simp)]; exact World.alloc_heap_new _ _
  have q1 : w2.heap[w.heap.size + 1]? = some (.cells #[.int .i64 v] 3 (0, 0)) := by
    have := World.alloc_heap_new (w.alloc (.cells (mC M P C) 26)) (.cells #[.int .i64 v] 3)
    rw [World.size_alloc] at this
    rw [hw2, Below.heap_alloc _ _ _ (by simp)]; exact this
  have q2 : w2.heap[w.heap.size + 2]? = some (.cells (mC (Mg.zero 0) (.slice none 0 0) (.slice none 0 0)) 26 (0, 0)) := by
    have := World.alloc_heap_new ((w.alloc (.cells (mC M P C) 26)).alloc (.cells #[.int .i64 v] 3)) (.cells (mC (Mg.zero 0) (.slice none 0 0) (.slice none 0 0)) 26)
    rw [World.size_alloc, World.size_alloc] at this
    rw [hw2]; exact this
  obtain ⟨G, hG⟩ : ∃ G, mproj M v = G := ⟨_, rfl⟩
  rw [hG]
  unfold mproj at hG
  have KC := Lib.hid (mcopy_any M P C w2 hs ((h1.below hb2).mono hb2.size))
  unfold MR
  unfold mV at KC ⊢
  simp only [mC, Mg.zero] at hw2 KC q0 q1 q2 ⊢
  have HW := Lib.hid hw2
  have HB2 := Lib.hid hb2
  have HQ := Lib.hid (And.intro q0 (And.intro q1 q2))
  clear hw2 hb2 q0 q1 q2 h1 hs
  by_cases hv : v = 1
  case neg =>
    go_enter Try.func9, Try.ntmps9
    go_wp2
    refine wp_scope_straight ?_
    go_wp2_with fail
    rw [← HW.out]
    refine KC.out.mono ?_
    intro e w3 hMR
    unfold MR at hMR
    obtain ⟨P3, C3, rfl, ho3, hb3⟩ := hMR
    obtain ⟨⟨a3, cp3, rfl, _, _⟩, ⟨b3, cb3, rfl, _, _⟩⟩ := ho3.at
    obtain ⟨np, hnp⟩ : ∃ np, M.p.length = np := ⟨_, rfl⟩
    obtain ⟨nc, hnc⟩ : ∃ nc, M.c.length = nc := ⟨_, rfl⟩
    unfold mV mC
    rw [hnp, hnc] at ho3 ⊢
    have HLT := Lib.hid (And.intro ho3.p.lt ho3.c.lt)
    obtain ⟨w4, hw4⟩ : ∃ w4, w3.alloc (.cells #[.int .i64 M.k, .int .i64 M.n0, .int .i64 M.n1, .int .i64 M.n2, .int .i64 M.n3, .int .i64 M.n4, .int .i64 M.n5, .slice a3 np cp3, .slice b3 nc cb3, .string M.tx, .string M.tg] 26) = w4 := ⟨_, rfl⟩
    have hs4 : w4.heap.size = w3.heap.size + 1 := by rw [← hw4]; simp
    have hb34 : Below w3.heap.size w3 w4 := by rw [← hw4]; exact (Below.refl _ w3).alloc (Nat.le_refl _) _
    have r4 : w4.heap[w3.heap.size]? = some (.cells (mC M (.slice a3 np cp3) (.slice b3 nc cb3)) 26 (0, 0)) := by rw [← hw4]; exact World.alloc_heap_new _ _
    have ho4 := ho3.later hb34
    have hs3 := hb3.size
    have hb24 : Below w2.heap.size w2 w4 := hb3.trans (hb34.mono hs3)
    have p0 := (hb24.block w.heap.size (by omega)).trans HQ.out.1
    have p1 := (hb24.block (w.heap.size + 1) (by omega)).trans HQ.out.2.1
    have p2 := (hb24.block (w.heap.size + 2) (by omega)).trans HQ.out.2.2
    have HB4 := Lib.hid (HB2.out.trans (hb24.mono HB2.out.size))
    have hge : w.heap.size + 3 ≤ w3.heap.size := by omega
    have HSZ := Lib.hid (show w.heap.size + 3 = w2.heap.size by omega)
    have HO4 := Lib.hid ho4
    have HW4 := Lib.hid hw4
    have hv1 := row_cell p1 0 _ rfl
    clear KC HW ho3 ho4 hb3 hb34 hb24 HQ HB2 hs2 hs3
    have hvn : (v != 1) = true := by simpa using hv
    rw [if_neg hv] at hG
    subst hG
    obtain ⟨f0, f1, f2, f3, f4, f5, f6, f7, f8, f9, f10⟩ := mg_block r4
    rw [← hw4] at f0 f1 f2 f3 f4 f5 f6 f7 f8 f9 f10 hv1
    have HP2 := Lib.hid p2
    have HP2' := Lib.hid (hw4.symm ▸ p2)
    clear hw4 p0 p1 p2 r4 hv
    go_wp2_with (refine wpList_store_row rfl 26 (.tmp 4) (.tmp 11) rfl (w.heap.size + 1 + 1) #[.int .i64 M.k, .int .i64 M.n0, .int .i64 M.n1, .int .i64 M.n2, .int .i64 M.n3, .int .i64 M.n4, .int .i64 M.n5, .slice a3 np cp3, .slice b3 nc cb3, .string M.tx, .string M.tg] rfl rfl 26 _ HP2'.out mgInfo rfl (by simp [Value.oneCell']) ?_)
    rw [HW4.out]
    have hfin := setRow_heap w4 (w.heap.size + 1 + 1) _ #[.int .i64 M.k, .int .i64 M.n0, .int .i64 M.n1, .int .i64 M.n2, .int .i64 M.n3, .int .i64 M.n4, .int .i64 M.n5, .slice a3 np cp3, .slice b3 nc cb3, .string M.tx, .string M.tg] _ _ HP2.out
    have hoff := Off.setRow (S := fun k => k = w.heap.size + 1 + 1) (Off.refl _ w4) rfl #[.int .i64 M.k, .int .i64 M.n0, .int .i64 M.n1, .int .i64 M.n2, .int .i64 M.n3, .int .i64 M.n4, .int .i64 M.n5, .slice a3 np cp3, .slice b3 nc cb3, .string M.tx, .string M.tg]
    have hbf := HB4.out.trans (hoff.below (B := w.heap.size) (fun k hk => by omega) HB4.out.size)
    have hof := HO4.out.off hoff (fun g hg e => by have := (HLT.out.1 g hg).1; have := HSZ.out; omega) (fun g hg e => by have := (HLT.out.2 g hg).1; have := HSZ.out; omega)
    generalize w4.setRow (w.heap.size + 1 + 1) _ = Wf at *
    obtain ⟨y0, y1, y2, y3, y4, y5, y6, y7, y8, y9, y10⟩ := mg_block hfin
    simp only [Exit.noGoto]
    refine bodyPost_ret (v := .agg #[.int .i64 M.k, .int .i64 M.n0, .int .i64 M.n1, .int .i64 M.n2, .int .i64 M.n3, .int .i64 M.n4, .int .i64 M.n5, .slice a3 np cp3, .slice b3 nc cb3, .string M.tx, .string M.tg]) (by simp [results, Try.results9, go_sem, y0, y1, y2, y3, y4, y5, y6, y7, y8, y9, y10]) rfl ?_
    exact ⟨_, _, rfl, hof.less (by have := HSZ.out; omega), hbf⟩
  subst hv
  rw [if_pos rfl] at hG
  refine (callsIn_wide (n := 9)).1 ?_
  refine callsIn_of_wp_marks Try.func9 rfl trivial ?_ rfl
  simp only [Try.ntmps9, List.size_toArray, List.length_cons, List.length_nil, Nat.reduceAdd, Nat.reduceSub, Array.replicate_succ, Array.replicate_zero, List.push_toArray, List.append_toArray, List.nil_append, List.cons_append]
  gi_wp2_with fail
  refine wpIn_wide.2 (wp_scope_straight ((wpIn_wide (n := 9)).1 ?_))
  gi_wp2_with fail
  refine ⟨trivial, ?_⟩
  rw [← HW.out]
  refine (callsIn_wide.2 KC.out).mono ?_
  intro e w3 hMR
  unfold MR at hMR
  obtain ⟨P3, C3, rfl, ho3, hb3⟩ := hMR
  obtain ⟨⟨a3, cp3, rfl, _, _⟩, ⟨b3, cb3, rfl, _, _⟩⟩ := ho3.at
  obtain ⟨np, hnp⟩ : ∃ np, M.p.length = np := ⟨_, rfl⟩
  obtain ⟨nc, hnc⟩ : ∃ nc, M.c.length = nc := ⟨_, rfl⟩
  unfold mV mC
  rw [hnp, hnc] at ho3 ⊢
  have HLT := Lib.hid (And.intro ho3.p.lt ho3.c.lt)
  obtain ⟨w4, hw4⟩ : ∃ w4, w3.alloc (.cells #[.int .i64 M.k, .int .i64 M.n0, .int .i64 M.n1, .int .i64 M.n2, .int .i64 M.n3, .int .i64 M.n4, .int .i64 M.n5, .slice a3 np cp3, .slice b3 nc cb3, .string M.tx, .string M.tg] 26) = w4 := ⟨_, rfl⟩
  have hs4 : w4.heap.size = w3.heap.size + 1 := by rw [← hw4]; simp
  have hb34 : Below w3.heap.size w3 w4 := by rw [← hw4]; exact (Below.refl _ w3).alloc (Nat.le_refl _) _
  have r4 : w4.heap[w3.heap.size]? = some (.cells (mC M (.slice a3 np cp3) (.slice b3 nc cb3)) 26 (0, 0)) := by rw [← hw4]; exact World.alloc_heap_new _ _
  have ho4 := ho3.later hb34
  have hs3 := hb3.size
  have hb24 : Below w2.heap.size w2 w4 := hb3.trans (hb34.mono hs3)
  have p0 := (hb24.block w.heap.size (by omega)).trans HQ.out.1
  have p1 := (hb24.block (w.heap.size + 1) (by omega)).trans HQ.out.2.1
  have p2 := (hb24.block (w.heap.size + 2) (by omega)).trans HQ.out.2.2
  have HB4 := Lib.hid (HB2.out.trans (hb24.mono HB2.out.size))
  have hge : w.heap.size + 3 ≤ w3.heap.size := by omega
  have HSZ := Lib.hid (show w.heap.size + 3 = w2.heap.size by omega)
  have HO4 := Lib.hid ho4
  have HW4 := Lib.hid hw4
  have hv1 := row_cell p1 0 _ rfl
  clear KC HW ho3 ho4 hb3 hb34 hb24 HQ HB2 hs2 hs3
  have kk := row_cell p0 0 _ rfl
  rw [← hw4] at kk hv1
  have hPJ : PjB w3.heap.size w4 (.slice a3 np cp3) (.slice b3 nc cb3) M w4 := ⟨r4, Off.refl _ _⟩
  clear hw4
  gi_wp2_with fail
  apply wpIn_label
  gi_wp2_with fail
  rw [HW4.out]
  refine ⟨trivial, (callsIn_wide.2 (fall_any M.k 2 w4)).mono ?_⟩
  rintro e w5 ⟨rfl, hg0, hg1, hb5⟩
  have hs5 := (Array.getElem?_eq_some_iff.1 hg1).1
  have hPJ5 := hPJ.later hb5
  have hPJ5 : PjB w3.heap.size w5 (.slice a3 np cp3) (.slice b3 nc cb3) M w5 := ⟨hPJ5.m, Off.refl _ _⟩
  have HB5 := Lib.hid (HB4.out.trans (hb5.mono HB4.out.size))
  have HO5 := Lib.hid (HO4.out.later hb5)
  have HP2 := Lib.hid ((hb5.block _ (by omega)).trans p2)
  have HV1 := Lib.hid ((hb5.block _ (by omega)).trans p1)
  rw [hs4] at hg0 hg1 hs5
  have KA := Lib.hid (FDv_two M.k)
  have KF := Lib.hid (FD_fdok M.k)
  obtain ⟨L, hL⟩ : ∃ L, FD M.k = L := ⟨_, rfl⟩
  rw [hL] at hG KA KF
  have HG := Lib.hid hG
  clear hL hG hPJ HB4 HO4 HW4 hb5 p0 p1 p2 r4 kk hv1
  gi_wp2_with fail
  refine range_stopb rfl (by omega) (gf := 39) (lb := #[.pointer (some ⟨w3.heap.size + 1, 0, none⟩), .pointer (some ⟨w3.heap.size + 1 + 1, 0, none⟩)]) rfl trivial (enters_of Try.func39 (by kernel_rfl) rfl)
    (fun f : Fd => #[f.v]) (fun _ => rfl)
    (fun j f V => L[j]? = some f ∧ PjB w3.heap.size w5 (.slice a3 np cp3) (.slice b3 nc cb3) ((L.take j).foldl prj M) V)
    (fun j f q V => (L[j]? = some f ∧ PjB w3.heap.size w5 (.slice a3 np cp3) (.slice b3 nc cb3) ((L.take j).foldl prj M) V) ∧ w5.heap.size ≤ q ∧ V.heap[q]? = some (.cells f.cs 65 (0, 0)))
    (fun j V => PjB w3.heap.size w5 (.slice a3 np cp3) (.slice b3 nc cb3) ((L.take j).foldl prj M) V)
    (fun cd V => False)
    (KeT 65 3 (w3.heap.size + 1)) L.length
    (fun j f q V l o o' h hl ho hc' => ⟨⟨h.1.1, h.1.2.putObj hl (by omega)⟩, h.2.1, (World.putObj_heap_other (fun e => by subst e; rw [h.2.2] at ho; injection ho with ho; subst ho; cases hc')).trans h.2.2⟩)
    (fun j V l o o' h hl ho hc' => h.putObj hl (by omega))
    (fun cd V l o o' h hl ho hc' => h)
    (fun _ _ _ h k => h.trans k) (fun V l o o' hl ho hc' => KeT.putObj ho hc')
    (fun o => (hPJ5.later ((Below.refl _ w5).alloc (Nat.le_refl _) _)).later ((Below.refl _ _).alloc (Nat.le_refl _) _)) ?round ?iter ?done ?stop
  case round =>
    rintro l j f V K ⟨hf, hP⟩ hj hK
    have HK := Lib.hid hK
    have hsz := hP.off.size
    clear hK
    unfold Fd.v Fd.cs
    gi_wp2_with fail
    refine HK.out _ V.heap.size _ ⟨⟨hf, hP.later ((Below.refl _ V).alloc (Nat.le_refl _) _)⟩, hsz, World.alloc_heap_new _ _⟩ ⟨by simp, fun q o _ ho _ => (Below.heap_alloc _ _ _ (Array.getElem?_eq_some_iff.1 ho).1).trans ho⟩ (KeT.of_below ((Below.refl _ V).alloc (Nat.le_refl _) _)) ?_
    clear HK hP
    rintro l V2 hl ⟨⟨_, hP⟩, hq, hc⟩
    obtain ⟨qb, hqb⟩ : ∃ qb, V.heap.size = qb := ⟨_, rfl⟩
    rw [hqb] at hq hc ⊢
    clear hqb
    obtain ⟨d0, d1, d2, d3, d4, d5, d6⟩ := fd_block hc
    have ok := KF.out f (List.mem_of_getElem? hf)
    have hst := fold_take hf prj M
    obtain ⟨Mj, hMj⟩ : ∃ Mj, (L.take j).foldl prj M = Mj := ⟨_, rfl⟩
    rw [hMj] at hP hst
    clear hf hMj
    have hv1 := row_cell ((hP.off.block _ (by omega) (by omega)).trans HV1.out) 0 _ rfl
    have HST := Lib.hid hst
    have hm := hP.m
    by_cases hsi : f.si ≤ 1
    · have hfin := Lib.hid (show KeepsFrom w5.heap.size V2 V2 ∧ _ from ⟨⟨Nat.le_refl _, fun _ _ _ ho _ => ho⟩, show PjB w3.heap.size w5 (.slice a3 np cp3) (.slice b3 nc cb3) (prj Mj f) V2 by rw [show prj Mj f = Mj from if_pos hsi]; exact hP⟩)
      clear hP hst hm ok hc
      gi_wp2
      exact ⟨hfin.out.1, by rw [HST.out]; exact hfin.out.2, KeT.refl _⟩
    · by_cases h6 : f.so = 6
      · have hp6 : prj Mj f = { Mj with tg := ⟨#[]⟩ } := by unfold prj; rw [if_neg hsi, if_pos h6]
        have hP2 := hP.set (M' := prj Mj f) 10 (.string ⟨#[]⟩) (by rw [hp6]; rfl)
        have hoff := (Off.refl (fun q => q = w3.heap.size) V2).setCell (p := ⟨w3.heap.size, 10, none⟩) rfl (.string ⟨#[]⟩)
        have HF := Lib.hid (And.intro (kf_one hoff (s := w5.heap.size) (by omega)) (And.intro hP2 (ket_one (tf := 65) (ti := 3) hoff (lo := (w3.heap.size + 1)) (by omega))))
        have c10 := (mg_block hm).2.2.2.2.2.2.2.2.2.2
        have z10 := frozen_of_row V2 w3.heap.size 10 _ _ hm
        rw [h6] at d1
        clear hP hst hm ok hc hP2 hoff hp6
        gi_wp2
        exact ⟨HF.out.1, by rw [HST.out]; exact HF.out.2.1, HF.out.2.2⟩
      · have hs6 : (f.so == 6) = false := by simpa using h6
        by_cases h3 : f.so < 3
        · obtain ⟨jn, hjn, hpl⟩ := ok.pl h3
          have hp6 : prj Mj f = Mj.put jn f.ab := by unfold prj; rw [if_neg hsi, if_neg h6, if_pos (by omega), hpl, Int.toNat_natCast]
          have hP2 := hP.set (M' := prj Mj f) (1 + jn) (.int .i64 f.ab) (by rw [hp6, mC_put hjn])
          have hoff := (Off.refl (fun q => q = w3.heap.size) V2).setCell (p := ⟨w3.heap.size, 1 + jn, none⟩) rfl (.int .i64 f.ab)
          have HF := Lib.hid (And.intro (kf_one hoff (s := w5.heap.size) (by omega)) (And.intro hP2 (ket_one (tf := 65) (ti := 3) hoff (lo := (w3.heap.size + 1)) (by omega))))
          have cn := mg_at hm hjn
          have zn := frozen_of_row V2 w3.heap.size (1 + jn) _ _ hm
          rw [hpl] at d2
          have hj6 : (jn : Int) < 6 := by omega
          clear hP hst hm ok hc hP2 hoff hp6 hpl h3
          gi_wp2
          exact ⟨HF.out.1, by rw [HST.out]; exact HF.out.2.1, HF.out.2.2⟩
        · have hno := ok.no h3
          have hp6 : prj Mj f = Mj := by unfold prj; rw [if_neg hsi, if_neg h6, if_neg (by omega)]
          have hfin := Lib.hid (show KeepsFrom w5.heap.size V2 V2 ∧ _ from ⟨⟨Nat.le_refl _, fun _ _ _ ho _ => ho⟩, show PjB w3.heap.size w5 (.slice a3 np cp3) (.slice b3 nc cb3) (prj Mj f) V2 by rw [hp6]; exact hP⟩)
          rw [hno] at d2
          clear hP hst hm ok hc hp6 hno h3
          gi_wp2
          exact ⟨hfin.out.1, by rw [HST.out]; exact hfin.out.2, KeT.refl _⟩
  case iter =>
    intro Bk X l V hBk hBlt hX hl hD hB hY
    have h := fall_in 8 (by omega) 7 l (w3.heap.size + 1) M.k 2 (fun j V => PjB w3.heap.size w5 (.slice a3 np cp3) (.slice b3 nc cb3) ((L.take j).foldl prj M) V ∧ Bk V) X
      (fun j A B h hb => ⟨h.1.later hb, hBk A _ h.2 hb.size (fun q h1 h2 => by have := hBlt A h.2; exact hb.block q (by omega))⟩)
      (fun j f W h hf => by
        rw [KA.out] at hf
        exact (hY j f W ⟨hf, h.1⟩ h.2 (List.getElem?_eq_some_iff.1 hf).1).mono (fun e W2 h => h.elim (fun h => .inl ⟨h.1, h.2.1, h.2.2.1⟩) (fun h => .inr ⟨h.1, h.2.1⟩)))
      V ((hD.off.block _ (by omega) (by omega)).trans hg0) ((hD.off.block _ (by omega) (by omega)).trans hg1) ⟨hD, hB⟩
    rw [KA.out] at h
    exact h
  case done =>
    rintro D V hD hP hK
    rw [List.take_length, HG.out] at hP
    have hGp : G.p = M.p := by rw [← HG.out, fold_prj_p]
    have hGc : G.c = M.c := by rw [← HG.out, fold_prj_c]
    obtain ⟨f0, f1, f2, f3, f4, f5, f6, f7, f8, f9, f10⟩ := mg_block hP.m
    have r2 := (hP.off.block (w.heap.size + 2) (by omega) (by omega)).trans HP2.out
    have HR2 := Lib.hid r2
    have hbV := HB5.out.trans (hP.off.below (B := w.heap.size) (fun k hk => by omega) (by have := HB5.out.size; omega))
    have hoV := HO5.out.off hP.off (fun g hg e => by have := (HLT.out.1 g hg).2; omega) (fun g hg e => by have := (HLT.out.2 g hg).2; omega)
    have HBV := Lib.hid hbV
    have HOV := Lib.hid hoV
    have HKD := Lib.hid hK
    have hD2 : D ≠ w.heap.size + 1 + 1 := by omega
    clear hP r2 hbV hoV hK
    have HST := Lib.hid (mg_store V (w.heap.size + 1 + 1) _ #[.int .i64 G.k, .int .i64 G.n0, .int .i64 G.n1, .int .i64 G.n2, .int .i64 G.n3, .int .i64 G.n4, .int .i64 G.n5, .slice a3 np cp3, .slice b3 nc cb3, .string G.tx, .string G.tg] HR2.out rfl rfl (by simp [Value.oneCell']))
    gi_wp2_with (refine wpListIn_store_run rfl 26 (.tmp 4) (.tmp 36) rfl (some ⟨w.heap.size + 1 + 1, 0, none⟩) rfl (.agg #[.int .i64 G.k, .int .i64 G.n0, .int .i64 G.n1, .int .i64 G.n2, .int .i64 G.n3, .int .i64 G.n4, .int .i64 G.n5, .slice a3 np cp3, .slice b3 nc cb3, .string G.tx, .string G.tg]) rfl HST.out ?_)
    have hfin := setRow_heap V (w.heap.size + 1 + 1) _ #[.int .i64 G.k, .int .i64 G.n0, .int .i64 G.n1, .int .i64 G.n2, .int .i64 G.n3, .int .i64 G.n4, .int .i64 G.n5, .slice a3 np cp3, .slice b3 nc cb3, .string G.tx, .string G.tg] _ _ HR2.out
    have hoff := Off.setRow (S := fun k => k = w.heap.size + 1 + 1) (Off.refl _ V) rfl #[.int .i64 G.k, .int .i64 G.n0, .int .i64 G.n1, .int .i64 G.n2, .int .i64 G.n3, .int .i64 G.n4, .int .i64 G.n5, .slice a3 np cp3, .slice b3 nc cb3, .string G.tx, .string G.tg]
    have hbf := HBV.out.trans (hoff.below (B := w.heap.size) (fun k hk => by omega) HBV.out.size)
    have hof := HOV.out.off hoff (fun g hg e => by have := (HLT.out.1 g hg).1; have := HSZ.out; omega) (fun g hg e => by have := (HLT.out.2 g hg).1; have := HSZ.out; omega)
    have HKf := (setRow_other V (w.heap.size + 1 + 1) D #[.int .i64 G.k, .int .i64 G.n0, .int .i64 G.n1, .int .i64 G.n2, .int .i64 G.n3, .int .i64 G.n4, .int .i64 G.n5, .slice a3 np cp3, .slice b3 nc cb3, .string G.tx, .string G.tg] hD2).trans HKD.out
    generalize V.setRow (w.heap.size + 1 + 1) _ = Wf at *
    simp only [Exit.noGoto]
    refine ⟨by simp, .inl ⟨_, _, rfl, run_takeDeferred HKf, ?_⟩⟩
    obtain ⟨y0, y1, y2, y3, y4, y5, y6, y7, y8, y9, y10⟩ := mg_block (W := Wf.putObj D (.deferred none)) ((World.putObj_heap_other (by omega)).trans hfin)
    refine ⟨.agg #[.int .i64 G.k, .int .i64 G.n0, .int .i64 G.n1, .int .i64 G.n2, .int .i64 G.n3, .int .i64 G.n4, .int .i64 G.n5, .slice a3 np cp3, .slice b3 nc cb3, .string G.tx, .string G.tg], by simp [results, Try.f9, go_sem, y0, y1, y2, y3, y4, y5, y6, y7, y8, y9, y10], _, _, rfl, ?_, hbf.trans (below_put _ _ (by omega))⟩
    refine MOwn.less (base := w2.heap.size) ?_ (by have := HSZ.out; omega)
    exact ⟨by rw [hGp]; exact ownsRow_putObj hof.p _ HKf rfl, by rw [hGc]; exact ownsRow_putObj hof.c _ HKf rfl⟩
  case stop => exact fun _ _ _ _ h => h.elim
end Go.Proofs.Ytnbhiamnoapmlaa

namespace Go.Proofs.Ytnbhiamnoapmlaa
open Go.RowKit Go.Shelf
set_option maxRecDepth 100000
attribute [local go_sem] Oper.semAt_some

theorem own_lit {w : World} {base n size : Nat} {T : TypeId} (cs : List Value) (hb : base ≤ w.heap.size) (hm : n ≤ maxLen) (hs : cs.length = n * size) : (w.alloc (.cells cs.toArray T)).ownsRow base T size (.slice (some ⟨w.heap.size, 0, none⟩) n n) n cs :=
  ⟨hs, .inr ⟨w.heap.size, n, cs.toArray, rfl, hb, heap_alloc_new w _, Nat.le_refl _, hm, by simpa using hs, by simp [← hs]⟩⟩
theorem own_lit' {w : World} {base n size s : Nat} {T : TypeId} (cs : List Value) (hs : w.heap.size = s) (hb : base ≤ s) (hm : n ≤ maxLen) (hl : cs.length = n * size) : (w.alloc (.cells cs.toArray T)).ownsRow base T size (.slice (some ⟨s, 0, none⟩) n n) n cs := by
  subst hs
  exact own_lit cs hb hm hl
/-- a message's box b2, its lists in rows of its own at base or above -/
structure NwB (b2 base : Nat) (w4 : World) (M : Mg) (V : World) : Prop where
  m : ∃ P C, V.heap[b2]? = some (.cells (mC M P C) 26 (0, 0)) ∧ MOwn base V M P C
  off : Off (fun q => q = b2) w4 V
section
variable {b2 base : Nat} {w4 V V' : World} {M M' : Mg}
theorem NwB.later (h : NwB b2 base w4 M V) (hb : Below V.heap.size V V') : NwB b2 base w4 M V' := by
  obtain ⟨P, C, h1, h2⟩ := h.m
  exact ⟨⟨P, C, (hb.block _ (Array.getElem?_eq_some_iff.1 h1).1).trans h1, h2.later hb⟩, off_below h.off (hb.mono h.off.size)⟩
theorem NwB.putObj {l : Nat} {o o' : Obj} (h : NwB b2 base w4 M V) (hw : w4.heap.size ≤ l) (hb2 : b2 < w4.heap.size) (ho : V.heap[l]? = some o) (hc : o.isCells = false) : NwB b2 base w4 M (V.putObj l o') := by
  obtain ⟨P, C, h1, h2⟩ := h.m
  exact ⟨⟨P, C, (World.putObj_heap_other (by omega)).trans h1, ⟨ownsRow_putObj h2.p _ ho hc, ownsRow_putObj h2.c _ ho hc⟩⟩, off_below h.off (below_put V o' hw)⟩
/-- a cell of the message turned -/
theorem NwB.set (h : NwB b2 base w4 M V) (hb : b2 < base) (j : Nat) (u : Value) (hM : ∀ P C, MOwn base V M P C → ∃ P' C', (mC M P C).setIfInBounds j u = mC M' P' C' ∧ MOwn base V M' P' C') : NwB b2 base w4 M' (V.setCell ⟨b2, j, none⟩ u) := by
  obtain ⟨P, C, h1, h2⟩ := h.m
  obtain ⟨P', C', h3, h4⟩ := hM P C h2
  refine ⟨⟨P', C', by rw [setCell_at h1, h3], ⟨ownsRow_setCell_below h4.p (a := ⟨b2, j, none⟩) hb _, ownsRow_setCell_below h4.c (a := ⟨b2, j, none⟩) hb _⟩⟩, h.off.setCell (p := ⟨b2, j, none⟩) rfl _⟩
end
theorem nw_eq (k : Int) (M : Mg) (f : Fd) : nw k M f = if f.so = 3 then { M with k := k, p := [(0, 0)] } else if f.so = 4 then { M with k := k, c := [0] } else if f.so = 1 ∨ f.so = 2 then ({ M with k := k } : Mg).put f.pl.toNat (startV f) else { M with k := k } := rfl

set_option maxHeartbeats 16000000 in
theorem mnew_any (k : Int) (w : World) : Calls Try.prog 15 #[.int .i64 k] w fun e w' => MR w (mnew k) e w' := by
  obtain ⟨w3, hw3⟩ : ∃ w3, w3 = ((w.alloc (.cells #[.int .i64 k] 3)).alloc (.cells (mC (Mg.zero 0) (.slice none 0 0) (.slice none 0 0)) 26)).alloc (.cells (mC (Mg.zero 0) (.slice none 0 0) (.slice none 0 0)) 26) := ⟨_, rfl⟩
  have hs3 : w3.heap.size = w.heap.size + 3 := by rw [hw3]; simp
  have hb3 : Below w.heap.size w w3 := by rw [hw3]; exact (((Below.refl _ w).alloc (Nat.le_refl _) _).alloc (by simp) _).alloc (by simp; omega) _
  have q0 : w3.heap[w.heap.size]? = some (.cells #[.int .i64 k] 3 (0, 0)) := by
    rw [hw3, Below.heap_alloc _ _ _ (by simp; omega), Below.heap_alloc _ _ _ (by simp)]; exact World.alloc_heap_new _ _
  have q1 : w3.heap[w.heap.size + 1]? = some (.cells (mC (Mg.zero 0) (.slice none 0 0) (.slice none 0 0)) 26 (0, 0)) := by
    have := World.alloc_heap_new (w.alloc (.cells #[.int .i64 k] 3)) (.cells (mC (Mg.zero 0) (.slice none 0 0) (.slice none 0 0)) 26)
    rw [World.size_alloc] at this
    rw [hw3, Below.heap_alloc _ _ _ (by simp)]; exact this
  have q2 : w3.heap[w.heap.size + 1 + 1]? = some (.cells (mC (Mg.zero 0) (.slice none 0 0) (.slice none 0 0)) 26 (0, 0)) := by
    have := World.alloc_heap_new ((w.alloc (.cells #[.int .i64 k] 3)).alloc (.cells (mC (Mg.zero 0) (.slice none 0 0) (.slice none 0 0)) 26)) (.cells (mC (Mg.zero 0) (.slice none 0 0) (.slice none 0 0)) 26)
    rw [World.size_alloc, World.size_alloc] at this
    rw [hw3]; exact this
  obtain ⟨G, hG⟩ : ∃ G, mnew k = G := ⟨_, rfl⟩
  rw [hG]
  unfold mnew at hG
  unfold MR mV
  simp only [mC, Mg.zero] at hw3
  have HW := Lib.hid hw3
  clear hw3
  refine (callsIn_wide (n := 9)).1 ?_
  refine callsIn_of_wp_marks Try.func15 rfl trivial ?_ rfl
  simp only [Try.ntmps15, List.size_toArray, List.length_cons, List.length_nil, Nat.reduceAdd, Nat.reduceSub, Array.replicate_succ, Array.replicate_zero, List.push_toArray, List.append_toArray, List.nil_append, List.cons_append]
  gi_wp2_with fail
  refine ⟨trivial, ?_⟩
  rw [← HW.out]
  refine (callsIn_wide.2 (fall_any k 2 w3)).mono ?_
  rintro e w4 ⟨rfl, hg0, hg1, hb4⟩
  clear HW
  rw [hs3] at hg0 hg1
  have hs4 := (Array.getElem?_eq_some_iff.1 hg1).1
  have p0 := (hb4.block _ (by omega)).trans q0
  have p1 := (hb4.block _ (by omega)).trans q1
  have p2 := (hb4.block _ (by omega)).trans q2
  have hb04 := hb3.trans (hb4.mono (by omega))
  have hN4 : NwB (w.heap.size + 1 + 1) w4.heap.size w4 (Mg.zero 0) w4 := ⟨⟨_, _, p2, ⟨World.ownsRow_nil _ _ _ _, World.ownsRow_nil _ _ _ _⟩⟩, Off.refl _ _⟩
  clear hb4 hb3 q0 q1 q2 p2
  have HP0 := Lib.hid p0
  have HP1 := Lib.hid p1
  have HB4 := Lib.hid hb04
  have KA := Lib.hid (FDv_two k)
  have KF := Lib.hid (FD_fdok k)
  obtain ⟨L, hL⟩ : ∃ L, FD k = L := ⟨_, rfl⟩
  rw [hL] at hG KA KF
  have HG := Lib.hid hG
  clear hL hG p0 p1 hb04
  gi_wp2_with fail
  refine range_stopb rfl (by omega) (gf := 39) (lb := #[.pointer (some ⟨w.heap.size + 3, 0, none⟩), .pointer (some ⟨w.heap.size + 3 + 1, 0, none⟩)]) rfl trivial (enters_of Try.func39 (by kernel_rfl) rfl)
    (fun f : Fd => #[f.v]) (fun _ => rfl)
    (fun j f V => L[j]? = some f ∧ NwB (w.heap.size + 1 + 1) w4.heap.size w4 ((L.take j).foldl (nw k) (Mg.zero 0)) V)
    (fun j f q V => (L[j]? = some f ∧ NwB (w.heap.size + 1 + 1) w4.heap.size w4 ((L.take j).foldl (nw k) (Mg.zero 0)) V) ∧ w4.heap.size ≤ q ∧ V.heap[q]? = some (.cells f.cs 65 (0, 0)))
    (fun j V => NwB (w.heap.size + 1 + 1) w4.heap.size w4 ((L.take j).foldl (nw k) (Mg.zero 0)) V)
    (fun cd V => False)
    (KeT 65 3 (w.heap.size + 3)) L.length
    (fun j f q V l o o' h hl ho hc' => ⟨⟨h.1.1, h.1.2.putObj hl (by omega) ho hc'⟩, h.2.1, (World.putObj_heap_other (fun e => by subst e; rw [h.2.2] at ho; injection ho with ho; subst ho; cases hc')).trans h.2.2⟩)
    (fun j V l o o' h hl ho hc' => h.putObj hl (by omega) ho hc')
    (fun cd V l o o' h hl ho hc' => h)
    (fun _ _ _ h k => h.trans k) (fun V l o o' hl ho hc' => KeT.putObj ho hc')
    (fun o => (hN4.later ((Below.refl _ w4).alloc (Nat.le_refl _) _)).later ((Below.refl _ _).alloc (Nat.le_refl _) _)) ?round ?iter ?done ?stop
  case round =>
    rintro l j f V K ⟨hf, hP⟩ hj hK
    have HK := Lib.hid hK
    have hsz := hP.off.size
    clear hK
    unfold Fd.v Fd.cs
    gi_wp2_with fail
    refine HK.out _ V.heap.size _ ⟨⟨hf, hP.later ((Below.refl _ V).alloc (Nat.le_refl _) _)⟩, hsz, World.alloc_heap_new _ _⟩ ⟨by simp, fun q o _ ho _ => (Below.heap_alloc _ _ _ (Array.getElem?_eq_some_iff.1 ho).1).trans ho⟩ (KeT.of_below ((Below.refl _ V).alloc (Nat.le_refl _) _)) ?_
    clear HK hP
    rintro l V2 hl ⟨⟨_, hP⟩, hq, hc⟩
    obtain ⟨qb, hqb⟩ : ∃ qb, V.heap.size = qb := ⟨_, rfl⟩
    rw [hqb] at hq hc ⊢
    clear hqb
    have ok := KF.out f (List.mem_of_getElem? hf)
    have hst := fold_take hf (nw k) (Mg.zero 0)
    obtain ⟨Mj, hMj⟩ : ∃ Mj, (L.take j).foldl (nw k) (Mg.zero 0) = Mj := ⟨_, rfl⟩
    rw [hMj] at hP hst
    clear hf hMj
    have hkv := row_cell ((hP.off.block _ (by omega) (by omega)).trans HP0.out) 0 _ rfl
    have HST := Lib.hid hst
    obtain ⟨P, C, m1, m2⟩ := hP.m
    have c0 := (mg_block m1).1
    have z0 := frozen_of_row V2 (w.heap.size + 1 + 1) 0 _ _ m1
    have g7 := (mg_block m1).2.2.2.2.2.2.2.1
    have g8 := (mg_block m1).2.2.2.2.2.2.2.2.1
    have y7 := frozen_of_row V2 (w.heap.size + 1 + 1) 7 _ _ m1
    have y8 := frozen_of_row V2 (w.heap.size + 1 + 1) 8 _ _ m1
    have hblt := (Array.getElem?_eq_some_iff.1 m1).1
    -- the kind is told first
    obtain ⟨V3, hV3⟩ : ∃ V3, V2.setCell ⟨w.heap.size + 1 + 1, 0, none⟩ (.int .i64 k) = V3 := ⟨_, rfl⟩
    have hP3 : NwB (w.heap.size + 1 + 1) w4.heap.size w4 { Mj with k := k } V3 := by
      rw [← hV3]
      exact hP.set (by omega) 0 (.int .i64 k) (fun P C h => ⟨P, C, rfl, ⟨h.p, h.c⟩⟩)
    have ho3 : Off (fun q => q = w.heap.size + 1 + 1) V2 V3 := by rw [← hV3]; exact (Off.refl (fun q => q = w.heap.size + 1 + 1) V2).setCell (p := ⟨w.heap.size + 1 + 1, 0, none⟩) rfl _
    have hc3 : V3.heap[qb]? = some (.cells f.cs 65 (0, 0)) := (ho3.block _ (Array.getElem?_eq_some_iff.1 hc).1 (by omega)).trans hc
    have HV3 := Lib.hid hV3
    have hso := ok.so
    have hnw := nw_eq k Mj f
    clear hV3 hst hP m1 m2 hc
    obtain ⟨d0, d1, d2, d3, d4, d5, d6⟩ := fd_block hc3
    have hz3 : V3.heap.size = V2.heap.size := by rw [← HV3.out]; simp [World.setCell]
    have hqlt := (Array.getElem?_eq_some_iff.1 hc3).1
    have e1 : (V2.setCell ⟨w.heap.size + 1 + 1, 0, none⟩ (.int .i64 k)).cell? ⟨qb, 1, none⟩ = some (.int .i64 f.so) := by rw [HV3.out]; exact d1
    by_cases h3 : f.so = 3
    · rw [if_pos h3] at hnw
      rw [h3] at e1
      have hb4' : Below V3.heap.size V3 (V3.alloc (.cells #[.int .i64 0, .int .i64 0] 57)) := (Below.refl _ V3).alloc (Nat.le_refl _) _
      have hP4 := hP3.later hb4'
      have hP5 := hP4.set (M' := nw k Mj f) (by omega) 7 (.slice (some ⟨V2.heap.size, 0, none⟩) 1 1) (fun P C h => ⟨_, C, by rw [hnw]; rfl, by rw [hnw]; exact ⟨own_lit' [.int .i64 0, .int .i64 0] hz3 (by have := hP3.off.size; omega) (by unfold maxLen; omega) rfl, h.c⟩⟩)
      have hoff := (ho3.trans (Off.of_below hb4' : Off (fun q => q = w.heap.size + 1 + 1) _ _) (fun _ _ h => h)).setCell (p := ⟨w.heap.size + 1 + 1, 7, none⟩) rfl (.slice (some ⟨V2.heap.size, 0, none⟩) 1 1)
      have HF := Lib.hid (And.intro (kf_one hoff (s := w4.heap.size) (by omega)) (And.intro hP5 (ket_one (tf := 65) (ti := 3) hoff (lo := w.heap.size + 3) (by omega))))
      rw [World.setCell_alloc_past _ _ _ _ (by omega)] at HF
      clear hP3 hP4 hP5 hoff hb4' hc3 ho3 ok d0 d1 d2 d3 d4 d5 d6
      rw [← HV3.out] at HF
      gi_wp2
      exact ⟨HF.out.1, by rw [HST.out]; exact HF.out.2.1, HF.out.2.2⟩
    by_cases h4 : f.so = 4
    · rw [if_neg (by omega), if_pos h4] at hnw
      rw [h4] at e1
      have hb4' : Below V3.heap.size V3 (V3.alloc (.cells #[.int .i64 0] 3)) := (Below.refl _ V3).alloc (Nat.le_refl _) _
      have hP4 := hP3.later hb4'
      have hP5 := hP4.set (M' := nw k Mj f) (by omega) 8 (.slice (some ⟨V2.heap.size, 0, none⟩) 1 1) (fun P C h => ⟨P, _, by rw [hnw]; rfl, by rw [hnw]; exact ⟨h.p, own_lit' [.int .i64 0] hz3 (by have := hP3.off.size; omega) (by unfold maxLen; omega) rfl⟩⟩)
      have hoff := (ho3.trans (Off.of_below hb4' : Off (fun q => q = w.heap.size + 1 + 1) _ _) (fun _ _ h => h)).setCell (p := ⟨w.heap.size + 1 + 1, 8, none⟩) rfl (.slice (some ⟨V2.heap.size, 0, none⟩) 1 1)
      have HF := Lib.hid (And.intro (kf_one hoff (s := w4.heap.size) (by omega)) (And.intro hP5 (ket_one (tf := 65) (ti := 3) hoff (lo := w.heap.size + 3) (by omega))))
      rw [World.setCell_alloc_past _ _ _ _ (by omega)] at HF
      clear hP3 hP4 hP5 hoff hb4' hc3 ho3 ok d0 d1 d2 d3 d4 d5 d6
      rw [← HV3.out] at HF
      gi_wp2
      exact ⟨HF.out.1, by rw [HST.out]; exact HF.out.2.1, HF.out.2.2⟩
    by_cases h1 : f.so = 1
    · rw [if_neg (by omega), if_neg (by omega), if_pos (by omega)] at hnw
      obtain ⟨jn, hjn, hpl⟩ := ok.pl (by omega)
      rw [hpl, Int.toNat_natCast] at hnw
      rw [h1] at e1
      have KS := start_any f
      unfold Fd.v Fd.cs at KS
      rw [hpl, h1] at KS
      have KS := Lib.hid KS
      obtain ⟨sv, hsv⟩ : ∃ sv, startV f = sv := ⟨_, rfl⟩
      rw [hsv] at KS hnw
      have hP5 := fun W (hW : Below V3.heap.size V3 W) => (hP3.later hW).set (M' := nw k Mj f) (by omega) (1 + jn) (.int .i64 sv) (fun P C h => ⟨P, C, by rw [hnw, mC_put hjn], by rw [hnw]; exact ⟨by rw [Mg.put_p]; exact h.p, by rw [Mg.put_c]; exact h.c⟩⟩)
      have hoff := fun W (hW : Below V3.heap.size V3 W) => (ho3.trans (Off.of_below hW : Off (fun q => q = w.heap.size + 1 + 1) _ _) (fun _ _ h => h)).setCell (p := ⟨w.heap.size + 1 + 1, 1 + jn, none⟩) rfl (.int .i64 sv)
      have HF := Lib.hid (fun W (hW : Below V3.heap.size V3 W) => And.intro (kf_one (hoff W hW) (s := w4.heap.size) (by omega)) (And.intro (hP5 W hW) (ket_one (tf := 65) (ti := 3) (hoff W hW) (lo := w.heap.size + 3) (by omega))))
      have hj6 : (jn : Int) < 6 := by omega
      have q3 : (((1 : Int)) == 3) = false := rfl
      have lP : ∀ W, Below V3.heap.size V3 W → (Instr.loadAt 3 (.pointer (some ⟨qb, 2, none⟩))).run Try.prog W = .ok (.int .i64 (jn : Int)) W := fun W hW => by
        have hx := (hW.cell (p := ⟨qb, 2, none⟩) hqlt).trans d2
        rw [hpl] at hx
        simp [Instr.loadAt, go_sem, hx]
      have lF : ∀ W, Below V3.heap.size V3 W → (Instr.loadAt 65 (.pointer (some ⟨qb, 0, none⟩))).run Try.prog W = .ok (.agg #[.string f.nm, .int .i64 1, .int .i64 (jn : Int), .int .i64 f.le, .int .i64 f.mo, .int .i64 f.si, .int .i64 f.ab]) W := fun W hW => by
        obtain ⟨t0, t1, t2, t3, t4, t5, t6⟩ := fd_block ((hW.block _ hqlt).trans hc3)
        rw [hpl] at t2
        rw [h1] at t1
        simp [Instr.loadAt, go_sem, t0, t1, t2, t3, t4, t5, t6]
      have lS : ∀ W, Below V3.heap.size V3 W → W.cell? ⟨w.heap.size + 1 + 1, 1 + jn, none⟩ = some (.int .i64 (({ Mj with k := k } : Mg).at' jn)) ∧ W.frozen? ⟨w.heap.size + 1 + 1, 1 + jn, none⟩ = false := fun W hW => by
        obtain ⟨P, C, m1, m2⟩ := (hP3.later hW).m
        exact ⟨mg_at m1 hjn, frozen_of_row W (w.heap.size + 1 + 1) (1 + jn) _ _ m1⟩
      clear hP3 hP5 hoff hc3 ho3 ok d0 d1 d2 d3 d4 d5 d6 hpl hsv g7 g8 y7 y8
      gi_wp2_with fail
      rw [HV3.out]
      refine wpIn_region_FS 31 6 7 [] (fun _ _ _ => True) (fun W => Below V3.heap.size V3 W) (fun _ W W' => W' = W.setCell ⟨w.heap.size + 1 + 1, 1 + jn, none⟩ (.int .i64 sv)) (by kernel_rfl) (fun ⟨_, _, h⟩ => h) (by kernel_rfl) (by rfl) (by kernel_rfl) (by rfl) (by simp) (fun W W' h hb => h.trans (hb.mono h.size)) (fun _ _ _ _ _ _ => trivial) (Below.refl _ _).drew (by rfl) ?_
      repeat (refine wpFS_step (wpF_pure rfl rfl ?_); go_big_quiet_step (fail); refine wpQuiet_nil ?_; simp only [wpF])
      refine wpFS_step (wpF_load (ad := ⟨qb, 2, none⟩) (.int .i64 (jn : Int)) rfl (by rfl) (by rfl) (by rfl) lP ?_)
      simp only [wpF, Act.put, List.setIfInBounds_toArray, List.set_cons_succ, List.set_cons_zero]
      refine wpFS_step (wpF_load (ad := ⟨qb, 0, none⟩) (.agg #[.string f.nm, .int .i64 1, .int .i64 (jn : Int), .int .i64 f.le, .int .i64 f.mo, .int .i64 f.si, .int .i64 f.ab]) rfl (by rfl) (by rfl) (by rfl) lF ?_)
      simp only [wpF, Act.put, List.setIfInBounds_toArray, List.set_cons_succ, List.set_cons_zero]
      refine wpFS_step (wpF_call (f := 36) (args := #[(.agg #[.string f.nm, .int .i64 1, .int .i64 (jn : Int), .int .i64 f.le, .int .i64 f.mo, .int .i64 f.si, .int .i64 f.ab])]) (.int .i64 sv) rfl rfl (fun x => by first | rfl | (simp [go_sem]; done)) (fun W hW => KS.out W) ?_)
      simp only [wpF, Act.put, List.setIfInBounds_toArray, List.set_cons_succ, List.set_cons_zero]
      repeat (refine wpFS_step (wpF_pure rfl rfl ?_); go_big_quiet_step (fail); refine wpQuiet_nil ?_; simp only [wpF])
      refine wpFS_store rfl rfl rfl ⟨w.heap.size + 1 + 1, 1 + jn, none⟩ (fun _ => .int .i64 sv) (fun _ => rfl) (fun _ => by rfl) (fun xs W' hW' _ => ?_) ?_
      · obtain ⟨k1, k2⟩ := lS W' hW'
        exact ⟨_, by simp [Instr.storeAt, go_sem, k1, k2], rfl⟩
      simp only [wpFS]
      rintro xs W1 W2 hW1 _ rfl
      simp only [fill]
      have HF1 := Lib.hid (HF.out W1 hW1)
      clear HF lP lF lS KS hW1
      gi_wp2
      exact ⟨HF1.out.1, by rw [HST.out]; exact HF1.out.2.1, HF1.out.2.2⟩
    by_cases h2 : f.so = 2
    · rw [if_neg (by omega), if_neg (by omega), if_pos (by omega)] at hnw
      obtain ⟨jn, hjn, hpl⟩ := ok.pl (by omega)
      rw [hpl, Int.toNat_natCast] at hnw
      rw [h2] at e1
      have KS := start_any f
      unfold Fd.v Fd.cs at KS
      rw [hpl, h2] at KS
      have KS := Lib.hid KS
      obtain ⟨sv, hsv⟩ : ∃ sv, startV f = sv := ⟨_, rfl⟩
      rw [hsv] at KS hnw
      have hP5 := fun W (hW : Below V3.heap.size V3 W) => (hP3.later hW).set (M' := nw k Mj f) (by omega) (1 + jn) (.int .i64 sv) (fun P C h => ⟨P, C, by rw [hnw, mC_put hjn], by rw [hnw]; exact ⟨by rw [Mg.put_p]; exact h.p, by rw [Mg.put_c]; exact h.c⟩⟩)
      have hoff := fun W (hW : Below V3.heap.size V3 W) => (ho3.trans (Off.of_below hW : Off (fun q => q = w.heap.size + 1 + 1) _ _) (fun _ _ h => h)).setCell (p := ⟨w.heap.size + 1 + 1, 1 + jn, none⟩) rfl (.int .i64 sv)
      have HF := Lib.hid (fun W (hW : Below V3.heap.size V3 W) => And.intro (kf_one (hoff W hW) (s := w4.heap.size) (by omega)) (And.intro (hP5 W hW) (ket_one (tf := 65) (ti := 3) (hoff W hW) (lo := w.heap.size + 3) (by omega))))
      have hj6 : (jn : Int) < 6 := by omega
      have q3 : (((2 : Int)) == 3) = false := rfl
      have lP : ∀ W, Below V3.heap.size V3 W → (Instr.loadAt 3 (.pointer (some ⟨qb, 2, none⟩))).run Try.prog W = .ok (.int .i64 (jn : Int)) W := fun W hW => by
        have hx := (hW.cell (p := ⟨qb, 2, none⟩) hqlt).trans d2
        rw [hpl] at hx
        simp [Instr.loadAt, go_sem, hx]
      have lF : ∀ W, Below V3.heap.size V3 W → (Instr.loadAt 65 (.pointer (some ⟨qb, 0, none⟩))).run Try.prog W = .ok (.agg #[.string f.nm, .int .i64 2, .int .i64 (jn : Int), .int .i64 f.le, .int .i64 f.mo, .int .i64 f.si, .int .i64 f.ab]) W := fun W hW => by
        obtain ⟨t0, t1, t2, t3, t4, t5, t6⟩ := fd_block ((hW.block _ hqlt).trans hc3)
        rw [hpl] at t2
        rw [h2] at t1
        simp [Instr.loadAt, go_sem, t0, t1, t2, t3, t4, t5, t6]
      have lS : ∀ W, Below V3.heap.size V3 W → W.cell? ⟨w.heap.size + 1 + 1, 1 + jn, none⟩ = some (.int .i64 (({ Mj with k := k } : Mg).at' jn)) ∧ W.frozen? ⟨w.heap.size + 1 + 1, 1 + jn, none⟩ = false := fun W hW => by
        obtain ⟨P, C, m1, m2⟩ := (hP3.later hW).m
        exact ⟨mg_at m1 hjn, frozen_of_row W (w.heap.size + 1 + 1) (1 + jn) _ _ m1⟩
      clear hP3 hP5 hoff hc3 ho3 ok d0 d1 d2 d3 d4 d5 d6 hpl hsv g7 g8 y7 y8
      gi_wp2_with fail
      rw [HV3.out]
      refine wpIn_region_FS 31 6 7 [] (fun _ _ _ => True) (fun W => Below V3.heap.size V3 W) (fun _ W W' => W' = W.setCell ⟨w.heap.size + 1 + 1, 1 + jn, none⟩ (.int .i64 sv)) (by kernel_rfl) (fun ⟨_, _, h⟩ => h) (by kernel_rfl) (by rfl) (by kernel_rfl) (by rfl) (by simp) (fun W W' h hb => h.trans (hb.mono h.size)) (fun _ _ _ _ _ _ => trivial) (Below.refl _ _).drew (by rfl) ?_
      repeat (refine wpFS_step (wpF_pure rfl rfl ?_); go_big_quiet_step (fail); refine wpQuiet_nil ?_; simp only [wpF])
      refine wpFS_step (wpF_load (ad := ⟨qb, 2, none⟩) (.int .i64 (jn : Int)) rfl (by rfl) (by rfl) (by rfl) lP ?_)
      simp only [wpF, Act.put, List.setIfInBounds_toArray, List.set_cons_succ, List.set_cons_zero]
      refine wpFS_step (wpF_load (ad := ⟨qb, 0, none⟩) (.agg #[.string f.nm, .int .i64 2, .int .i64 (jn : Int), .int .i64 f.le, .int .i64 f.mo, .int .i64 f.si, .int .i64 f.ab]) rfl (by rfl) (by rfl) (by rfl) lF ?_)
      simp only [wpF, Act.put, List.setIfInBounds_toArray, List.set_cons_succ, List.set_cons_zero]
      refine wpFS_step (wpF_call (f := 36) (args := #[(.agg #[.string f.nm, .int .i64 2, .int .i64 (jn : Int), .int .i64 f.le, .int .i64 f.mo, .int .i64 f.si, .int .i64 f.ab])]) (.int .i64 sv) rfl rfl (fun x => by first | rfl | (simp [go_sem]; done)) (fun W hW => KS.out W) ?_)
      simp only [wpF, Act.put, List.setIfInBounds_toArray, List.set_cons_succ, List.set_cons_zero]
      repeat (refine wpFS_step (wpF_pure rfl rfl ?_); go_big_quiet_step (fail); refine wpQuiet_nil ?_; simp only [wpF])
      refine wpFS_store rfl rfl rfl ⟨w.heap.size + 1 + 1, 1 + jn, none⟩ (fun _ => .int .i64 sv) (fun _ => rfl) (fun _ => by rfl) (fun xs W' hW' _ => ?_) ?_
      · obtain ⟨k1, k2⟩ := lS W' hW'
        exact ⟨_, by simp [Instr.storeAt, go_sem, k1, k2], rfl⟩
      simp only [wpFS]
      rintro xs W1 W2 hW1 _ rfl
      simp only [fill]
      have HF1 := Lib.hid (HF.out W1 hW1)
      clear HF lP lF lS KS hW1
      gi_wp2
      exact ⟨HF1.out.1, by rw [HST.out]; exact HF1.out.2.1, HF1.out.2.2⟩
    rw [if_neg h3, if_neg h4, if_neg (by omega)] at hnw
    have HF := Lib.hid (And.intro (kf_one ho3 (s := w4.heap.size) (by omega)) (And.intro (hnw ▸ hP3 : NwB (w.heap.size + 1 + 1) w4.heap.size w4 (nw k Mj f) V3) (ket_one (tf := 65) (ti := 3) ho3 (lo := w.heap.size + 3) (by omega))))
    rw [← HV3.out] at HF
    have hs56 : f.so = 5 ∨ f.so = 6 := by omega
    clear hP3 hc3 ho3 ok d0 d1 d2 d3 d4 d5 d6 hnw hso
    rcases hs56 with h5 | h5
    all_goals
      rw [h5] at e1
      gi_wp2
      exact ⟨HF.out.1, by rw [HST.out]; exact HF.out.2.1, HF.out.2.2⟩
  case iter =>
    intro Bk X l V hBk hBlt hX hl hD hB hY
    have h := fall_in 8 (by omega) 7 l (w.heap.size + 3) k 2 (fun j V => NwB (w.heap.size + 1 + 1) w4.heap.size w4 ((L.take j).foldl (nw k) (Mg.zero 0)) V ∧ Bk V) X
      (fun j A B h hb => ⟨h.1.later hb, hBk A _ h.2 hb.size (fun q h1 h2 => by have := hBlt A h.2; exact hb.block q (by omega))⟩)
      (fun j f W h hf => by
        rw [KA.out] at hf
        exact (hY j f W ⟨hf, h.1⟩ h.2 (List.getElem?_eq_some_iff.1 hf).1).mono (fun e W2 h => h.elim (fun h => .inl ⟨h.1, h.2.1, h.2.2.1⟩) (fun h => .inr ⟨h.1, h.2.1⟩)))
      V ((hD.off.block _ (by omega) (by omega)).trans hg0) ((hD.off.block _ (by omega) (by omega)).trans hg1) ⟨hD, hB⟩
    rw [KA.out] at h
    exact h
  case done =>
    rintro D V hD hP hK
    rw [List.take_length, HG.out] at hP
    obtain ⟨P, C, m1, m2⟩ := hP.m
    obtain ⟨⟨a3, cp3, rfl, _, _⟩, ⟨b3, cb3, rfl, _, _⟩⟩ := m2.at
    obtain ⟨np, hnp⟩ : ∃ np, G.p.length = np := ⟨_, rfl⟩
    obtain ⟨nc, hnc⟩ : ∃ nc, G.c.length = nc := ⟨_, rfl⟩
    rw [hnp, hnc] at m1 m2
    obtain ⟨f0, f1, f2, f3, f4, f5, f6, f7, f8, f9, f10⟩ := mg_block m1
    have r2 := (hP.off.block (w.heap.size + 1) (by omega) (by omega)).trans HP1.out
    have HR2 := Lib.hid r2
    have hbV := HB4.out.trans (hP.off.below (B := w.heap.size) (fun k hk => by omega) (by have := HB4.out.size; omega))
    have HBV := Lib.hid hbV
    have HOV := Lib.hid m2
    have HKD := Lib.hid hK
    have hD2 : D ≠ w.heap.size + 1 := by omega
    have HST := Lib.hid (mg_store V (w.heap.size + 1) _ #[.int .i64 G.k, .int .i64 G.n0, .int .i64 G.n1, .int .i64 G.n2, .int .i64 G.n3, .int .i64 G.n4, .int .i64 G.n5, .slice a3 np cp3, .slice b3 nc cb3, .string G.tx, .string G.tg] HR2.out rfl rfl (by simp [Value.oneCell']))
    clear hP r2 hbV m1 m2 hK hnp hnc
    gi_wp2_with (refine wpListIn_store_run rfl 26 (.tmp 2) (.tmp 30) rfl (some ⟨w.heap.size + 1, 0, none⟩) rfl (.agg #[.int .i64 G.k, .int .i64 G.n0, .int .i64 G.n1, .int .i64 G.n2, .int .i64 G.n3, .int .i64 G.n4, .int .i64 G.n5, .slice a3 np cp3, .slice b3 nc cb3, .string G.tx, .string G.tg]) rfl HST.out ?_)
    have hfin := setRow_heap V (w.heap.size + 1) _ #[.int .i64 G.k, .int .i64 G.n0, .int .i64 G.n1, .int .i64 G.n2, .int .i64 G.n3, .int .i64 G.n4, .int .i64 G.n5, .slice a3 np cp3, .slice b3 nc cb3, .string G.tx, .string G.tg] _ _ HR2.out
    have hoff := Off.setRow (S := fun k => k = w.heap.size + 1) (Off.refl _ V) rfl #[.int .i64 G.k, .int .i64 G.n0, .int .i64 G.n1, .int .i64 G.n2, .int .i64 G.n3, .int .i64 G.n4, .int .i64 G.n5, .slice a3 np cp3, .slice b3 nc cb3, .string G.tx, .string G.tg]
    have hbf := HBV.out.trans (hoff.below (B := w.heap.size) (fun k hk => by omega) HBV.out.size)
    have hof := HOV.out.off hoff (fun g hg e => by have := (HOV.out.p.lt g hg).1; omega) (fun g hg e => by have := (HOV.out.c.lt g hg).1; omega)
    have HKf := (setRow_other V (w.heap.size + 1) D #[.int .i64 G.k, .int .i64 G.n0, .int .i64 G.n1, .int .i64 G.n2, .int .i64 G.n3, .int .i64 G.n4, .int .i64 G.n5, .slice a3 np cp3, .slice b3 nc cb3, .string G.tx, .string G.tg] hD2).trans HKD.out
    generalize V.setRow (w.heap.size + 1) _ = Wf at *
    refine ⟨by simp, .inl ⟨_, _, rfl, run_takeDeferred HKf, ?_⟩⟩
    obtain ⟨y0, y1, y2, y3, y4, y5, y6, y7, y8, y9, y10⟩ := mg_block (W := Wf.putObj D (.deferred none)) ((World.putObj_heap_other (by omega)).trans hfin)
    refine ⟨.agg #[.int .i64 G.k, .int .i64 G.n0, .int .i64 G.n1, .int .i64 G.n2, .int .i64 G.n3, .int .i64 G.n4, .int .i64 G.n5, .slice a3 np cp3, .slice b3 nc cb3, .string G.tx, .string G.tg], by simp [results, Try.f15, go_sem, y0, y1, y2, y3, y4, y5, y6, y7, y8, y9, y10], _, _, rfl, ?_, hbf.trans (below_put _ _ (by omega))⟩
    refine MOwn.less (base := w4.heap.size) ?_ (by omega)
    exact ⟨ownsRow_putObj hof.p _ HKf rfl, ownsRow_putObj hof.c _ HKf rfl⟩
  case stop => exact fun _ _ _ _ h => h.elim
end Go.Proofs.Ytnbhiamnoapmlaa

namespace Go.Proofs.Ytnbhiamnoapmlaa
open Go.RowKit Go.Shelf
set_option maxRecDepth 100000
attribute [local go_sem] Oper.semAt_some

theorem mnew_two : mnew 2 = ⟨2, 0, 0, 0, 0, 0, 0, [], [], ⟨#[]⟩, ⟨#[]⟩⟩ := by decide
theorem mset_two : setM ⟨2, 0, 0, 0, 0, 0, 0, [], [], ⟨#[]⟩, ⟨#[]⟩⟩ ⟨#[122, 111, 110, 101]⟩ 7 = ⟨2, 0, 0, 7, 0, 0, 0, [], [], ⟨#[]⟩, ⟨#[]⟩⟩ := by decide
theorem mpl_two : plB (fnd (FD 2) ⟨#[122, 111, 110, 101]⟩) = true := by decide
theorem mproj_two : mproj ⟨2, 0, 0, 7, 0, 0, 0, [], [], ⟨#[]⟩, ⟨#[]⟩⟩ 1 = ⟨2, 0, 0, 0, 0, 0, 0, [], [], ⟨#[]⟩, ⟨#[]⟩⟩ := by decide
theorem mget_two : getM ⟨2, 0, 0, 0, 0, 0, 0, [], [], ⟨#[]⟩, ⟨#[]⟩⟩ ⟨#[122, 111, 110, 101]⟩ = 0 := by decide
theorem msm_small (k a b c d e f : Int) : Msm ⟨k, a, b, c, d, e, f, [], [], ⟨#[]⟩, ⟨#[]⟩⟩ := ⟨by simp, by simp, by show (ByteArray.mk #[]).size ≤ 80; decide, by show (ByteArray.mk #[]).size ≤ 80; decide⟩
set_option maxHeartbeats 8000000 in
theorem mknown_any (w : World) : Calls Try.prog 16 #[] w fun e w' => e = .returned (.bool true) ∧ Below w.heap.size w w' := by
  have KN := mnew_any 2 w
  rw [mnew_two] at KN
  have KN := Lib.hid KN
  go_enter Try.func16, Try.ntmps16
  go_wp2_with fail
  refine KN.out.mono ?_
  intro e w1 h
  unfold MR mV mC at h
  obtain ⟨P, C, rfl, ho, hb1⟩ := h
  obtain ⟨⟨a1, c1, rfl, _, _⟩, ⟨d1, e1, rfl, _, _⟩⟩ := ho.at
  dsimp only [List.length_nil] at ho ⊢
  clear KN
  obtain ⟨w2, hw2⟩ : ∃ w2, w1.alloc (.cells #[.int .i64 2, .int .i64 0, .int .i64 0, .int .i64 0, .int .i64 0, .int .i64 0, .int .i64 0, .slice a1 0 c1, .slice d1 0 e1, .string ⟨#[]⟩, .string ⟨#[]⟩] 26) = w2 := ⟨_, rfl⟩
  have hb12 : Below w1.heap.size w1 w2 := by rw [← hw2]; exact (Below.refl _ w1).alloc (Nat.le_refl _) _
  have r2 : w2.heap[w1.heap.size]? = some (.cells (mC ⟨2, 0, 0, 0, 0, 0, 0, [], [], ⟨#[]⟩, ⟨#[]⟩⟩ (.slice a1 0 c1) (.slice d1 0 e1)) 26 (0, 0)) := by rw [← hw2]; exact World.alloc_heap_new _ _
  have KS := mset_any ⟨2, 0, 0, 0, 0, 0, 0, [], [], ⟨#[]⟩, ⟨#[]⟩⟩ (.slice a1 0 c1) (.slice d1 0 e1) ⟨#[122, 111, 110, 101]⟩ 7 w2 (msm_small ..) (ho.later hb12).at
  rw [mset_two, mpl_two] at KS
  simp only [mV, mC] at KS
  have KS := Lib.hid KS
  have HW := Lib.hid hw2
  have HB2 := Lib.hid (hb1.trans (hb12.mono hb1.size))
  have HR2 := Lib.hid r2
  clear ho hb1 hb12 r2 hw2
  go_wp2_with fail
  rw [HW.out]
  refine KS.out.mono ?_
  intro e w3 h
  unfold MSR mV mC at h
  obtain ⟨P3, C3, rfl, ho, hb3⟩ := h
  obtain ⟨⟨a3, c3, rfl, _, _⟩, ⟨d3, e3, rfl, _, _⟩⟩ := ho.at
  dsimp only [List.length_nil] at ho ⊢
  obtain ⟨w4, hw4⟩ : ∃ w4, w3.alloc (.cells #[.int .i64 2, .int .i64 0, .int .i64 0, .int .i64 7, .int .i64 0, .int .i64 0, .int .i64 0, .slice a3 0 c3, .slice d3 0 e3, .string ⟨#[]⟩, .string ⟨#[]⟩] 26) = w4 := ⟨_, rfl⟩
  have hb34 : Below w3.heap.size w3 w4 := by rw [← hw4]; exact (Below.refl _ w3).alloc (Nat.le_refl _) _
  have r4 : w4.heap[w3.heap.size]? = some (.cells (mC ⟨2, 0, 0, 7, 0, 0, 0, [], [], ⟨#[]⟩, ⟨#[]⟩⟩ (.slice a3 0 c3) (.slice d3 0 e3)) 26 (0, 0)) := by rw [← hw4]; exact World.alloc_heap_new _ _
  have hb24 := hb3.trans (hb34.mono hb3.size)
  have hR := (hb24.block _ (Array.getElem?_eq_some_iff.1 HR2.out).1).trans HR2.out
  have KP := mproject_any ⟨2, 0, 0, 7, 0, 0, 0, [], [], ⟨#[]⟩, ⟨#[]⟩⟩ (.slice a3 0 c3) (.slice d3 0 e3) 1 w4 (msm_small ..) (ho.later hb34).at
  rw [mproj_two] at KP
  simp only [mV, mC] at KP
  have KP := Lib.hid KP
  have HW4 := Lib.hid hw4
  have HB4 := Lib.hid (HB2.out.trans (hb24.mono HB2.out.size))
  have HR4 := Lib.hid (And.intro hR r4)
  clear KS HW HB2 HR2 ho hb3 hb34 hb24 hR r4 hw4
  go_wp2_with fail
  rw [HW4.out]
  refine KP.out.mono ?_
  intro e w5 h
  unfold MR mV mC at h
  obtain ⟨P5, C5, rfl, ho5, hb5⟩ := h
  dsimp only at ho5 ⊢
  have KG := mget_any ⟨2, 0, 0, 0, 0, 0, 0, [], [], ⟨#[]⟩, ⟨#[]⟩⟩ P5 C5 ⟨#[122, 111, 110, 101]⟩ w5
  rw [mget_two, mpl_two] at KG
  simp only [mV, mC] at KG
  have KG := Lib.hid KG
  have HB5 := Lib.hid (HB4.out.trans (hb5.mono HB4.out.size))
  have HR5 := Lib.hid (And.intro ((hb5.block _ (Array.getElem?_eq_some_iff.1 HR4.out.1).1).trans HR4.out.1) ((hb5.block _ (Array.getElem?_eq_some_iff.1 HR4.out.2).1).trans HR4.out.2))
  clear KP HW4 HB4 HR4 ho5 hb5
  go_wp2_with fail
  refine KG.out.mono ?_
  rintro e w6 ⟨rfl, hb6⟩
  have HB6 := Lib.hid (HB5.out.trans (hb6.mono HB5.out.size))
  obtain ⟨x0, x1, x2, x3, x4, x5, x6, _⟩ := mg_block ((hb6.block _ (Array.getElem?_eq_some_iff.1 HR5.out.1).1).trans HR5.out.1)
  obtain ⟨_, _, _, y3, _⟩ := mg_block ((hb6.block _ (Array.getElem?_eq_some_iff.1 HR5.out.2).1).trans HR5.out.2)
  have he : ∀ W, (binOp .eql 22 (.agg #[.int .i64 0, .int .i64 0, .int .i64 0, .int .i64 0, .int .i64 0, .int .i64 0]) (.agg #[.int .i64 0, .int .i64 0, .int .i64 0, .int .i64 0, .int .i64 0, .int .i64 0])).run Try.prog W = .ok (.bool true) W := fun W => by rw [eql_six]; rfl
  dsimp only at x0 x1 x2 x3 x4 x5 x6 y3
  clear KG HB5 HR5 hb6
  go_wp2
  go_ret
  exact ⟨rfl, HB6.out⟩
end Go.Proofs.Ytnbhiamnoapmlaa
