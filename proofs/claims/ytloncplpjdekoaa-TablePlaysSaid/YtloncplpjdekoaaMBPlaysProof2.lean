/-
  A part of the texts of one proof, put together: Q16, FrCt, OfF, SloL2, TabUa, Q17, TabY.
-/
import Derived.Lib.MinMax
import Derived.Deep.Slices
import Derived.Test.YtloncplpjdekoaaMBPlaysProof1
namespace Go.Proofs.Ytloncplpjdekoaa
section
variable {P : Program} {ops : Array Oper} {md : Region.Mode} {I : World → Prop}

def kind6 (o : Oper) : Nat := match o.op with
  | .build _ _ => 1
  | _ => kind3 o
theorem kind6_one {o : Oper} (h : kind6 o = 1) : (∃ t x, o.op = .load t x) ∨ ∃ t x, o.op = .build t x := by
  unfold kind6 at h
  split at h
  · exact .inr ⟨_, _, by assumption⟩
  · exact .inl (kind3_load h)
theorem kind6_else {o : Oper} {n : Nat} (h : kind6 o = n) (hn : n ≠ 1) : kind3 o = n := by
  unfold kind6 at h
  split at h
  · exact absurd h.symm hn
  · exact h
theorem one6_no_enter {o : Oper} (h : kind6 o = 1) (ρ : Operand → Value) (w w' : World) (f : FuncId) (args : Array Value) : (execOp ρ o).run P w ≠ .ok (.enter f args) w' := by
  rcases kind6_one h with ⟨t, x, ho⟩ | ⟨t, x, ho⟩
  · exact load_no_enter ho ρ w w' f args
  · unfold execOp
    simp only [ho]
    exact run_value _ _ _ _ _
theorem yields_one6 {o : Oper} {v : Value} {a : Act} {C D : World → Prop} (hk : kind6 o = 1) (h : YieldsIn P ops C o v a) (hD : ∀ w, D w → C w) : YieldsIn P ops D o v a := by
  rcases h with ⟨hw, h⟩ | h
  · refine .inl ⟨hw, fun w hwD => ?_⟩
    have h1 := h w (hD w hwD)
    have h2 := one6_no_enter (P := P) hk a.eval w
    unfold Oper.quietAt at h1 ⊢
    generalize (execOp a.eval o).run P w = r at h1 h2
    cases r with
    | ok n w' =>
      cases n with
      | enter f args => exact absurd rfl (h2 w' f args)
      | _ => exact h1
    | halt x w' => exact h1
  · exact .inr h
/-- one operation, in a class of worlds -/
def Step6 (P : Program) (ops : Array Oper) (I : World → Prop) (o : Oper) (a : Act) (C : World → Prop) (K : (World → Prop) → Act → Prop) : Prop :=
  (kind6 o = 0 ∧ ∃ v, YieldsIn P ops (fun _ => True) o v a ∧ K C (a.put o.dst v)) ∨
  (kind6 o = 1 ∧ ∃ v, YieldsIn P ops I o v a ∧ K C (a.put o.dst v)) ∨
  (kind6 o = 2 ∧ ∃ v C', (∀ w, C' w → I w) ∧ StepsIn P ops C C' o v a ∧ K C' (a.put o.dst v)) ∨
  (kind6 o = 3 ∧ ((Region.wanted o (yielded ops a.tmps) = false ∧ K C (a.put o.dst undef)) ∨ (Region.wanted o (yielded ops a.tmps) = true ∧ ∃ (V : Value → Prop) (C' : Value → World → Prop), (∀ v w, C' v w → I w) ∧ (∀ w, C w → famUpon P V C' ((execOp a.eval o).run P w)) ∧ ∀ v, V v → K (C' v) (a.put o.dst v))))

def wpAny6 (P : Program) (md : Region.Mode) (ops : Array Oper) (I : World → Prop) (Q : (World → Prop) → Act → Prop) : Nat → Array Bool → (World → Prop) → Act → Prop
  | 0, listed, C, a => Region.ready md ops listed = [] ∧ Q C a
  | fuel + 1, listed, C, a =>
    (Region.ready md ops listed = [] → Q C a) ∧
    ∀ i ∈ Region.ready md ops listed, ∀ o, ops[i]? = some o → Step6 P ops I o a C (wpAny6 P md ops I Q fuel (listed.setIfInBounds i true))
theorem Step6.wpOp {C : World → Prop} {i : Nat} {o : Oper} {a : Act} {K : (World → Prop) → Act → Prop} {K' : Act → World → Prop} {Q' : Exit → Act → World → Prop} {w : World} (hi : ops[i]? = some o) (h : Step6 P ops I o a C K) (hC : C w) (hCI : ∀ w, C w → I w) (hK : ∀ (C' : World → Prop) a' w', C' w' → (∀ w, C' w → I w) → K C' a' → K' a' w') : wpOp P ops Q' i K' a w := by
  rcases h with ⟨hk, v, hy, hn⟩ | ⟨hk, v, hy, hn⟩ | ⟨hk, v, C', hI, hy, hn⟩ | ⟨hk, h⟩
  · exact OpR.wpOp (C := C) (C' := C) hi (.inl ⟨kind3_pure (kind6_else hk (by decide)), rfl, hy⟩) hC fun w' hw' => hK C _ w' hw' hCI hn
  · have hk1 : kindOf o = 1 := by
      rcases kind6_one hk with ⟨t, x, ho⟩ | ⟨t, x, ho⟩ <;> simp [kindOf, pureOp, ho]
    exact OpR.wpOp (C := C) (C' := C) hi (.inr (.inl ⟨hk1, rfl, yields_one6 hk hy hCI⟩)) hC fun w' hw' => hK C _ w' hw' hCI hn
  · have hk2 : kindOf o = 2 := by
      have hk := kind6_else hk (by decide)
      unfold kind3 at hk
      unfold kindOf
      split at hk
      · simp at hk
      · rename_i hp
        rw [if_neg hp]
        split at hk
        · simp at hk
        · rename_i heq; simp [heq]
        · simp at hk
    exact OpR.wpOp (C := C) (C' := C') hi (.inr (.inr ⟨hk2, hy⟩)) hC fun w' hw' => hK C' _ w' hw' hI hn
  · unfold Go.wpOp
    simp only [hi]
    rcases h with ⟨hw, hn⟩ | ⟨hw, V, C', hI, hv, hn⟩
    · simp only [hw, Bool.false_eq_true, if_false]
      exact hK C _ w hC hCI hn
    · simp only [hw, if_true]
      left
      have h1 := hv w hC
      unfold Oper.wp
      generalize (execOp a.eval o).run P w = r at h1
      cases r with
      | ok n w' =>
        cases n <;> simp only [famUpon] at h1 <;> simp only [Oper.upon]
        case value u => exact hK (C' u) _ w' h1.2 (hI u) (hn u h1.1)
        case enter f args =>
          refine h1.mono fun e w'' ⟨v, he, hV, hc⟩ => ?_
          subst he
          exact hK (C' v) _ w'' hc (hI v) (hn v hV)
      | halt x w' => simp only [famUpon] at h1
theorem wpAny_of_6 {Q : (World → Prop) → Act → Prop} {Q' : Exit → Act → World → Prop} (hQ : ∀ (C : World → Prop) a w, C w → Q C a → Q' .normal a w) : ∀ (fuel : Nat) (listed : Array Bool) (C : World → Prop) (a : Act) (w : World), C w → (∀ w, C w → I w) →
    wpAny6 P md ops I Q fuel listed C a → wpAny P md ops Q' fuel listed a w
  | 0, _, _, _, _, hw, _, h => ⟨h.1, hQ _ _ _ hw h.2⟩
  | fuel + 1, _, _, _, _, hw, hI, h => ⟨fun h0 => hQ _ _ _ hw (h.1 h0), fun i hi => by
      obtain ⟨_, o, ho, _⟩ := mem_ready.1 hi
      exact (h.2 i hi o ho).wpOp ho hw hI fun C' a' w' hw' hI' hn => wpAny_of_6 hQ fuel _ C' a' w' hw' hI' hn⟩
/-- an operation apart: its step is the same whether another's value is in its slot or not -/
theorem Step6.put {oi oj : Oper} {v : Value} {a : Act} {C : World → Prop} {K1 K2 : (World → Prop) → Act → Prop} (hap : oi.apart ops oj = true) (hsj : ∀ cs b, oj.op ≠ .select cs b)
    (hK : ∀ (C' : World → Prop) u, K1 C' ((a.put oi.dst v).put oj.dst u) → K2 C' (a.put oj.dst u)) (h : Step6 P ops I oj (a.put oi.dst v) C K1) : Step6 P ops I oj a C K2 := by
  obtain ⟨p1, p2, p3⟩ := Oper.apart_spec hap
  have he := execOp_put oj hsj a oi.dst v p1
  have hw := wanted_put oj a oi.dst v p1
  rcases h with ⟨hk, u, hy, hn⟩ | ⟨hk, u, hy, hn⟩ | ⟨hk, u, C', hI, hy, hn⟩ | ⟨hk, h⟩
  · exact .inl ⟨hk, u, hy.of_same he.symm hw.symm, hK C u hn⟩
  · exact .inr (.inl ⟨hk, u, hy.of_same he.symm hw.symm, hK C u hn⟩)
  · refine .inr (.inr (.inl ⟨hk, u, C', hI, ?_, hK C' u hn⟩))
    unfold StepsIn at hy ⊢
    rwa [he, hw] at hy
  · refine .inr (.inr (.inr ⟨hk, ?_⟩))
    rcases h with ⟨hwf, hn⟩ | ⟨hwt, V, C', hsub, hv, hn⟩
    · exact .inl ⟨by rw [← hw]; exact hwf, hK C undef hn⟩
    · exact .inr ⟨by rw [← hw]; exact hwt, V, C', hsub, by rwa [he] at hv, fun u hu => hK (C' u) u (hn u hu)⟩
/-! as XQ3's, but a load is free of stores too: they stay in I -/
def free6 (md : Region.Mode) (ops : Array Oper) (listed : Array Bool) (k : Nat) : Bool :=
  let U := blocked md ops k
  U.getD k false && U.size == ops.size &&
  match ops[k]? with
  | none => false
  | some ok => (List.range ops.size).all fun j =>
    match ops[j]? with
    | some oj =>
      if U.getD j false then !listed.getD j false && (j == k || oj.after.any (fun e => Region.binds md e && U.getD e.on false))
      else listed.getD j true || (ok.apart ops oj && (kind6 ok == 0 || kind6 ok == 1))
    | none => true
structure Free6 (md : Region.Mode) (ops : Array Oper) (listed : Array Bool) (i : Nat) (oi : Oper) (U : Array Bool) : Prop where
  size : U.size = ops.size
  own : U.getD i false = true
  wait : ∀ j oj, ops[j]? = some oj → U.getD j false = true → j ≠ i → ∃ e ∈ oj.after, Region.binds md e = true ∧ U.getD e.on false = true
  un : ∀ j, U.getD j false = true → listed.getD j false = false
  free : ∀ j oj, ops[j]? = some oj → U.getD j false = false → listed.getD j true = false → oi.apart ops oj = true ∧ (kind6 oi = 0 ∨ kind6 oi = 1)
theorem free6_spec {i : Nat} {oi : Oper} {listed : Array Bool} (hi : ops[i]? = some oi) (h : free6 md ops listed i = true) : Free6 md ops listed i oi (blocked md ops i) := by
  simp only [free6, hi, List.all_eq_true, List.mem_range, Bool.and_eq_true, beq_iff_eq] at h
  obtain ⟨⟨hown, hsz⟩, h⟩ := h
  have at_ : ∀ j oj, ops[j]? = some oj → (if (blocked md ops i).getD j false = true then (!listed.getD j false && (j == i || oj.after.any (fun e => Region.binds md e && (blocked md ops i).getD e.on false))) = true
      else (listed.getD j true || (oi.apart ops oj && (kind6 oi == 0 || kind6 oi == 1))) = true) := fun j oj hj => by
    have h1 := h j (Array.getElem?_eq_some_iff.1 hj).1
    simp only [hj] at h1
    split at h1 <;> rename_i hu
    · rw [if_pos hu]; exact h1
    · rw [if_neg hu]; exact h1
  refine ⟨hsz, hown, fun j oj hj hu hne => ?_, fun j hu => ?_, fun j oj hj hu hun => ?_⟩
  · have h1 := at_ j oj hj
    rw [if_pos hu] at h1
    simp only [Bool.and_eq_true, Bool.or_eq_true, beq_iff_eq, hne, false_or] at h1
    obtain ⟨e, he, hb⟩ := Array.any_eq_true'.1 h1.2
    simp only [Bool.and_eq_true] at hb
    exact ⟨e, he, hb.1, hb.2⟩
  · have hlt : j < ops.size := by
      rw [← hsz]
      rcases Nat.lt_or_ge j (blocked md ops i).size with h' | h'
      · exact h'
      · simp [Array.getElem?_eq_none h'] at hu
    have h1 := at_ j _ (Array.getElem?_eq_getElem hlt)
    rw [if_pos hu] at h1
    simp only [Bool.and_eq_true, Bool.not_eq_true'] at h1
    exact h1.1
  · have h1 := at_ j oj hj
    rw [if_neg (by rw [hu]; exact Bool.false_ne_true)] at h1
    simp only [hun, Bool.or_eq_true, Bool.false_eq_true, false_or, Bool.and_eq_true, beq_iff_eq] at h1
    exact h1
theorem Free6.ready {i j : Nat} {oi oj : Oper} {listed U : Array Bool} (h : Free6 md ops listed i oi U) (hj : ops[j]? = some oj) (hji : j ≠ i) (hall : ∀ e ∈ oj.after, Region.binds md e = true → listed.getD e.on false = true) : U.getD j false = false := by
  cases hu : U.getD j false with
  | false => rfl
  | true =>
    obtain ⟨e, he, hb, hue⟩ := h.wait j oj hj hu hji
    have h1 := hall e he hb
    rw [h.un e.on hue] at h1
    cases h1
theorem Free6.set {i j : Nat} {oi : Oper} {listed U : Array Bool} (h : Free6 md ops listed i oi U) (hu : U.getD j false = false) : Free6 md ops (listed.setIfInBounds j true) i oi U := by
  refine ⟨h.size, h.own, h.wait, fun k hk => ?_, fun k ok hk hku hun => h.free k ok hk hku ?_⟩
  · have hne : j ≠ k := fun e => by subst e; rw [hu] at hk; cases hk
    rw [getD_set_ne false hne]; exact h.un k hk
  · by_cases hjk : j = k
    · subst hjk
      rcases Nat.lt_or_ge j listed.size with h' | h'
      · simp [h'] at hun
      · simp [Array.getElem?_eq_none (show (listed.setIfInBounds j true).size ≤ j by simpa using h')] at hun
    · rw [getD_set_ne true hjk] at hun; exact hun
/-- may the operations be walked in this order? -/
def orderB6 (md : Region.Mode) (ops : Array Oper) : List Nat → Array Bool → Bool
  | [], listed => (Region.ready md ops listed).isEmpty
  | k :: r, listed => (Region.ready md ops listed).contains k && free6 md ops listed k && orderB6 md ops r (listed.setIfInBounds k true)
def order6 (md : Region.Mode) (ops : Array Oper) (ks : List Nat) : Bool := Region.noSelect ops && ks.length == ops.size && orderB6 md ops ks (Array.replicate ops.size false)
theorem wpAny6_first {Q : (World → Prop) → Act → Prop} {i : Nat} {oi : Oper} (hi : ops[i]? = some oi) (hsel : ∀ (j : Nat) (o : Oper) cs b, ops[j]? = some o → o.op ≠ .select cs b) :
    ∀ (fuel : Nat) (listed : Array Bool) (C : World → Prop) (a : Act) (U : Array Bool), Free6 md ops listed i oi U → i ∈ Region.ready md ops listed →
      Step6 P ops I oi a C (wpAny6 P md ops I Q fuel (listed.setIfInBounds i true)) → wpAny6 P md ops I Q (fuel + 1) listed C a := by
  intro fuel
  induction fuel with
  | zero =>
    intro listed C a U hfree hr H
    refine ⟨fun h => (by rw [h] at hr; cases hr), fun j hj o ho => ?_⟩
    by_cases hji : j = i
    · subst hji
      have : o = oi := Option.some.inj (ho.symm.trans hi)
      subst this
      exact H
    · exfalso
      have hmono := ready_mono hj hji
      obtain ⟨hjun, oj', hoj', hall⟩ := mem_ready.1 hj
      have hju := hfree.ready hoj' hji hall
      obtain ⟨_, hkind⟩ := hfree.free j oj' hoj' hju hjun
      have nil : ∀ {C' : World → Prop} {a' : Act}, wpAny6 P md ops I Q 0 (listed.setIfInBounds i true) C' a' → False := fun h => by
        rw [h.1] at hmono; cases hmono
      rcases H with ⟨_, _, _, hn⟩ | ⟨_, _, _, hn⟩ | ⟨hk, _⟩ | ⟨hk, _⟩
      · exact nil hn
      · exact nil hn
      · rcases hkind with h | h <;> rw [hk] at h <;> simp at h
      · rcases hkind with h | h <;> rw [hk] at h <;> simp at h
  | succ fuel ih =>
    intro listed C a U hfree hr H
    refine ⟨fun h => (by rw [h] at hr; cases hr), fun j hj oj hoj => ?_⟩
    by_cases hji : j = i
    · subst hji
      have : oj = oi := Option.some.inj (hoj.symm.trans hi)
      subst this
      exact H
    · obtain ⟨hjun, oj', hoj', hall⟩ := mem_ready.1 hj
      have : oj' = oj := Option.some.inj (hoj'.symm.trans hoj)
      subst this
      have hju := hfree.ready hoj' hji hall
      obtain ⟨hap, hkind⟩ := hfree.free j oj' hoj hju hjun
      obtain ⟨p1, p2, p3⟩ := Oper.apart_spec hap
      have hsi : ∀ cs b, oi.op ≠ .select cs b := fun cs b => hsel i oi cs b hi
      have hsj : ∀ cs b, oj'.op ≠ .select cs b := fun cs b => hsel j oj' cs b hoj
      have hfree' := hfree.set hju
      have hr' := ready_mono hr (Ne.symm hji)
      have next : ∀ v, (kind6 oi = 0 ∧ YieldsIn P ops (fun _ => True) oi v a ∨ kind6 oi = 1 ∧ YieldsIn P ops I oi v a) → wpAny6 P md ops I Q (fuel + 1) (listed.setIfInBounds i true) C (a.put oi.dst v) → Step6 P ops I oj' a C (wpAny6 P md ops I Q (fuel + 1) (listed.setIfInBounds j true)) := by
        intro v hy hn
        refine Step6.put (v := v) hap hsj (fun C' u h3 => ih _ C' _ U hfree' hr' ?_) (hn.2 j (ready_mono hj hji) oj' hoj)
        have h4 : wpAny6 P md ops I Q fuel ((listed.setIfInBounds j true).setIfInBounds i true) C' ((a.put oj'.dst u).put oi.dst v) := by
          rw [Array.setIfInBounds_comm _ _ hji]
          rw [Act.put_comm a v u p2] at h3
          exact h3
        have hs1 := execOp_put oi hsi a oj'.dst u p3
        have hs2 := wanted_put oi a oj'.dst u p3
        rcases hy with ⟨hk, hy⟩ | ⟨hk, hy⟩
        · exact .inl ⟨hk, v, hy.of_same hs1 hs2, h4⟩
        · exact .inr (.inl ⟨hk, v, hy.of_same hs1 hs2, h4⟩)
      rcases H with ⟨hk, v, hy, hn⟩ | ⟨hk, v, hy, hn⟩ | ⟨hk, _⟩ | ⟨hk, _⟩
      · exact next v (.inl ⟨hk, hy⟩) hn
      · exact next v (.inr ⟨hk, hy⟩) hn
      · rcases hkind with h | h <;> rw [hk] at h <;> simp at h
      · rcases hkind with h | h <;> rw [hk] at h <;> simp at h

/-- the walk in that order -/
def wpO6 (P : Program) (ops : Array Oper) (I : World → Prop) (Q : (World → Prop) → Act → Prop) : List Nat → (World → Prop) → Act → Prop
  | [], C, a => Q C a
  | k :: r, C, a => ∃ o, ops[k]? = some o ∧ Step6 P ops I o a C (wpO6 P ops I Q r)
theorem Step6.mono {o : Oper} {a : Act} {C : World → Prop} {K K' : (World → Prop) → Act → Prop} (h : Step6 P ops I o a C K) (hK : ∀ C a, K C a → K' C a) : Step6 P ops I o a C K' := by
  rcases h with ⟨hk, v, hy, hn⟩ | ⟨hk, v, hy, hn⟩ | ⟨hk, v, C', hI, hy, hn⟩ | ⟨hk, h⟩
  · exact .inl ⟨hk, v, hy, hK _ _ hn⟩
  · exact .inr (.inl ⟨hk, v, hy, hK _ _ hn⟩)
  · exact .inr (.inr (.inl ⟨hk, v, C', hI, hy, hK _ _ hn⟩))
  · refine .inr (.inr (.inr ⟨hk, ?_⟩))
    rcases h with ⟨hw, hn⟩ | ⟨hw, V, C', hs, hv, hn⟩
    · exact .inl ⟨hw, hK _ _ hn⟩
    · exact .inr ⟨hw, V, C', hs, hv, fun v hV => hK _ _ (hn v hV)⟩
theorem wpAny6_order {Q : (World → Prop) → Act → Prop} (hs : Region.noSelect ops = true) : ∀ (ks : List Nat) (listed : Array Bool) (C : World → Prop) (a : Act),
    orderB6 md ops ks listed = true → wpO6 P ops I Q ks C a → wpAny6 P md ops I Q ks.length listed C a
  | [], _, _, _, hB, h => ⟨by simpa [orderB6] using hB, h⟩
  | k :: r, listed, C, a, hB, h => by
    obtain ⟨o, ho, h⟩ := h
    simp only [orderB6, Bool.and_eq_true] at hB
    obtain ⟨⟨hr, hf⟩, hB'⟩ := hB
    exact wpAny6_first ho (Region.noSelect_spec hs) r.length listed C a _ (free6_spec ho hf) (by simpa using hr) (h.mono fun C' a' hn => wpAny6_order hs r _ C' a' hB' hn)
theorem wp_region_order6 {id : Nat} {Q : Exit → Act → World → Prop} {a : Act} {w : World} {l : List Oper} (ks : List Nat) (I : World → Prop) {C : World → Prop} (hm : P.follows .mixedOrders = true) (hB : order6 .any l.toArray ks = true) (hC : C w.drew) (hI : ∀ w, C w → I w)
    (h : wpO6 P l.toArray I (fun C a' => ∀ w', C w' → Q .normal a' w') ks C a) : (Code.region id l.toArray true).wp P Q a w := by
  simp only [order6, Bool.and_eq_true, beq_iff_eq] at hB
  refine wp_region_any hm (wpAny_of_6 (I := I) (Q := fun C a' => ∀ w', C w' → Q .normal a' w') (fun C a w' hw' h => h w' hw') _ _ C _ _ hC hI ?_)
  have := wpAny6_order (md := .any) hB.1.1 ks (Array.replicate l.toArray.size false) C a hB.2 h
  rwa [hB.1.2] at this
end
/-! one operation of the walk -/
section
variable {P : Program} {I : World → Prop} {l : List Oper} {Q : (World → Prop) → Act → Prop} {o : Oper} {k : Nat} {r : List Nat} {C : World → Prop} {a : Act}
theorem wpO6_pure (ho : l[k]? = some o) (hk : kind6 o = 0) (h : wpQuiet P l.toArray (fun _ => True) (fun a' => wpO6 P l.toArray I Q r C a') [o] a) : wpO6 P l.toArray I Q (k :: r) C a :=
  ⟨o, at_list ho, .inl ⟨hk, yields_of_quiet h⟩⟩
theorem wpO6_load {t : TypeId} {x : Operand} {ad : Addr} (v : Value) (ho : l[k]? = some o) (hop : o.op = .load t x) (hw : Region.wanted o (yielded l.toArray a.tmps) = true) (hx : a.eval x = .pointer (some ad))
    (hrun : ∀ w, I w → (Instr.loadAt t (.pointer (some ad))).run P w = .ok v w) (h : wpO6 P l.toArray I Q r C (a.put o.dst v)) : wpO6 P l.toArray I Q (k :: r) C a := by
  refine ⟨o, at_list ho, .inr (.inl ⟨by simp [kind6, kind3, pureOp, hop], v, .inl ⟨hw, fun w hC => ?_⟩, h⟩)⟩
  unfold Oper.quietAt execOp
  simp only [hop, hx]
  rw [Sem.run_bind, hrun w hC]
  exact ⟨rfl, rfl⟩
theorem wpO6_build {t : TypeId} {xs : Array (Nat × Operand)} (v : Value) (ho : l[k]? = some o) (hop : o.op = .build t xs) (hw : Region.wanted o (yielded l.toArray a.tmps) = true)
    (hrun : ∀ w, I w → (execOp a.eval o).run P w = .ok (.value v) w) (h : wpO6 P l.toArray I Q r C (a.put o.dst v)) : wpO6 P l.toArray I Q (k :: r) C a := by
  refine ⟨o, at_list ho, .inr (.inl ⟨by simp [kind6, hop], v, .inl ⟨hw, fun w hC => ?_⟩, h⟩)⟩
  unfold Oper.quietAt
  rw [hrun w hC]
  exact ⟨rfl, rfl⟩
theorem wpO6_call (V : Value → Prop) (C' : Value → World → Prop) {f : FuncId} {args : Array Value} (ho : l[k]? = some o) (hk : kind6 o = 3) (hw : Region.wanted o (yielded l.toArray a.tmps) = true) (hsub : ∀ v w, C' v w → I w)
    (hrun : ∀ w, (execOp a.eval o).run P w = .ok (.enter f args) w) (hc : ∀ w, C w → Calls P f args w fun e w'' => ∃ v, e = .returned v ∧ V v ∧ C' v w'') (h : ∀ v, V v → wpO6 P l.toArray I Q r (C' v) (a.put o.dst v)) : wpO6 P l.toArray I Q (k :: r) C a :=
  ⟨o, at_list ho, .inr (.inr (.inr ⟨hk, .inr ⟨hw, V, C', hsub, fun w hC => by rw [hrun w]; exact hc w hC, h⟩⟩))⟩
theorem wpO6_skip (ho : l[k]? = some o) (hk : kind6 o = 3) (hw : Region.wanted o (yielded l.toArray a.tmps) = false) (h : wpO6 P l.toArray I Q r C (a.put o.dst undef)) : wpO6 P l.toArray I Q (k :: r) C a :=
  ⟨o, at_list ho, .inr (.inr (.inr ⟨hk, .inl ⟨hw, h⟩⟩))⟩
theorem wpO6_store (C' : World → Prop) {t : TypeId} {x y : Operand} (ho : l[k]? = some o) (hop : o.op = .store t x y) (hd : o.dst = none) (hg : o.guard = none) (ad : Addr) (v : Value) (hx : a.eval x = .pointer (some ad)) (hy : a.eval y = v) (hsub : ∀ w, C' w → I w)
    (hrun : ∀ w, C w → ∃ w', (Instr.storeAt t (.pointer (some ad)) v).run P w = .ok () w' ∧ C' w') (h : wpO6 P l.toArray I Q r C' a) : wpO6 P l.toArray I Q (k :: r) C a := by
  refine ⟨o, at_list ho, .inr (.inr (.inl ⟨by simp [kind6, kind3, pureOp, hop], undef, C', hsub, .inl ⟨by simp [Region.wanted, hg], fun w hw => ?_⟩, ?_⟩))⟩
  · obtain ⟨w', hr, hc⟩ := hrun w hw
    unfold execOp
    simp only [hop, hx, hy]
    rw [Sem.run_bind, hr]
    exact ⟨rfl, hc⟩
  · rw [hd]; exact h
end
end Go.Proofs.Ytloncplpjdekoaa

namespace Go.Proofs.Ytloncplpjdekoaa
open Go.RowKit Go.Shelf
set_option maxRecDepth 100000
attribute [local go_sem] Oper.semAt_some

/-- a frame, cut -/
theorem cut_any (v k s i c : Int) (A : Option Addr) (n m cp : Nat) (w : World) (hm : min (n : Int) 250 = (m : Int)) (hmn : m ≤ n) (hn : n ≤ cp) :
    Calls Try.prog 9 #[frV v k s i c (.slice A n cp)] w fun e w' => e = .returned (frV v k s i c (.slice A m cp)) ∧ Below w.heap.size w w' := by
  have hmc : (m : Int) ≤ (cp : Int) := by omega
  unfold frV
  have HF : Hid (frC v k s i c (.slice A n cp) = #[.int .i64 v, .int .i64 k, .int .u32 s, .int .i64 i, .int .i64 c, .slice A n cp]) := rfl
  have HG : Hid (frC v k s i c (.slice A m cp) = #[.int .i64 v, .int .i64 k, .int .u32 s, .int .i64 i, .int .i64 c, .slice A m cp]) := rfl
  rw [HF.out, HG.out]
  go_enter Try.func9, Try.ntmps9
  go_wp2
  refine bodyPost_ret (v := .agg #[.int .i64 v, .int .i64 k, .int .u32 s, .int .i64 i, .int .i64 c, .slice A m cp]) (by simp [results, Try.results9, go_sem]) rfl ?_
  exact ⟨rfl, ((Below.refl _ w).alloc (Nat.le_refl _) _).alloc (by simp) _⟩
end Go.Proofs.Ytloncplpjdekoaa

namespace Go.Proofs.Ytloncplpjdekoaa
open Go.RowKit Go.Shelf
set_option maxRecDepth 100000
attribute [local go_sem] Oper.semAt_some

theorem of_frame (v k s i c : Int) (A : Option Addr) (n cp : Nat) (w : World) : Calls Try.prog 11 #[frV v k s i c (.slice A n cp)] w fun e w' => e = .returned (frV v k s i c (.slice A n cp)) ∧ Below w.heap.size w w' := by
  have hb : Below w.heap.size w ((w.alloc (.cells (frC v k s i c (.slice A n cp)) 36)).alloc (.cells (frC v k s i c (.slice A n cp)) 46)) := ((Below.refl _ w).alloc (Nat.le_refl _) _).alloc (by simp) _
  have HB := Lib.hid hb
  unfold frV
  have HF : Hid (frC v k s i c (.slice A n cp) = #[.int .i64 v, .int .i64 k, .int .u32 s, .int .i64 i, .int .i64 c, .slice A n cp]) := rfl
  rw [HF.out] at HB ⊢
  clear hb
  go_enter Try.func11, Try.ntmps11
  go_wp2
  refine bodyPost_ret (v := .agg #[.int .i64 v, .int .i64 k, .int .u32 s, .int .i64 i, .int .i64 c, .slice A n cp]) (by simp [results, Try.results11, go_sem]) rfl ?_
  exact ⟨rfl, HB.out⟩
end Go.Proofs.Ytloncplpjdekoaa

namespace Go.Proofs.Ytloncplpjdekoaa
open Go.RowKit
set_option maxRecDepth 100000

theorem salike_any {w : World} {b m : Nat} {v k s : Int} {c : Int} {E : List Pl} (h : SlotAt w b m v k s c E) {A : Option Addr} {n cp : Nat} {fs : List Fr} (hr : RefAt w c A n cp fs) (hp : (E.map Pl.ct).Perm (fs.map Fr.ct)) :
    Calls Try.prog 45 #[.pointer (some ⟨b, 0, none⟩), frV v k s 0 c (.slice A n cp)] w fun e w' => e = .returned (.bool true) ∧ Below w.heap.size w w' := by
  obtain ⟨q, rfl, _⟩ := h.count
  by_cases hq : n = q
  · exact salike_full h hr hp hq
  · exact salike_part h hr hp hq
theorem frs_nil13 (W : World) (B : Nat) : FrsAt W B none [] := ⟨fun f hf => (by cases hf), fun j f hf => by simp at hf⟩
/-- the document's slot behind a frame -/
def nxF (gs : List Fr) (f : Fr) (er : Int) : List Fr := if er = 0 then gs ++ [f] else gs
def nxC (C : Sl.Ct) (f : Fr) (er : Int) : Sl.Ct := if er = 0 then C ++ [f.ct] else C
theorem nx_ct (gs : List Fr) (f : Fr) (er : Int) : (nxF gs f er).map Fr.ct = nxC (gs.map Fr.ct) f er := by
  unfold nxF nxC
  split <;> simp
theorem rput_nx {w w' : World} {v k s c : Int} {A : Option Addr} {n cp : Nat} {gs : List Fr} {f : Fr} {er : Int} {e : Ending} (hr : RefAt w c A n cp gs) (h : RPutR w v k s c A n cp gs f er e w') :
    ∃ A2 n2 cp2, e = .returned (.tuple #[frV v k s 0 c (.slice A2 n2 cp2), .int .i64 er]) ∧ RefAt w' c A2 n2 cp2 (nxF gs f er) ∧ Below w.heap.size w w' := by
  obtain ⟨hb, ⟨h0, he⟩ | ⟨h0, A2, cp2, he, hr2⟩⟩ := h
  · exact ⟨A, n, cp, he, by unfold nxF; rw [if_neg h0]; exact hr.below hb, hb⟩
  · subst h0
    exact ⟨A2, n + 1, cp2, he, hr2, hb⟩
theorem put_nx {w w' : World} {b m : Nat} {v k s c : Int} {E : List Pl} {f : Fr} {er : Int} {e : Ending} (h : PutR w b m v k s c E f.i.toNat f.zs er e w') :
    e = .returned (.int .i64 er) ∧ Off (fun q => q = m) w w' ∧ ∃ E2, SlotAt w' b m v k s c E2 ∧ E2.map Pl.ct = nxC (E.map Pl.ct) f er := by
  obtain ⟨he, ho, ⟨h0, hs⟩ | ⟨h0, p, hi, hz, hs⟩⟩ := h
  · exact ⟨he, ho, E, hs, by unfold nxC; rw [if_neg h0]⟩
  · refine ⟨he, ho, _, hs, ?_⟩
    unfold nxC
    rw [if_pos h0, List.map_append]
    simp [Pl.ct, Fr.ct, hi, hz]
/-- where the law's loop is: the slot and the document's are the same -/
structure PP (w : World) (b m bm : Nat) (v k s c : Int) (E : List Pl) (A : Option Addr) (n cp : Nat) (gs : List Fr) (wr : World) : Prop where
  slot : SlotAt wr b m v k s c E
  box : wr.heap[bm]? = some (.cells (frC v k s 0 c (.slice A n cp)) 83 (0, 0))
  ref : RefAt wr c A n cp gs
  same : E.map Pl.ct = gs.map Fr.ct
  below : Below w.heap.size w wr
theorem PP.below' {w wr wr' : World} {b m bm : Nat} {v k s c : Int} {E : List Pl} {A : Option Addr} {n cp : Nat} {gs : List Fr} (h : PP w b m bm v k s c E A n cp gs wr) (hb : Below wr.heap.size wr wr') : PP w b m bm v k s c E A n cp gs wr' :=
  ⟨h.slot.below hb, (hb.block bm (Array.getElem?_eq_some_iff.1 h.box).1).trans h.box, h.ref.below hb, h.same, h.below.trans (hb.mono h.below.size)⟩
theorem fs_store (W : World) (g : Nat) (old cs : Array Value) (h : W.heap[g]? = some (.cells old 83 (0, 0))) (ho : old.size = 6) (hc : cs.size = 6) (h1 : cs.all (·.oneCell') = true) :
    (Instr.storeAt 83 (.pointer (some ⟨g, 0, none⟩)) (.agg cs)).run Try.prog W = .ok () (W.setRow g cs) := by
  simp only [Instr.storeAt, Instr.sureAddr, Sem.run_bind, Sem.run_pure, Result.andThen]
  exact run_storeVar_row W g 83 83 old cs h (by rw [hc]; exact ssInfo) (by omega) h1
/-- what the operations of 'next, want := ref.Put(m, Of(f))' hand on -/
def FNx (H : Nat) (v k s c : Int) (gs : List Fr) (f : Fr) (er : Int) (q : Tmp) (x : Value) (W : World) : Prop :=
  if q = 12 then ∃ g, x = .pointer (some ⟨g, 0, none⟩) ∧ H ≤ g ∧ W.heap[g]? = some (.cells (frC 0 0 0 0 0 (.slice none 0 0)) 83 (0, 0))
  else ∃ A2 n2 cp2, x = (if q = 63 then frV v k s 0 c (.slice A2 n2 cp2) else .tuple #[frV v k s 0 c (.slice A2 n2 cp2), .int .i64 er]) ∧ RefAt W c A2 n2 cp2 (nxF gs f er)
theorem FNx.later {H : Nat} {v k s c : Int} {gs : List Fr} {f : Fr} {er : Int} {q : Tmp} {x : Value} {W W' : World} (h : FNx H v k s c gs f er q x W) (hb : Below W.heap.size W W') : FNx H v k s c gs f er q x W' := by
  unfold FNx at h ⊢
  split at h
  · rename_i hq
    rw [if_pos hq]
    obtain ⟨g, e, hg, h1⟩ := h
    exact ⟨g, e, hg, (hb.block g (Array.getElem?_eq_some_iff.1 h1).1).trans h1⟩
  · rename_i hq
    rw [if_neg hq]
    obtain ⟨A2, n2, cp2, e, h1⟩ := h
    exact ⟨A2, n2, cp2, e, h1.below hb⟩
end Go.Proofs.Ytloncplpjdekoaa

namespace Go.Proofs.Ytloncplpjdekoaa
open Go.RowKit
set_option maxRecDepth 100000

theorem soInfo : (Try.prog.info? 41).map (·.size) = some 4 := by kernel_rfl
theorem row_keep {w w' : World} {q : Nat} {o : Obj} (h : w.heap[q]? = some o) (hb : Below w.heap.size w w') : w'.heap[q]? = some o := (hb.block q (Array.getElem?_eq_some_iff.1 h).1).trans h
theorem run_storeVar_rowT {V : World} {g : Nat} {old cs : Array Value} (h : V.heap[g]? = some (.cells old 30 (0, 0))) {r n cp : Nat} {A : Option Addr} (hc : cs = #[.int .i64 (r : Int), .slice A n cp] := by rfl) (ho : old.size = 2 := by rfl) :
    (Instr.storeAt 30 (.pointer (some ⟨g, 0, none⟩)) (.agg cs)).run Try.prog V = .ok () (V.setRow g cs) := by
  subst hc
  simp only [Instr.storeAt, Instr.sureAddr, Sem.run_bind, Sem.run_pure, Result.andThen]
  exact run_storeVar_row V g 30 30 old _ h stInfo (by rw [ho]; rfl) (by simp [Value.oneCell'])
theorem run_storeVar_rowO {V : World} {g : Nat} {old : Array Value} {A : Option Addr} {n cp : Nat} {wh ev : Bool} {o : Int} (h : V.heap[g]? = some (.cells old 41 (0, 0))) (ho : old.size = 4 := by rfl) :
    (Instr.storeAt 41 (.pointer (some ⟨g, 0, none⟩)) (.agg (outC A n cp wh ev o))).run Try.prog V = .ok () (V.setRow g (outC A n cp wh ev o)) := by
  simp only [Instr.storeAt, Instr.sureAddr, Sem.run_bind, Sem.run_pure, Result.andThen]
  exact run_storeVar_row V g 41 41 old _ h soInfo (by rw [ho]; rfl) (out_one _ _ _ _ _ _)
/-- the frames that a table of the document's keeps are such as Src tells -/
def SrcL (Src : Fr → Prop) (L : List Ds) : Prop := ∀ d ∈ L, ∀ g ∈ d.gs, Src g
/-- what the document's Put answers -/
def DPutR (Src : Fr → Prop) (w : World) (r : Nat) (T : List Tb.Ms) (f : Fr) (e : Ending) (w' : World) : Prop :=
  Below w.heap.size w w' ∧ ∃ A n cp L Ab cb, e = .returned (.tuple #[docV r A n cp, outV Ab (Tb.put r T f).o.zs.length cb (Tb.put r T f).o.wh (Tb.put r T f).o.ev (Tb.put r T f).o.old, .int .i64 (Tb.put r T f).e]) ∧
    DocAt w' A n cp L ∧ (Tb.put r T f).T = L.map Ds.ms ∧ (Tb.put r T f).o.zs.length ≤ cb ∧ Nums .u8 w' w'.heap.size Ab (Tb.put r T f).o.zs ∧ SrcL Src L ∧ ∀ p, Ab = some p → w.heap.size ≤ p.block
/-- the boxes that Put makes first -/
structure Dp (w : World) (r : Nat) (A : Option Addr) (n cp : Nat) (f : Fr) (W : World) : Prop where
  t : W.heap[w.heap.size]? = some (.cells #[.int .i64 (r : Int), .slice A n cp] 30 (0, 0))
  f : W.heap[w.heap.size + 1]? = some (.cells f.cs 46 (0, 0))
  rt : W.heap[w.heap.size + 2]? = some (.cells #[.int .i64 0, .slice none 0 0] 30 (0, 0))
  ro : W.heap[w.heap.size + 3]? = some (.cells (outC none 0 0 false false 0) 41 (0, 0))
  below : Below w.heap.size w W
section
variable {w W W' : World} {r n cp : Nat} {A : Option Addr} {f : Fr}
theorem Dp.start (hw : (((w.alloc (.cells #[.int .i64 (r : Int), .slice A n cp] 30)).alloc (.cells f.cs 46)).alloc (.cells #[.int .i64 0, .slice none 0 0] 30)).alloc (.cells (outC none 0 0 false false 0) 41) = W) : Dp w r A n cp f W ∧ W.heap.size = w.heap.size + 4 := by
  obtain ⟨W3, hW3⟩ : ∃ W3, ((w.alloc (.cells #[.int .i64 (r : Int), .slice A n cp] 30)).alloc (.cells f.cs 46)).alloc (.cells #[.int .i64 0, .slice none 0 0] 30) = W3 := ⟨_, rfl⟩
  obtain ⟨hb, hs, h1, h2, h3⟩ := three_boxes hW3
  rw [hW3] at hw
  subst hw
  have h4 := World.alloc_heap_new W3 (.cells (outC none 0 0 false false 0) 41)
  rw [hs] at h4
  have hk : ∀ q, q < w.heap.size + 3 → (W3.alloc (.cells (outC none 0 0 false false 0) 41)).heap[q]? = W3.heap[q]? := fun q hq => Below.heap_alloc _ _ _ (by omega)
  exact ⟨⟨(hk _ (by omega)).trans h1, (hk _ (by omega)).trans h2, (hk _ (by omega)).trans h3, h4, hb.alloc hb.size _⟩, by rw [World.size_alloc, hs]⟩
theorem Dp.later (h : Dp w r A n cp f W) (hb : Below W.heap.size W W') : Dp w r A n cp f W' :=
  ⟨row_keep h.t hb, row_keep h.f hb, row_keep h.rt hb, row_keep h.ro hb, h.below.trans (hb.mono h.below.size)⟩
/-- the end: both results are stored -/
theorem dput_fin {A' : Option Addr} {n' cp' : Nat} {L : List Ds} {Ab : Option Addr} {cb : Nat} {T : List Tb.Ms} {R : Tb.Res} {Src : Fr → Prop} (hsrc : SrcL Src L) (hw4 : w.heap.size + 4 ≤ W.heap.size) (h2 : W.heap[w.heap.size + 2]? = some (.cells #[.int .i64 0, .slice none 0 0] 30 (0, 0)))
    (h3 : W.heap[w.heap.size + 3]? = some (.cells (outC none 0 0 false false 0) 41 (0, 0))) (hb : Below w.heap.size w W) (hp : Tb.put r T f = R) (hd : DocAt W A' n' cp' L) (hT : R.T = L.map Ds.ms) (hz : R.o.zs.length ≤ cb) (hn : Nums .u8 W W.heap.size Ab R.o.zs) (hnew : ∀ p, Ab = some p → w.heap.size ≤ p.block) :
    let W1 := W.setRow (w.heap.size + 2) #[.int .i64 (r : Int), .slice A' n' cp']
    let W2 := W1.setRow (w.heap.size + 3) (outC Ab R.o.zs.length cb R.o.wh R.o.ev R.o.old)
    W1.heap[w.heap.size + 3]? = some (.cells (outC none 0 0 false false 0) 41 (0, 0)) ∧
    W2.cell? ⟨w.heap.size + 2, 0, none⟩ = some (.int .i64 (r : Int)) ∧ W2.cell? ⟨w.heap.size + 2, 1, none⟩ = some (.slice A' n' cp') ∧
    W2.cell? ⟨w.heap.size + 3, 0, none⟩ = some (.slice Ab R.o.zs.length cb) ∧ W2.cell? ⟨w.heap.size + 3, 1, none⟩ = some (.bool R.o.wh) ∧ W2.cell? ⟨w.heap.size + 3, 2, none⟩ = some (.bool R.o.ev) ∧ W2.cell? ⟨w.heap.size + 3, 3, none⟩ = some (.int .u32 R.o.old) ∧
    DPutR Src w r T f (.returned (.tuple #[.agg #[.int .i64 (r : Int), .slice A' n' cp'], .agg #[.slice Ab R.o.zs.length cb, .bool R.o.wh, .bool R.o.ev, .int .u32 R.o.old], .int .i64 R.e])) W2 := by
  intro W1 W2
  have h2' := setRow_heap W (w.heap.size + 2) _ #[.int .i64 (r : Int), .slice A' n' cp'] _ _ h2
  have ho1 : Off (fun q => q = w.heap.size + 2) W W1 := Off.setRow (S := fun q => q = w.heap.size + 2) (Off.refl _ W) rfl _
  have h31 : W1.heap[w.heap.size + 3]? = _ := (ho1.block (w.heap.size + 3) (by omega) (by omega)).trans h3
  have h3' := setRow_heap W1 (w.heap.size + 3) _ (outC Ab R.o.zs.length cb R.o.wh R.o.ev R.o.old) _ _ h31
  have ho2 : Off (fun q => q = w.heap.size + 3) W1 W2 := Off.setRow (S := fun q => q = w.heap.size + 3) (Off.refl _ W1) rfl _
  have h22 : W2.heap[w.heap.size + 2]? = _ := (ho2.block (w.heap.size + 2) (by have := ho1.size; omega) (by omega)).trans h2'
  have ho : Off (fun q => q = w.heap.size + 2 ∨ q = w.heap.size + 3) W W2 := (ho1.mono (S' := fun q => q = w.heap.size + 2 ∨ q = w.heap.size + 3) fun _ _ h => .inl h).trans ho2 fun _ _ h => .inr h
  have hS : Sml W (fun q => q = w.heap.size + 2 ∨ q = w.heap.size + 3) := by
    rintro g cs t fz hg (rfl | rfl)
    · rw [h2] at hg
      obtain ⟨rfl, rfl, rfl⟩ : #[Value.int .i64 0, .slice none 0 0] = cs ∧ 30 = t ∧ (0, 0) = fz := by simpa using hg
      exact ⟨by simp, fun j z h => (by rcases j with _ | _ | j <;> simp at h), by decide⟩
    · rw [h3] at hg
      obtain ⟨rfl, rfl, rfl⟩ : outC none 0 0 false false 0 = cs ∧ 41 = t ∧ (0, 0) = fz := by simpa using hg
      exact ⟨by decide, fun j z h => (by rcases j with _ | _ | _ | _ | j <;> simp [outC] at h), by decide⟩
  obtain ⟨c0, c1⟩ := doc_cells h22
  obtain ⟨o0, o1, o2, o3⟩ := out_block h3'
  refine ⟨h31, c0, c1, o0, o1, o2, o3, ?_⟩
  subst hp
  exact ⟨hb.trans (ho.below (fun q hq => by omega) hb.size), A', n', cp', L, Ab, cb, rfl, hd.sml ho hS, hT, hz, nums_sml hn ho rfl hS, hsrc, hnew⟩
end
/-- the boxes behind find: the table may have been turned, a slot may have gone -/
structure Dm (w : World) (r : Nat) (A0 : Option Addr) (n0 cp0 : Nat) (f : Fr) (pw po : Nat) (A : Option Addr) (n cp : Nat) (L1 : List Ds) (ev : Bool) (old : Int) (W : World) : Prop where
  t : W.heap[w.heap.size]? = some (.cells #[.int .i64 (r : Int), .slice A n cp] 30 (0, 0))
  f : W.heap[w.heap.size + 1]? = some (.cells f.cs 46 (0, 0))
  rt : W.heap[w.heap.size + 2]? = some (.cells #[.int .i64 0, .slice none 0 0] 30 (0, 0))
  ro : W.heap[w.heap.size + 3]? = some (.cells (outC none 0 0 false false 0) 41 (0, 0))
  was : W.heap[pw]? = some (.cells #[.int .i64 (r : Int), .slice A0 n0 cp0] 30 (0, 0))
  out : W.heap[po]? = some (.cells (outC none 0 0 false ev old) 41 (0, 0))
  doc : DocAt W A n cp L1
  below : Below w.heap.size w W
  lo : w.heap.size + 4 ≤ pw ∧ po = pw + 1
theorem Dm.later {w W W' : World} {r n0 cp0 n cp pw po : Nat} {A0 A : Option Addr} {f : Fr} {L1 : List Ds} {ev : Bool} {old : Int} (h : Dm w r A0 n0 cp0 f pw po A n cp L1 ev old W) (hb : Below W.heap.size W W') : Dm w r A0 n0 cp0 f pw po A n cp L1 ev old W' :=
  ⟨row_keep h.t hb, row_keep h.f hb, row_keep h.rt hb, row_keep h.ro hb, row_keep h.was hb, row_keep h.out hb, h.doc.below hb, h.below.trans (hb.mono h.below.size), h.lo⟩
/-- a slot has gone for the new one -/
theorem Dm.gone {w W : World} {r n0 cp0 n cp pw n' cp' : Nat} {A0 A A' : Option Addr} {f : Fr} {L1 L2 : List Ds} {old : Int} (h : Dm w r A0 n0 cp0 f pw (pw + 1) A n cp L1 false 0 W) (hd : DocAt W A' n' cp' L2) :
    let W1 := W.setRow w.heap.size #[.int .i64 (r : Int), .slice A' n' cp']
    let W2 := W1.setCell ⟨pw + 1, 2, none⟩ (.bool true)
    let W3 := W2.setCell ⟨pw + 1, 3, none⟩ (.int .u32 old)
    W1.cell? ⟨pw + 1, 2, none⟩ = some (.bool false) ∧ (∀ q, W1.frozen? ⟨pw + 1, q, none⟩ = false) ∧ W2.cell? ⟨pw + 1, 3, none⟩ = some (.int .u32 0) ∧ (∀ q, W2.frozen? ⟨pw + 1, q, none⟩ = false) ∧
      Dm w r A0 n0 cp0 f pw (pw + 1) A' n' cp' L2 true old W3 := by
  intro W1 W2 W3
  have hlo := h.lo.1
  have t1 : W1.heap[w.heap.size]? = _ := setRow_heap W w.heap.size _ #[.int .i64 (r : Int), .slice A' n' cp'] _ _ h.t
  have ho1 : Off (fun q => q = w.heap.size) W W1 := Off.setRow (S := fun q => q = w.heap.size) (Off.refl _ W) rfl _
  have hlt : pw + 1 < W.heap.size := (Array.getElem?_eq_some_iff.1 h.out).1
  have u1 : W1.heap[pw + 1]? = _ := (ho1.block (pw + 1) hlt (by omega)).trans h.out
  have u2 : W2.heap[pw + 1]? = some (.cells #[.slice none 0 0, .bool false, .bool true, .int .u32 0] 41 (0, 0)) := setCell_at (j := 2) (u := .bool true) u1
  have u3 : W3.heap[pw + 1]? = some (.cells #[.slice none 0 0, .bool false, .bool true, .int .u32 old] 41 (0, 0)) := setCell_at (j := 3) (u := .int .u32 old) u2
  have ho2 : Off (fun q => q = pw + 1) W1 W3 := ((Off.refl (fun q => q = pw + 1) W1).setCell (p := ⟨pw + 1, 2, none⟩) rfl _).setCell (p := ⟨pw + 1, 3, none⟩) rfl _
  have ho : Off (fun q => q = w.heap.size ∨ q = pw + 1) W W3 := (ho1.mono (S' := fun q => q = w.heap.size ∨ q = pw + 1) fun _ _ h => .inl h).trans ho2 fun _ _ h => .inr h
  have hS : Sml W (fun q => q = w.heap.size ∨ q = pw + 1) := by
    rintro g cs t fz hg (rfl | rfl)
    · rw [h.t] at hg
      obtain ⟨rfl, rfl, rfl⟩ : #[Value.int .i64 (r : Int), .slice A n cp] = cs ∧ 30 = t ∧ (0, 0) = fz := by simpa using hg
      exact ⟨by simp, fun j z h => (by rcases j with _ | _ | j <;> simp at h), by decide⟩
    · rw [h.out] at hg
      obtain ⟨rfl, rfl, rfl⟩ : outC none 0 0 false false 0 = cs ∧ 41 = t ∧ (0, 0) = fz := by simpa using hg
      exact ⟨by decide, fun j z h => (by rcases j with _ | _ | _ | _ | j <;> simp [outC] at h), by decide⟩
  have keep : ∀ q, q < W.heap.size → q ≠ w.heap.size → q ≠ pw + 1 → W3.heap[q]? = W.heap[q]? := fun q hq h1 h2 => ho.block q hq fun h => h.elim h1 h2
  have lt : ∀ q o, W.heap[q]? = some o → q < W.heap.size := fun q o h => (Array.getElem?_eq_some_iff.1 h).1
  refine ⟨by simp [World.cell?, u1, outC], fun q => by simp [World.frozen?, u1], by simp [World.cell?, u2], fun q => by simp [World.frozen?, u2], ?_⟩
  refine ⟨(ho2.block w.heap.size (Array.getElem?_eq_some_iff.1 t1).1 (by omega)).trans t1, (keep _ (lt _ _ h.f) (by omega) (by omega)).trans h.f, (keep _ (lt _ _ h.rt) (by omega) (by omega)).trans h.rt, (keep _ (lt _ _ h.ro) (by omega) (by omega)).trans h.ro, (keep _ (lt _ _ h.was) (by omega) (by omega)).trans h.was, u3, hd.sml ho hS,
    h.below.trans (ho.below (fun q hq => by omega) h.below.size), h.lo⟩
/-- the slot that f would open -/
def Ds.new (f : Fr) : Ds := ⟨f.v, f.k, f.s, f.c, none, 0, 0, []⟩
theorem Ds.new_at {f : Fr} (W : World) (hc : chk f.v f.k f.i f.c = 0) (hs : 0 ≤ f.s ∧ f.s ≤ 4294967295) : (Ds.new f).At W := by
  obtain ⟨h1, h2, h3, h4, h5, h6, h7⟩ := chk_zero hc
  refine ⟨⟨⟨fun f hf => (by cases hf), fun j f hf => by simp [Ds.new] at hf⟩, rfl, Nat.le_refl _, fun f hf => (by cases hf), by simp [Ds.new, Sl.Keys], by simp [Ds.new, Sl.tot], h5, fun g off e => (by cases e)⟩, hs, ?_⟩
  have : chk f.v f.k 0 f.c = 0 := by
    unfold chk
    rw [if_neg (by omega), if_neg (by omega), if_neg (by omega)]
  exact this
/-- the list is another one -/
theorem Dm.list {w W w6 : World} {r n0 cp0 n cp pw po g6 q c6 : Nat} {A0 A : Option Addr} {f : Fr} {L1 L2 : List Ds} {ev : Bool} {old : Int} (h : Dm w r A0 n0 cp0 f pw po A n cp L1 ev old W) (hb : Below W.heap.size W w6)
    (hown : w6.ownsRow W.heap.size 83 6 (.slice (some ⟨g6, 0, none⟩) q c6) q (flatD L2)) (hq : L2.length = q) (hat : ∀ d ∈ L2, d ∈ L1 ∨ ∀ W, d.At W) (hn : q ≤ 1000) :
    w6.cell? ⟨w.heap.size, 1, none⟩ = some (.slice A n cp) ∧ (∀ p, w6.frozen? ⟨w.heap.size, p, none⟩ = false) ∧
      Dm w r A0 n0 cp0 f pw po (some ⟨g6, 0, none⟩) q c6 L2 ev old (w6.setCell ⟨w.heap.size, 1, none⟩ (.slice (some ⟨g6, 0, none⟩) q c6)) := by
  have h6 := h.later hb
  have t3 : (w6.setCell ⟨w.heap.size, 1, none⟩ (.slice (some ⟨g6, 0, none⟩) q c6)).heap[w.heap.size]? = some (.cells #[.int .i64 (r : Int), .slice (some ⟨g6, 0, none⟩) q c6] 30 (0, 0)) := setCell_at (j := 1) (u := .slice (some ⟨g6, 0, none⟩) q c6) h6.t
  have ho : Off (fun q => q = w.heap.size) w6 (w6.setCell ⟨w.heap.size, 1, none⟩ (.slice (some ⟨g6, 0, none⟩) q c6)) := (Off.refl (fun q => q = w.heap.size) w6).setCell (p := ⟨w.heap.size, 1, none⟩) rfl _
  have hS : Sml w6 (fun q => q = w.heap.size) := by
    rintro g cs t fz hg rfl
    rw [h6.t] at hg
    obtain ⟨rfl, rfl, rfl⟩ : #[Value.int .i64 (r : Int), .slice A n cp] = cs ∧ 30 = t ∧ (0, 0) = fz := by simpa using hg
    exact ⟨by simp, fun j z h => (by rcases j with _ | _ | j <;> simp at h), by decide⟩
  have hlo := h.lo
  have hwW := h.below.size
  have keep : ∀ k o, w6.heap[k]? = some o → k ≠ w.heap.size → (w6.setCell ⟨w.heap.size, 1, none⟩ (.slice (some ⟨g6, 0, none⟩) q c6)).heap[k]? = some o := fun k o hk hne => (ho.block k (Array.getElem?_eq_some_iff.1 hk).1 hne).trans hk
  have hlt0 : w.heap.size < W.heap.size := (Array.getElem?_eq_some_iff.1 h.t).1
  have hown3 := tord_off hown ho fun g hg e => by
    have := (hown.lt g hg).1
    omega
  have hall : ∀ d ∈ L2, d.At (w6.setCell ⟨w.heap.size, 1, none⟩ (.slice (some ⟨g6, 0, none⟩) q c6)) := fun d hd => by
    rcases hat d hd with h1 | h1
    · exact (h6.doc.at' d h1).sml ho hS
    · exact h1 _
  obtain ⟨A', c', e', _, hdoc⟩ := own_docs (by rw [hq]; exact hown3) hall (by omega)
  rw [hq] at e' hdoc
  injection e' with e1 e2 e3
  subst e1 e3
  exact ⟨(doc_cells h6.t).2, fun p => by simp [World.frozen?, h6.t], t3, keep _ _ h6.f (by omega), keep _ _ h6.rt (by omega), keep _ _ h6.ro (by omega), keep _ _ h6.was (by omega), keep _ _ h6.out (by omega), hdoc, h6.below.trans (ho.below (fun q hq => by omega) h6.below.size), hlo⟩
/-- what the operations of 't.L = append(append([]S{}, t.L...), New(f.H))' hand on -/
def FDoc (H n : Nat) (L : List Ds) (d : Ds) (q : Tmp) (x : Value) (W : World) : Prop :=
  if q = 69 then ∃ g, x = .slice (some ⟨g, 0, none⟩) 0 0 ∧ W.ownsRow H 83 6 (.slice (some ⟨g, 0, none⟩) 0 0) 0 []
  else if q = 72 then W.ownsRow H 83 6 x n (flatD L)
  else ∃ g, x = .slice (some ⟨g, 0, none⟩) 1 1 ∧ W.heap[g]? = some (.cells d.cs 83 (0, 0))
theorem FDoc.later {H n : Nat} {L : List Ds} {d : Ds} {q : Tmp} {x : Value} {W W' : World} (h : FDoc H n L d q x W) (hb : Below W.heap.size W W') : FDoc H n L d q x W' := by
  unfold FDoc at h ⊢
  split at h
  · rename_i hq
    rw [if_pos hq]
    obtain ⟨g, e, h1⟩ := h
    exact ⟨g, e, own_below6 h1 hb⟩
  · rename_i hq
    rw [if_neg hq]
    split at h
    · rename_i hq2
      rw [if_pos hq2]
      exact own_below6 h hb
    · rename_i hq2
      rw [if_neg hq2]
      obtain ⟨g, e, h1⟩ := h
      exact ⟨g, e, row_keep h1 hb⟩
/-- what the operations of 's, e := Put(t.L[at], f)' hand on -/
def FPt (H : Nat) (d : Ds) (f : Fr) (er : Int) (q : Tmp) (x : Value) (W : World) : Prop :=
  if q = 12 then ∃ g, x = .pointer (some ⟨g, 0, none⟩) ∧ H ≤ g ∧ W.heap[g]? = some (.cells (frC 0 0 0 0 0 (.slice none 0 0)) 83 (0, 0))
  else ∃ A2 n2 cp2, x = (if q = 91 then frV d.v d.k d.s 0 d.c (.slice A2 n2 cp2) else .tuple #[frV d.v d.k d.s 0 d.c (.slice A2 n2 cp2), .int .i64 er]) ∧ RefAt W d.c A2 n2 cp2 (nxF d.gs f er)
theorem FPt.later {H : Nat} {d : Ds} {f : Fr} {er : Int} {q : Tmp} {x : Value} {W W' : World} (h : FPt H d f er q x W) (hb : Below W.heap.size W W') : FPt H d f er q x W' := by
  unfold FPt at h ⊢
  split at h
  · rename_i hq
    rw [if_pos hq]
    obtain ⟨g, e, hg, h1⟩ := h
    exact ⟨g, e, hg, row_keep h1 hb⟩
  · rename_i hq
    rw [if_neg hq]
    obtain ⟨A2, n2, cp2, e, h1⟩ := h
    exact ⟨A2, n2, cp2, e, h1.below hb⟩
theorem put1_set {L : List Ds} {j : Nat} {d : Ds} {f : Fr} (hk : (L.map Ds.s).Nodup) (hj : L[j]? = some d) (hd : d.s = f.s) : Tb.put1 (L.map Ds.ms) f = (L.map Ds.ms).set j (d.ms.push f) := by
  apply List.ext_getElem?
  intro i
  have hjl := (List.getElem?_eq_some_iff.1 hj).1
  simp only [Tb.put1, List.getElem?_map, List.getElem?_set, List.length_map]
  by_cases hij : j = i
  · subst hij
    rw [hj, if_pos rfl, if_pos hjl]
    show some (if d.ms.s = f.s then d.ms.push f else d.ms) = _
    rw [if_pos (show d.ms.s = f.s from hd)]
  · rw [if_neg hij]
    cases hx : L[i]? with
    | none => rfl
    | some x =>
      show some (if x.ms.s = f.s then x.ms.push f else x.ms) = some x.ms
      rw [if_neg]
      intro hs
      refine hij (nodup_at (a := f.s) hk ?_ ?_)
      · rw [List.getElem?_map, hj]; exact congrArg some hd
      · rw [List.getElem?_map, hx]; exact congrArg some hs
theorem wpList_appendU {P : Program} {ops : Array Oper} {rest : List Oper} {o : Oper} {a : Act} {w w' : World} {Q : Exit → Act → World → Prop} {v1 v2 v' : Value} (hgd : o.guard = none) (s x : Operand) (t : TypeId) (hop : o.op = Op.call { callee := Callee.builtin Builtin.append, args := #[s, x], argTypes := #[t, t] })
    (hs : a.eval s = v1) (hx : a.eval x = v2) (hrun : (Builtin.append_ #[t, t] o.type #[v1, v2]).run P w = .ok v' w') (h : wpList P ops Q rest (a.put o.dst v') w') : wpList P ops Q (o :: rest) a w := by
  refine wpList_plain hgd fun K hK => ?_
  unfold Oper.wp
  rw [exec_appendU s x t hop hs hx hrun]
  exact hK _ _ h
/-- one of the list's slots has been set -/
theorem Dm.with {w W W' : World} {r n0 cp0 n cp pw g : Nat} {A0 A : Option Addr} {f : Fr} {L1 L2 : List Ds} {ev : Bool} {old : Int} (h : Dm w r A0 n0 cp0 f pw (pw + 1) A n cp L1 ev old W) (ho : Off (fun q => q = g) W W') (hg : pw + 1 < g) (hd : DocAt W' A n cp L2) :
    Dm w r A0 n0 cp0 f pw (pw + 1) A n cp L2 ev old W' := by
  have hlo := h.lo.1
  have keep : ∀ k o, W.heap[k]? = some o → k ≠ g → W'.heap[k]? = some o := fun k o hk hne => (ho.block k (Array.getElem?_eq_some_iff.1 hk).1 hne).trans hk
  exact ⟨keep _ _ h.t (by omega), keep _ _ h.f (by omega), keep _ _ h.rt (by omega), keep _ _ h.ro (by omega), keep _ _ h.was (by omega), keep _ _ h.out (by omega), hd, h.below.trans (ho.below (fun q hq => by omega) h.below.size), h.lo⟩
/-- the boxes at the end -/
structure De (w : World) (r : Nat) (f : Fr) (po : Nat) (A : Option Addr) (n cp : Nat) (L1 : List Ds) (Ab : Option Addr) (cb : Nat) (zs : List Int) (wh ev : Bool) (old : Int) (W : World) : Prop where
  t : W.heap[w.heap.size]? = some (.cells #[.int .i64 (r : Int), .slice A n cp] 30 (0, 0))
  f : W.heap[w.heap.size + 1]? = some (.cells f.cs 46 (0, 0))
  rt : W.heap[w.heap.size + 2]? = some (.cells #[.int .i64 0, .slice none 0 0] 30 (0, 0))
  ro : W.heap[w.heap.size + 3]? = some (.cells (outC none 0 0 false false 0) 41 (0, 0))
  out : W.heap[po]? = some (.cells (outC Ab zs.length cb wh ev old) 41 (0, 0))
  doc : DocAt W A n cp L1
  nums : Nums .u8 W W.heap.size Ab zs
  room : zs.length ≤ cb
  below : Below w.heap.size w W
  lo : w.heap.size + 5 ≤ po
  new : ∀ p, Ab = some p → w.heap.size ≤ p.block
theorem De.later {w W W' : World} {r n cp po cb : Nat} {A Ab : Option Addr} {f : Fr} {L1 : List Ds} {zs : List Int} {wh ev : Bool} {old : Int} (h : De w r f po A n cp L1 Ab cb zs wh ev old W) (hb : Below W.heap.size W W') : De w r f po A n cp L1 Ab cb zs wh ev old W' :=
  ⟨row_keep h.t hb, row_keep h.f hb, row_keep h.rt hb, row_keep h.ro hb, row_keep h.out hb, h.doc.below hb, (h.nums.below hb).mono hb.size, h.room, h.below.trans (hb.mono h.below.size), h.lo, h.new⟩
theorem Dm.part {w W : World} {r n0 cp0 n cp pw : Nat} {A0 A : Option Addr} {f : Fr} {L1 : List Ds} {ev : Bool} {old : Int} (h : Dm w r A0 n0 cp0 f pw (pw + 1) A n cp L1 ev old W) : De w r f (pw + 1) A n cp L1 none 0 [] false ev old W :=
  ⟨h.t, h.f, h.rt, h.ro, h.out, h.doc, Nums.nil, Nat.le_refl _, h.below, by have := h.lo; omega, fun p hp => by cases hp⟩
/-- a body is told -/
theorem Dm.told {w W : World} {r n0 cp0 n cp pw cb q : Nat} {A0 A Ab : Option Addr} {f : Fr} {L1 : List Ds} {ev : Bool} {old : Int} {zs : List Int} (h : Dm w r A0 n0 cp0 f pw (pw + 1) A n cp L1 ev old W) (hq : zs.length = q) (hn : Nums .u8 W W.heap.size Ab zs) (hr : q ≤ cb) (hnew : ∀ p, Ab = some p → w.heap.size ≤ p.block) :
    let W1 := W.setCell ⟨pw + 1, 0, none⟩ (.slice Ab q cb)
    let W2 := W1.setCell ⟨pw + 1, 1, none⟩ (.bool true)
    W.cell? ⟨pw + 1, 0, none⟩ = some (.slice none 0 0) ∧ (∀ p, W.frozen? ⟨pw + 1, p, none⟩ = false) ∧ W1.cell? ⟨pw + 1, 1, none⟩ = some (.bool false) ∧ (∀ p, W1.frozen? ⟨pw + 1, p, none⟩ = false) ∧ De w r f (pw + 1) A n cp L1 Ab cb zs true ev old W2 := by
  intro W1 W2
  subst hq
  have hlo := h.lo.1
  have u1 : W1.heap[pw + 1]? = some (.cells #[.slice Ab zs.length cb, .bool false, .bool ev, .int .u32 old] 41 (0, 0)) := setCell_at (j := 0) (u := .slice Ab zs.length cb) h.out
  have u2 : W2.heap[pw + 1]? = some (.cells #[.slice Ab zs.length cb, .bool true, .bool ev, .int .u32 old] 41 (0, 0)) := setCell_at (j := 1) (u := .bool true) u1
  have ho : Off (fun q => q = pw + 1) W W2 := ((Off.refl (fun q => q = pw + 1) W).setCell (p := ⟨pw + 1, 0, none⟩) rfl _).setCell (p := ⟨pw + 1, 1, none⟩) rfl _
  have hS : Sml W (fun q => q = pw + 1) := by
    rintro g cs t fz hg rfl
    rw [h.out] at hg
    obtain ⟨rfl, rfl, rfl⟩ : outC none 0 0 false ev old = cs ∧ 41 = t ∧ (0, 0) = fz := by simpa using hg
    exact ⟨by simp [outC], fun j z h => (by rcases j with _ | _ | _ | _ | j <;> simp [outC] at h), by decide⟩
  have keep : ∀ k o, W.heap[k]? = some o → k ≠ pw + 1 → W2.heap[k]? = some o := fun k o hk hne => (ho.block k (Array.getElem?_eq_some_iff.1 hk).1 hne).trans hk
  obtain ⟨o0, -, -, -⟩ := out_block h.out
  refine ⟨o0, fun p => by simp [World.frozen?, h.out], by simp [World.cell?, u1], fun p => by simp [World.frozen?, u1], keep _ _ h.t (by omega), keep _ _ h.f (by omega), keep _ _ h.rt (by omega), keep _ _ h.ro (by omega), u2, h.doc.sml ho hS, nums_sml hn ho rfl hS, hr, h.below.trans (ho.below (fun q hq => by omega) h.below.size), by omega, hnew⟩
/-- the slot goes -/
theorem De.gone {w W : World} {r n cp po cb n' cp' : Nat} {A Ab A' : Option Addr} {f : Fr} {L1 L2 : List Ds} {zs : List Int} {wh ev : Bool} {old : Int} (h : De w r f po A n cp L1 Ab cb zs wh ev old W) (hd : DocAt W A' n' cp' L2) :
    De w r f po A' n' cp' L2 Ab cb zs wh ev old (W.setRow w.heap.size #[.int .i64 (r : Int), .slice A' n' cp']) := by
  have hlo := h.lo
  have t1 := setRow_heap W w.heap.size _ #[.int .i64 (r : Int), .slice A' n' cp'] _ _ h.t
  have ho : Off (fun q => q = w.heap.size) W (W.setRow w.heap.size #[.int .i64 (r : Int), .slice A' n' cp']) := Off.setRow (S := fun q => q = w.heap.size) (Off.refl _ W) rfl _
  have hS : Sml W (fun q => q = w.heap.size) := by
    rintro g cs t fz hg rfl
    rw [h.t] at hg
    obtain ⟨rfl, rfl, rfl⟩ : #[Value.int .i64 (r : Int), .slice A n cp] = cs ∧ 30 = t ∧ (0, 0) = fz := by simpa using hg
    exact ⟨by simp, fun j z h => (by rcases j with _ | _ | j <;> simp at h), by decide⟩
  have keep : ∀ k o, W.heap[k]? = some o → k ≠ w.heap.size → (W.setRow w.heap.size #[.int .i64 (r : Int), .slice A' n' cp']).heap[k]? = some o := fun k o hk hne => (ho.block k (Array.getElem?_eq_some_iff.1 hk).1 hne).trans hk
  exact ⟨t1, keep _ _ h.f (by omega), keep _ _ h.rt (by omega), keep _ _ h.ro (by omega), keep _ _ h.out (by omega), hd.sml ho hS, nums_sml h.nums ho rfl hS, h.room, h.below.trans (ho.below (fun q hq => by omega) h.below.size), h.lo, h.new⟩
/-- a list copied, one of its slots set -/
theorem Dm.setAt {w W W' : World} {r n0 cp0 n cp pw g c : Nat} {A0 A : Option Addr} {f : Fr} {L1 : List Ds} {ev : Bool} {old : Int} {j : Nat} {dp : Ds} (h : Dm w r A0 n0 cp0 f pw (pw + 1) A n cp L1 ev old W) (hb : Below W.heap.size W W')
    (hown : W'.ownsRow W.heap.size 83 6 (.slice (some ⟨g, 0, none⟩) n c) n (flatD L1)) (hj : j < n) (hn : n ≤ 1000) (hdp : dp.At W) :
    let W2 := W'.setCell ⟨w.heap.size, 1, none⟩ (.slice (some ⟨g, 0, none⟩) n c)
    let W3 := W2.setCells g (j * 6) dp.cs.toList
    W'.cell? ⟨w.heap.size, 1, none⟩ = some (.slice A n cp) ∧ (∀ p, W'.frozen? ⟨w.heap.size, p, none⟩ = false) ∧ W2.cell? ⟨w.heap.size, 1, none⟩ = some (.slice (some ⟨g, 0, none⟩) n c) ∧ W2.there g (j * 6) dp.cs.size ∧
      (∀ k o, W.heap[k]? = some o → k ≠ w.heap.size → W2.heap[k]? = some o ∧ W3.heap[k]? = some o) ∧ dp.At W3 ∧ Dm w r A0 n0 cp0 f pw (pw + 1) (some ⟨g, 0, none⟩) n c (L1.set j dp) ev old W3 := by
  intro W2 W3
  have hlen := h.doc.len
  obtain ⟨y1, y2, hm2⟩ := h.list hb hown hlen (fun d hd => .inl hd) hn
  have ho2 : Off (fun q => q = w.heap.size) W' W2 := (Off.refl (fun q => q = w.heap.size) W').setCell (p := ⟨w.heap.size, 1, none⟩) rfl _
  have hg := (hown.lt g rfl)
  have hlt0 : w.heap.size < W.heap.size := (Array.getElem?_eq_some_iff.1 h.t).1
  have hlto : pw + 1 < W.heap.size := (Array.getElem?_eq_some_iff.1 h.out).1
  have hown2 := tord_off hown ho2 fun q hq e => by
    have := (hown.lt q hq).1
    omega
  have ho3 : Off (fun q => q = g) W2 W3 := Off.setCells (S := fun q => q = g) rfl _ _ (Off.refl _ W2)
  have ho : Off (fun q => q = w.heap.size ∨ W.heap.size ≤ q) W W3 := ((Off.of_below hb : Off (fun q => q = w.heap.size ∨ W.heap.size ≤ q) W W').trans ho2 fun _ _ h => .inl h).trans ho3 fun q hq e => .inr (by omega)
  have hS : Sml W (fun q => q = w.heap.size ∨ W.heap.size ≤ q) := by
    rintro q cs t fz hg (rfl | hq)
    · rw [h.t] at hg
      obtain ⟨rfl, rfl, rfl⟩ : #[Value.int .i64 (r : Int), .slice A n cp] = cs ∧ 30 = t ∧ (0, 0) = fz := by simpa using hg
      exact ⟨by simp, fun j z h => (by rcases j with _ | _ | j <;> simp at h), by decide⟩
    · have := (Array.getElem?_eq_some_iff.1 hg).1
      omega
  have hall : ∀ x ∈ L1.set j dp, x.At W3 := fun x hx => by
    rcases List.mem_or_eq_of_mem_set hx with h1 | rfl
    · exact (h.doc.at' x h1).sml ho hS
    · exact hdp.sml ho hS
  obtain ⟨hth, hdoc⟩ := docs_set hown2 hlen hj hall hn
  refine ⟨y1, y2, (doc_cells hm2.t).2, hth, fun k o hk hne => ?_, hdp.sml ho hS, hm2.with ho3 (by omega) hdoc⟩
  have hkl := (Array.getElem?_eq_some_iff.1 hk).1
  have h2 : W2.heap[k]? = some o := (ho2.block k (by have := hb.size; omega) hne).trans ((hb.block k hkl).trans hk)
  exact ⟨h2, (ho3.block k (Array.getElem?_eq_some_iff.1 h2).1 (by omega)).trans h2⟩
theorem Tb.new_err {f : Fr} (h1 : chk f.v f.k f.i f.c = 0) (h2 : f.zs ≠ []) : (Tb.Ms.new f).err f = if 192 < f.zs.length then 6 else 0 := by
  obtain ⟨_, _, _, _, _, h3, h4⟩ := chk_zero h1
  have h5 : f.zs.length ≠ 0 := fun e => h2 (List.eq_nil_of_length_eq_zero e)
  show sErr f.v f.k f.s f.c f.v f.k f.s f.i f.c [] f.zs = _
  unfold sErr
  rw [if_neg (by simp [mateZ]), if_neg (by omega), if_neg h5, if_neg (by simp [Sl.has])]
  simp [Sl.tot]
end Go.Proofs.Ytloncplpjdekoaa

namespace Go.Proofs.Ytloncplpjdekoaa
open Go.RowKit
section
variable {P : Program} {l : List Oper} {I : World → Prop} {fs : List Tmp} {FS : Tmp → Value → World → Prop} {E : Act → Prop} {o : Oper} {rest : List Oper} {a : Act}
/-- an operation that enters no function and looks at a value that is known by what it is good for alone -/
theorem wpF_useval (s : Tmp) (j : Nat) (v : Value) (hs : s ∈ fs) (hj : (l[j]?).bind (·.dst) = some s) (hje : (o.after.any fun e => Region.binds .any e && e.on == j) = true)
    (hn : ((o.looksAt l.toArray).all fun d => !fs.contains d || d == s) = true) (hdst : (match o.dst with | some d => !fs.contains d | none => true) = true) (hw : ∀ x, Region.wanted o (yielded l.toArray (a.put (some s) x).tmps) = true)
    (hrun : ∀ x w, I w → FS s x w → (execOp (a.put (some s) x).eval o).run P w = .ok (.value v) w) (h : wpF P l.toArray I fs FS E rest (a.put o.dst v)) : wpF P l.toArray I fs FS E (o :: rest) a := by
  refine ⟨v, .inr (.inr (.inl ⟨s, hs, ⟨j, by simpa using hj, hje⟩, fun d hd hf => ?_, fun d hd hf => ?_, fun x w hI hx => ⟨hw x, ?_⟩⟩)), h⟩
  · rw [List.all_eq_true] at hn
    have := hn d hd
    simpa [hf] using this
  · rw [hd] at hdst
    simp [hf] at hdst
  · rw [hrun x w hI hx]
    exact ⟨rfl, rfl⟩
end
end Go.Proofs.Ytloncplpjdekoaa

namespace Go.Proofs.Ytloncplpjdekoaa
open Go.RowKit Go.Shelf
set_option maxRecDepth 100000
attribute [local go_sem] Oper.semAt_some

theorem ds_nums (L : List Ds) : Tb.nums (L.map Ds.ms) = L.map Ds.s := by
  unfold Tb.nums
  rw [List.map_map]
  rfl
/-- the law's two variables: how far it is, in box bi; whether all is right, in box bi + 1 -/
structure AlS (w4 : World) (bi : Nat) (i : Nat) (V : World) : Prop where
  at' : Boxed V bi 3 (.int .i64 (i : Int))
  ok : Boxed V (bi + 1) 4 (.bool true)
  off : Off (fun k => k = bi ∨ k = bi + 1) w4 V
theorem AlS.below {w4 V V' : World} {bi i : Nat} (h : AlS w4 bi i V) (hb : bi + 1 < w4.heap.size) (hB : Below w4.heap.size V V') : AlS w4 bi i V' :=
  ⟨(hB.block bi (by omega)).trans h.at', (hB.block (bi + 1) hb).trans h.ok, off_below h.off hB⟩
theorem boxed_not {w : World} {q : Nat} {t t' : TypeId} {v : Value} {cs : Array Value} (h : Boxed w q t v) (h1 : w.heap[q]? = some (.cells cs t' (0, 0))) (hne : t ≠ t') : False := by
  have h2 := (show w.heap[q]? = _ from h).symm.trans h1
  injection h2 with h2
  injection h2 with _ h2 _
  exact hne h2
set_option maxHeartbeats 8000000 in
theorem talike_any {w : World} {S : Nat → Prop} {b r m n cp : Nat} {A : Option Addr} {X : List Sx} (h : TblAt w S b r m A n cp X) {A2 : Option Addr} {n2 cp2 : Nat} {L : List Ds} (hd : DocAt w A2 n2 cp2 L) (hl : Tb.Likes (L.map Ds.ms) (X.map Sx.ms)) :
    Calls Try.prog 17 #[.pointer (some ⟨b, 0, none⟩), docV r A2 n2 cp2] w fun e w' => e = .returned (.bool true) ∧ Below w.heap.size w w' := by
  have hnn : n2 = n := by
    have h1 := hl.len
    rw [List.length_map, List.length_map, h.len, hd.len] at h1
    exact h1.symm
  subst hnn
  have hq16 : n2 ≤ 16 := by have := h.few; have := h.room; omega
  obtain ⟨w1, hw1⟩ : ∃ w1, w.alloc (.cells #[.int .i64 (r : Int), .slice A2 n2 cp2] 30) = w1 := ⟨_, rfl⟩
  obtain ⟨hb1, hs1, hx1⟩ := doc_box hw1
  have HW1 := Lib.hid hw1
  have hXs : L.map Ds.s = X.map Sx.s := by rw [← ds_nums, ← nums_ms, hl.nums]
  have hheld : Tb.held (L.map Ds.ms) = Tb.held (X.map Sx.ms) := hl.held.symm
  have hXl := h.len
  have hLl := hd.len
  have HX : Hid (∀ W, Below w1.heap.size w1 W → TblAt W S b r m A n2 cp X ∧ DocAt W A2 n2 cp2 L ∧ W.heap[w.heap.size]? = some (.cells #[.int .i64 (r : Int), .slice A2 n2 cp2] 30 (0, 0))) :=
    Lib.hid fun W hW => ⟨(h.below hb1).below hW, (hd.below hb1).below hW, (hW.block _ (by omega)).trans hx1⟩
  have HL := Lib.hid hl
  have HXL := Lib.hid hXl
  have HLL := Lib.hid hLl
  have HB1 := Lib.hid hb1
  have HS1 := Lib.hid hs1
  have LT : ∀ V, Below w1.heap.size w1 V → (Instr.loadAt 30 (.pointer (some ⟨w.heap.size, 0, none⟩))).run Try.prog V = .ok (docV r A2 n2 cp2) V := fun V hV => by
    obtain ⟨k0, k1⟩ := doc_cells (HX.out V hV).2.2
    simp [Instr.loadAt, docV, go_sem, k0, k1]
  have LL : ∀ V, Below w1.heap.size w1 V → (Instr.loadAt 28 (.pointer (some ⟨w.heap.size, 1, none⟩))).run Try.prog V = .ok (.slice A2 n2 cp2) V := fun V hV => by
    obtain ⟨k0, k1⟩ := doc_cells (HX.out V hV).2.2
    simp [Instr.loadAt, go_sem, k1]
  have LR : ∀ V, Below w1.heap.size w1 V → (Instr.loadAt 3 (.pointer (some ⟨w.heap.size, 0, none⟩))).run Try.prog V = .ok (.int .i64 (r : Int)) V := fun V hV => by
    obtain ⟨k0, k1⟩ := doc_cells (HX.out V hV).2.2
    simp [Instr.loadAt, go_sem, k0]
  have KS1 : Hid (∀ V, Below w1.heap.size w1 V → Calls Try.prog 18 #[.pointer (some ⟨b, 0, none⟩)] V fun e w'' => ∃ u, e = .returned u ∧ (∃ A3 c3, u = .slice A3 n2 c3 ∧ Nums .u32 w'' w''.heap.size A3 (X.map Sx.s)) ∧ Below V.heap.size V w'') := Lib.hid fun V hV => (tseqs_any (HX.out V hV).1).mono fun e w'' ⟨u, he, hm⟩ => by
    obtain ⟨A3, c3, hu, _, hnn⟩ := hm.slice
    rw [List.length_map, HXL.out] at hu
    exact ⟨u, he, ⟨A3, c3, hu, hnn⟩, hm.2⟩
  have KS2 : Hid (∀ V, Below w1.heap.size w1 V → Calls Try.prog 29 #[docV r A2 n2 cp2] V fun e w'' => ∃ u, e = .returned u ∧ (∃ A3 c3, u = .slice A3 n2 c3 ∧ Nums .u32 w'' w''.heap.size A3 (X.map Sx.s)) ∧ Below V.heap.size V w'') := Lib.hid fun V hV => (dseqs_any (HX.out V hV).2.1 r).mono fun e w'' ⟨u, he, hm⟩ => by
    rw [hXs] at hm
    obtain ⟨A3, c3, hu, _, hnn⟩ := hm.slice
    rw [List.length_map, HXL.out] at hu
    exact ⟨u, he, ⟨A3, c3, hu, hnn⟩, hm.2⟩
  obtain ⟨H, hH⟩ : ∃ H, Tb.held (X.map Sx.ms) = H := ⟨_, rfl⟩
  have KH1 : Hid (∀ V, Below w1.heap.size w1 V → Calls Try.prog 19 #[.pointer (some ⟨b, 0, none⟩)] V fun e w'' => e = .returned (.int .i64 (H : Int)) ∧ Below V.heap.size V w'') := Lib.hid fun V hV => by
    have := theld_any (HX.out V hV).1
    rwa [hH] at this
  have KH2 : Hid (∀ V, Below w1.heap.size w1 V → Calls Try.prog 44 #[docV r A2 n2 cp2] V fun e w'' => e = .returned (.int .i64 (H : Int)) ∧ Below V.heap.size V w'') := Lib.hid fun V hV => by
    have := dheld_any (HX.out V hV).2.1 r
    rwa [hheld, hH] at this
  have KLN : Hid (∀ V, Below w1.heap.size w1 V → Calls Try.prog 20 #[.pointer (some ⟨b, 0, none⟩)] V fun e w'' => e = .returned (.int .i64 (n2 : Int)) ∧ Below V.heap.size V w'') := Lib.hid fun V hV => (tlen_any (HX.out V hV).1).mono fun e w'' ⟨he, hw⟩ => ⟨he, by rw [hw]; exact Below.refl _ _⟩
  have KRM : Hid (∀ V, Below w1.heap.size w1 V → Calls Try.prog 25 #[.pointer (some ⟨b, 0, none⟩)] V fun e w'' => e = .returned (.int .i64 (r : Int)) ∧ Below V.heap.size V w'') := Lib.hid fun V hV => (troom_any (HX.out V hV).1).mono fun e w'' ⟨he, hw⟩ => ⟨he, by rw [hw]; exact Below.refl _ _⟩
  have KSS : Hid (∀ x y V, (∃ A3 c3, x = .slice A3 n2 c3 ∧ Nums .u32 V V.heap.size A3 (X.map Sx.s)) → (∃ A3 c3, y = .slice A3 n2 c3 ∧ Nums .u32 V V.heap.size A3 (X.map Sx.s)) → Calls Try.prog 21 #[x, y] V fun e w'' => e = .returned (.bool true) ∧ Below V.heap.size V w'') := Lib.hid fun x y V ⟨A3, c3, hx, hnx⟩ ⟨A4, c4, hy, hny⟩ => by
    subst hx hy
    exact (tseqsame_any A3 A4 n2 c3 c4 (X.map Sx.s) V V.heap.size (by rw [List.length_map]; exact HXL.out) (by omega) hnx hny).mono fun e w'' ⟨he, d, hw⟩ => ⟨he, by rw [hw]; exact below_drewN (Below.refl _ _) d⟩
  clear hXs hheld hXl hLl hl h hd hw1 hx1 hb1 hs1 hH
  unfold docV at *
  refine (callsIn_wide (n := 7)).1 ?_
  refine callsIn_of_wp_marks Try.func17 rfl trivial ?_ rfl
  simp only [Try.ntmps17, List.size_toArray, List.length_cons, List.length_nil, Nat.reduceAdd, Nat.reduceSub, Array.replicate_succ, Array.replicate_zero, List.push_toArray, List.append_toArray, List.nil_append, List.cons_append]
  gi_wp2_with fail
  rw [HW1.out]
  refine wpIn_wide.2 ?_
  refine wp_region_F 83 [11, 13, 14] (fun q x V => if q = 14 then x = .bool true else ∃ A3 c3, x = .slice A3 n2 c3 ∧ Nums .u32 V V.heap.size A3 (X.map Sx.s)) (fun V => Below w1.heap.size w1 V) (by kernel_rfl) (by kernel_rfl) (by rfl) (by simp) (fun W W' h hb => h.trans (hb.mono h.size)) (fun q x W W' hq hb => by
    by_cases e : q = 14
    · simpa [e] using hq
    · simp only [e, if_false] at hq ⊢
      obtain ⟨A3, c3, h1, h2⟩ := hq
      exact ⟨A3, c3, h1, (h2.below hb).mono hb.size⟩) (Below.refl _ _).drew ?_
  repeat (refine wpF_pure rfl rfl ?_; go_big_quiet_step (fail); refine wpQuiet_nil ?_)
  refine wpF_callsrc 11 (f := 18) (args := #[.pointer (some ⟨b, 0, none⟩)]) (by simp) rfl rfl rfl (fun x => by first | rfl | (simp [go_sem]; done)) KS1.out ?_
  simp only [Act.put, List.setIfInBounds_toArray, List.set_cons_succ, List.set_cons_zero]
  refine wpF_load _ rfl (by rfl) (by rfl) (by rfl) LT ?_
  simp only [Act.put, List.setIfInBounds_toArray, List.set_cons_succ, List.set_cons_zero]
  refine wpF_callsrc 13 (f := 29) (args := #[.agg #[.int .i64 (r : Int), .slice A2 n2 cp2]]) (by simp) rfl rfl rfl (fun x => by first | rfl | (simp [go_sem]; done)) KS2.out ?_
  simp only [Act.put, List.setIfInBounds_toArray, List.set_cons_succ, List.set_cons_zero]
  refine wpF_mixcall 14 [11, 13] (f := 21) (fun xs => #[xs 11, xs 13]) (by simp) rfl (by kernel_rfl) (by kernel_rfl) (fun xs => by rfl) (fun xs W => by first | rfl | (simp [fill, Act.put, Act.eval, go_sem]; done)) (fun xs W hW hx => ?_) ?_
  · exact (KSS.out (xs 11) (xs 13) W (by simpa using hx 11 (by simp)) (by simpa using hx 13 (by simp))).mono fun e w'' ⟨he, hb⟩ => ⟨_, he, by simp, hb⟩
  simp only [Act.put, List.setIfInBounds_toArray, List.set_cons_succ, List.set_cons_zero]
  refine wpF_useval 14 4 (.bool false) (by simp) (by rfl) (by kernel_rfl) (by kernel_rfl) (by rfl) (fun x => by rfl) (fun x W hW hx => ?_) ?_
  · have hx' : x = .bool true := by simpa using hx
    subst hx'
    first | rfl | simp [execOp, Act.put, Act.eval, go_sem]
  simp only [Act.put, List.setIfInBounds_toArray, List.set_cons_succ, List.set_cons_zero]
  repeat (refine wpF_pure rfl rfl ?_; go_big_quiet_step (fail); refine wpQuiet_nil ?_)
  refine wpF_call (f := 19) (args := #[.pointer (some ⟨b, 0, none⟩)]) (.int .i64 (H : Int)) rfl rfl (fun x => by first | rfl | (simp [go_sem]; done)) KH1.out ?_
  simp only [Act.put, List.setIfInBounds_toArray, List.set_cons_succ, List.set_cons_zero]
  refine wpF_load _ rfl (by rfl) (by rfl) (by rfl) LT ?_
  simp only [Act.put, List.setIfInBounds_toArray, List.set_cons_succ, List.set_cons_zero]
  refine wpF_call (f := 44) (args := #[.agg #[.int .i64 (r : Int), .slice A2 n2 cp2]]) (.int .i64 (H : Int)) rfl rfl (fun x => by first | rfl | (simp [go_sem]; done)) KH2.out ?_
  simp only [Act.put, List.setIfInBounds_toArray, List.set_cons_succ, List.set_cons_zero]
  repeat (refine wpF_pure rfl rfl ?_; go_big_quiet_step (fail); refine wpQuiet_nil ?_)
  refine wpF_call (f := 20) (args := #[.pointer (some ⟨b, 0, none⟩)]) (.int .i64 (n2 : Int)) rfl rfl (fun x => by first | rfl | (simp [go_sem]; done)) KLN.out ?_
  simp only [Act.put, List.setIfInBounds_toArray, List.set_cons_succ, List.set_cons_zero]
  repeat (refine wpF_pure rfl rfl ?_; go_big_quiet_step (fail); refine wpQuiet_nil ?_)
  refine wpF_load _ rfl (by rfl) (by rfl) (by rfl) LL ?_
  simp only [Act.put, List.setIfInBounds_toArray, List.set_cons_succ, List.set_cons_zero]
  repeat (refine wpF_pure rfl rfl ?_; go_big_quiet_step (fail); refine wpQuiet_nil ?_)
  refine wpF_call (f := 25) (args := #[.pointer (some ⟨b, 0, none⟩)]) (.int .i64 (r : Int)) rfl rfl (fun x => by first | rfl | (simp [go_sem]; done)) KRM.out ?_
  simp only [Act.put, List.setIfInBounds_toArray, List.set_cons_succ, List.set_cons_zero]
  repeat (refine wpF_pure rfl rfl ?_; go_big_quiet_step (fail); refine wpQuiet_nil ?_)
  refine wpF_load _ rfl (by rfl) (by rfl) (by rfl) LR ?_
  simp only [Act.put, List.setIfInBounds_toArray, List.set_cons_succ, List.set_cons_zero]
  repeat (refine wpF_pure rfl rfl ?_; go_big_quiet_step (fail); refine wpQuiet_nil ?_)
  intro xs4 w4 hb4 _
  simp only [fill, Act.put, List.setIfInBounds_toArray, List.set_cons_succ, List.set_cons_zero]
  generalize xs4 11 = x11
  generalize xs4 13 = x13
  generalize xs4 14 = x14
  have HB4 := Lib.hid hb4
  obtain ⟨bi, hbi⟩ : ∃ bi, w4.heap.size = bi := ⟨_, rfl⟩
  obtain ⟨w5, hw5⟩ : ∃ w5, (w4.alloc (.cells #[.int .i64 0] 3)).alloc (.cells #[.bool true] 4) = w5 := ⟨_, rfl⟩
  have hb45 : Below w4.heap.size w4 w5 := by rw [← hw5]; exact ((Below.refl _ w4).alloc (Nat.le_refl _) _).alloc (by simp) _
  have hs5 : w5.heap.size = bi + 2 := by rw [← hw5, ← hbi]; simp
  have bI5 : Boxed w5 bi 3 (.int .i64 0) := by rw [← hw5, ← hbi]; exact (Boxed.new w4 _ _).alloc _
  have bO5 : Boxed w5 (bi + 1) 4 (.bool true) := by
    rw [← hw5, ← hbi]
    have := Boxed.new (w4.alloc (.cells #[.int .i64 0] 3)) 4 (.bool true)
    rwa [World.size_alloc] at this
  have hb5 : Below w1.heap.size w1 w5 := hb4.trans (hb45.mono hb4.size)
  have hwbi : w1.heap.size ≤ bi := by rw [← hbi]; exact hb4.size
  have KA := tall_any (HX.out w5 hb5).1
  have HW5 := Lib.hid hw5
  have HBI := Lib.hid hbi
  have HBI5 := Lib.hid bI5
  have HBO5 := Lib.hid bO5
  have HB5 := Lib.hid hb5
  clear hb4 hw5 hb45 hb5 bI5 bO5 hbi LT LR KS1 KS2 KH1 KH2 KLN KRM KSS
  gi_wp2_with fail
  refine ⟨trivial, ?_⟩
  rw [HW5.out, HBI.out]
  refine (callsIn_wide.2 KA).mono ?_
  rintro e w6 ⟨p, c, m', A', cp', X', rfl, hbx, hp, hT6, hlk, hb56⟩
  have hnn := tall_not_nil p w6
  have hs6 := hb56.size
  have hbiw : bi + 1 < w6.heap.size := by omega
  have hA6 : AlS w6 bi 0 w6 := ⟨(hb56.block _ (by omega)).trans HBI5.out, (hb56.block _ (by omega)).trans HBO5.out, Off.refl _ _⟩
  have hb16 := HB5.out.trans (hb56.mono HB5.out.size)
  have hlx := HL.out.trans hlk
  have hxl6 := hT6.len
  have hkeep : ∀ V, Off (fun k => k = bi ∨ k = bi + 1) w6 V → TblAt V (fun q => w5.heap.size ≤ q) c r m' A' n2 cp' X' ∧ Boxed V p 23 (.pointer (some ⟨c, 0, none⟩)) := fun V hV => by
    refine ⟨hT6.off hV (fun q hq hk => by omega) (fun x _ cs h1 hk => ?_) (fun g cs h1 hk => ?_), (hV.block p hbx.lt (by omega)).trans hbx⟩
    · rcases hk with e | e
      · have h2 := hA6.at'
        rw [← e] at h2
        exact boxed_not h2 h1 (by decide)
      · have h2 := hA6.ok
        rw [← e] at h2
        exact boxed_not h2 h1 (by decide)
    · rcases hk with e | e
      · have h2 := hA6.at'
        rw [← e] at h2
        exact boxed_not h2 h1 (by decide)
      · have h2 := hA6.ok
        rw [← e] at h2
        exact boxed_not h2 h1 (by decide)
  have HKP := Lib.hid hkeep
  have HA6 := Lib.hid hA6
  have HB16 := Lib.hid hb16
  have HLX := Lib.hid hlx
  have HX6 := Lib.hid hxl6
  have hpw : p < w6.heap.size := hbx.lt
  clear hkeep hA6 hb16 hlx hxl6 hlk hT6 hbx hb56 hs6 KA hp
  gi_wp2_with fail
  refine range_stopsL rfl (by omega) (gf := 50) (lb := #[.pointer (some ⟨p, 0, none⟩)]) rfl trivial (enters_of Try.func50 (by kernel_rfl) rfl)
    (fun x : Sx × Sx => #[Value.int .u32 x.1.s, .pointer (some ⟨x.2.b, 0, none⟩)]) (fun _ => rfl)
    (fun j x V => AlS w6 bi j V ∧ X'[j]? = some x.1 ∧ x.2.At V ∧ Tb.Like x.1.ms x.2.ms)
    (fun j V => AlS w6 bi j V) (fun _ _ => False)
    (fun V V' => ∀ k cs t, w6.heap.size + 2 ≤ k → V.heap[k]? = some (.cells cs t (0, 0)) → V'.heap[k]? = some (.cells cs t (0, 0))) n2
    (fun j x V l o o' h hl ho => ⟨h.1.below hbiw (below_put V o' hl), h.2.1, by
      have hof : Off (fun q => q = l) V (V.putObj l o') := ⟨rfl, rfl, rfl, by simp, fun k _ hk => World.putObj_heap_other hk⟩
      refine ⟨h.2.2.1.off hof (fun cs h1 e => ?_) (fun e => ?_) (fun g cs h1 e => ?_), h.2.2.2⟩
      · rw [e, ho] at h1; injection h1 with h1; cases h1
      · obtain ⟨_, _, h1, _⟩ := SlotAt.map h.2.2.1
        rw [e, ho] at h1; injection h1 with h1; cases h1
      · rw [e, ho] at h1; injection h1 with h1; cases h1⟩)
    (fun j V l o o' h hl ho => h.below hbiw (below_put V o' hl))
    (fun _ _ _ _ _ h _ _ _ => h)
    (fun _ _ _ h k q cs t h1 h2 => k q cs t h1 (h q cs t h1 h2))
    (fun V l o o' hl ho hc q cs t h1 h2 => (World.putObj_heap_other (fun e => by
      rw [e, ho] at h2; injection h2 with h2; rw [h2] at hc; cases hc)).trans h2)
    (fun o => HA6.out.below hbiw (((Below.refl w6.heap.size w6).alloc (Nat.le_refl _) _).alloc (by simp) _)) ?a1 ?assign ?body ?iter ?done ?stop
  case assign =>
    intro l x V K hK
    gi_wp2
    exact hK
  case body =>
    rintro l j ⟨x, y⟩ V hl ⟨hA, hxj, hyat, hlike⟩ hj
    obtain ⟨d, hdj⟩ : ∃ d, L[j]? = some d := ⟨_, List.getElem?_eq_getElem (by rw [HLL.out]; exact hj)⟩
    have hB1V : Below w1.heap.size w1 V := HB16.out.trans (hA.off.below (fun k hk => by omega) HB16.out.size)
    obtain ⟨_, hdoc, hbox⟩ := HX.out V hB1V
    obtain ⟨y', hy', hly⟩ := HLX.out.at (j := j) (x := d.ms) (by rw [List.getElem?_map, hdj]; rfl)
    rw [List.getElem?_map, hxj] at hy'
    injection hy' with hy'
    subst hy'
    have hdy := hly.trans hlike
    have hdat := hdoc.at' d (List.mem_of_getElem? hdj)
    have hdref := hdat.ref
    obtain ⟨e1, e2, e3, e4, hperm⟩ := hdy
    have e5 : x.s = d.s := hly.2.2.1
    obtain ⟨yb, ym, yv, yk, ys, yc, yE⟩ := y
    simp only [Sx.ms, Ds.ms] at e1 e2 e3 e4 hperm e5
    subst e1 e2 e3 e4
    obtain ⟨g, off, rfl, hg, a0, a1, a2, a3, a4, a5⟩ := hdoc.six hdj
    have KA := salike_any hyat hdref hperm.symm
    obtain ⟨k0, k1⟩ := doc_cells hbox
    have kI := hA.at'.cell
    have kO := hA.ok.cell
    have hjn : (j : Int) < (n2 : Int) := by omega
    have hnc : (n2 : Int) ≤ (cp2 : Int) := by have := hdoc.room; omega
    simp only [e5]
    obtain ⟨dv, dk, ds, dc, dA, dn, dcp, dgs⟩ := d
    simp only at *
    have HA := Lib.hid hA
    unfold frV frC at KA
    clear hxj hyat hlike hdj hB1V hdoc hbox hly hdat hdref hperm e5 hA hj hnn
    gi_wp2_with fail
    refine ⟨trivial, ?_⟩
    refine (callsIn_wide.2 KA).mono ?_
    rintro e V2 ⟨rfl, hb2⟩
    have hs2 := hb2.size
    have hAV := HA.out.off.size
    have hA2 := HA.out.below hbiw (hb2.mono hAV)
    have kI := hA2.at'.cell
    have fI := hA2.at'.frozen
    have kO := hA2.ok.cell
    have fO := hA2.ok.frozen
    have hFIN : Hid (KeepsFrom w6.heap.size V ((V2.setCell ⟨bi + 1, 0, none⟩ (.bool true)).setCell ⟨bi, 0, none⟩ (.int .i64 ((j : Int) + 1))) ∧ AlS w6 bi (j + 1) ((V2.setCell ⟨bi + 1, 0, none⟩ (.bool true)).setCell ⟨bi, 0, none⟩ (.int .i64 ((j : Int) + 1))) ∧ ∀ k cs t, w6.heap.size + 2 ≤ k → V.heap[k]? = some (.cells cs t (0, 0)) → ((V2.setCell ⟨bi + 1, 0, none⟩ (.bool true)).setCell ⟨bi, 0, none⟩ (.int .i64 ((j : Int) + 1))).heap[k]? = some (.cells cs t (0, 0))) := Lib.hid (by
      have hof : Off (fun k => k = bi ∨ k = bi + 1) V2 ((V2.setCell ⟨bi + 1, 0, none⟩ (.bool true)).setCell ⟨bi, 0, none⟩ (.int .i64 ((j : Int) + 1))) := ((Off.refl _ V2).setCell (p := ⟨bi + 1, 0, none⟩) (.inr rfl) _).setCell (p := ⟨bi, 0, none⟩) (.inl rfl) _
      have hk : ∀ k (o : Obj), w6.heap.size ≤ k → V.heap[k]? = some o → ((V2.setCell ⟨bi + 1, 0, none⟩ (.bool true)).setCell ⟨bi, 0, none⟩ (.int .i64 ((j : Int) + 1))).heap[k]? = some o := fun k o h1 h2 => by
        have h3 := (Array.getElem?_eq_some_iff.1 h2).1
        exact (hof.block k (by omega) (by omega)).trans ((hb2.block k h3).trans h2)
      refine ⟨⟨Nat.le_trans hs2 hof.size, fun k o h1 h2 _ => hk k o h1 h2⟩, ⟨?_, ?_, ?_⟩, fun k cs t h1 h2 => hk k _ (by omega) h2⟩
      · have := Boxed.set (.int .i64 ((j : Int) + 1)) (hA2.at'.other (show bi ≠ bi + 1 by omega) (.bool true))
        rw [Int.natCast_succ]
        exact this
      · exact (hA2.ok.set _).other (by omega) _
      · exact (hA2.off.setCell (p := ⟨bi + 1, 0, none⟩) (.inr rfl) _).setCell (p := ⟨bi, 0, none⟩) (.inl rfl) _)
    clear hA2 hb2 hs2 hAV KA HA
    gi_wp2
    exact hFIN.out
  case iter =>
    intro Bk Xp l V hBk hBlt hX hl2 hD hB hY
    refine (tall_in 6 (by omega) 5 l p w6.heap.size (some ⟨c, 0, none⟩) X' (fun j V => AlS w6 bi j V) Bk Xp (fun V V' => ∀ k cs t, w6.heap.size + 2 ≤ k → V.heap[k]? = some (.cells cs t (0, 0)) → V'.heap[k]? = some (.cells cs t (0, 0))) hl2 (fun j A B h hb => h.below hbiw hb) (fun j V h x hx => (HKP.out V h.off).1.slots x hx) hBk hBlt hX (fun V V' k cs t h h1 h2 => h k cs t h1 h2) (fun l2 Bs2 J Jx hJ hYY V h0 => ?_) (fun j x y V h hx hy hlk hb => ?_) V (HKP.out V hD.off).2.cell hD hB).mono ?_
    · rw [HX6.out]
      refine teach_in 5 (by omega) _ l2 Bs2 c r m' A' n2 cp' X' J Jx (fun j W hj => ?_) hYY V h0
      obtain ⟨h1, k, hk⟩ := hJ j W hj
      exact ⟨h1, _, (HKP.out W hk.off).1⟩
    · exact hY j (x, y) V ⟨h, hx, hy, hlk⟩ hb (by rw [← HX6.out]; exact (List.getElem?_eq_some_iff.1 hx).1)
    · intro e W' h
      rw [HX6.out] at h
      exact h
  case done =>
    rintro D V hD hA hK
    have hB1V : Below w1.heap.size w1 V := HB16.out.trans (hA.off.below (fun k hk => by omega) HB16.out.size)
    obtain ⟨_, _, hbox⟩ := HX.out V hB1V
    obtain ⟨k0, k1⟩ := doc_cells hbox
    have kI := hA.at'.cell
    have kO := hA.ok.cell
    have hfin := Lib.hid (HB1.out.trans ((hB1V.trans (below_put (B := w1.heap.size) V (.deferred none) (by omega : w1.heap.size ≤ D))).mono HB1.out.size))
    clear hA hB1V hbox hnn
    gi_wp2
    refine ⟨by simp, .inl ⟨_, _, rfl, run_takeDeferred hK, ?_⟩⟩
    refine ⟨_, results_tmp rfl _ _ _, rfl, ?_⟩
    exact hfin.out
  case stop =>
    rintro D cd V _ h _
    exact h.elim
end Go.Proofs.Ytloncplpjdekoaa
