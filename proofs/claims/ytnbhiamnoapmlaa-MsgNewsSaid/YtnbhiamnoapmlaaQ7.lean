/-
  XQ5's law for a region that ends with a store (a result or a variable that lies in memory): the store waits for all that looks at memory, calls or makes memory; what the text has behind it looks at no memory and may come ahead of it. No program is imported.
-/
import Derived.Test.YtnbhiamnoapmlaaQ6
namespace Go.Proofs.Ytnbhiamnoapmlaa
open Go.RowKit
section
variable {P : Program} {l : List Oper} {vs : List Value} {fs : List Tmp} {FS : Tmp → Value → World → Prop} {I : World → Prop} {a0 : Act}
/-- one operation of such a run -/
theorem op_of_F {N : Nat} {Q' : Exit → Act → World → Prop} {K : Act → World → Prop} (hR : RG .any l.toArray N) (hN : N ≤ a0.tmps.size) (hlen : vs.length = l.length) {listed : Array Bool} {b : Act} {w : World} {i : Nat} {o : Oper} {v : Value}
    (h : Inv l vs fs FS I a0 listed b w) (ho2 : l[i]? = some o) (hun : listed.getD i true = false) (hp : ∀ e ∈ o.after, Region.binds .any e = true → listed.getD e.on true = true) (hv : vs[i]? = some v) (hob : Ob P l.toArray I fs FS o v (lex l vs a0 i))
    (hK : ∀ u w', Below w.heap.size w w' → (∀ d, o.dst = some d → (d ∈ fs → FS d u w') ∧ (d ∉ fs → vs[i]? = some u)) → K (b.put o.dst u) w') : Go.wpOp P l.toArray Q' i K b w := by
  have ho : l.toArray[i]? = some o := by simpa using ho2
  have hsel : ∀ cs c, o.op ≠ .select cs c := fun cs c => hR.sel i o cs c ho
  have ag : ∀ d ∈ o.looksAt l.toArray, d ∉ fs → (lex l vs a0 i).tmps[d]? = b.tmps[d]? := fun d hd hf => h.agree hR hN hlen ho2 hun hp hd hf
  unfold Go.wpOp
  simp only [ho]
  rcases hob with ⟨h1, h2, hcalm⟩ | ⟨s, hs, hds, h1, hwt, hsrc⟩ | ⟨s, hs, ⟨j, hj, hje⟩, h1, h2, huse⟩ | ⟨s, R, hs, hds, hRs, h1, hmix⟩
  · have he := exec_agree (ops := l.toArray) hsel fun d hd => ag d hd (h1 d hd)
    have hw := wanted_agree (ops := l.toArray) fun d hd => ag d hd (h1 d hd)
    have kv : ∀ w', Below w.heap.size w w' → K (b.put o.dst v) w' := fun w' hb => hK v w' hb fun d hd => ⟨fun hf => absurd hf (h2 d hd), fun _ => hv⟩
    rcases hcalm with ⟨hwt, hval⟩ | ⟨hwf, rfl⟩
    · rw [hw] at hwt
      rw [if_pos hwt]
      left
      have h3 := hval w h.cls
      rw [he] at h3
      unfold Oper.wp
      generalize (execOp b.eval o).run P w = r at h3
      cases r with
      | ok n w' =>
        cases n <;> simp only [calmUpon] at h3 <;> simp only [Oper.upon]
        case value u => obtain ⟨rfl, rfl⟩ := h3; exact kv _ (Below.refl _ _)
        case skip => obtain ⟨rfl, rfl⟩ := h3; exact kv _ (Below.refl _ _)
        case enter f args =>
          obtain ⟨rfl, hcc⟩ := h3
          exact hcc.mono fun e w'' ⟨he, hb⟩ => by subst he; exact kv _ hb
      | halt x w' => simp only [calmUpon] at h3
    · rw [hw] at hwf
      rw [hwf, if_neg (by simp)]
      exact kv w (Below.refl _ _)
  · have he := exec_agree (ops := l.toArray) hsel fun d hd => ag d hd (h1 d hd)
    have hw := wanted_agree (ops := l.toArray) fun d hd => ag d hd (h1 d hd)
    rw [hw] at hwt
    rw [if_pos hwt]
    left
    have h3 := hsrc w h.cls
    rw [he] at h3
    have kf : ∀ u w', FS s u w' → Below w.heap.size w w' → K (b.put o.dst u) w' := fun u w' hf hb => hK u w' hb fun d hd => by
      obtain rfl : d = s := Option.some.inj (hd.symm.trans hds)
      exact ⟨fun _ => hf, fun hnf => absurd hs hnf⟩
    unfold Oper.wp
    generalize (execOp b.eval o).run P w = r at h3
    cases r with
    | ok n w' =>
      cases n <;> simp only [srcUpon] at h3 <;> simp only [Oper.upon]
      case value u => exact kf u w' h3.1 h3.2
      case enter f args =>
        obtain ⟨rfl, hcc⟩ := h3
        exact hcc.mono fun e w'' ⟨u, he, hf, hb⟩ => by subst he; exact kf u w'' hf hb
    | halt x w' => simp only [srcUpon] at h3
  · obtain ⟨e, hee, heb⟩ := Array.any_eq_true'.1 hje
    simp only [Bool.and_eq_true, beq_iff_eq] at heb
    obtain ⟨hbe, rfl⟩ := heb
    obtain ⟨oj, hoj, hdj⟩ := Option.bind_eq_some_iff.1 hj
    have hoj2 : l[e.on]? = some oj := by simpa using hoj
    obtain ⟨vj, hvj⟩ : ∃ v, vs[e.on]? = some v := ⟨_, List.getElem?_eq_getElem (by rw [hlen]; exact (List.getElem?_eq_some_iff.1 hoj2).1)⟩
    obtain ⟨x, hbx, hfx⟩ := (h.ins e.on oj s vj hoj2 (hp e hee hbe) hdj hvj).1 hs
    have hslt : s < (lex l vs a0 i).tmps.size := by rw [(lex_size l vs a0 i).1]; exact Nat.lt_of_lt_of_le (hR.small _ _ _ hoj hdj) hN
    have ag2 : ∀ d ∈ o.looksAt l.toArray, ((lex l vs a0 i).put (some s) x).tmps[d]? = b.tmps[d]? := fun d hd => by
      by_cases hsd : s = d
      · subst hsd
        rw [put_same x hslt, hbx]
      · rw [put_other x (by simpa using hsd)]
        exact ag d hd fun hf => hsd (h1 d hd hf).symm
    obtain ⟨hwt, h3⟩ := huse x w h.cls hfx
    rw [wanted_agree (ops := l.toArray) ag2] at hwt
    rw [exec_agree (ops := l.toArray) hsel ag2] at h3
    have kv : ∀ w', Below w.heap.size w w' → K (b.put o.dst v) w' := fun w' hb => hK v w' hb fun d hd => ⟨fun hf => absurd hf (h2 d hd), fun _ => hv⟩
    rw [if_pos hwt]
    left
    unfold Oper.wp
    generalize (execOp b.eval o).run P w = r at h3
    cases r with
    | ok n w' =>
      cases n <;> simp only [calmUpon] at h3 <;> simp only [Oper.upon]
      case value u => obtain ⟨rfl, rfl⟩ := h3; exact kv _ (Below.refl _ _)
      case skip => obtain ⟨rfl, rfl⟩ := h3; exact kv _ (Below.refl _ _)
      case enter f args =>
        obtain ⟨rfl, hcc⟩ := h3
        exact hcc.mono fun e w'' ⟨he, hb⟩ => by subst he; exact kv _ hb
    | halt x w' => simp only [calmUpon] at h3

  · have got : ∀ r ∈ R, ∃ x, b.tmps[r]? = some x ∧ FS r x w ∧ r < (lex l vs a0 i).tmps.size := fun r hr => by
      obtain ⟨hrf, j, hj, hje⟩ := hRs r hr
      obtain ⟨e, hee, heb⟩ := Array.any_eq_true'.1 hje
      simp only [Bool.and_eq_true, beq_iff_eq] at heb
      obtain ⟨hbe, rfl⟩ := heb
      obtain ⟨oj, hoj, hdj⟩ := Option.bind_eq_some_iff.1 hj
      have hoj2 : l[e.on]? = some oj := by simpa using hoj
      obtain ⟨vj, hvj⟩ : ∃ v, vs[e.on]? = some v := ⟨_, List.getElem?_eq_getElem (by rw [hlen]; exact (List.getElem?_eq_some_iff.1 hoj2).1)⟩
      obtain ⟨x, hbx, hfx⟩ := (h.ins e.on oj r vj hoj2 (hp e hee hbe) hdj hvj).1 hrf
      exact ⟨x, hbx, hfx, by rw [(lex_size l vs a0 i).1]; exact Nat.lt_of_lt_of_le (hR.small _ _ _ hoj hdj) hN⟩
    have ag2 : ∀ d ∈ o.looksAt l.toArray, (fill R (fun s => b.tmps.getD s undef) (lex l vs a0 i)).tmps[d]? = b.tmps[d]? := fun d hd => by
      by_cases hdR : d ∈ R
      · obtain ⟨x, hbx, _, hlt⟩ := got d hdR
        rw [fill_in R _ _ d hdR hlt, hbx]
        simp [hbx]
      · rw [fill_out R _ _ d hdR]
        exact ag d hd fun hf => hdR (h1 d hd hf)
    obtain ⟨hwt, h3⟩ := hmix (fun s => b.tmps.getD s undef) w h.cls fun r hr => by
      obtain ⟨x, hbx, hfx, _⟩ := got r hr
      simpa [hbx] using hfx
    rw [wanted_agree (ops := l.toArray) ag2] at hwt
    rw [exec_agree (ops := l.toArray) hsel ag2] at h3
    rw [if_pos hwt]
    left
    have kf : ∀ u w', FS s u w' → Below w.heap.size w w' → K (b.put o.dst u) w' := fun u w' hf hb => hK u w' hb fun d hd => by
      obtain rfl : d = s := Option.some.inj (hd.symm.trans hds)
      exact ⟨fun _ => hf, fun hnf => absurd hs hnf⟩
    unfold Oper.wp
    generalize (execOp b.eval o).run P w = r at h3
    cases r with
    | ok n w' =>
      cases n <;> simp only [srcUpon] at h3 <;> simp only [Oper.upon]
      case value u => exact kf u w' h3.1 h3.2
      case enter f args =>
        obtain ⟨rfl, hcc⟩ := h3
        exact hcc.mono fun e w'' ⟨u, he, hf, hb⟩ => by subst he; exact kf u w'' hf hb
    | halt x w' => simp only [srcUpon] at h3

/-- an operation that looks at no memory, in whatever world -/
def purUpon (w : World) (v : Value) : Result Next → Prop
  | .ok (.value u) w' => w' = w ∧ u = v
  | .ok .skip w' => w' = w ∧ v = undef
  | _ => False
def PureOb (P : Program) (ops : Array Oper) (fs : List Tmp) (o : Oper) (v : Value) (a : Act) : Prop :=
  (∀ d ∈ o.looksAt ops, d ∉ fs) ∧ (∀ d, o.dst = some d → d ∉ fs) ∧
  ((Region.wanted o (yielded ops a.tmps) = true ∧ ∀ w, purUpon w v ((execOp a.eval o).run P w)) ∨ (Region.wanted o (yielded ops a.tmps) = false ∧ v = undef))
theorem PureOb.ob {ops : Array Oper} {o : Oper} {v : Value} {a : Act} (h : PureOb P ops fs o v a) : Ob P ops I fs FS o v a := by
  obtain ⟨h1, h2, h3⟩ := h
  refine .inl ⟨h1, h2, h3.imp (fun h => ⟨h.1, fun w _ => ?_⟩) id⟩
  have h4 := h.2 w
  generalize (execOp a.eval o).run P w = r at h4
  cases r with
  | ok n w' =>
    cases n <;> simp only [purUpon] at h4
    case value u => exact h4
    case skip => exact h4
  | halt x w' => simp only [purUpon] at h4
def stUpon (S : World → Prop) : Result Next → Prop
  | .ok (.value _) w' => S w'
  | .ok .skip w' => S w'
  | _ => False
/-- the store -/
def StOb (P : Program) (ops : Array Oper) (I : World → Prop) (fs : List Tmp) (FS : Tmp → Value → World → Prop) (St : (Tmp → Value) → World → World → Prop) (o : Oper) (a : Act) : Prop :=
  o.dst = none ∧ ∀ xs w, I w → (∀ s ∈ fs, FS s (xs s) w) → Region.wanted o (yielded ops (fill fs xs a).tmps) = true ∧ stUpon (St xs w) ((execOp (fill fs xs a).eval o).run P w)
/-- the walk in the text's order: so many operations, the store, the rest -/
def wpFS (P : Program) (ops : Array Oper) (I : World → Prop) (fs : List Tmp) (FS : Tmp → Value → World → Prop) (St : (Tmp → Value) → World → World → Prop) (E : Act → Prop) : Option Nat → List Oper → Act → Prop
  | _, [], a => E a
  | some 0, o :: r, a => StOb P ops I fs FS St o a ∧ wpFS P ops I fs FS St E none r a
  | some (c + 1), o :: r, a => ∃ v, Ob P ops I fs FS o v a ∧ wpFS P ops I fs FS St E (some c) r (a.put o.dst v)
  | none, o :: r, a => ∃ v, PureOb P ops fs o v a ∧ wpFS P ops I fs FS St E none r (a.put o.dst v)
section
variable {ops : Array Oper} {St : (Tmp → Value) → World → World → Prop} {E : Act → Prop}
theorem wpFS_vals0 : ∀ (l : List Oper) (a : Act), wpFS P ops I fs FS St E none l a → ∃ vs : List Value, vs.length = l.length ∧
    (∀ (j : Nat) o v, l[j]? = some o → vs[j]? = some v → PureOb P ops fs o v (lex l vs a j)) ∧ E (lex l vs a l.length)
  | [], a, h => ⟨[], rfl, by simp, h⟩
  | o :: r, a, ⟨v, hob, hr⟩ => by
    obtain ⟨vs, h1, h2, h3⟩ := wpFS_vals0 r _ hr
    refine ⟨v :: vs, by simp [h1], fun j o' v' ho hv => ?_, h3⟩
    cases j with
    | zero =>
      simp only [List.getElem?_cons_zero, Option.some.injEq] at ho hv
      subst ho hv
      exact hob
    | succ j =>
      simp only [List.getElem?_cons_succ] at ho hv
      exact h2 j o' v' ho hv
theorem wpFS_vals : ∀ (k : Nat) (l : List Oper) (a : Act), wpFS P ops I fs FS St E (some k) l a → ∃ vs : List Value, vs.length = l.length ∧
    (∀ (j : Nat) o v, l[j]? = some o → vs[j]? = some v → (j < k → Ob P ops I fs FS o v (lex l vs a j)) ∧ (j = k → StOb P ops I fs FS St o (lex l vs a j)) ∧ (k < j → PureOb P ops fs o v (lex l vs a j))) ∧ E (lex l vs a l.length)
  | _, [], a, h => ⟨[], rfl, by simp, h⟩
  | 0, o :: r, a, ⟨hob, hr⟩ => by
    obtain ⟨vs, h1, h2, h3⟩ := wpFS_vals0 r _ hr
    have hput : a.put o.dst undef = a := by rw [hob.1]; rfl
    refine ⟨undef :: vs, by simp [h1], fun j o' v' ho hv => ?_, ?_⟩
    · cases j with
      | zero =>
        simp only [List.getElem?_cons_zero, Option.some.injEq] at ho hv
        subst ho hv
        exact ⟨by omega, fun _ => hob, by omega⟩
      | succ j =>
        simp only [List.getElem?_cons_succ] at ho hv
        refine ⟨by omega, by omega, fun _ => ?_⟩
        show PureOb P ops fs o' v' (lex r vs (a.put o.dst undef) j)
        rw [hput]
        exact h2 j o' v' ho hv
    · show E (lex r vs (a.put o.dst undef) r.length)
      rw [hput]
      exact h3
  | k + 1, o :: r, a, ⟨v, hob, hr⟩ => by
    obtain ⟨vs, h1, h2, h3⟩ := wpFS_vals k r _ hr
    refine ⟨v :: vs, by simp [h1], fun j o' v' ho hv => ?_, h3⟩
    cases j with
    | zero =>
      simp only [List.getElem?_cons_zero, Option.some.injEq] at ho hv
      subst ho hv
      exact ⟨fun _ => hob, by omega, by omega⟩
    | succ j =>
      simp only [List.getElem?_cons_succ] at ho hv
      obtain ⟨q1, q2, q3⟩ := h2 j o' v' ho hv
      exact ⟨fun h => q1 (by omega), fun h => q2 (by omega), fun h => q3 (by omega)⟩
end
/-- k waits for j, by way of others -/
def reachB (md : Region.Mode) (ops : Array Oper) : Nat → Nat → Nat → Bool
  | 0, _, _ => false
  | f + 1, k, j => match ops[k]? with
    | none => false
    | some o => o.after.any fun e => Region.binds md e && (e.on == j || reachB md ops f e.on j)
theorem reach_listed {listed : Array Bool} {b : Act} {w : World} (h : Inv l vs fs FS I a0 listed b w) : ∀ (f m j : Nat), listed.getD m true = true → reachB .any l.toArray f m j = true → listed.getD j true = true
  | 0, _, _, _, hr => by simp [reachB] at hr
  | f + 1, m, j, hm, hr => by
    unfold reachB at hr
    cases ho : l.toArray[m]? with
    | none => rw [ho] at hr; cases hr
    | some o =>
      rw [ho] at hr
      obtain ⟨e, he, hb⟩ := Array.any_eq_true'.1 hr
      simp only [Bool.and_eq_true, Bool.or_eq_true, beq_iff_eq] at hb
      have h1 := h.down m o (by simpa using ho) hm e he hb.1
      rcases hb.2 with rfl | h2
      · exact h1
      · exact reach_listed h f e.on j h1 h2
theorem reach_ready {listed : Array Bool} {b : Act} {w : World} (h : Inv l vs fs FS I a0 listed b w) {k : Nat} {o : Oper} (ho : l[k]? = some o) (hp : ∀ e ∈ o.after, Region.binds .any e = true → listed.getD e.on true = true) (f j : Nat) (hr : reachB .any l.toArray f k j = true) : listed.getD j true = true := by
  cases f with
  | zero => simp [reachB] at hr
  | succ f =>
    unfold reachB at hr
    have ho' : l.toArray[k]? = some o := by simpa using ho
    rw [ho'] at hr
    obtain ⟨e, he, hb⟩ := Array.any_eq_true'.1 hr
    simp only [Bool.and_eq_true, Bool.or_eq_true, beq_iff_eq] at hb
    have h1 := hp e he hb.1
    rcases hb.2 with rfl | h2
    · exact h1
    · exact reach_listed h f e.on j h1 h2

theorem any_of_FS {N k f : Nat} {late : Nat → Bool} {Q' : Exit → Act → World → Prop} {St : (Tmp → Value) → World → World → Prop} (hR : RG .any l.toArray N) (hN : N ≤ a0.tmps.size) (hlen : vs.length = l.length) (hI : Closed I) (hF : ∀ s x w w', FS s x w → Below w.heap.size w w' → FS s x w')
    (hob : ∀ (j : Nat) o v, l[j]? = some o → vs[j]? = some v → (j < k → Ob P l.toArray I fs FS o v (lex l vs a0 j)) ∧ (j = k → StOb P l.toArray I fs FS St o (lex l vs a0 j)) ∧ (k < j ∨ late j = true → PureOb P l.toArray fs o v (lex l vs a0 j)))
    (hk : k < l.length) (hreach : ∀ j, j < k → late j = false → reachB .any l.toArray f k j = true) (hfs : ∀ s ∈ fs, ∃ (j : Nat) (o : Oper), j < k ∧ late j = false ∧ l[j]? = some o ∧ o.dst = some s)
    (hQ : ∀ (listed : Array Bool) b W w xs, (∀ j, listed.getD j true = true) → Inv l vs fs FS I a0 listed b W → (∀ s ∈ fs, b.tmps[s]? = some (xs s) ∧ FS s (xs s) W) → St xs W w → Q' .normal b w) :
    ∀ (fuel : Nat) (listed : Array Bool) (b : Act) (W w : World), listed.toList.count false ≤ fuel → Inv l vs fs FS I a0 listed b W →
      ((listed.getD k true = false ∧ w = W) ∨ (listed.getD k true = true ∧ ∃ xs, (∀ s ∈ fs, b.tmps[s]? = some (xs s) ∧ FS s (xs s) W) ∧ St xs W w)) → wpAny P .any l.toArray Q' fuel listed b w
  | 0, listed, b, W, w, hc, h, hp => by
    have hall := count_zero (L := listed) (by omega)
    rcases hp with ⟨h0, _⟩ | ⟨_, xs, hx, hst⟩
    · rw [hall k] at h0; cases h0
    refine ⟨?_, hQ listed b W w xs hall h hx hst⟩
    rw [List.eq_nil_iff_forall_not_mem]
    intro i hi
    have := (mem_ready.1 hi).1
    rw [hall i] at this
    cases this
  | fuel + 1, listed, b, W, w, hc, h, hph => by
    refine ⟨fun h0 => ?_, fun i hi => ?_⟩
    · have hall := ready_all hR h.lsize h0
      rcases hph with ⟨h0, _⟩ | ⟨_, xs, hx, hst⟩
      · rw [hall k] at h0; cases h0
      · exact hQ listed b W w xs hall h hx hst
    obtain ⟨hun, o, ho, hall⟩ := mem_ready.1 hi
    have ho2 : l[i]? = some o := by simpa using ho
    have hp : ∀ e ∈ o.after, Region.binds .any e = true → listed.getD e.on true = true := fun e he hb => by
      have h1 := hall e he hb
      rw [Array.getD_eq_getD_getElem?] at h1 ⊢
      cases hx : listed[e.on]? with
      | none => rfl
      | some y => rw [hx] at h1; simpa using h1
    obtain ⟨v, hv⟩ : ∃ v, vs[i]? = some v := ⟨_, List.getElem?_eq_getElem (by rw [hlen]; exact (List.getElem?_eq_some_iff.1 ho2).1)⟩
    obtain ⟨q1, q2, q3⟩ := hob i o v ho2 hv
    have hcnt := count_set hun
    have hsel : ∀ cs c, o.op ≠ .select cs c := fun cs c => hR.sel i o cs c ho
    have ag : ∀ d ∈ o.looksAt l.toArray, d ∉ fs → (lex l vs a0 i).tmps[d]? = b.tmps[d]? := fun d hd hf => h.agree hR hN hlen ho2 hun hp hd hf
    rcases hph with ⟨hk0, rfl⟩ | ⟨hk1, xs, hx, hst⟩
    · by_cases hik : i = k
      · subst hik
        obtain ⟨hdst, hstore⟩ := q2 rfl
        have got : ∀ s ∈ fs, ∃ x, b.tmps[s]? = some x ∧ FS s x w ∧ s < (lex l vs a0 i).tmps.size := fun s hs => by
          obtain ⟨j, oj, hji, hlj, hoj, hdj⟩ := hfs s hs
          obtain ⟨vj, hvj⟩ : ∃ v, vs[j]? = some v := ⟨_, List.getElem?_eq_getElem (by rw [hlen]; exact (List.getElem?_eq_some_iff.1 hoj).1)⟩
          obtain ⟨x, hbx, hfx⟩ := (h.ins j oj s vj hoj (reach_ready h ho2 hp f j (hreach j hji hlj)) hdj hvj).1 hs
          exact ⟨x, hbx, hfx, by rw [(lex_size l vs a0 i).1]; exact Nat.lt_of_lt_of_le (hR.small j oj s (by simpa using hoj) hdj) hN⟩
        have hxs : ∀ s ∈ fs, b.tmps[s]? = some (b.tmps.getD s undef) ∧ FS s (b.tmps.getD s undef) w := fun s hs => by
          obtain ⟨x, hbx, hfx, _⟩ := got s hs
          simpa [hbx] using hfx
        have ag2 : ∀ d ∈ o.looksAt l.toArray, (fill fs (fun s => b.tmps.getD s undef) (lex l vs a0 i)).tmps[d]? = b.tmps[d]? := fun d hd => by
          by_cases hdf : d ∈ fs
          · obtain ⟨x, hbx, _, hlt⟩ := got d hdf
            rw [fill_in fs _ _ d hdf hlt, hbx]
            simp [hbx]
          · rw [fill_out fs _ _ d hdf]
            exact ag d hd hdf
        obtain ⟨hwt, h3⟩ := hstore (fun s => b.tmps.getD s undef) w h.cls fun s hs => (hxs s hs).2
        rw [wanted_agree (ops := l.toArray) ag2] at hwt
        rw [exec_agree (ops := l.toArray) hsel ag2] at h3
        have hin : ∀ u, Inv l vs fs FS I a0 (listed.setIfInBounds i true) (b.put o.dst u) w := fun u => h.next hR hN hI hF ho2 hp (Below.refl _ _) fun d hd => by rw [hdst] at hd; cases hd
        have hput : ∀ u, b.put o.dst u = b := fun u => by rw [hdst]; rfl
        have kk : ∀ u w', St (fun s => b.tmps.getD s undef) w w' → wpAny P .any l.toArray Q' fuel (listed.setIfInBounds i true) (b.put o.dst u) w' := fun u w' hs =>
          any_of_FS hR hN hlen hI hF hob hk hreach hfs hQ fuel _ _ w w' (by omega) (hin u) (.inr ⟨getD_set_same _ _, _, by rw [hput u]; exact hxs, hs⟩)
        unfold Go.wpOp
        simp only [ho]
        rw [if_pos hwt]
        left
        unfold Oper.wp
        generalize (execOp b.eval o).run P w = r at h3
        cases r with
        | ok n w' =>
          cases n <;> simp only [stUpon] at h3 <;> simp only [Oper.upon]
          case value u => exact kk _ _ h3
          case skip => exact kk _ _ h3
        | halt x w' => simp only [stUpon] at h3
      · have hob' : Ob P l.toArray I fs FS o v (lex l vs a0 i) := by
          rcases Nat.lt_or_gt_of_ne hik with hlt | hgt
          · exact q1 hlt
          · exact (q3 (.inl hgt)).ob
        exact op_of_F hR hN hlen h ho2 hun hp hv hob' fun u w' hb hu =>
          any_of_FS hR hN hlen hI hF hob hk hreach hfs hQ fuel _ _ w' w' (by omega) (h.next hR hN hI hF ho2 hp hb hu) (.inl ⟨by rw [getD_set_far _ hik]; exact hk0, rfl⟩)
    · have hki : k < i ∨ late i = true := by
        rcases Nat.lt_trichotomy i k with hlt | rfl | hgt
        · cases hla : late i with
          | true => exact .inr rfl
          | false => rw [reach_listed h f k i hk1 (hreach i hlt hla)] at hun; cases hun
        · rw [hk1] at hun; cases hun
        · exact .inl hgt
      obtain ⟨h1, h2, h3⟩ := q3 hki
      have he := exec_agree (ops := l.toArray) hsel fun d hd => ag d hd (h1 d hd)
      have hw := wanted_agree (ops := l.toArray) fun d hd => ag d hd (h1 d hd)
      have kv : wpAny P .any l.toArray Q' fuel (listed.setIfInBounds i true) (b.put o.dst v) w :=
        any_of_FS hR hN hlen hI hF hob hk hreach hfs hQ fuel _ _ W w (by omega) (h.next hR hN hI hF ho2 hp (Below.refl _ _) fun d hd => ⟨fun hf => absurd hf (h2 d hd), fun _ => hv⟩)
          (.inr ⟨getD_set_up _ hk1, xs, fun s hs => ⟨by rw [put_other v (fun e => h2 s e hs)]; exact (hx s hs).1, (hx s hs).2⟩, hst⟩)
      unfold Go.wpOp
      simp only [ho]
      rcases h3 with ⟨hwt, hval⟩ | ⟨hwf, rfl⟩
      · rw [hw] at hwt
        rw [if_pos hwt]
        left
        have h4 := hval w
        rw [he] at h4
        unfold Oper.wp
        generalize (execOp b.eval o).run P w = r at h4
        cases r with
        | ok n w' =>
          cases n <;> simp only [purUpon] at h4 <;> simp only [Oper.upon]
          case value u => obtain ⟨rfl, rfl⟩ := h4; exact kv
          case skip => obtain ⟨rfl, rfl⟩ := h4; exact kv
        | halt x w' => simp only [purUpon] at h4
      · rw [hw] at hwf
        rw [hwf, if_neg (by simp)]
        exact kv

theorem anyof_FS {Q : Exit → Act → World → Prop} {a : Act} {w : World} {l : List Oper} {vs : List Value} {N k f : Nat} {late : Nat → Bool} {fs : List Tmp} {FS : Tmp → Value → World → Prop} {I : World → Prop} {St : (Tmp → Value) → World → World → Prop} (hR : RG .any l.toArray N)
    (hk' : k < l.length) (hreach : ∀ j, j < k → late j = false → reachB .any l.toArray f k j = true) (hfs' : ∀ s ∈ fs, ∃ (j : Nat) (o : Oper), j < k ∧ late j = false ∧ l[j]? = some o ∧ o.dst = some s) (hN : N ≤ a.tmps.size) (hI : Closed I) (hF : ∀ s x w w', FS s x w → Below w.heap.size w w' → FS s x w') (hC : I w.drew)
    (hlen : vs.length = l.length) (hob : ∀ (j : Nat) o v, l[j]? = some o → vs[j]? = some v → (j < k → Ob P l.toArray I fs FS o v (lex l vs a j)) ∧ (j = k → StOb P l.toArray I fs FS St o (lex l vs a j)) ∧ (k < j ∨ late j = true → PureOb P l.toArray fs o v (lex l vs a j)))
    (hE : ∀ xs W w', I W → (∀ s ∈ fs, FS s (xs s) W) → St xs W w' → Q .normal (fill fs xs (lex l vs a l.length)) w') : wpAny P .any l.toArray Q l.toArray.size (Array.replicate l.toArray.size false) a w.drew := by
  refine any_of_FS (l := l) (vs := vs) (fs := fs) (FS := FS) (I := I) (a0 := a) (St := St) (k := k) (f := f) (late := late) hR hN hlen hI hF hob hk' hreach hfs' ?_ _ _ _ w.drew _ ?_ ?_ ?_
  · intro listed b W w' xs hall hinv hx hst
    have hb : b = fill fs xs (lex l vs a l.length) := by
      have ht : b.tmps = (fill fs xs (lex l vs a l.length)).tmps := by
        apply Array.ext_getElem?
        intro d
        by_cases hd : d ∈ fs
        · have hlt : d < (lex l vs a l.length).tmps.size := by
            rw [(lex_size l vs a l.length).1, ← hinv.size]
            exact (Array.getElem?_eq_some_iff.1 (hx d hd).1).1
          rw [fill_in fs _ _ d hd hlt, (hx d hd).1]
        · rw [fill_out fs _ _ d hd]
          by_cases hwr : ∃ (j : Nat) (oj : Oper), l[j]? = some oj ∧ oj.dst = some d
          · obtain ⟨j, oj, hj, hdj⟩ := hwr
            obtain ⟨v, hv⟩ : ∃ v, vs[j]? = some v := ⟨_, List.getElem?_eq_getElem (by rw [hlen]; exact (List.getElem?_eq_some_iff.1 hj).1)⟩
            have hj' : l.toArray[j]? = some oj := by simpa using hj
            rw [(hinv.ins j oj d v hj (hall j) hdj hv).2 hd]
            exact (lex_in l vs a l.length j oj d v hj (List.getElem?_eq_some_iff.1 hj).1 hv hdj (Nat.lt_of_lt_of_le (hR.small _ _ _ hj' hdj) hN) fun i oi hi _ hne => hR.once i j oi oj d (by simpa using hi) hj' hdj hne).symm
          · rw [lex_out l vs a l.length d fun i oi hi _ hdi => hwr ⟨i, oi, hi, hdi⟩]
            exact hinv.out d fun i oi hi _ hdi => hwr ⟨i, oi, hi, hdi⟩
      have hd : b.defers = (fill fs xs (lex l vs a l.length)).defers := by
        rw [(fill_size ..).2, (lex_size ..).2]
        exact hinv.defers
      cases b
      simp only at ht hd
      rw [Act.mk.injEq]
      exact ⟨ht, hd⟩
    rw [hb]
    exact hE xs W w' hinv.cls (fun s hs => (hx s hs).2) hst
  · simp
  · refine ⟨hC, rfl, rfl, fun _ _ => rfl, fun j o d v hj hlj => ?_, fun j o hj hlj => ?_, by simp⟩
    all_goals
      have hlt := (List.getElem?_eq_some_iff.1 hj).1
      rw [Array.getD_eq_getD_getElem?] at hlj
      simp [hlt] at hlj
  · refine .inl ⟨?_, rfl⟩
    rw [Array.getD_eq_getD_getElem?]
    simp [hk']
theorem region_of_FS {id : Nat} {Q : Exit → Act → World → Prop} {a : Act} {w : World} {l : List Oper} {vs : List Value} {N k f : Nat} {late : Nat → Bool} {fs : List Tmp} {FS : Tmp → Value → World → Prop} {I : World → Prop} {St : (Tmp → Value) → World → World → Prop} (hm : P.follows .mixedOrders = true) (hR : RG .any l.toArray N)
    (hk' : k < l.length) (hreach : ∀ j, j < k → late j = false → reachB .any l.toArray f k j = true) (hfs' : ∀ s ∈ fs, ∃ (j : Nat) (o : Oper), j < k ∧ late j = false ∧ l[j]? = some o ∧ o.dst = some s) (hN : N ≤ a.tmps.size) (hI : Closed I) (hF : ∀ s x w w', FS s x w → Below w.heap.size w w' → FS s x w') (hC : I w.drew)
    (hlen : vs.length = l.length) (hob : ∀ (j : Nat) o v, l[j]? = some o → vs[j]? = some v → (j < k → Ob P l.toArray I fs FS o v (lex l vs a j)) ∧ (j = k → StOb P l.toArray I fs FS St o (lex l vs a j)) ∧ (k < j ∨ late j = true → PureOb P l.toArray fs o v (lex l vs a j)))
    (hE : ∀ xs W w', I W → (∀ s ∈ fs, FS s (xs s) W) → St xs W w' → Q .normal (fill fs xs (lex l vs a l.length)) w') : (Code.region id l.toArray true).wp P Q a w :=
  wp_region_any hm (anyof_FS (vs := vs) (k := k) (f := f) (late := late) (fs := fs) (FS := FS) (I := I) (St := St) hR hk' hreach hfs' hN hI hF hC hlen hob hE)
/-- ONE WALK IN THE TEXT's ORDER SERVES EVERY ORDER, the store at place k -/
theorem any_region_FS {Q : Exit → Act → World → Prop} {a : Act} {w : World} {l : List Oper} (N k f : Nat) (fs : List Tmp) (FS : Tmp → Value → World → Prop) (I : World → Prop) (St : (Tmp → Value) → World → World → Prop) (hB : rgB .any l.toArray N = true)
    (hk : decide (k < l.length) = true) (hreach : ((List.range k).all fun j => reachB .any l.toArray f k j) = true) (hfs : (fs.all fun s => (l.take k).any fun o => o.dst == some s) = true) (hN : N ≤ a.tmps.size) (hI : Closed I) (hF : ∀ s x w w', FS s x w → Below w.heap.size w w' → FS s x w') (hC : I w.drew)
    (h : wpFS P l.toArray I fs FS St (fun a' => ∀ xs W w', I W → (∀ s ∈ fs, FS s (xs s) W) → St xs W w' → Q .normal (fill fs xs a') w') (some k) l a) : wpAny P .any l.toArray Q l.toArray.size (Array.replicate l.toArray.size false) a w.drew := by
  have hR := rgB_spec hB
  have hk' : k < l.length := by simpa using hk
  obtain ⟨vs, hlen, hob, hE⟩ := wpFS_vals k l a h
  have hfs' : ∀ s ∈ fs, ∃ (j : Nat) (o : Oper), j < k ∧ (fun _ : Nat => false) j = false ∧ l[j]? = some o ∧ o.dst = some s := fun s hs => by
    rw [List.all_eq_true] at hfs
    have h1 := hfs s hs
    rw [List.any_eq_true] at h1
    obtain ⟨o, ho, hd⟩ := h1
    obtain ⟨j, hj, rfl⟩ := List.getElem_of_mem ho
    have hj1 : j < k := by rw [List.length_take] at hj; omega
    have hj2 : j < l.length := by rw [List.length_take] at hj; omega
    exact ⟨j, l[j], hj1, rfl, List.getElem?_eq_getElem hj2, by simpa using hd⟩
  exact anyof_FS (late := fun _ => false) hR hk' (fun j hj _ => by rw [List.all_eq_true] at hreach; exact hreach j (List.mem_range.2 hj)) hfs' hN hI hF hC hlen (fun j o v h1 h2 => ⟨(hob j o v h1 h2).1, (hob j o v h1 h2).2.1, fun h => (hob j o v h1 h2).2.2 (h.elim (fun h => h) (fun h => absurd h Bool.false_ne_true))⟩) hE
theorem wp_region_FS {id : Nat} {Q : Exit → Act → World → Prop} {a : Act} {w : World} {l : List Oper} (N k f : Nat) (fs : List Tmp) (FS : Tmp → Value → World → Prop) (I : World → Prop) (St : (Tmp → Value) → World → World → Prop) (hm : P.follows .mixedOrders = true) (hB : rgB .any l.toArray N = true)
    (hk : decide (k < l.length) = true) (hreach : ((List.range k).all fun j => reachB .any l.toArray f k j) = true) (hfs : (fs.all fun s => (l.take k).any fun o => o.dst == some s) = true) (hN : N ≤ a.tmps.size) (hI : Closed I) (hF : ∀ s x w w', FS s x w → Below w.heap.size w w' → FS s x w') (hC : I w.drew)
    (h : wpFS P l.toArray I fs FS St (fun a' => ∀ xs W w', I W → (∀ s ∈ fs, FS s (xs s) W) → St xs W w' → Q .normal (fill fs xs a') w') (some k) l a) : (Code.region id l.toArray true).wp P Q a w :=
  wp_region_any hm (any_region_FS N k f fs FS I St hB hk hreach hfs hN hI hF hC h)

/-! ### its steps -/
section
variable {St : (Tmp → Value) → World → World → Prop} {E : Act → Prop} {o : Oper} {rest : List Oper} {a : Act}
/-- any of XQ6's steps: shown of the operation alone, with what follows taken as it comes -/
theorem wpFS_step {k : Nat} (h : wpF P l.toArray I fs FS (fun a' => wpFS P l.toArray I fs FS St E (some k) rest a') [o] a) : wpFS P l.toArray I fs FS St E (some (k + 1)) (o :: rest) a := by
  obtain ⟨v, hob, hr⟩ := h
  exact ⟨v, hob, hr⟩
/-- the store -/
theorem wpFS_store {t : TypeId} {x y : Operand} (ho : o.op = .store t x y) (hd : o.dst = none) (hg : o.guard = none) (ad : Addr) (v : (Tmp → Value) → Value) (hx : ∀ xs, (fill fs xs a).eval x = .pointer (some ad)) (hy : ∀ xs, (fill fs xs a).eval y = v xs)
    (hrun : ∀ xs w, I w → (∀ s ∈ fs, FS s (xs s) w) → ∃ w', (Instr.storeAt t (.pointer (some ad)) (v xs)).run P w = .ok () w' ∧ St xs w w') (h : wpFS P l.toArray I fs FS St E none rest a) : wpFS P l.toArray I fs FS St E (some 0) (o :: rest) a := by
  refine ⟨⟨hd, fun xs w hI hs => ⟨by simp [Region.wanted, hg], ?_⟩⟩, h⟩
  obtain ⟨w', hr, hst⟩ := hrun xs w hI hs
  unfold execOp
  simp only [ho, hx xs, hy xs]
  rw [Sem.run_bind, hr]
  exact hst
/-- behind the store -/
theorem wpFS_pure (hk : kindOf o = 0) (hn : noB l.toArray fs o = true) (h : wpQuiet P l.toArray (fun _ => True) (fun a' => wpFS P l.toArray I fs FS St E none rest a') [o] a) : wpFS P l.toArray I fs FS St E none (o :: rest) a := by
  obtain ⟨h1, h2⟩ := noB_spec hn
  unfold wpQuiet at h
  by_cases hw : Region.wanted o (yielded l.toArray a.tmps) = true
  · simp only [hw, if_true] at h
    obtain ⟨v, hv, hr⟩ := h
    refine ⟨v, ⟨h1, h2, .inl ⟨hw, fun w => ?_⟩⟩, hr⟩
    have h3 := hv w trivial
    have h4 := pure_no_enter (P := P) (kind_pure hk) a.eval w
    unfold Oper.quietAt at h3
    generalize (execOp a.eval o).run P w = r at h3 h4
    cases r with
    | ok n w' =>
      cases n with
      | enter f args => exact absurd rfl (h4 w' f args)
      | value u => exact h3
      | skip => exact h3
      | _ => simp only [Oper.quietUpon] at h3
    | halt x w' => simp only [Oper.quietUpon] at h3
  · simp only [hw] at h
    exact ⟨undef, ⟨h1, h2, .inr ⟨by simpa using hw, rfl⟩⟩, h⟩
end
end
end Go.Proofs.Ytnbhiamnoapmlaa
