/-
  A part of the texts of one proof, put together: Q14, Q16, SloG, SamA, SloA, SloC, SloK, FrCt, OfF, SloL2, TabC, TabUa.
-/
import Derived.Lib.MinMax
import Derived.Deep.Slices
import Derived.Test.YtfdbcfkjablnkaaGreatMPPlaysProof4
namespace Go.Proofs.YtfdbcfkjablnkaaGreat
open Go.RowKit
section
variable {P : Program} {l : List Oper} {vs : List Value} {fs : List Tmp} {FS : Tmp → Value → World → Prop} {I : World → Prop} {a0 : Act}
/-- an operation that looks at no memory, and at one source: of whatever is good for what the source promises it makes one value -/
def UseOb (P : Program) (ops : Array Oper) (I : World → Prop) (fs : List Tmp) (FS : Tmp → Value → World → Prop) (o : Oper) (v : Value) (a : Act) : Prop :=
  ∃ s, s ∈ fs ∧ (∃ j, (ops[j]?).bind (·.dst) = some s ∧ o.after.any (fun e => Region.binds .any e && e.on == j) = true) ∧ (∀ d ∈ o.looksAt ops, d ∈ fs → d = s) ∧ (∀ d, o.dst = some d → d ∉ fs) ∧
    ∀ x W, I W → FS s x W → Region.wanted o (yielded ops (a.put (some s) x).tmps) = true ∧ ∀ w, purUpon w v ((execOp (a.put (some s) x).eval o).run P w)
def LateOb (P : Program) (ops : Array Oper) (I : World → Prop) (fs : List Tmp) (FS : Tmp → Value → World → Prop) (o : Oper) (v : Value) (a : Act) : Prop := PureOb P ops fs o v a ∨ UseOb P ops I fs FS o v a
theorem LateOb.dst {ops : Array Oper} {o : Oper} {v : Value} {a : Act} (h : LateOb P ops I fs FS o v a) : ∀ d, o.dst = some d → d ∉ fs := by
  rcases h with h | ⟨_, _, _, _, h, _⟩
  · exact h.2.1
  · exact h
theorem LateOb.ob {ops : Array Oper} {o : Oper} {v : Value} {a : Act} (h : LateOb P ops I fs FS o v a) : Ob P ops I fs FS o v a := by
  rcases h with h | ⟨s, h1, h2, h3, h4, h5⟩
  · exact h.ob
  · refine .inr (.inr (.inl ⟨s, h1, h2, h3, h4, fun x w hI hx => ?_⟩))
    obtain ⟨q1, q2⟩ := h5 x w hI hx
    refine ⟨q1, ?_⟩
    have q3 := q2 w
    generalize (execOp (a.put (some s) x).eval o).run P w = r at q3
    cases r with
    | ok n w' =>
      cases n <;> simp only [purUpon] at q3
      case value u => exact q3
      case skip => exact q3
    | halt x w' => simp only [purUpon] at q3
theorem any_of_FG {N k f : Nat} {late : Nat → Bool} {Q' : Exit → Act → World → Prop} {St : (Tmp → Value) → World → World → Prop} (hR : RG .any l.toArray N) (hN : N ≤ a0.tmps.size) (hlen : vs.length = l.length) (hI : Closed I) (hF : ∀ s x w w', FS s x w → Below w.heap.size w w' → FS s x w')
    (hob : ∀ (j : Nat) o v, l[j]? = some o → vs[j]? = some v → (j < k → Ob P l.toArray I fs FS o v (lex l vs a0 j)) ∧ (j = k → StOb P l.toArray I fs FS St o (lex l vs a0 j)) ∧ (k < j ∨ late j = true → LateOb P l.toArray I fs FS o v (lex l vs a0 j)))
    (hk : k < l.length) (hreach : ∀ j, j < k → late j = false → reachB .any l.toArray f k j = true) (hfs : ∀ s ∈ fs, ∃ (j : Nat) (o : Oper), j < k ∧ late j = false ∧ l[j]? = some o ∧ o.dst = some s)
    (hQ : ∀ (listed : Array Bool) b W w xs, (∀ j, listed.getD j true = true) → Inv l vs fs FS I a0 listed b W → (∀ s ∈ fs, b.tmps[s]? = some (xs s) ∧ FS s (xs s) W) → St xs W w → Q' .normal b w) :
    ∀ (fuel : Nat) (listed : Array Bool) (b : Act) (W w : World), listed.toList.count false ≤ fuel → Inv l vs fs FS I a0 listed b W →
      ((listed.getD k true = false ∧ w = W) ∨ (listed.getD k true = true ∧ ∃ xs, (∀ s ∈ fs, b.tmps[s]? = some (xs s) ∧ FS s (xs s) W) ∧ St xs W w)) → wpAny P .any l.toArray Q' fuel listed b w
  | 0, listed, b, W, w, hc, h, hp => by
    have hall := count_zero (L := listed) (by omega)
    rcases hp with ⟨h0, _⟩ | ⟨_, xs, hx, hst⟩
    · rw [hall k] at h0; cases h0
    refine ⟨?_, hQ listed b W w xs hall h hx hst⟩
    rw [List.eq_nil_iff_forall_not_mem]
    intro i hi
    have := (mem_ready.1 hi).1
    rw [hall i] at this
    cases this
  | fuel + 1, listed, b, W, w, hc, h, hph => by
    refine ⟨fun h0 => ?_, fun i hi => ?_⟩
    · have hall := ready_all hR h.lsize h0
      rcases hph with ⟨h0, _⟩ | ⟨_, xs, hx, hst⟩
      · rw [hall k] at h0; cases h0
      · exact hQ listed b W w xs hall h hx hst
    obtain ⟨hun, o, ho, hall⟩ := mem_ready.1 hi
    have ho2 : l[i]? = some o := by simpa using ho
    have hp : ∀ e ∈ o.after, Region.binds .any e = true → listed.getD e.on true = true := fun e he hb => by
      have h1 := hall e he hb
      rw [Array.getD_eq_getD_getElem?] at h1 ⊢
      cases hx : listed[e.on]? with
      | none => rfl
      | some y => rw [hx] at h1; simpa using h1
    obtain ⟨v, hv⟩ : ∃ v, vs[i]? = some v := ⟨_, List.getElem?_eq_getElem (by rw [hlen]; exact (List.getElem?_eq_some_iff.1 ho2).1)⟩
    obtain ⟨q1, q2, q3⟩ := hob i o v ho2 hv
    have hcnt := count_set hun
    have hsel : ∀ cs c, o.op ≠ .select cs c := fun cs c => hR.sel i o cs c ho
    have ag : ∀ d ∈ o.looksAt l.toArray, d ∉ fs → (lex l vs a0 i).tmps[d]? = b.tmps[d]? := fun d hd hf => h.agree hR hN hlen ho2 hun hp hd hf
    rcases hph with ⟨hk0, rfl⟩ | ⟨hk1, xs, hx, hst⟩
    · by_cases hik : i = k
      · subst hik
        obtain ⟨hdst, hstore⟩ := q2 rfl
        have got : ∀ s ∈ fs, ∃ x, b.tmps[s]? = some x ∧ FS s x w ∧ s < (lex l vs a0 i).tmps.size := fun s hs => by
          obtain ⟨j, oj, hji, hlj, hoj, hdj⟩ := hfs s hs
          obtain ⟨vj, hvj⟩ : ∃ v, vs[j]? = some v := ⟨_, List.getElem?_eq_getElem (by rw [hlen]; exact (List.getElem?_eq_some_iff.1 hoj).1)⟩
          obtain ⟨x, hbx, hfx⟩ := (h.ins j oj s vj hoj (reach_ready h ho2 hp f j (hreach j hji hlj)) hdj hvj).1 hs
          exact ⟨x, hbx, hfx, by rw [(lex_size l vs a0 i).1]; exact Nat.lt_of_lt_of_le (hR.small j oj s (by simpa using hoj) hdj) hN⟩
        have hxs : ∀ s ∈ fs, b.tmps[s]? = some (b.tmps.getD s undef) ∧ FS s (b.tmps.getD s undef) w := fun s hs => by
          obtain ⟨x, hbx, hfx, _⟩ := got s hs
          simpa [hbx] using hfx
        have ag2 : ∀ d ∈ o.looksAt l.toArray, (fill fs (fun s => b.tmps.getD s undef) (lex l vs a0 i)).tmps[d]? = b.tmps[d]? := fun d hd => by
          by_cases hdf : d ∈ fs
          · obtain ⟨x, hbx, _, hlt⟩ := got d hdf
            rw [fill_in fs _ _ d hdf hlt, hbx]
            simp [hbx]
          · rw [fill_out fs _ _ d hdf]
            exact ag d hd hdf
        obtain ⟨hwt, h3⟩ := hstore (fun s => b.tmps.getD s undef) w h.cls fun s hs => (hxs s hs).2
        rw [wanted_agree (ops := l.toArray) ag2] at hwt
        rw [exec_agree (ops := l.toArray) hsel ag2] at h3
        have hin : ∀ u, Inv l vs fs FS I a0 (listed.setIfInBounds i true) (b.put o.dst u) w := fun u => h.next hR hN hI hF ho2 hp (Below.refl _ _) fun d hd => by rw [hdst] at hd; cases hd
        have hput : ∀ u, b.put o.dst u = b := fun u => by rw [hdst]; rfl
        have kk : ∀ u w', St (fun s => b.tmps.getD s undef) w w' → wpAny P .any l.toArray Q' fuel (listed.setIfInBounds i true) (b.put o.dst u) w' := fun u w' hs =>
          any_of_FG hR hN hlen hI hF hob hk hreach hfs hQ fuel _ _ w w' (by omega) (hin u) (.inr ⟨getD_set_same _ _, _, by rw [hput u]; exact hxs, hs⟩)
        unfold Go.wpOp
        simp only [ho]
        rw [if_pos hwt]
        left
        unfold Oper.wp
        generalize (execOp b.eval o).run P w = r at h3
        cases r with
        | ok n w' =>
          cases n <;> simp only [stUpon] at h3 <;> simp only [Oper.upon]
          case value u => exact kk _ _ h3
          case skip => exact kk _ _ h3
        | halt x w' => simp only [stUpon] at h3
      · have hob' : Ob P l.toArray I fs FS o v (lex l vs a0 i) := by
          rcases Nat.lt_or_gt_of_ne hik with hlt | hgt
          · exact q1 hlt
          · exact (q3 (.inl hgt)).ob
        exact op_of_F hR hN hlen h ho2 hun hp hv hob' fun u w' hb hu =>
          any_of_FG hR hN hlen hI hF hob hk hreach hfs hQ fuel _ _ w' w' (by omega) (h.next hR hN hI hF ho2 hp hb hu) (.inl ⟨by rw [getD_set_far _ hik]; exact hk0, rfl⟩)
    · have hki : k < i ∨ late i = true := by
        rcases Nat.lt_trichotomy i k with hlt | rfl | hgt
        · cases hla : late i with
          | true => exact .inr rfl
          | false => rw [reach_listed h f k i hk1 (hreach i hlt hla)] at hun; cases hun
        · rw [hk1] at hun; cases hun
        · exact .inl hgt
      have h2 := (q3 hki).dst
      have kv : wpAny P .any l.toArray Q' fuel (listed.setIfInBounds i true) (b.put o.dst v) w :=
        any_of_FG hR hN hlen hI hF hob hk hreach hfs hQ fuel _ _ W w (by omega) (h.next hR hN hI hF ho2 hp (Below.refl _ _) fun d hd => ⟨fun hf => absurd hf (h2 d hd), fun _ => hv⟩)
          (.inr ⟨getD_set_up _ hk1, xs, fun s hs => ⟨by rw [put_other v (fun e => h2 s e hs)]; exact (hx s hs).1, (hx s hs).2⟩, hst⟩)
      unfold Go.wpOp
      simp only [ho]
      rcases q3 hki with ⟨h1, _, h3⟩ | ⟨s, hs, _, h1, _, huse⟩
      · have he := exec_agree (ops := l.toArray) hsel fun d hd => ag d hd (h1 d hd)
        have hw := wanted_agree (ops := l.toArray) fun d hd => ag d hd (h1 d hd)
        rcases h3 with ⟨hwt, hval⟩ | ⟨hwf, rfl⟩
        · rw [hw] at hwt
          rw [if_pos hwt]
          left
          have h4 := hval w
          rw [he] at h4
          unfold Oper.wp
          generalize (execOp b.eval o).run P w = r at h4
          cases r with
          | ok n w' =>
            cases n <;> simp only [purUpon] at h4 <;> simp only [Oper.upon]
            case value u => obtain ⟨rfl, rfl⟩ := h4; exact kv
            case skip => obtain ⟨rfl, rfl⟩ := h4; exact kv
          | halt x w' => simp only [purUpon] at h4
        · rw [hw] at hwf
          rw [hwf, if_neg (by simp)]
          exact kv
      · obtain ⟨hbx, hfx⟩ := hx s hs
        have hslt : s < (lex l vs a0 i).tmps.size := by
          rw [(lex_size l vs a0 i).1, ← h.size]
          exact (Array.getElem?_eq_some_iff.1 hbx).1
        have ag2 : ∀ d ∈ o.looksAt l.toArray, ((lex l vs a0 i).put (some s) (xs s)).tmps[d]? = b.tmps[d]? := fun d hd => by
          by_cases hsd : s = d
          · subst hsd
            rw [put_same (xs s) hslt, hbx]
          · rw [put_other (xs s) (by simpa using hsd)]
            exact ag d hd fun hf => hsd (h1 d hd hf).symm
        obtain ⟨hwt, hval⟩ := huse (xs s) W h.cls hfx
        have he := exec_agree (ops := l.toArray) hsel ag2
        rw [wanted_agree (ops := l.toArray) ag2] at hwt
        rw [if_pos hwt]
        left
        have h4 := hval w
        rw [he] at h4
        unfold Oper.wp
        generalize (execOp b.eval o).run P w = r at h4
        cases r with
        | ok n w' =>
          cases n <;> simp only [purUpon] at h4 <;> simp only [Oper.upon]
          case value u => obtain ⟨rfl, rfl⟩ := h4; exact kv
          case skip => obtain ⟨rfl, rfl⟩ := h4; exact kv
        | halt x w' => simp only [purUpon] at h4

theorem region_of_FG {id : Nat} {Q : Exit → Act → World → Prop} {a : Act} {w : World} {l : List Oper} {vs : List Value} {N k f : Nat} {late : Nat → Bool} {fs : List Tmp} {FS : Tmp → Value → World → Prop} {I : World → Prop} {St : (Tmp → Value) → World → World → Prop} (hm : P.follows .mixedOrders = true) (hR : RG .any l.toArray N)
    (hk' : k < l.length) (hreach : ∀ j, j < k → late j = false → reachB .any l.toArray f k j = true) (hfs' : ∀ s ∈ fs, ∃ (j : Nat) (o : Oper), j < k ∧ late j = false ∧ l[j]? = some o ∧ o.dst = some s) (hN : N ≤ a.tmps.size) (hI : Closed I) (hF : ∀ s x w w', FS s x w → Below w.heap.size w w' → FS s x w') (hC : I w.drew)
    (hlen : vs.length = l.length) (hob : ∀ (j : Nat) o v, l[j]? = some o → vs[j]? = some v → (j < k → Ob P l.toArray I fs FS o v (lex l vs a j)) ∧ (j = k → StOb P l.toArray I fs FS St o (lex l vs a j)) ∧ (k < j ∨ late j = true → LateOb P l.toArray I fs FS o v (lex l vs a j)))
    (hE : ∀ xs W w', I W → (∀ s ∈ fs, FS s (xs s) W) → St xs W w' → Q .normal (fill fs xs (lex l vs a l.length)) w') : (Code.region id l.toArray true).wp P Q a w := by
  refine wp_region_any hm ?_
  refine any_of_FG (l := l) (vs := vs) (fs := fs) (FS := FS) (I := I) (a0 := a) (St := St) (k := k) (f := f) (late := late) hR hN hlen hI hF hob hk' hreach hfs' ?_ _ _ _ w.drew _ ?_ ?_ ?_
  · intro listed b W w' xs hall hinv hx hst
    have hb : b = fill fs xs (lex l vs a l.length) := by
      have ht : b.tmps = (fill fs xs (lex l vs a l.length)).tmps := by
        apply Array.ext_getElem?
        intro d
        by_cases hd : d ∈ fs
        · have hlt : d < (lex l vs a l.length).tmps.size := by
            rw [(lex_size l vs a l.length).1, ← hinv.size]
            exact (Array.getElem?_eq_some_iff.1 (hx d hd).1).1
          rw [fill_in fs _ _ d hd hlt, (hx d hd).1]
        · rw [fill_out fs _ _ d hd]
          by_cases hwr : ∃ (j : Nat) (oj : Oper), l[j]? = some oj ∧ oj.dst = some d
          · obtain ⟨j, oj, hj, hdj⟩ := hwr
            obtain ⟨v, hv⟩ : ∃ v, vs[j]? = some v := ⟨_, List.getElem?_eq_getElem (by rw [hlen]; exact (List.getElem?_eq_some_iff.1 hj).1)⟩
            have hj' : l.toArray[j]? = some oj := by simpa using hj
            rw [(hinv.ins j oj d v hj (hall j) hdj hv).2 hd]
            exact (lex_in l vs a l.length j oj d v hj (List.getElem?_eq_some_iff.1 hj).1 hv hdj (Nat.lt_of_lt_of_le (hR.small _ _ _ hj' hdj) hN) fun i oi hi _ hne => hR.once i j oi oj d (by simpa using hi) hj' hdj hne).symm
          · rw [lex_out l vs a l.length d fun i oi hi _ hdi => hwr ⟨i, oi, hi, hdi⟩]
            exact hinv.out d fun i oi hi _ hdi => hwr ⟨i, oi, hi, hdi⟩
      have hd : b.defers = (fill fs xs (lex l vs a l.length)).defers := by
        rw [(fill_size ..).2, (lex_size ..).2]
        exact hinv.defers
      cases b
      simp only at ht hd
      rw [Act.mk.injEq]
      exact ⟨ht, hd⟩
    rw [hb]
    exact hE xs W w' hinv.cls (fun s hs => (hx s hs).2) hst
  · simp
  · refine ⟨hC, rfl, rfl, fun _ _ => rfl, fun j o d v hj hlj => ?_, fun j o hj hlj => ?_, by simp⟩
    all_goals
      have hlt := (List.getElem?_eq_some_iff.1 hj).1
      rw [Array.getD_eq_getD_getElem?] at hlj
      simp [hlt] at hlj
  · refine .inl ⟨?_, rfl⟩
    rw [Array.getD_eq_getD_getElem?]
    simp [hk']

/-- the walk behind the store -/
def wpFGn (P : Program) (ops : Array Oper) (I : World → Prop) (fs : List Tmp) (FS : Tmp → Value → World → Prop) (E : Act → Prop) : List Oper → Act → Prop
  | [], a => E a
  | o :: r, a => ∃ v, LateOb P ops I fs FS o v a ∧ wpFGn P ops I fs FS E r (a.put o.dst v)
theorem wpFGn_vals {ops : Array Oper} {E : Act → Prop} : ∀ (l : List Oper) (a : Act), wpFGn P ops I fs FS E l a → ∃ vs : List Value, vs.length = l.length ∧
    (∀ (j : Nat) o v, l[j]? = some o → vs[j]? = some v → LateOb P ops I fs FS o v (lex l vs a j)) ∧ E (lex l vs a l.length)
  | [], a, h => ⟨[], rfl, by simp, h⟩
  | o :: r, a, ⟨v, hob, hr⟩ => by
    obtain ⟨vs, h1, h2, h3⟩ := wpFGn_vals r _ hr
    refine ⟨v :: vs, by simp [h1], fun j o' v' ho hv => ?_, h3⟩
    cases j with
    | zero =>
      simp only [List.getElem?_cons_zero, Option.some.injEq] at ho hv
      subst ho hv
      exact hob
    | succ j =>
      simp only [List.getElem?_cons_succ] at ho hv
      exact h2 j o' v' ho hv
/-- the walk in the text's order: operations ahead of the store (true: it may come behind it), the store, the rest -/
def wpFG (P : Program) (ops : Array Oper) (I : World → Prop) (fs : List Tmp) (FS : Tmp → Value → World → Prop) (St : (Tmp → Value) → World → World → Prop) (E : Act → Prop) : List Bool → List Oper → Act → Prop
  | _, [], a => E a
  | [], o :: r, a => StOb P ops I fs FS St o a ∧ wpFGn P ops I fs FS E r a
  | false :: m, o :: r, a => ∃ v, Ob P ops I fs FS o v a ∧ wpFG P ops I fs FS St E m r (a.put o.dst v)
  | true :: m, o :: r, a => ∃ v, LateOb P ops I fs FS o v a ∧ wpFG P ops I fs FS St E m r (a.put o.dst v)
theorem wpFG_vals {ops : Array Oper} {St : (Tmp → Value) → World → World → Prop} {E : Act → Prop} : ∀ (ms : List Bool) (l : List Oper) (a : Act), wpFG P ops I fs FS St E ms l a → ∃ vs : List Value, vs.length = l.length ∧
    (∀ (j : Nat) o v, l[j]? = some o → vs[j]? = some v → (j < ms.length → Ob P ops I fs FS o v (lex l vs a j)) ∧ (j = ms.length → StOb P ops I fs FS St o (lex l vs a j)) ∧ (ms.length < j ∨ ms.getD j false = true → LateOb P ops I fs FS o v (lex l vs a j))) ∧ E (lex l vs a l.length)
  | _, [], a, h => ⟨[], rfl, by simp, by cases ‹List Bool› with | nil => exact h | cons b m => cases b <;> exact h⟩
  | [], o :: r, a, ⟨hob, hr⟩ => by
    obtain ⟨vs, h1, h2, h3⟩ := wpFGn_vals r _ hr
    have hput : a.put o.dst undef = a := by rw [hob.1]; rfl
    refine ⟨undef :: vs, by simp [h1], fun j o' v' ho hv => ?_, ?_⟩
    · cases j with
      | zero =>
        simp only [List.getElem?_cons_zero, Option.some.injEq] at ho hv
        subst ho hv
        exact ⟨fun h => absurd h (Nat.not_lt_zero _), fun _ => hob, fun h => h.elim (fun h => absurd h (Nat.not_lt_zero _)) (fun h => by simp at h)⟩
      | succ j =>
        simp only [List.getElem?_cons_succ] at ho hv
        refine ⟨fun h => absurd h (Nat.not_lt_zero _), fun h => absurd h (Nat.succ_ne_zero j), fun _ => ?_⟩
        show LateOb P ops I fs FS o' v' (lex r vs (a.put o.dst undef) j)
        rw [hput]
        exact h2 j o' v' ho hv
    · show E (lex r vs (a.put o.dst undef) r.length)
      rw [hput]
      exact h3
  | false :: m, o :: r, a, ⟨v, hob, hr⟩ => by
    obtain ⟨vs, h1, h2, h3⟩ := wpFG_vals m r _ hr
    refine ⟨v :: vs, by simp [h1], fun j o' v' ho hv => ?_, h3⟩
    cases j with
    | zero =>
      simp only [List.getElem?_cons_zero, Option.some.injEq] at ho hv
      subst ho hv
      exact ⟨fun _ => hob, fun h => by simp at h, fun h => by simp at h⟩
    | succ j =>
      simp only [List.getElem?_cons_succ] at ho hv
      obtain ⟨q1, q2, q3⟩ := h2 j o' v' ho hv
      exact ⟨fun h => q1 (by simp at h; omega), fun h => q2 (by simp at h; omega), fun h => q3 (by simp at h; exact h.imp (fun h => by omega) (fun h => by simpa using h))⟩
  | true :: m, o :: r, a, ⟨v, hob, hr⟩ => by
    obtain ⟨vs, h1, h2, h3⟩ := wpFG_vals m r _ hr
    refine ⟨v :: vs, by simp [h1], fun j o' v' ho hv => ?_, h3⟩
    cases j with
    | zero =>
      simp only [List.getElem?_cons_zero, Option.some.injEq] at ho hv
      subst ho hv
      exact ⟨fun _ => hob.ob, fun h => by simp at h, fun _ => hob⟩
    | succ j =>
      simp only [List.getElem?_cons_succ] at ho hv
      obtain ⟨q1, q2, q3⟩ := h2 j o' v' ho hv
      exact ⟨fun h => q1 (by simp at h; omega), fun h => q2 (by simp at h; omega), fun h => q3 (by simp at h; exact h.imp (fun h => by omega) (fun h => by simpa using h))⟩
/-- ONE WALK IN THE TEXT's ORDER SERVES EVERY ORDER, the store behind as many as ms has -/
theorem wp_region_FG {id : Nat} {Q : Exit → Act → World → Prop} {a : Act} {w : World} {l : List Oper} (N f : Nat) (ms : List Bool) (fs : List Tmp) (FS : Tmp → Value → World → Prop) (I : World → Prop) (St : (Tmp → Value) → World → World → Prop) (hm : P.follows .mixedOrders = true) (hB : rgB .any l.toArray N = true)
    (hk : decide (ms.length < l.length) = true) (hreach : ((List.range ms.length).all fun j => ms.getD j false || reachB .any l.toArray f ms.length j) = true) (hfs : (fs.all fun s => (List.range ms.length).any fun j => !ms.getD j false && ((l[j]?).bind (·.dst) == some s)) = true) (hN : N ≤ a.tmps.size) (hI : Closed I) (hF : ∀ s x w w', FS s x w → Below w.heap.size w w' → FS s x w') (hC : I w.drew)
    (h : wpFG P l.toArray I fs FS St (fun a' => ∀ xs W w', I W → (∀ s ∈ fs, FS s (xs s) W) → St xs W w' → Q .normal (fill fs xs a') w') ms l a) : (Code.region id l.toArray true).wp P Q a w := by
  have hR := rgB_spec hB
  have hk' : ms.length < l.length := by simpa using hk
  obtain ⟨vs, hlen, hob, hE⟩ := wpFG_vals ms l a h
  have hfs' : ∀ s ∈ fs, ∃ (j : Nat) (o : Oper), j < ms.length ∧ ms.getD j false = false ∧ l[j]? = some o ∧ o.dst = some s := fun s hs => by
    rw [List.all_eq_true] at hfs
    have h1 := hfs s hs
    rw [List.any_eq_true] at h1
    obtain ⟨j, hj, hd⟩ := h1
    rw [List.mem_range] at hj
    rw [Bool.and_eq_true] at hd
    obtain ⟨o, ho⟩ : ∃ o, l[j]? = some o := ⟨_, List.getElem?_eq_getElem (by omega)⟩
    rw [ho] at hd
    exact ⟨j, o, hj, by simpa using hd.1, ho, by simpa using hd.2⟩
  exact region_of_FG (late := fun j => ms.getD j false) hm hR hk' (fun j hj hl => by
    rw [List.all_eq_true] at hreach
    have h1 := hreach j (List.mem_range.2 hj)
    rw [hl, Bool.false_or] at h1
    exact h1) hfs' hN hI hF hC hlen hob hE

/-! ### its steps -/
section
variable {l : List Oper} {St : (Tmp → Value) → World → World → Prop} {E : Act → Prop} {o : Oper} {rest : List Oper} {a : Act} {ms : List Bool}
theorem wpFG_step (h : wpF P l.toArray I fs FS (fun a' => wpFG P l.toArray I fs FS St E ms rest a') [o] a) : wpFG P l.toArray I fs FS St E (false :: ms) (o :: rest) a := by
  obtain ⟨v, hob, hr⟩ := h
  exact ⟨v, hob, hr⟩
theorem useOb_of (s : Tmp) (j : Nat) (v : Value) (hs : s ∈ fs) (hj : (l[j]?).bind (·.dst) = some s) (hje : (o.after.any fun e => Region.binds .any e && e.on == j) = true)
    (hn : ((o.looksAt l.toArray).all fun d => !fs.contains d || d == s) = true) (hdst : (match o.dst with | some d => !fs.contains d | none => true) = true) (hw : ∀ x, Region.wanted o (yielded l.toArray (a.put (some s) x).tmps) = true)
    (hrun : ∀ x W, FS s x W → ∀ w, (execOp (a.put (some s) x).eval o).run P w = .ok (.value v) w) : UseOb P l.toArray I fs FS o v a := by
  refine ⟨s, hs, ⟨j, by simpa using hj, hje⟩, fun d hd hf => ?_, fun d hd => ?_, fun x W _ hx => ⟨hw x, fun w => ?_⟩⟩
  · have h1 := (List.all_eq_true.1 hn) d hd
    rw [Bool.or_eq_true] at h1
    rcases h1 with h1 | h1
    · rw [List.contains_iff_mem.2 hf] at h1; cases h1
    · simpa using h1
  · rw [hd] at hdst
    intro hf
    simp only [List.contains_iff_mem.2 hf] at hdst
    cases hdst
  · rw [hrun x W hx w]
    exact ⟨rfl, rfl⟩
/-- an operation ahead of the store that may come behind it, of one source's value -/
theorem wpFG_use (s : Tmp) (j : Nat) (v : Value) (hs : s ∈ fs) (hj : (l[j]?).bind (·.dst) = some s) (hje : (o.after.any fun e => Region.binds .any e && e.on == j) = true)
    (hn : ((o.looksAt l.toArray).all fun d => !fs.contains d || d == s) = true) (hdst : (match o.dst with | some d => !fs.contains d | none => true) = true) (hw : ∀ x, Region.wanted o (yielded l.toArray (a.put (some s) x).tmps) = true)
    (hrun : ∀ x W, FS s x W → ∀ w, (execOp (a.put (some s) x).eval o).run P w = .ok (.value v) w) (h : wpFG P l.toArray I fs FS St E ms rest (a.put o.dst v)) : wpFG P l.toArray I fs FS St E (true :: ms) (o :: rest) a :=
  ⟨v, .inr (useOb_of s j v hs hj hje hn hdst hw hrun), h⟩
theorem wpFG_storeX {t : TypeId} {x y : Operand} (ho : o.op = .store t x y) (hd : o.dst = none) (hg : o.guard = none)
    (hrun : ∀ xs w, I w → (∀ s ∈ fs, FS s (xs s) w) → ∃ w', (Instr.storeAt t ((fill fs xs a).eval x) ((fill fs xs a).eval y)).run P w = .ok () w' ∧ St xs w w') (h : wpFGn P l.toArray I fs FS E rest a) : wpFG P l.toArray I fs FS St E [] (o :: rest) a := by
  refine ⟨⟨hd, fun xs w hI hs => ⟨by simp [Region.wanted, hg], ?_⟩⟩, h⟩
  obtain ⟨w', hr, hst⟩ := hrun xs w hI hs
  unfold execOp
  simp only [ho]
  rw [Sem.run_bind, hr]
  exact hst
/-- behind the store -/
theorem wpFGn_pure (h : wpFS P l.toArray I fs FS (fun _ _ _ => True) (fun a' => wpFGn P l.toArray I fs FS E rest a') none [o] a) : wpFGn P l.toArray I fs FS E (o :: rest) a := by
  obtain ⟨v, hob, hr⟩ := h
  exact ⟨v, .inl hob, hr⟩
end
end
end Go.Proofs.YtfdbcfkjablnkaaGreat

namespace Go.Proofs.YtfdbcfkjablnkaaGreat
section
variable {P : Program} {ops : Array Oper} {md : Region.Mode} {I : World → Prop}

def kind6 (o : Oper) : Nat := match o.op with
  | .build _ _ => 1
  | _ => kind3 o
theorem kind6_one {o : Oper} (h : kind6 o = 1) : (∃ t x, o.op = .load t x) ∨ ∃ t x, o.op = .build t x := by
  unfold kind6 at h
  split at h
  · exact .inr ⟨_, _, by assumption⟩
  · exact .inl (kind3_load h)
theorem kind6_else {o : Oper} {n : Nat} (h : kind6 o = n) (hn : n ≠ 1) : kind3 o = n := by
  unfold kind6 at h
  split at h
  · exact absurd h.symm hn
  · exact h
theorem one6_no_enter {o : Oper} (h : kind6 o = 1) (ρ : Operand → Value) (w w' : World) (f : FuncId) (args : Array Value) : (execOp ρ o).run P w ≠ .ok (.enter f args) w' := by
  rcases kind6_one h with ⟨t, x, ho⟩ | ⟨t, x, ho⟩
  · exact load_no_enter ho ρ w w' f args
  · unfold execOp
    simp only [ho]
    exact run_value _ _ _ _ _
theorem yields_one6 {o : Oper} {v : Value} {a : Act} {C D : World → Prop} (hk : kind6 o = 1) (h : YieldsIn P ops C o v a) (hD : ∀ w, D w → C w) : YieldsIn P ops D o v a := by
  rcases h with ⟨hw, h⟩ | h
  · refine .inl ⟨hw, fun w hwD => ?_⟩
    have h1 := h w (hD w hwD)
    have h2 := one6_no_enter (P := P) hk a.eval w
    unfold Oper.quietAt at h1 ⊢
    generalize (execOp a.eval o).run P w = r at h1 h2
    cases r with
    | ok n w' =>
      cases n with
      | enter f args => exact absurd rfl (h2 w' f args)
      | _ => exact h1
    | halt x w' => exact h1
  · exact .inr h
/-- one operation, in a class of worlds -/
def Step6 (P : Program) (ops : Array Oper) (I : World → Prop) (o : Oper) (a : Act) (C : World → Prop) (K : (World → Prop) → Act → Prop) : Prop :=
  (kind6 o = 0 ∧ ∃ v, YieldsIn P ops (fun _ => True) o v a ∧ K C (a.put o.dst v)) ∨
  (kind6 o = 1 ∧ ∃ v, YieldsIn P ops I o v a ∧ K C (a.put o.dst v)) ∨
  (kind6 o = 2 ∧ ∃ v C', (∀ w, C' w → I w) ∧ StepsIn P ops C C' o v a ∧ K C' (a.put o.dst v)) ∨
  (kind6 o = 3 ∧ ((Region.wanted o (yielded ops a.tmps) = false ∧ K C (a.put o.dst undef)) ∨ (Region.wanted o (yielded ops a.tmps) = true ∧ ∃ (V : Value → Prop) (C' : Value → World → Prop), (∀ v w, C' v w → I w) ∧ (∀ w, C w → famUpon P V C' ((execOp a.eval o).run P w)) ∧ ∀ v, V v → K (C' v) (a.put o.dst v))))

def wpAny6 (P : Program) (md : Region.Mode) (ops : Array Oper) (I : World → Prop) (Q : (World → Prop) → Act → Prop) : Nat → Array Bool → (World → Prop) → Act → Prop
  | 0, listed, C, a => Region.ready md ops listed = [] ∧ Q C a
  | fuel + 1, listed, C, a =>
    (Region.ready md ops listed = [] → Q C a) ∧
    ∀ i ∈ Region.ready md ops listed, ∀ o, ops[i]? = some o → Step6 P ops I o a C (wpAny6 P md ops I Q fuel (listed.setIfInBounds i true))
theorem Step6.wpOp {C : World → Prop} {i : Nat} {o : Oper} {a : Act} {K : (World → Prop) → Act → Prop} {K' : Act → World → Prop} {Q' : Exit → Act → World → Prop} {w : World} (hi : ops[i]? = some o) (h : Step6 P ops I o a C K) (hC : C w) (hCI : ∀ w, C w → I w) (hK : ∀ (C' : World → Prop) a' w', C' w' → (∀ w, C' w → I w) → K C' a' → K' a' w') : wpOp P ops Q' i K' a w := by
  rcases h with ⟨hk, v, hy, hn⟩ | ⟨hk, v, hy, hn⟩ | ⟨hk, v, C', hI, hy, hn⟩ | ⟨hk, h⟩
  · exact OpR.wpOp (C := C) (C' := C) hi (.inl ⟨kind3_pure (kind6_else hk (by decide)), rfl, hy⟩) hC fun w' hw' => hK C _ w' hw' hCI hn
  · have hk1 : kindOf o = 1 := by
      rcases kind6_one hk with ⟨t, x, ho⟩ | ⟨t, x, ho⟩ <;> simp [kindOf, pureOp, ho]
    exact OpR.wpOp (C := C) (C' := C) hi (.inr (.inl ⟨hk1, rfl, yields_one6 hk hy hCI⟩)) hC fun w' hw' => hK C _ w' hw' hCI hn
  · have hk2 : kindOf o = 2 := by
      have hk := kind6_else hk (by decide)
      unfold kind3 at hk
      unfold kindOf
      split at hk
      · simp at hk
      · rename_i hp
        rw [if_neg hp]
        split at hk
        · simp at hk
        · rename_i heq; simp [heq]
        · simp at hk
    exact OpR.wpOp (C := C) (C' := C') hi (.inr (.inr ⟨hk2, hy⟩)) hC fun w' hw' => hK C' _ w' hw' hI hn
  · unfold Go.wpOp
    simp only [hi]
    rcases h with ⟨hw, hn⟩ | ⟨hw, V, C', hI, hv, hn⟩
    · simp only [hw, Bool.false_eq_true, if_false]
      exact hK C _ w hC hCI hn
    · simp only [hw, if_true]
      left
      have h1 := hv w hC
      unfold Oper.wp
      generalize (execOp a.eval o).run P w = r at h1
      cases r with
      | ok n w' =>
        cases n <;> simp only [famUpon] at h1 <;> simp only [Oper.upon]
        case value u => exact hK (C' u) _ w' h1.2 (hI u) (hn u h1.1)
        case enter f args =>
          refine h1.mono fun e w'' ⟨v, he, hV, hc⟩ => ?_
          subst he
          exact hK (C' v) _ w'' hc (hI v) (hn v hV)
      | halt x w' => simp only [famUpon] at h1
theorem wpAny_of_6 {Q : (World → Prop) → Act → Prop} {Q' : Exit → Act → World → Prop} (hQ : ∀ (C : World → Prop) a w, C w → Q C a → Q' .normal a w) : ∀ (fuel : Nat) (listed : Array Bool) (C : World → Prop) (a : Act) (w : World), C w → (∀ w, C w → I w) →
    wpAny6 P md ops I Q fuel listed C a → wpAny P md ops Q' fuel listed a w
  | 0, _, _, _, _, hw, _, h => ⟨h.1, hQ _ _ _ hw h.2⟩
  | fuel + 1, _, _, _, _, hw, hI, h => ⟨fun h0 => hQ _ _ _ hw (h.1 h0), fun i hi => by
      obtain ⟨_, o, ho, _⟩ := mem_ready.1 hi
      exact (h.2 i hi o ho).wpOp ho hw hI fun C' a' w' hw' hI' hn => wpAny_of_6 hQ fuel _ C' a' w' hw' hI' hn⟩
/-- an operation apart: its step is the same whether another's value is in its slot or not -/
theorem Step6.put {oi oj : Oper} {v : Value} {a : Act} {C : World → Prop} {K1 K2 : (World → Prop) → Act → Prop} (hap : oi.apart ops oj = true) (hsj : ∀ cs b, oj.op ≠ .select cs b)
    (hK : ∀ (C' : World → Prop) u, K1 C' ((a.put oi.dst v).put oj.dst u) → K2 C' (a.put oj.dst u)) (h : Step6 P ops I oj (a.put oi.dst v) C K1) : Step6 P ops I oj a C K2 := by
  obtain ⟨p1, p2, p3⟩ := Oper.apart_spec hap
  have he := execOp_put oj hsj a oi.dst v p1
  have hw := wanted_put oj a oi.dst v p1
  rcases h with ⟨hk, u, hy, hn⟩ | ⟨hk, u, hy, hn⟩ | ⟨hk, u, C', hI, hy, hn⟩ | ⟨hk, h⟩
  · exact .inl ⟨hk, u, hy.of_same he.symm hw.symm, hK C u hn⟩
  · exact .inr (.inl ⟨hk, u, hy.of_same he.symm hw.symm, hK C u hn⟩)
  · refine .inr (.inr (.inl ⟨hk, u, C', hI, ?_, hK C' u hn⟩))
    unfold StepsIn at hy ⊢
    rwa [he, hw] at hy
  · refine .inr (.inr (.inr ⟨hk, ?_⟩))
    rcases h with ⟨hwf, hn⟩ | ⟨hwt, V, C', hsub, hv, hn⟩
    · exact .inl ⟨by rw [← hw]; exact hwf, hK C undef hn⟩
    · exact .inr ⟨by rw [← hw]; exact hwt, V, C', hsub, by rwa [he] at hv, fun u hu => hK (C' u) u (hn u hu)⟩
/-! as XQ3's, but a load is free of stores too: they stay in I -/
def free6 (md : Region.Mode) (ops : Array Oper) (listed : Array Bool) (k : Nat) : Bool :=
  let U := blocked md ops k
  U.getD k false && U.size == ops.size &&
  match ops[k]? with
  | none => false
  | some ok => (List.range ops.size).all fun j =>
    match ops[j]? with
    | some oj =>
      if U.getD j false then !listed.getD j false && (j == k || oj.after.any (fun e => Region.binds md e && U.getD e.on false))
      else listed.getD j true || (ok.apart ops oj && (kind6 ok == 0 || kind6 ok == 1))
    | none => true
structure Free6 (md : Region.Mode) (ops : Array Oper) (listed : Array Bool) (i : Nat) (oi : Oper) (U : Array Bool) : Prop where
  size : U.size = ops.size
  own : U.getD i false = true
  wait : ∀ j oj, ops[j]? = some oj → U.getD j false = true → j ≠ i → ∃ e ∈ oj.after, Region.binds md e = true ∧ U.getD e.on false = true
  un : ∀ j, U.getD j false = true → listed.getD j false = false
  free : ∀ j oj, ops[j]? = some oj → U.getD j false = false → listed.getD j true = false → oi.apart ops oj = true ∧ (kind6 oi = 0 ∨ kind6 oi = 1)
theorem free6_spec {i : Nat} {oi : Oper} {listed : Array Bool} (hi : ops[i]? = some oi) (h : free6 md ops listed i = true) : Free6 md ops listed i oi (blocked md ops i) := by
  simp only [free6, hi, List.all_eq_true, List.mem_range, Bool.and_eq_true, beq_iff_eq] at h
  obtain ⟨⟨hown, hsz⟩, h⟩ := h
  have at_ : ∀ j oj, ops[j]? = some oj → (if (blocked md ops i).getD j false = true then (!listed.getD j false && (j == i || oj.after.any (fun e => Region.binds md e && (blocked md ops i).getD e.on false))) = true
      else (listed.getD j true || (oi.apart ops oj && (kind6 oi == 0 || kind6 oi == 1))) = true) := fun j oj hj => by
    have h1 := h j (Array.getElem?_eq_some_iff.1 hj).1
    simp only [hj] at h1
    split at h1 <;> rename_i hu
    · rw [if_pos hu]; exact h1
    · rw [if_neg hu]; exact h1
  refine ⟨hsz, hown, fun j oj hj hu hne => ?_, fun j hu => ?_, fun j oj hj hu hun => ?_⟩
  · have h1 := at_ j oj hj
    rw [if_pos hu] at h1
    simp only [Bool.and_eq_true, Bool.or_eq_true, beq_iff_eq, hne, false_or] at h1
    obtain ⟨e, he, hb⟩ := Array.any_eq_true'.1 h1.2
    simp only [Bool.and_eq_true] at hb
    exact ⟨e, he, hb.1, hb.2⟩
  · have hlt : j < ops.size := by
      rw [← hsz]
      rcases Nat.lt_or_ge j (blocked md ops i).size with h' | h'
      · exact h'
      · simp [Array.getElem?_eq_none h'] at hu
    have h1 := at_ j _ (Array.getElem?_eq_getElem hlt)
    rw [if_pos hu] at h1
    simp only [Bool.and_eq_true, Bool.not_eq_true'] at h1
    exact h1.1
  · have h1 := at_ j oj hj
    rw [if_neg (by rw [hu]; exact Bool.false_ne_true)] at h1
    simp only [hun, Bool.or_eq_true, Bool.false_eq_true, false_or, Bool.and_eq_true, beq_iff_eq] at h1
    exact h1
theorem Free6.ready {i j : Nat} {oi oj : Oper} {listed U : Array Bool} (h : Free6 md ops listed i oi U) (hj : ops[j]? = some oj) (hji : j ≠ i) (hall : ∀ e ∈ oj.after, Region.binds md e = true → listed.getD e.on false = true) : U.getD j false = false := by
  cases hu : U.getD j false with
  | false => rfl
  | true =>
    obtain ⟨e, he, hb, hue⟩ := h.wait j oj hj hu hji
    have h1 := hall e he hb
    rw [h.un e.on hue] at h1
    cases h1
theorem Free6.set {i j : Nat} {oi : Oper} {listed U : Array Bool} (h : Free6 md ops listed i oi U) (hu : U.getD j false = false) : Free6 md ops (listed.setIfInBounds j true) i oi U := by
  refine ⟨h.size, h.own, h.wait, fun k hk => ?_, fun k ok hk hku hun => h.free k ok hk hku ?_⟩
  · have hne : j ≠ k := fun e => by subst e; rw [hu] at hk; cases hk
    rw [getD_set_ne false hne]; exact h.un k hk
  · by_cases hjk : j = k
    · subst hjk
      rcases Nat.lt_or_ge j listed.size with h' | h'
      · simp [h'] at hun
      · simp [Array.getElem?_eq_none (show (listed.setIfInBounds j true).size ≤ j by simpa using h')] at hun
    · rw [getD_set_ne true hjk] at hun; exact hun
/-- may the operations be walked in this order? -/
def orderB6 (md : Region.Mode) (ops : Array Oper) : List Nat → Array Bool → Bool
  | [], listed => (Region.ready md ops listed).isEmpty
  | k :: r, listed => (Region.ready md ops listed).contains k && free6 md ops listed k && orderB6 md ops r (listed.setIfInBounds k true)
def order6 (md : Region.Mode) (ops : Array Oper) (ks : List Nat) : Bool := Region.noSelect ops && ks.length == ops.size && orderB6 md ops ks (Array.replicate ops.size false)
theorem wpAny6_first {Q : (World → Prop) → Act → Prop} {i : Nat} {oi : Oper} (hi : ops[i]? = some oi) (hsel : ∀ (j : Nat) (o : Oper) cs b, ops[j]? = some o → o.op ≠ .select cs b) :
    ∀ (fuel : Nat) (listed : Array Bool) (C : World → Prop) (a : Act) (U : Array Bool), Free6 md ops listed i oi U → i ∈ Region.ready md ops listed →
      Step6 P ops I oi a C (wpAny6 P md ops I Q fuel (listed.setIfInBounds i true)) → wpAny6 P md ops I Q (fuel + 1) listed C a := by
  intro fuel
  induction fuel with
  | zero =>
    intro listed C a U hfree hr H
    refine ⟨fun h => (by rw [h] at hr; cases hr), fun j hj o ho => ?_⟩
    by_cases hji : j = i
    · subst hji
      have : o = oi := Option.some.inj (ho.symm.trans hi)
      subst this
      exact H
    · exfalso
      have hmono := ready_mono hj hji
      obtain ⟨hjun, oj', hoj', hall⟩ := mem_ready.1 hj
      have hju := hfree.ready hoj' hji hall
      obtain ⟨_, hkind⟩ := hfree.free j oj' hoj' hju hjun
      have nil : ∀ {C' : World → Prop} {a' : Act}, wpAny6 P md ops I Q 0 (listed.setIfInBounds i true) C' a' → False := fun h => by
        rw [h.1] at hmono; cases hmono
      rcases H with ⟨_, _, _, hn⟩ | ⟨_, _, _, hn⟩ | ⟨hk, _⟩ | ⟨hk, _⟩
      · exact nil hn
      · exact nil hn
      · rcases hkind with h | h <;> rw [hk] at h <;> simp at h
      · rcases hkind with h | h <;> rw [hk] at h <;> simp at h
  | succ fuel ih =>
    intro listed C a U hfree hr H
    refine ⟨fun h => (by rw [h] at hr; cases hr), fun j hj oj hoj => ?_⟩
    by_cases hji : j = i
    · subst hji
      have : oj = oi := Option.some.inj (hoj.symm.trans hi)
      subst this
      exact H
    · obtain ⟨hjun, oj', hoj', hall⟩ := mem_ready.1 hj
      have : oj' = oj := Option.some.inj (hoj'.symm.trans hoj)
      subst this
      have hju := hfree.ready hoj' hji hall
      obtain ⟨hap, hkind⟩ := hfree.free j oj' hoj hju hjun
      obtain ⟨p1, p2, p3⟩ := Oper.apart_spec hap
      have hsi : ∀ cs b, oi.op ≠ .select cs b := fun cs b => hsel i oi cs b hi
      have hsj : ∀ cs b, oj'.op ≠ .select cs b := fun cs b => hsel j oj' cs b hoj
      have hfree' := hfree.set hju
      have hr' := ready_mono hr (Ne.symm hji)
      have next : ∀ v, (kind6 oi = 0 ∧ YieldsIn P ops (fun _ => True) oi v a ∨ kind6 oi = 1 ∧ YieldsIn P ops I oi v a) → wpAny6 P md ops I Q (fuel + 1) (listed.setIfInBounds i true) C (a.put oi.dst v) → Step6 P ops I oj' a C (wpAny6 P md ops I Q (fuel + 1) (listed.setIfInBounds j true)) := by
        intro v hy hn
        refine Step6.put (v := v) hap hsj (fun C' u h3 => ih _ C' _ U hfree' hr' ?_) (hn.2 j (ready_mono hj hji) oj' hoj)
        have h4 : wpAny6 P md ops I Q fuel ((listed.setIfInBounds j true).setIfInBounds i true) C' ((a.put oj'.dst u).put oi.dst v) := by
          rw [Array.setIfInBounds_comm _ _ hji]
          rw [Act.put_comm a v u p2] at h3
          exact h3
        have hs1 := execOp_put oi hsi a oj'.dst u p3
        have hs2 := wanted_put oi a oj'.dst u p3
        rcases hy with ⟨hk, hy⟩ | ⟨hk, hy⟩
        · exact .inl ⟨hk, v, hy.of_same hs1 hs2, h4⟩
        · exact .inr (.inl ⟨hk, v, hy.of_same hs1 hs2, h4⟩)
      rcases H with ⟨hk, v, hy, hn⟩ | ⟨hk, v, hy, hn⟩ | ⟨hk, _⟩ | ⟨hk, _⟩
      · exact next v (.inl ⟨hk, hy⟩) hn
      · exact next v (.inr ⟨hk, hy⟩) hn
      · rcases hkind with h | h <;> rw [hk] at h <;> simp at h
      · rcases hkind with h | h <;> rw [hk] at h <;> simp at h

/-- the walk in that order -/
def wpO6 (P : Program) (ops : Array Oper) (I : World → Prop) (Q : (World → Prop) → Act → Prop) : List Nat → (World → Prop) → Act → Prop
  | [], C, a => Q C a
  | k :: r, C, a => ∃ o, ops[k]? = some o ∧ Step6 P ops I o a C (wpO6 P ops I Q r)
theorem Step6.mono {o : Oper} {a : Act} {C : World → Prop} {K K' : (World → Prop) → Act → Prop} (h : Step6 P ops I o a C K) (hK : ∀ C a, K C a → K' C a) : Step6 P ops I o a C K' := by
  rcases h with ⟨hk, v, hy, hn⟩ | ⟨hk, v, hy, hn⟩ | ⟨hk, v, C', hI, hy, hn⟩ | ⟨hk, h⟩
  · exact .inl ⟨hk, v, hy, hK _ _ hn⟩
  · exact .inr (.inl ⟨hk, v, hy, hK _ _ hn⟩)
  · exact .inr (.inr (.inl ⟨hk, v, C', hI, hy, hK _ _ hn⟩))
  · refine .inr (.inr (.inr ⟨hk, ?_⟩))
    rcases h with ⟨hw, hn⟩ | ⟨hw, V, C', hs, hv, hn⟩
    · exact .inl ⟨hw, hK _ _ hn⟩
    · exact .inr ⟨hw, V, C', hs, hv, fun v hV => hK _ _ (hn v hV)⟩
theorem wpAny6_order {Q : (World → Prop) → Act → Prop} (hs : Region.noSelect ops = true) : ∀ (ks : List Nat) (listed : Array Bool) (C : World → Prop) (a : Act),
    orderB6 md ops ks listed = true → wpO6 P ops I Q ks C a → wpAny6 P md ops I Q ks.length listed C a
  | [], _, _, _, hB, h => ⟨by simpa [orderB6] using hB, h⟩
  | k :: r, listed, C, a, hB, h => by
    obtain ⟨o, ho, h⟩ := h
    simp only [orderB6, Bool.and_eq_true] at hB
    obtain ⟨⟨hr, hf⟩, hB'⟩ := hB
    exact wpAny6_first ho (Region.noSelect_spec hs) r.length listed C a _ (free6_spec ho hf) (by simpa using hr) (h.mono fun C' a' hn => wpAny6_order hs r _ C' a' hB' hn)
theorem wp_region_order6 {id : Nat} {Q : Exit → Act → World → Prop} {a : Act} {w : World} {l : List Oper} (ks : List Nat) (I : World → Prop) {C : World → Prop} (hm : P.follows .mixedOrders = true) (hB : order6 .any l.toArray ks = true) (hC : C w.drew) (hI : ∀ w, C w → I w)
    (h : wpO6 P l.toArray I (fun C a' => ∀ w', C w' → Q .normal a' w') ks C a) : (Code.region id l.toArray true).wp P Q a w := by
  simp only [order6, Bool.and_eq_true, beq_iff_eq] at hB
  refine wp_region_any hm (wpAny_of_6 (I := I) (Q := fun C a' => ∀ w', C w' → Q .normal a' w') (fun C a w' hw' h => h w' hw') _ _ C _ _ hC hI ?_)
  have := wpAny6_order (md := .any) hB.1.1 ks (Array.replicate l.toArray.size false) C a hB.2 h
  rwa [hB.1.2] at this
end
/-! one operation of the walk -/
section
variable {P : Program} {I : World → Prop} {l : List Oper} {Q : (World → Prop) → Act → Prop} {o : Oper} {k : Nat} {r : List Nat} {C : World → Prop} {a : Act}
theorem wpO6_pure (ho : l[k]? = some o) (hk : kind6 o = 0) (h : wpQuiet P l.toArray (fun _ => True) (fun a' => wpO6 P l.toArray I Q r C a') [o] a) : wpO6 P l.toArray I Q (k :: r) C a :=
  ⟨o, at_list ho, .inl ⟨hk, yields_of_quiet h⟩⟩
theorem wpO6_load {t : TypeId} {x : Operand} {ad : Addr} (v : Value) (ho : l[k]? = some o) (hop : o.op = .load t x) (hw : Region.wanted o (yielded l.toArray a.tmps) = true) (hx : a.eval x = .pointer (some ad))
    (hrun : ∀ w, I w → (Instr.loadAt t (.pointer (some ad))).run P w = .ok v w) (h : wpO6 P l.toArray I Q r C (a.put o.dst v)) : wpO6 P l.toArray I Q (k :: r) C a := by
  refine ⟨o, at_list ho, .inr (.inl ⟨by simp [kind6, kind3, pureOp, hop], v, .inl ⟨hw, fun w hC => ?_⟩, h⟩)⟩
  unfold Oper.quietAt execOp
  simp only [hop, hx]
  rw [Sem.run_bind, hrun w hC]
  exact ⟨rfl, rfl⟩
theorem wpO6_build {t : TypeId} {xs : Array (Nat × Operand)} (v : Value) (ho : l[k]? = some o) (hop : o.op = .build t xs) (hw : Region.wanted o (yielded l.toArray a.tmps) = true)
    (hrun : ∀ w, I w → (execOp a.eval o).run P w = .ok (.value v) w) (h : wpO6 P l.toArray I Q r C (a.put o.dst v)) : wpO6 P l.toArray I Q (k :: r) C a := by
  refine ⟨o, at_list ho, .inr (.inl ⟨by simp [kind6, hop], v, .inl ⟨hw, fun w hC => ?_⟩, h⟩)⟩
  unfold Oper.quietAt
  rw [hrun w hC]
  exact ⟨rfl, rfl⟩
theorem wpO6_call (V : Value → Prop) (C' : Value → World → Prop) {f : FuncId} {args : Array Value} (ho : l[k]? = some o) (hk : kind6 o = 3) (hw : Region.wanted o (yielded l.toArray a.tmps) = true) (hsub : ∀ v w, C' v w → I w)
    (hrun : ∀ w, (execOp a.eval o).run P w = .ok (.enter f args) w) (hc : ∀ w, C w → Calls P f args w fun e w'' => ∃ v, e = .returned v ∧ V v ∧ C' v w'') (h : ∀ v, V v → wpO6 P l.toArray I Q r (C' v) (a.put o.dst v)) : wpO6 P l.toArray I Q (k :: r) C a :=
  ⟨o, at_list ho, .inr (.inr (.inr ⟨hk, .inr ⟨hw, V, C', hsub, fun w hC => by rw [hrun w]; exact hc w hC, h⟩⟩))⟩
theorem wpO6_store (C' : World → Prop) {t : TypeId} {x y : Operand} (ho : l[k]? = some o) (hop : o.op = .store t x y) (hd : o.dst = none) (hg : o.guard = none) (ad : Addr) (v : Value) (hx : a.eval x = .pointer (some ad)) (hy : a.eval y = v) (hsub : ∀ w, C' w → I w)
    (hrun : ∀ w, C w → ∃ w', (Instr.storeAt t (.pointer (some ad)) v).run P w = .ok () w' ∧ C' w') (h : wpO6 P l.toArray I Q r C' a) : wpO6 P l.toArray I Q (k :: r) C a := by
  refine ⟨o, at_list ho, .inr (.inr (.inl ⟨by simp [kind6, kind3, pureOp, hop], undef, C', hsub, .inl ⟨by simp [Region.wanted, hg], fun w hw => ?_⟩, ?_⟩))⟩
  · obtain ⟨w', hr, hc⟩ := hrun w hw
    unfold execOp
    simp only [hop, hx, hy]
    rw [Sem.run_bind, hr]
    exact ⟨rfl, hc⟩
  · rw [hd]; exact h
end
end Go.Proofs.YtfdbcfkjablnkaaGreat

namespace Go.Proofs.YtfdbcfkjablnkaaGreat
open Go.RowKit Go.Shelf
set_option maxRecDepth 100000
attribute [local go_sem] Oper.semAt_some

theorem NumsS.putObj {k : IntKind} {V : World} {S : Nat → Prop} {l : Nat} {a : Option Addr} {zs : List Int} {o : Obj} (h : NumsS k V S a zs) (ho : V.heap[l]? = some o) (hc : o.isCells = false) (o' : Obj) : NumsS k (V.putObj l o') S a zs := fun hn => by
  obtain ⟨b, off, e, hb, hcl⟩ := h hn
  refine ⟨b, off, e, hb, fun j c hj => ?_⟩
  have h1 := hcl j c hj
  obtain ⟨o2, h2, h3⟩ := cells_of_cell h1
  refine (World.cell?_of_block (World.putObj_heap_other (fun e => ?_))).trans h1
  simp only at h2 e
  subst e
  rw [ho] at h2
  injection h2 with h2
  subst h2
  rw [hc] at h3; cases h3
/-- what Missing answers: a function over a slice of new memory -/
def MissR (w : World) (L : List Int) (e : Ending) (w' : World) : Prop :=
  ∃ Bv A cp, e = .returned (.func (.func 107) #[] #[.pointer (some ⟨Bv, 0, none⟩)]) ∧ Below w.heap.size w w' ∧ w.heap.size ≤ Bv ∧ Boxed w' Bv 159 (.slice A L.length cp) ∧ L.length ≤ cp ∧ NumsS .i64 w' (fun g => w.heap.size ≤ g ∧ g < Bv) A L
structure MsS (w : World) (b0 : Nat) (v : Option Addr) (LM : List Int) (j : Nat) (V : World) : Prop where
  out : ∃ u, Boxed V b0 159 u ∧ V.ownsRow w.heap.size 3 1 u (LM.take j).length ((LM.take j).map (Value.int .i64))
  box : Boxed V (b0 + 1) 114 (.pointer v)
  below : Below w.heap.size w V
section
variable {w V : World} {b0 j : Nat} {v : Option Addr} {LM : List Int}
theorem MsS.put (h : MsS w b0 v LM j V) (hb : w.heap.size = b0) {l : Nat} {o : Obj} (hl : b0 + 2 ≤ l) (ho : V.heap[l]? = some o) (hc : o.isCells = false) (o' : Obj) : MsS w b0 v LM j (V.putObj l o') := by
  obtain ⟨v, h1, h2⟩ := h.out
  exact ⟨⟨v, (World.putObj_heap_other (by omega)).trans h1, ownsRow_putObj h2 _ ho hc⟩, (World.putObj_heap_other (by omega)).trans h.box, h.below.trans (below_put V o' (by omega))⟩
end
set_option maxHeartbeats 4000000 in
theorem smissing_go (v : Option Addr) (LM : List Int) (hl : LM.length ≤ 255) (w : World)
    (hI : ∀ (l Bs : Nat) (J : Nat → World → Prop) (Jx : World → Prop), (∀ j W, J j W → W.cell? ⟨Bs, 0, none⟩ = some (.pointer v) ∧ Below w.heap.size w W) →
      (∀ (j : Nat) (x : Int) (W : World), J j W → LM[j]? = some x → YieldAt Fence.wide 1 Tryz.prog l #[.int .i64 x] W fun e W' => (e = .returned (.bool true) ∧ J (j + 1) W') ∨ (e = .returned (.bool false) ∧ Jx W')) →
      ∀ W, J 0 W → CallsIn Fence.wide 2 Tryz.prog 106 #[.func (.yield l) #[] #[], .pointer (some ⟨Bs, 0, none⟩)] W fun e W' => (∃ v, e = .returned v) ∧ (J LM.length W' ∨ Jx W')) :
    Calls Tryz.prog 73 #[.pointer v] w (MissR w LM) := by
  obtain ⟨j0, hi, hj0, hj1, hj2⟩ := info_parts intInfo
  have HI := Lib.hid hI
  clear hI
  generalize hG : MissR w LM = G
  have HG := Lib.hid hG
  clear hG
  refine (callsIn_wide (n := 3)).1 ?_
  refine callsIn_of_wp_marks Tryz.func73 rfl trivial ?_ rfl
  simp only [Tryz.ntmps73, List.size_toArray, List.length_cons, List.length_nil, Nat.reduceAdd, Nat.reduceSub, Array.replicate_succ, Array.replicate_zero, List.push_toArray, List.append_toArray, List.nil_append, List.cons_append]
  obtain ⟨w1, hw1⟩ : ∃ w1, w.alloc (Obj.cells #[Value.slice none 0 0] 159) = w1 := ⟨_, rfl⟩
  have hs1 : w1.heap.size = w.heap.size + 1 := by rw [← hw1]; simp
  have hb1 : Below w.heap.size w w1 := by rw [← hw1]; exact (Below.refl _ w).alloc (Nat.le_refl _) _
  have bL1 : Boxed w1 w.heap.size 159 (.slice none 0 0) := by rw [← hw1]; exact Boxed.new w _ _
  have K := sempty_any v w1
  obtain ⟨b0, hb0⟩ : ∃ b0, w.heap.size = b0 := ⟨_, rfl⟩
  have HB0 := Lib.hid hb0
  gi_wp2_with fail
  clear hw1
  refine ⟨trivial, ?_⟩
  refine (callsIn_wide.2 K).mono ?_
  rintro e w2 ⟨rfl, hw2⟩
  clear K
  have hs2 : w2.heap.size = w1.heap.size + 1 := by rw [hw2]; simp
  have bC2 : Boxed w2 w1.heap.size 114 (.pointer v) := by rw [hw2]; exact Boxed.new w1 _ _
  have hb12 : Below w1.heap.size w1 w2 := by rw [hw2]; exact (Below.refl _ w1).alloc (Nat.le_refl _) _
  clear hw2
  have hb2 : Below w.heap.size w w2 := hb1.trans (hb12.mono (by omega))
  have bL2 : Boxed w2 w.heap.size 159 (.slice none 0 0) := (hb12.block _ (by omega)).trans bL1
  rw [hb0] at hs1 bL2
  rw [hs1] at bC2 hs2 ⊢
  clear hb1 hb12 bL1 hs1
  have hM0 : MsS w b0 v LM 0 w2 := ⟨⟨_, bL2, by rw [List.take_zero]; exact World.ownsRow_nil _ _ _ _⟩, bC2, hb2⟩
  clear bL2 bC2 hb2
  gi_wp2_with fail
  refine range_stops rfl (by omega) (gf := 106) (lb := #[.pointer (some ⟨b0 + 1, 0, none⟩)]) rfl trivial (enters_of Tryz.func106 (by kernel_rfl) rfl)
    (fun x : Int => #[Value.int .i64 x]) (fun _ => rfl)
    (fun j x V => MsS w b0 v LM j V ∧ LM[j]? = some x)
    (fun j V => MsS w b0 v LM j V)
    (fun _ _ => False) (fun _ _ => True) LM.length
    (fun j x V l o o' h hl ho hc' => ⟨h.1.put HB0.out (by omega) ho hc' o', h.2⟩)
    (fun j V l o o' h hl ho hc' => h.put HB0.out (by omega) ho hc' o')
    (fun _ _ _ _ _ h _ _ _ => h)
    (fun _ _ _ _ _ => trivial) (fun _ _ _ _ _ _ _ => trivial)
    (fun o => ?_) ?a1 ?assign ?body ?iter ?done ?stop
  · obtain ⟨v, h1, h2⟩ := hM0.out
    exact ⟨⟨v, (h1.alloc _).alloc _, (h2.alloc _).alloc _⟩, (hM0.box.alloc _).alloc _, (hM0.below.alloc hM0.below.size _).alloc (by have := hM0.below.size; simp; omega) _⟩
  case assign =>
    intro l x V K hK
    gi_wp2
    exact hK
  case body =>
    rintro l j x V hl ⟨hM, hx⟩ hj
    obtain ⟨u, hO, hR⟩ := hM.out
    have hside := hM.box
    have hbe := hM.below
    have kO := hO.cell
    have hszV := hO.lt
    have hbs := hbe.size
    have hlt : (LM.take j).length ≤ 255 := by rw [List.length_take]; omega
    have hnx : LM.take (j + 1) = LM.take j ++ [x] := by rw [List.take_add_one, hx]; rfl
    obtain ⟨L0, hL0⟩ : ∃ L0, LM.take j = L0 := ⟨_, rfl⟩
    rw [hL0] at hR hlt hnx
    have HNX := Lib.hid hnx
    clear hL0
    have HN1 := Lib.hid (Nums.new .i64 V 3 [x] #[.int .i64 x] rfl)
    have HO := Lib.hid hO
    have HR := Lib.hid hR
    have HS := Lib.hid hside
    have HB := Lib.hid hbe
    clear hM hM0 hO hR hside hbe hnx hb0 hx
    gi_wp2_with (gi_at_builtin; refine wpListIn_append_any rfl (.tmp 8) (.tmp 10) 159 rfl w.heap.size 3 j0 (.int .i64 0) 8 Tryz.underlying159 hi hj0 hj1 hj2 rfl .i64 _ _ [x] u rfl (HR.out.alloc _) (some ⟨V.heap.size, 0, none⟩) 1 1 _ rfl rfl HN1.out ?c1 ?c2 ?c3 ?_)
    case c1 => unfold maxLen; omega
    case c2 => omega
    case c3 => rw [World.size_alloc]; omega
    intro v1 w4 hown1 hg1
    have hg2 := grown_of_alloc hg1
    obtain ⟨g1, cap1, rfl⟩ := ownsRow_succ hown1
    have hnr : some b0 ≠ u.ownBlock := HO.out.not_row (by decide) HR.out
    have bO4 : Boxed w4 b0 159 u := HO.out.kept hg2 hnr
    have kO4 := bO4.cell
    have fO4 := bO4.frozen
    have hnr4 : some b0 ≠ (Value.slice (some ⟨g1, 0, none⟩) (L0.length + 1) cap1).ownBlock := bO4.not_row (show (159 : Nat) ≠ 3 by decide) hown1
    have hside4 : Boxed w4 (b0 + 1) 114 (.pointer v) := HS.out.kept hg2 (HS.out.not_row (by decide) HR.out)
    have hbe4 : Below w.heap.size w w4 := HB.out.grown hg2 hbs (fun g hg => (HR.out.lt g hg).1)
    have hko : KeepsOthers V w4 := KeepsOthers.of_grownBy hg2 fun j o ej hj => by
      rcases HR.out.2 with ⟨rfl, _⟩ | ⟨g, cap, cur, rfl, _, hgb, _⟩
      · simp [Value.ownBlock] at ej
      · obtain rfl : g = j := by simpa [Value.ownBlock] using ej
        rw [hgb] at hj; cases hj; rfl
    have HF : Hid (KeepsFrom w2.heap.size V (w4.setCell ⟨b0, 0, none⟩ (.slice (some ⟨g1, 0, none⟩) (L0.length + 1) cap1)) ∧ MsS w b0 v LM (j + 1) (w4.setCell ⟨b0, 0, none⟩ (.slice (some ⟨g1, 0, none⟩) (L0.length + 1) cap1))) := by
      refine ⟨(hko.trans (KeepsOthers.setCell _ _ _)).from _, ⟨_, bO4.set _, ?_⟩, hside4.other (by omega) _, hbe4.setCell (p := ⟨b0, 0, none⟩) (Nat.le_of_eq HB0.out) _⟩
      rw [HNX.out, List.length_append, List.map_append]
      exact hown1.kept (grownBy_setCell' w4 b0 _) (.inr hnr4.symm)
    clear hown1 hg1 hg2 hside4 hbe4 hko hnr hnr4 bO4 HN1 HO HR HS HB
    gi_wp2
    exact ⟨HF.out.1, HF.out.2, trivial⟩
  case iter =>
    intro Bk X l V hBk hBlt hX hlw hD hB hY
    refine (HI.out l (b0 + 1) (fun k V => MsS w b0 v LM k V ∧ Bk V) X ?_ ?_ V ⟨hD, hB⟩).mono ?_
    · rintro k W ⟨h1, _⟩
      exact ⟨h1.box.cell, h1.below⟩
    · rintro k x W ⟨h1, h2⟩ hx
      refine (hY _ _ W ⟨h1, hx⟩ h2 (List.getElem?_eq_some_iff.1 hx).1).mono ?_
      rintro e V2 (⟨rfl, hd, _, _⟩ | ⟨rfl, hx, _⟩)
      · exact .inl ⟨rfl, hd⟩
      · exact .inr ⟨rfl, hx⟩
    · exact fun _ _ h => h
  case done =>
    rintro D V hD hM hK
    obtain ⟨u, hO, hR⟩ := hM.out
    rw [List.take_length] at hR
    have hbe := hM.below
    have kO := hO.cell
    have hbv := hbe.size
    have hwD : w.heap.size ≤ D := by omega
    have hDlt := (Array.getElem?_eq_some_iff.1 hK).1
    obtain ⟨A, c, rfl, hc, hnum⟩ := MadeK.slice ⟨hR, hbe⟩
    have hnS := MadeK.numsS ⟨hR, hbe⟩ rfl
    have KV := values_any A LM.length c V
    have HBE := Lib.hid hbe
    have HK := Lib.hid hK
    have HNS := Lib.hid hnS
    have HC := Lib.hid hc
    clear hM hM0 hb0 hbe hK hO hR hnum hnS hc
    obtain ⟨q, hq⟩ : ∃ q, LM.length = q := ⟨_, rfl⟩
    rw [hq] at KV kO HC hl
    have HQ := Lib.hid hq
    clear hq
    gi_wp2_with fail
    refine ⟨trivial, ?_⟩
    refine (callsIn_wide.2 KV).mono ?_
    rintro e V1 ⟨rfl, hV1⟩
    have hb1 : Below V.heap.size V V1 := by rw [hV1]; exact (Below.refl _ V).alloc (Nat.le_refl _) _
    have hbx : Boxed V1 V.heap.size 159 (.slice A q c) := by rw [hV1]; exact Boxed.new V _ _
    have hK1 := (hb1.block D hDlt).trans HK.out
    have HFIN : Hid (G (.returned (.func (.func 107) #[] #[.pointer (some ⟨V.heap.size, 0, none⟩)])) (V1.putObj D (.deferred none))) := by
      rw [← HG.out]
      refine ⟨V.heap.size, A, c, rfl, (HBE.out.trans (hb1.mono hbv)).trans (below_put V1 _ hwD), hbv, by rw [HQ.out]; exact (World.putObj_heap_other (by omega)).trans hbx, by rw [HQ.out]; exact HC.out, ?_⟩
      exact (HNS.out.keeps (KeepS.of_below hb1 fun k hk => hk.2)).putObj hK1 rfl _
    clear hV1 hb1 hbx KV kO
    gi_wp2
    refine ⟨by simp, .inl ⟨_, _, rfl, run_takeDeferred hK1, ?_⟩⟩
    refine ⟨_, results_tmp rfl _ _ _, ?_⟩
    exact HFIN.out
  case stop =>
    rintro D cd W' _ h _
    exact h.elim
/-- the empty places as ints -/
def misZ (C : Sl.Ct) (n : Nat) : List Int := (Sl.mis C n).map fun (i : Nat) => (i : Int)
theorem misZ_len (C : Sl.Ct) (n : Nat) : (misZ C n).length = (Sl.mis C n).length := by simp [misZ]
theorem smissing_any {w : World} {b m : Nat} {v k s : Int} {n : Nat} {E : List Pl} (h : SlotAt w b m v k s (n : Int) E) :
    Calls Tryz.prog 73 #[.pointer (some ⟨b, 0, none⟩)] w (MissR w (misZ (E.map Pl.ct) n)) := by
  have n2 : n ≤ 255 := by
    obtain ⟨n', hn', _, n2, _, _⟩ := h.count
    omega
  have hfew := Sl.mis_few (E.map Pl.ct) n
  refine smissing_go (some ⟨b, 0, none⟩) _ (by rw [misZ_len]; omega) w fun l Bs J Jx hJ hY W h0 => ?_
  rw [misZ_len]
  refine sempty_in 2 (by omega) 1 l Bs b m v k s (n : Int) E n rfl n2 (fun j W => J (Sl.mis (E.map Pl.ct) j).length W) Jx (fun j W hj => ?_) (fun j W hj hjn hb => ?_) (fun j W hj hjn hb => ?_) W h0
  · obtain ⟨h1, h2⟩ := hJ _ W hj
    exact ⟨h1, h.below h2⟩
  · simp only [Sl.mis_stay hb]
    exact hj
  · simp only [Sl.mis_step hb, List.length_append, List.length_cons, List.length_nil]
    refine hY _ _ W hj ?_
    unfold misZ
    rw [List.getElem?_map, Sl.mis_at hb n hjn]
    rfl
end Go.Proofs.YtfdbcfkjablnkaaGreat

namespace Go.Proofs.YtfdbcfkjablnkaaGreat
open Go.RowKit
set_option maxRecDepth 100000

theorem same_lens (a1 a2 : Option Addr) (n1 n2 c1 c2 : Nat) (w : World) (h : n1 ≠ n2) :
    Calls Tryz.prog 26 #[.slice a1 n1 c1, .slice a2 n2 c2] w fun e w' => e = .returned (.bool false) ∧ ∃ n, w' = w.drewN n := by
  have h2 : ((n1 : Int) != (n2 : Int)) = true := by simp; omega
  have h3 : ¬ (n1 : Int) = (n2 : Int) := by omega
  go_enter Tryz.func26, Tryz.ntmps26
  go_wp2
  go_ret
  exact ⟨rfl, 0, rfl⟩

/-- Same of any two lists -/
theorem same_any (B : Nat) (a1 a2 : Option Addr) (n1 n2 c1 c2 : Nat) (xs ys : List Int) (w : World) (e1 : xs.length = n1) (e2 : ys.length = n2) (l1 : n1 ≤ 9223372036854775807) (h1 : Nums .u8 w B a1 xs) (h2 : Nums .u8 w B a2 ys) :
    Calls Tryz.prog 26 #[.slice a1 n1 c1, .slice a2 n2 c2] w fun e w' => e = .returned (.bool (decide (xs = ys))) ∧ ∃ n, w' = w.drewN n := by
  by_cases hl : n1 = n2
  · subst hl
    have HE1 := Lib.hid e1
    have HE2 := Lib.hid e2
    clear e1 e2
    go_enter Tryz.func26, Tryz.ntmps26
    go_wp2
    go_loopw [5] (fun i wr => ∃ k : Nat, k ≤ n1 ∧ i = .int .i64 k ∧ Hid (xs.take k = ys.take k) ∧ ∃ n, wr = w.drewN n) (fun i _ => n1 - (intOf i).toNat)
    case atStart => exact ⟨0, by omega, rfl, rfl, 0, rfl⟩
    case round =>
      obtain ⟨k, hk, rfl, HT, n, rfl⟩ := hrel
      by_cases hlt : k < n1
      · obtain ⟨x, hx⟩ : ∃ x, xs[k]? = some x := ⟨_, List.getElem?_eq_getElem (by rw [HE1.out]; exact hlt)⟩
        obtain ⟨y, hy⟩ : ∃ y, ys[k]? = some y := ⟨_, List.getElem?_eq_getElem (by rw [HE2.out]; exact hlt)⟩
        obtain ⟨b1, o1, rfl, hb1, hc1⟩ := h1.open hx
        obtain ⟨b2, o2, rfl, hb2, hc2⟩ := h2.open hy
        have HX := Lib.hid hx
        have HY := Lib.hid hy
        clear h1 h2 hx hy
        have hlt' : (k : Int) < (n1 : Int) := by omega
        by_cases hxy : x = y
        · have hq : (x != y) = false := by simp [hxy]
          have HQ : Hid (xs.take (k + 1) = ys.take (k + 1)) := by
            show _ = _
            rw [List.take_add_one, List.take_add_one, HT.out, HX.out, HY.out, hxy]
          subst hxy
          go_wp2
          go_quiet (fail)
          go_wp2
          go_roundw
          case rel => exact ⟨k + 1, by omega, by go_num, HQ, _, rfl⟩
          case measure => simp [intOf]; omega
        · have hq : (x != y) = true := by simp [hxy]
          have HQ : Hid (¬ xs = ys) := fun e => hxy (by
            have h3 := HX.out
            rw [e, HY.out] at h3
            exact (Option.some.inj h3).symm)
          have HN := Lib.hid hxy
          clear hxy
          go_wp2
          go_quiet (fail)
          go_wp2
          go_ret
          exact ⟨by rw [decide_eq_false HQ.out]; rfl, n + nq, by simp [World.drewN, Nat.add_assoc]⟩
      · have hk' : k = n1 := by omega
        have HQ : Hid (xs = ys) := by
          have h3 := HT.out
          rw [List.take_of_length_le (by rw [HE1.out]; omega), List.take_of_length_le (by rw [HE2.out]; omega)] at h3
          exact h3
        go_wp2
        go_ret
        exact ⟨by rw [decide_eq_true HQ.out]; rfl, n, rfl⟩
  · refine (same_lens a1 a2 n1 n2 c1 c2 w hl).mono ?_
    rintro e w' ⟨rfl, hd⟩
    exact ⟨by rw [decide_eq_false (fun e => hl (by rw [← e1, ← e2, e]))], hd⟩
end Go.Proofs.YtfdbcfkjablnkaaGreat

namespace Go.Proofs.YtfdbcfkjablnkaaGreat
open Go.RowKit Go.Shelf
set_option maxRecDepth 100000
attribute [local go_sem] Oper.semAt_some

namespace Sl
theorem mis_mono (C : Ct) : ∀ {p q : Nat}, p ≤ q → (mis C p).length ≤ (mis C q).length
  | p, 0, h => by obtain rfl : p = 0 := by omega
                  exact Nat.le_refl _
  | p, q + 1, h => by
    by_cases hp : p = q + 1
    · subst hp; exact Nat.le_refl _
    · have := mis_mono C (p := p) (q := q) (by omega)
      rw [mis_succ, List.length_append]
      omega
/-- the next empty place behind p -/
theorem mis_next {C : Ct} {n p j q : Nat} (hj : (mis C n)[j]? = some q) (hp : (mis C p).length = j) : q < n ∧ has C q = false ∧ p ≤ q ∧ (mis C (q + 1)).length = j + 1 ∧ ∀ i, p ≤ i → i < q → has C i = true := by
  have hm := List.mem_of_getElem? hj
  unfold mis at hm
  rw [List.mem_filter, List.mem_range] at hm
  obtain ⟨hq, hh⟩ := hm
  have hh' : has C q = false := by simpa using hh
  have h1 := mis_at hh' n hq
  have hnd : (mis C n).Nodup := (List.filter_sublist).nodup List.nodup_range
  have b1 := (List.getElem?_eq_some_iff.1 h1).1
  have hlen : (mis C q).length = j := (List.getElem?_inj b1 hnd).1 (h1.trans hj.symm)
  have hs : (mis C (q + 1)).length = j + 1 := by rw [mis_step hh', List.length_append, hlen]; rfl
  refine ⟨hq, hh', ?_, hs, fun i hi hiq => ?_⟩
  · rcases Nat.lt_or_ge q p with h | h
    · have := mis_mono C (p := q + 1) (q := p) h
      omega
    · exact h
  · cases hc : has C i with
    | true => rfl
    | false =>
      have e1 : (mis C (i + 1)).length = (mis C i).length + 1 := by rw [mis_step hc, List.length_append]; rfl
      have e2 := mis_mono C hi
      have e3 := mis_mono C (p := i + 1) (q := q) hiq
      omega
/-- behind the last empty place none is empty -/
theorem mis_rest {C : Ct} {n p : Nat} (hp : (mis C p).length = (mis C n).length) {i : Nat} (h1 : p ≤ i) (h2 : i < n) : has C i = true := by
  cases hc : has C i with
  | true => rfl
  | false =>
    have e1 : (mis C (i + 1)).length = (mis C i).length + 1 := by rw [mis_step hc, List.length_append]; rfl
    have e2 := mis_mono C h1
    have e3 := mis_mono C (p := i + 1) (q := n) h2
    omega
end Sl
section
variable {P : Program} {l : List Oper} {fs : List Tmp} {FS : Tmp → Value → World → Prop} {I : World → Prop} {E : Act → Prop} {o : Oper} {rest : List Oper} {a : Act}
/-- an operation that its guard passes over -/
theorem wpF_skip (hn : noB l.toArray fs o = true) (hw : Region.wanted o (yielded l.toArray a.tmps) = false) (h : wpF P l.toArray I fs FS E rest (a.put o.dst undef)) : wpF P l.toArray I fs FS E (o :: rest) a := by
  obtain ⟨h1, h2⟩ := noB_spec hn
  exact ⟨undef, .inl ⟨h1, h2, .inr ⟨hw, rfl⟩⟩, h⟩
end
/-- the law's two variables that the loops' bodies turn: how far it is, in box bi; whether all is right, in box bi + 1 -/
structure LkS (w4 : World) (bi : Nat) (i : Nat) (V : World) : Prop where
  at' : Boxed V bi 3 (.int .i64 (i : Int))
  ok : Boxed V (bi + 1) 4 (.bool true)
  off : Off (fun k => k = bi ∨ k = bi + 1) w4 V
section
variable {w4 V V' : World} {bi i : Nat}
theorem LkS.below (h : LkS w4 bi i V) (hb : bi + 1 < w4.heap.size) (hB : Below w4.heap.size V V') : LkS w4 bi i V' :=
  ⟨(hB.block bi (by omega)).trans h.at', (hB.block (bi + 1) hb).trans h.ok, off_below h.off hB⟩
theorem LkS.next (h : LkS w4 bi i V) : LkS w4 bi (i + 1) (V.setCell ⟨bi, 0, none⟩ (.int .i64 ((i : Int) + 1))) :=
  ⟨by have := Boxed.set (.int .i64 ((i : Int) + 1)) h.at'; rw [Int.natCast_succ]; exact this, h.ok.other (by omega) _, h.off.setCell (p := ⟨bi, 0, none⟩) (.inl rfl) _⟩
theorem LkS.right (h : LkS w4 bi i V) : LkS w4 bi i (V.setCell ⟨bi + 1, 0, none⟩ (.bool true)) :=
  ⟨h.at'.other (by omega) _, h.ok.set _, h.off.setCell (p := ⟨bi + 1, 0, none⟩) (.inr rfl) _⟩
end
/-- the number in box b -/
def inBoxS (b : Nat) (W : World) : Nat := (intOf ((W.cell? ⟨b, 0, none⟩).getD undef)).toNat
theorem LkS.num {w4 V : World} {bi i : Nat} (h : LkS w4 bi i V) : inBoxS bi V = i := by
  unfold inBoxS
  rw [h.at'.cell]
  simp [intOf]
theorem keeps_below {V V1 : World} (hb : Below V.heap.size V V1) : KeepsOthers V V1 := ⟨hb.size, fun k _ ho _ => (hb.block k (Array.getElem?_eq_some_iff.1 ho).1).trans ho⟩
set_option maxHeartbeats 8000000 in
theorem salike_full {w : World} {b m : Nat} {v k s : Int} {q : Nat} {E : List Pl} (h : SlotAt w b m v k s (q : Int) E) {A : Option Addr} {n cp : Nat} {fs : List Fr} (hr : RefAt w (q : Int) A n cp fs) (hp : (E.map Pl.ct).Perm (fs.map Fr.ct)) (hfull : n = q) :
    Calls Tryz.prog 69 #[.pointer (some ⟨b, 0, none⟩), frV v k s 0 (q : Int) (.slice A n cp)] w fun e w' => e = .returned (.bool true) ∧ Below w.heap.size w w' := by
  obtain ⟨w1, hw1⟩ : ∃ w1, w.alloc (.cells (frC v k s 0 (q : Int) (.slice A n cp)) 84) = w1 := ⟨_, rfl⟩
  have hb1 : Below w.heap.size w w1 := by rw [← hw1]; exact (Below.refl _ w).alloc (Nat.le_refl _) _
  have hs1 : w1.heap.size = w.heap.size + 1 := by rw [← hw1]; simp
  have hx1 : w1.heap[w.heap.size]? = some (.cells (frC v k s 0 (q : Int) (.slice A n cp)) 84 (0, 0)) := by rw [← hw1]; exact World.alloc_heap_new _ _
  have HW1 : Hid (w.alloc (.cells #[.int .i64 v, .int .i64 k, .int .u32 s, .int .i64 0, .int .i64 (q : Int), .slice A n cp] 84) = w1) := Lib.hid hw1
  have HX : Hid (∀ W, Below w1.heap.size w1 W → SlotAt W b m v k s (q : Int) E ∧ RefAt W (q : Int) A n cp fs ∧ W.heap[w.heap.size]? = some (.cells (frC v k s 0 (q : Int) (.slice A n cp)) 84 (0, 0))) :=
    Lib.hid fun W hW => ⟨(h.below hb1).below hW, (hr.below hb1).below hW, (hW.block _ (by omega)).trans hx1⟩
  obtain ⟨q', hq', q1, q2, hEq, _⟩ := h.count
  obtain rfl : q' = q := by omega
  have hlE : E.length = n := by have := hp.length_eq; simp at this; rw [this, hr.len]
  have hcat := Sl.cat_perm hp h.keys E.length
  have htot := Sl.tot_perm hp
  have hmis := Sl.mis_perm hp q'
  have hHas := Lib.hid (Sl.has_perm hp)
  have KB := sbytes_any (HX.out w1 (Below.refl _ _)).1
  have HB1 := Lib.hid hb1
  have HS1 := Lib.hid hs1
  have HLE := Lib.hid hlE
  have HCAT := Lib.hid hcat
  have HTOT := Lib.hid htot
  have HMIS := Lib.hid hmis
  have hn0 : n ≤ 255 := hr.few_len
  have HFU := Lib.hid hfull
  clear hfull
  clear h hr hp hw1 hb1 hs1 hx1 hq' hlE hcat htot hmis hEq
  unfold frV frC at *
  unfold BytesR at KB
  rw [HCAT.out, HLE.out] at KB
  refine (callsIn_wide (n := 3)).1 ?_
  refine callsIn_of_wp_marks Tryz.func69 rfl trivial ?_ rfl
  simp only [Tryz.ntmps69, List.size_toArray, List.length_cons, List.length_nil, Nat.reduceAdd, Nat.reduceSub, Array.replicate_succ, Array.replicate_zero, List.push_toArray, List.append_toArray, List.nil_append, List.cons_append]
  gi_wp2_with fail
  refine ⟨trivial, ?_⟩
  rw [HW1.out]
  refine (callsIn_wide.2 KB).mono ?_
  rintro e w2 ⟨hb2, hor⟩
  have hFull : Calls Tryz.prog 45 #[.agg #[.int .i64 v, .int .i64 k, .int .u32 s, .int .i64 0, .int .i64 (q' : Int), .slice A n cp]] w2 fun e w' => e = .returned (.bool ((n : Int) == (q' : Int))) ∧ Below w2.heap.size w2 w' := rfull_any v k s 0 (by omega)
  obtain ⟨_, _, hx2⟩ := HX.out w2 hb2
  obtain ⟨d0, d1, d2, d3, d4, d5⟩ := fr_block hx2
  obtain ⟨heq, A2, c2, rfl, hc2, hnum2⟩ := (hor.resolve_left fun h => by
    have := h.1
    have := HFU.out
    omega)
  have e1 : ((n : Int) == (q' : Int)) = true := by rw [heq]; simp
  have HN2 := Lib.hid hnum2
  have HCL : Hid ((Sl.cat (fs.map Fr.ct) n).length ≤ 48960) := Lib.hid (by
    have h1 := Sl.cat_len (fs.map Fr.ct) n
    have h2 : n * Sl.tot (fs.map Fr.ct) ≤ 255 * 192 := Nat.mul_le_mul hn0 (HX.out w1 (Below.refl _ _)).2.1.most
    omega)
  have HC : Hid (Sl.cat (fs.map Fr.ct) q' = Sl.cat (fs.map Fr.ct) n) := Lib.hid (by have := HFU.out; congr 1; omega)
  generalize Sl.cat (fs.map Fr.ct) n = CAT at *
  clear hnum2 heq
  rw [e1] at hFull
  have HB2 := Lib.hid hb2
  have HEQ : Hid (((n : Int) == (q' : Int)) = true) := Lib.hid e1
  clear KB hb2 e1 hx2 hor
  gi_wp2_with fail
  refine ⟨trivial, ?_⟩
  refine (callsIn_wide.2 hFull).mono ?_
  rintro e w3 ⟨rfl, hb3⟩
  clear hFull d0 d1 d2 d3 d4 d5
  have hb13 := HB2.out.trans (hb3.mono HB2.out.size)
  have HI3 : Hid (∀ V, Below w3.heap.size w3 V → Below w1.heap.size w1 V) := Lib.hid fun V hV => hb13.trans (hV.mono hb13.size)
  have LH : ∀ V, Below w3.heap.size w3 V → (Instr.loadAt 50 (.pointer (some ⟨w.heap.size, 0, none⟩))).run Tryz.prog V = .ok (Value.agg #[.int .i64 v, .int .i64 k, .int .u32 s, .int .i64 0, .int .i64 (q' : Int)]) V := fun V hV => by
    obtain ⟨_, _, hx⟩ := HX.out V (HI3.out V hV)
    obtain ⟨d0, d1, d2, d3, d4, d5⟩ := fr_block hx
    simp [Instr.loadAt, go_sem, d0, d1, d2, d3, d4]
  have LL : ∀ V, Below w3.heap.size w3 V → (Instr.loadAt 82 (.pointer (some ⟨w.heap.size, 5, none⟩))).run Tryz.prog V = .ok (.slice A n cp) V := fun V hV => by
    obtain ⟨_, _, hx⟩ := HX.out V (HI3.out V hV)
    obtain ⟨d0, d1, d2, d3, d4, d5⟩ := fr_block hx
    simp [Instr.loadAt, go_sem, d5]
  have LS : ∀ V, Below w3.heap.size w3 V → (Instr.loadAt 84 (.pointer (some ⟨w.heap.size, 0, none⟩))).run Tryz.prog V = .ok (Value.agg #[.int .i64 v, .int .i64 k, .int .u32 s, .int .i64 0, .int .i64 (q' : Int), .slice A n cp]) V := fun V hV => by
    obtain ⟨_, _, hx⟩ := HX.out V (HI3.out V hV)
    obtain ⟨d0, d1, d2, d3, d4, d5⟩ := fr_block hx
    simp [Instr.loadAt, go_sem, d0, d1, d2, d3, d4, d5]
  have KH : Hid (∀ V, Below w3.heap.size w3 V → Calls Tryz.prog 92 #[.pointer (some ⟨b, 0, none⟩)] V fun e w' => e = .returned (Value.agg #[.int .i64 v, .int .i64 k, .int .u32 s, .int .i64 0, .int .i64 (q' : Int)]) ∧ Below V.heap.size V w') := Lib.hid fun V hV => shead_any (HX.out V (HI3.out V hV)).1
  have KV : Hid (∀ V, Below w3.heap.size w3 V → Calls Tryz.prog 93 #[.pointer (some ⟨b, 0, none⟩)] V fun e w' => e = .returned (.int .i64 (n : Int)) ∧ Below V.heap.size V w') := Lib.hid fun V hV => (shave_any (HX.out V (HI3.out V hV)).1).mono fun e w' ⟨he, hw⟩ => ⟨by rw [he, HLE.out], by rw [hw]; exact Below.refl _ _⟩
  obtain ⟨T, hT⟩ : ∃ T, Sl.tot (fs.map Fr.ct) = T := ⟨_, rfl⟩
  have KZ : Hid (∀ V, Below w3.heap.size w3 V → Calls Tryz.prog 90 #[.pointer (some ⟨b, 0, none⟩)] V fun e w' => e = .returned (.int .i64 (T : Int)) ∧ Below V.heap.size V w') := Lib.hid fun V hV => by
    have := ssize_any (HX.out V (HI3.out V hV)).1
    rwa [HTOT.out, hT] at this
  have KY : Hid (∀ V, Below w3.heap.size w3 V → Calls Tryz.prog 70 #[Value.agg #[.int .i64 v, .int .i64 k, .int .u32 s, .int .i64 0, .int .i64 (q' : Int), .slice A n cp]] V fun e w' => e = .returned (.int .i64 (T : Int)) ∧ Below V.heap.size V w') := Lib.hid fun V hV => by
    have := rsize_any v k s 0 (HX.out V (HI3.out V hV)).2.1
    rwa [hT] at this
  have KF : Hid (∀ V, Below w3.heap.size w3 V → Calls Tryz.prog 94 #[.pointer (some ⟨b, 0, none⟩)] V fun e w' => e = .returned (.bool true) ∧ Below V.heap.size V w') := Lib.hid fun V hV => (sfull_any (HX.out V (HI3.out V hV)).1).mono fun e w' ⟨he, d, hw⟩ => ⟨by rw [he, HLE.out, HEQ.out], by rw [hw]; exact below_drewN (Below.refl _ _) d⟩
  have KR : Hid (∀ V, Below w3.heap.size w3 V → Calls Tryz.prog 46 #[Value.agg #[.int .i64 v, .int .i64 k, .int .u32 s, .int .i64 0, .int .i64 (q' : Int), .slice A n cp]] V fun e w'' => ∃ u, e = .returned u ∧ (∃ A3 c3, u = .slice A3 CAT.length c3 ∧ Nums .u8 w'' w''.heap.size A3 CAT) ∧ Below V.heap.size V w'') := Lib.hid fun V hV => (rbytes_any v k s 0 (HX.out V (HI3.out V hV)).2.1).mono fun e w'' ⟨u, he, hm⟩ => by
    rw [HC.out] at hm
    obtain ⟨A3, c3, hu, _, hnn⟩ := hm.slice
    exact ⟨u, he, ⟨A3, c3, hu, hnn⟩, hm.2⟩
  have KS : Hid (∀ x V, Below w3.heap.size w3 V → (∃ A3 c3, x = .slice A3 CAT.length c3 ∧ Nums .u8 V V.heap.size A3 CAT) → Calls Tryz.prog 26 #[.slice A2 CAT.length c2, x] V fun e w'' => e = .returned (.bool true) ∧ Below V.heap.size V w'') := Lib.hid fun x V hV ⟨A3, c3, hx, hnn⟩ => by
    subst hx
    have := same_any V.heap.size A2 A3 CAT.length CAT.length c2 c3 CAT CAT V rfl rfl (by have := HCL.out; omega) ((HN2.out.below (hb3.trans (hV.mono hb3.size))).mono (hb3.trans (hV.mono hb3.size)).size) hnn
    rw [decide_eq_true rfl] at this
    exact this.mono fun e w' ⟨he, d, hw⟩ => ⟨he, by rw [hw]; exact below_drewN (Below.refl _ _) d⟩
  clear hT hb13
  gi_wp2_with fail
  refine wpIn_wide.2 ?_
  refine wp_region_F 69 [55] (fun _ x V => ∃ A3 c3, x = .slice A3 CAT.length c3 ∧ Nums .u8 V V.heap.size A3 CAT) (fun V => Below w3.heap.size w3 V) (by kernel_rfl) (by kernel_rfl) (by rfl) (by simp) (fun W W' h hb => h.trans (hb.mono h.size)) (fun _ x W W' ⟨A3, c3, h1, h2⟩ hb => ⟨A3, c3, h1, (h2.below hb).mono hb.size⟩) (Below.refl _ _).drew ?_
  repeat (refine wpF_pure rfl rfl ?_; go_big_quiet_step (fail); refine wpQuiet_nil ?_)
  refine wpF_call (f := 92) (args := #[.pointer (some ⟨b, 0, none⟩)]) (Value.agg #[.int .i64 v, .int .i64 k, .int .u32 s, .int .i64 0, .int .i64 (q' : Int)]) rfl rfl (fun x => by first | rfl | (simp [go_sem]; done)) KH.out ?_
  simp only [Act.put, List.setIfInBounds_toArray, List.set_cons_succ, List.set_cons_zero]
  repeat (refine wpF_pure rfl rfl ?_; go_big_quiet_step (fail); refine wpQuiet_nil ?_)
  refine wpF_load _ rfl (by rfl) (by rfl) (by rfl) LH ?_
  simp only [Act.put, List.setIfInBounds_toArray, List.set_cons_succ, List.set_cons_zero]
  repeat (refine wpF_pure rfl rfl ?_; go_big_quiet_step (fail); refine wpQuiet_nil ?_)
  refine wpF_call (f := 93) (args := #[.pointer (some ⟨b, 0, none⟩)]) (.int .i64 (n : Int)) rfl rfl (fun x => by first | rfl | (simp [go_sem]; done)) KV.out ?_
  simp only [Act.put, List.setIfInBounds_toArray, List.set_cons_succ, List.set_cons_zero]
  repeat (refine wpF_pure rfl rfl ?_; go_big_quiet_step (fail); refine wpQuiet_nil ?_)
  refine wpF_load _ rfl (by rfl) (by rfl) (by rfl) LL ?_
  simp only [Act.put, List.setIfInBounds_toArray, List.set_cons_succ, List.set_cons_zero]
  repeat (refine wpF_pure rfl rfl ?_; go_big_quiet_step (fail); refine wpQuiet_nil ?_)
  refine wpF_call (f := 90) (args := #[.pointer (some ⟨b, 0, none⟩)]) (.int .i64 (T : Int)) rfl rfl (fun x => by first | rfl | (simp [go_sem]; done)) KZ.out ?_
  simp only [Act.put, List.setIfInBounds_toArray, List.set_cons_succ, List.set_cons_zero]
  refine wpF_load _ rfl (by rfl) (by rfl) (by rfl) LS ?_
  simp only [Act.put, List.setIfInBounds_toArray, List.set_cons_succ, List.set_cons_zero]
  refine wpF_call (f := 70) (args := #[Value.agg #[.int .i64 v, .int .i64 k, .int .u32 s, .int .i64 0, .int .i64 (q' : Int), .slice A n cp]]) (.int .i64 (T : Int)) rfl rfl (fun x => by first | rfl | (simp [go_sem]; done)) KY.out ?_
  simp only [Act.put, List.setIfInBounds_toArray, List.set_cons_succ, List.set_cons_zero]
  repeat (refine wpF_pure rfl rfl ?_; go_big_quiet_step (fail); refine wpQuiet_nil ?_)
  refine wpF_call (f := 94) (args := #[.pointer (some ⟨b, 0, none⟩)]) (.bool true) rfl rfl (fun x => by first | rfl | (simp [go_sem]; done)) KF.out ?_
  simp only [Act.put, List.setIfInBounds_toArray, List.set_cons_succ, List.set_cons_zero]
  repeat (refine wpF_pure rfl rfl ?_; go_big_quiet_step (fail); refine wpQuiet_nil ?_)
  refine wpF_load _ rfl (by rfl) (by rfl) (by rfl) LS ?_
  simp only [Act.put, List.setIfInBounds_toArray, List.set_cons_succ, List.set_cons_zero]
  refine wpF_callsrc 55 (f := 46) (args := #[Value.agg #[.int .i64 v, .int .i64 k, .int .u32 s, .int .i64 0, .int .i64 (q' : Int), .slice A n cp]]) (by simp) rfl rfl rfl (fun x => by first | rfl | (simp [go_sem]; done)) KR.out ?_
  simp only [Act.put, List.setIfInBounds_toArray, List.set_cons_succ, List.set_cons_zero]
  refine wpF_use 55 36 (f := 26) (fun x => #[.slice A2 CAT.length c2, x]) (.bool true) (by simp) rfl (by kernel_rfl) (by kernel_rfl) (by kernel_rfl) (fun _ => rfl) (fun v x => by first | rfl | (simp [go_sem]; done)) KS.out ?_
  simp only [Act.put, List.setIfInBounds_toArray, List.set_cons_succ, List.set_cons_zero]
  repeat (refine wpF_pure rfl rfl ?_; go_big_quiet_step (fail); refine wpQuiet_nil ?_)
  intro xs4 w4 hb4' _
  simp only [fill, Act.put, List.setIfInBounds_toArray, List.set_cons_succ, List.set_cons_zero]
  generalize xs4 55 = x55
  have hb4 := HI3.out w4 hb4'
  have HB4 := Lib.hid hb4
  obtain ⟨w5, hw5⟩ : ∃ w5, (w4.alloc (.cells #[.int .i64 0] 3)).alloc (.cells #[.bool true] 4) = w5 := ⟨_, rfl⟩
  have hb45 : Below w4.heap.size w4 w5 := by rw [← hw5]; exact ((Below.refl _ w4).alloc (Nat.le_refl _) _).alloc (by simp) _
  have hs5 : w5.heap.size = w4.heap.size + 2 := by rw [← hw5]; simp
  have bI5 : Boxed w5 w4.heap.size 3 (.int .i64 0) := by rw [← hw5]; exact (Boxed.new w4 _ _).alloc _
  have bO5 : Boxed w5 (w4.heap.size + 1) 4 (.bool true) := by
    rw [← hw5]
    have := Boxed.new (w4.alloc (.cells #[.int .i64 0] 3)) 4 (.bool true)
    rwa [World.size_alloc] at this
  have hb5 : Below w1.heap.size w1 w5 := hb4.trans (hb45.mono hb4.size)
  have KM := smissing_any (HX.out w5 hb5).1
  have hmz : misZ (E.map Pl.ct) q' = misZ (fs.map Fr.ct) q' := by unfold misZ; rw [HMIS.out]
  rw [hmz] at KM
  have HW5 := Lib.hid hw5
  have hs4 : w1.heap.size ≤ w4.heap.size := hb4.size
  clear LH LL LS KH KV KZ KY KF hb4' hb4 hw5 hmz
  gi_wp2_with fail
  refine ⟨trivial, ?_⟩
  rw [HW5.out]
  refine (callsIn_wide.2 KM).mono ?_
  rintro e w6 ⟨Bv, AL, cpL, rfl, hb56, hBv, hbxL, hcpL, hnumL⟩
  obtain ⟨bi, hbi⟩ : ∃ bi, w4.heap.size = bi := ⟨_, rfl⟩
  rw [hbi] at hs5 bI5 bO5
  have hs6 : w5.heap.size ≤ w6.heap.size := hb56.size
  have hLk6 : LkS w6 bi 0 w6 := ⟨(hb56.block _ (by omega)).trans bI5, (hb56.block _ (by omega)).trans bO5, Off.refl _ _⟩
  have hb16 : Below w1.heap.size w1 w6 := hb5.trans (hb56.mono hb5.size)
  obtain ⟨_, hra6, hx6⟩ := HX.out w6 hb16
  have HHV : Hid (∀ V, Off (fun k => k = bi ∨ k = bi + 1) w6 V → (V.cell? ⟨w.heap.size, 0, none⟩ = some (.int .i64 v) ∧ V.cell? ⟨w.heap.size, 1, none⟩ = some (.int .i64 k) ∧ V.cell? ⟨w.heap.size, 2, none⟩ = some (.int .u32 s) ∧ V.cell? ⟨w.heap.size, 3, none⟩ = some (.int .i64 0) ∧ V.cell? ⟨w.heap.size, 4, none⟩ = some (.int .i64 (q' : Int)) ∧ V.cell? ⟨w.heap.size, 5, none⟩ = some (.slice A n cp)) ∧ RefAt V (q' : Int) A n cp fs) := Lib.hid fun V hV => by
    have hB : Below w1.heap.size w1 V := hb16.trans (hV.below (fun k hk => by omega) hb16.size)
    obtain ⟨_, h2, h3⟩ := HX.out V hB
    exact ⟨fr_block h3, h2⟩
  have HB6 := Lib.hid hb16
  have HL6 := Lib.hid hLk6
  have HBX := Lib.hid hbxL
  have HNL := Lib.hid hnumL
  obtain ⟨C, hC⟩ : ∃ C, fs.map Fr.ct = C := ⟨_, rfl⟩
  have HCC := Lib.hid hC
  have hmz : misZ (fs.map Fr.ct) q' = (Sl.mis C q').map fun (i : Nat) => (i : Int) := by rw [hC]; rfl
  have hLl : (Sl.mis C q').length ≤ 255 := by have := Sl.mis_few C q'; omega
  have hBvl := hbxL.lt
  have hnil := values_not_nil Bv w6
  have hbiw : bi + 1 < w6.heap.size := by omega
  have HS4 : Hid (w1.heap.size ≤ bi) := by show _ ≤ _; omega
  have HSBV : Hid (bi + 1 < Bv) := by show _ < _; omega
  have HS5 : Hid (bi + 1 < w5.heap.size) := by show _ < _; omega
  clear hb56 hs6 hLk6 hb16 hra6 hx6 hbxL hnumL hb45 hb5 hs5 bI5 bO5 hs4 HW5 KM
  gi_wp2_with fail
  refine range_stops rfl (by omega) (gf := 107) (lb := #[.pointer (some ⟨Bv, 0, none⟩)]) rfl trivial (enters_of Tryz.func107 (by kernel_rfl) rfl)
    (fun x : Int => #[Value.int .i64 x]) (fun _ => rfl)
    (fun j x V => (∃ p, p ≤ q' ∧ (Sl.mis C p).length = j ∧ LkS w6 bi p V) ∧ ((Sl.mis C q').map fun (i : Nat) => (i : Int))[j]? = some x)
    (fun j V => ∃ p, p ≤ q' ∧ (Sl.mis C p).length = j ∧ LkS w6 bi p V)
    (fun _ _ => False) (fun _ _ => True) (Sl.mis C q').length
    (fun j x V l o o' h hl ho hc' => by
      obtain ⟨⟨i, h1, h2, h3⟩, h4⟩ := h
      exact ⟨⟨i, h1, h2, h3.below hbiw (below_put V o' hl)⟩, h4⟩)
    (fun j V l o o' h hl ho hc' => by
      obtain ⟨i, h1, h2, h3⟩ := h
      exact ⟨i, h1, h2, h3.below hbiw (below_put V o' hl)⟩)
    (fun _ _ _ _ _ h _ _ _ => h)
    (fun _ _ _ _ _ => trivial) (fun _ _ _ _ _ _ _ => trivial)
    (fun o => ⟨0, by omega, rfl, HL6.out.below hbiw (((Below.refl w6.heap.size w6).alloc (Nat.le_refl _) _).alloc (by simp) _)⟩) ?a1 ?assign ?body ?iter ?done ?stop
  case assign =>
    intro l x V K hK
    gi_wp2
    exact hK
  case body =>
    rintro l j x V hl ⟨⟨p, hpq, hpj, hLk⟩, hx⟩ hj
    rw [List.getElem?_map] at hx
    obtain ⟨qq, hqq, rfl⟩ := Option.map_eq_some_iff.1 hx
    obtain ⟨hqn, hqh, hpqq, hnext, hbetw⟩ := Sl.mis_next hqq hpj
    have HNX0 := Lib.hid hnext
    have HBT := Lib.hid hbetw
    have HQH := Lib.hid hqh
    have HLK := Lib.hid hLk
    have hqn' : (qq : Int) < (q' : Int) := by omega
    clear hx hqq hqh hnext hbetw hLk hpj hj hnil
    gi_wp2_with fail
    gi_loopw [] (fun wr => ∃ d : Nat, p ≤ d ∧ d ≤ qq ∧ LkS w6 bi d wr ∧ KeepsOthers V wr) (fun wr => 256 - inBoxS bi wr)
    case atStart => exact ⟨p, Nat.le_refl _, hpqq, HLK.out, KeepsOthers.refl _⟩
    case round =>
      obtain ⟨d, hpd, hdq, hLd, hko⟩ := hrel
      have kI := hLd.at'.cell
      obtain ⟨⟨c0, c1, c2, c3, c4, c5⟩, hraV⟩ := HHV.out wr hLd.off
      have hdn : (d : Int) < (q' : Int) := by omega
      have KHs := rhas_any v k s 0 hraV d
      unfold HasR at KHs
      rw [HCC.out] at KHs
      unfold frV frC at KHs
      have HLD := Lib.hid hLd
      have HKO := Lib.hid hko
      have hsz := hLd.off.size
      clear hLd hko hraV
      rename World => wr
      gi_wp2_with fail
      refine ⟨trivial, ?_⟩
      refine (callsIn_wide.2 KHs).mono ?_
      rintro e W1 ⟨hbW1, hor⟩
      have hL1 : LkS w6 bi d W1 := HLD.out.below hbiw (hbW1.mono hsz)
      have hko1 := HKO.out.trans (keeps_below hbW1)
      have kI := hL1.at'.cell
      have fI := hL1.at'.frozen
      have kO := hL1.ok.cell
      have fO := hL1.ok.frozen
      obtain ⟨⟨c0, c1, c2, c3, c4, c5⟩, _⟩ := HHV.out W1 hL1.off
      rcases hor with ⟨hno, rfl⟩ | ⟨hyes, jj, f', _, _, rfl⟩
      · have hdq2 : d = qq := by
          rcases Nat.lt_or_ge d qq with h4 | h4
          · rw [HBT.out d hpd h4] at hno; cases hno
          · omega
        subst hdq2
        have hfin : LkS w6 bi (d + 1) ((W1.setCell ⟨bi + 1, 0, none⟩ (.bool true)).setCell ⟨bi, 0, none⟩ (.int .i64 ((d : Int) + 1))) := hL1.right.next
        have kI2 := hL1.right.at'.cell
        have fI2 := hL1.right.at'.frozen
        have HFIN := Lib.hid hfin
        have HKO1 := Lib.hid hko1
        clear KHs hbW1 hno hL1 hko1 hfin
        gi_wp2
        exact ⟨((HKO1.out.trans (KeepsOthers.setCell _ _ _)).trans (KeepsOthers.setCell _ _ _)).from _, ⟨d + 1, by omega, HNX0.out, HFIN.out⟩, trivial⟩
      · have h4 : d < qq := by
          rcases Nat.lt_or_ge d qq with h4 | h4
          · exact h4
          · obtain rfl : d = qq := by omega
            rw [HQH.out] at hyes; cases hyes
        have hnx := hL1.next
        have hinb := HLD.out.num
        have hnum := hnx.num
        have HNX := Lib.hid (And.intro hnx (And.intro hnum hinb))
        have HKO1 := Lib.hid hko1
        clear KHs hbW1 hyes hL1 hko1 hnx hinb hnum
        gi_wp2
        go_roundw
        case rel => exact ⟨d + 1, by omega, by omega, HNX.out.1, HKO1.out.trans (KeepsOthers.setCell _ _ _)⟩
        case measure => rw [HNX.out.2.1, HNX.out.2.2]; omega
  case iter =>
    intro Bk X l V hBk hBlt hX hlw hD hB hY
    have hbxV : Boxed V Bv 159 (.slice AL (misZ (fs.map Fr.ct) q').length cpL) := by
      obtain ⟨p, _, _, h1⟩ := hD
      have := HSBV.out
      exact (h1.off.block Bv hBvl (by omega)).trans HBX.out
    rw [hmz] at HBX HNL hbxV
    refine (values_in 2 (by omega) 1 l Bv AL _ cpL ((Sl.mis C q').map fun (i : Nat) => (i : Int)) rfl (by rw [List.length_map]; omega) (fun k V => (∃ p, p ≤ q' ∧ (Sl.mis C p).length = k ∧ LkS w6 bi p V) ∧ Bk V) X ?_ ?_ V hbxV.cell ⟨hD, hB⟩).mono ?_
    · rintro k W ⟨⟨p, _, _, h1⟩, _⟩
      refine ⟨Bv, (HNL.out.keeps (w' := W) ⟨h1.off.size, fun g hg => h1.off.block g (by omega) (by have := HS5.out; have := hg.1; omega)⟩).nums fun g hg => hg.2⟩
    · rintro k x W ⟨h1, h2⟩ hx
      refine (hY _ _ W ⟨h1, hx⟩ h2 (by have := (List.getElem?_eq_some_iff.1 hx).1; rwa [List.length_map] at this)).mono ?_
      rintro e V2 (⟨rfl, hd, _, _⟩ | ⟨rfl, hx, _⟩)
      · exact .inl ⟨rfl, hd⟩
      · exact .inr ⟨rfl, hx⟩
    · rw [List.length_map]
      exact fun _ _ h => h
  case done =>
    rintro D V hD ⟨p, hpq, hpj, hLk⟩ hK
    have hrest : ∀ d, p ≤ d → d < q' → Sl.has C d = true := fun d h1 h2 => Sl.mis_rest hpj h1 h2
    have HRS := Lib.hid hrest
    have HLK := Lib.hid hLk
    have HKD := Lib.hid hK
    clear hrest hpj hLk hK hnil
    gi_wp2_with fail
    gi_loopw [] (fun wr => ∃ d : Nat, p ≤ d ∧ d ≤ q' ∧ LkS w6 bi d wr ∧ wr.heap[D]? = some (.deferred (some []))) (fun wr => 256 - inBoxS bi wr)
    case atStart => exact ⟨p, Nat.le_refl _, hpq, HLK.out, HKD.out⟩
    case round =>
      obtain ⟨d, hpd, hdq, hLd, hKd⟩ := hrel
      have kI := hLd.at'.cell
      have fI := hLd.at'.frozen
      have kO := hLd.ok.cell
      have fO := hLd.ok.frozen
      obtain ⟨⟨c0, c1, c2, c3, c4, c5⟩, hraV⟩ := HHV.out wr hLd.off
      rcases Nat.lt_or_ge d q' with h4 | h4
      · have hdn : (d : Int) < (q' : Int) := by omega
        have KHs := rhas_any v k s 0 hraV d
        unfold HasR at KHs
        rw [HCC.out] at KHs
        unfold frV frC at KHs
        have HLD := Lib.hid hLd
        have hsz := hLd.off.size
        have hDlt := (Array.getElem?_eq_some_iff.1 hKd).1
        have HKd := Lib.hid hKd
        clear hLd hraV hKd
        rename World => wr
        gi_wp2_with fail
        refine ⟨trivial, ?_⟩
        refine (callsIn_wide.2 KHs).mono ?_
        rintro e W1 ⟨hbW1, hor⟩
        have hL1 : LkS w6 bi d W1 := HLD.out.below hbiw (hbW1.mono hsz)
        have hK1 := (hbW1.block D hDlt).trans HKd.out
        rcases hor with ⟨hno, _⟩ | ⟨hyes, jj, f', _, _, rfl⟩
        · rw [HRS.out d hpd h4] at hno; cases hno
        have kI := hL1.at'.cell
        have fI := hL1.at'.frozen
        have kO := hL1.ok.cell
        have fO := hL1.ok.frozen
        have kI2 := hL1.right.at'.cell
        have fI2 := hL1.right.at'.frozen
        have hnx := hL1.right.next
        have hnum := hnx.num
        have hinb := HLD.out.num
        have hKn : ((W1.setCell ⟨bi + 1, 0, none⟩ (.bool true)).setCell ⟨bi, 0, none⟩ (.int .i64 ((d : Int) + 1))).heap[D]? = some (.deferred (some [])) := (Below.heap_setCell _ ⟨bi, 0, none⟩ _ D (by simp; omega)).trans ((Below.heap_setCell W1 ⟨bi + 1, 0, none⟩ _ D (by simp; omega)).trans hK1)
        have HNX := Lib.hid (And.intro hnx (And.intro hnum (And.intro hinb hKn)))
        clear KHs hbW1 hyes hL1 hK1 hnx hnum hinb hKn
        gi_wp2
        go_roundw
        case rel => exact ⟨d + 1, by omega, by omega, HNX.out.1, HNX.out.2.2.2⟩
        case measure => rw [HNX.out.2.1, HNX.out.2.2.1]; omega
      · obtain rfl : d = q' := by omega
        have hbV := HB1.out.trans ((HB6.out.trans (hLd.off.below (fun k hk => by have := HS4.out; omega) HB6.out.size)).mono HB1.out.size)
        have HBV := Lib.hid hbV
        have hDw : w.heap.size ≤ D := by have := HB1.out.size; have := HB6.out.size; omega
        clear hLd hraV hbV
        gi_wp2
        refine ⟨by simp, .inl ⟨_, _, rfl, run_takeDeferred hKd, ?_⟩⟩
        refine ⟨_, results_tmp rfl _ _ _, rfl, ?_⟩
        exact HBV.out.trans (below_put (B := w.heap.size) _ (.deferred none) hDw)
  case stop =>
    rintro D cd V _ h _
    exact h.elim
set_option maxHeartbeats 8000000 in
theorem salike_part {w : World} {b m : Nat} {v k s : Int} {q : Nat} {E : List Pl} (h : SlotAt w b m v k s (q : Int) E) {A : Option Addr} {n cp : Nat} {fs : List Fr} (hr : RefAt w (q : Int) A n cp fs) (hp : (E.map Pl.ct).Perm (fs.map Fr.ct)) (hfull : n ≠ q) :
    Calls Tryz.prog 69 #[.pointer (some ⟨b, 0, none⟩), frV v k s 0 (q : Int) (.slice A n cp)] w fun e w' => e = .returned (.bool true) ∧ Below w.heap.size w w' := by
  obtain ⟨w1, hw1⟩ : ∃ w1, w.alloc (.cells (frC v k s 0 (q : Int) (.slice A n cp)) 84) = w1 := ⟨_, rfl⟩
  have hb1 : Below w.heap.size w w1 := by rw [← hw1]; exact (Below.refl _ w).alloc (Nat.le_refl _) _
  have hs1 : w1.heap.size = w.heap.size + 1 := by rw [← hw1]; simp
  have hx1 : w1.heap[w.heap.size]? = some (.cells (frC v k s 0 (q : Int) (.slice A n cp)) 84 (0, 0)) := by rw [← hw1]; exact World.alloc_heap_new _ _
  have HW1 : Hid (w.alloc (.cells #[.int .i64 v, .int .i64 k, .int .u32 s, .int .i64 0, .int .i64 (q : Int), .slice A n cp] 84) = w1) := Lib.hid hw1
  have HX : Hid (∀ W, Below w1.heap.size w1 W → SlotAt W b m v k s (q : Int) E ∧ RefAt W (q : Int) A n cp fs ∧ W.heap[w.heap.size]? = some (.cells (frC v k s 0 (q : Int) (.slice A n cp)) 84 (0, 0))) :=
    Lib.hid fun W hW => ⟨(h.below hb1).below hW, (hr.below hb1).below hW, (hW.block _ (by omega)).trans hx1⟩
  obtain ⟨q', hq', q1, q2, hEq, _⟩ := h.count
  obtain rfl : q' = q := by omega
  have hlE : E.length = n := by have := hp.length_eq; simp at this; rw [this, hr.len]
  have hcat := Sl.cat_perm hp h.keys E.length
  have htot := Sl.tot_perm hp
  have hmis := Sl.mis_perm hp q'
  have hHas := Lib.hid (Sl.has_perm hp)
  have KB := sbytes_any (HX.out w1 (Below.refl _ _)).1
  have HB1 := Lib.hid hb1
  have HS1 := Lib.hid hs1
  have HLE := Lib.hid hlE
  have HCAT := Lib.hid hcat
  have HTOT := Lib.hid htot
  have HMIS := Lib.hid hmis
  have hn0 : n ≤ 255 := hr.few_len
  have HFU := Lib.hid hfull
  clear hfull
  clear h hr hp hw1 hb1 hs1 hx1 hq' hlE hcat htot hmis hEq
  unfold frV frC at *
  unfold BytesR at KB
  rw [HCAT.out, HLE.out] at KB
  refine (callsIn_wide (n := 3)).1 ?_
  refine callsIn_of_wp_marks Tryz.func69 rfl trivial ?_ rfl
  simp only [Tryz.ntmps69, List.size_toArray, List.length_cons, List.length_nil, Nat.reduceAdd, Nat.reduceSub, Array.replicate_succ, Array.replicate_zero, List.push_toArray, List.append_toArray, List.nil_append, List.cons_append]
  gi_wp2_with fail
  refine ⟨trivial, ?_⟩
  rw [HW1.out]
  refine (callsIn_wide.2 KB).mono ?_
  rintro e w2 ⟨hb2, hor⟩
  have hFull : Calls Tryz.prog 45 #[.agg #[.int .i64 v, .int .i64 k, .int .u32 s, .int .i64 0, .int .i64 (q' : Int), .slice A n cp]] w2 fun e w' => e = .returned (.bool ((n : Int) == (q' : Int))) ∧ Below w2.heap.size w2 w' := rfull_any v k s 0 (by omega)
  obtain ⟨_, _, hx2⟩ := HX.out w2 hb2
  obtain ⟨d0, d1, d2, d3, d4, d5⟩ := fr_block hx2
  obtain ⟨hne, rfl⟩ := (hor.resolve_right fun h => by
    have := h.1
    have := HFU.out
    omega)
  have e1 : ((n : Int) == (q' : Int)) = false := by have := HFU.out; simp; omega
  clear hne
  rw [e1] at hFull
  have HB2 := Lib.hid hb2
  have HEQ : Hid (((n : Int) == (q' : Int)) = false) := Lib.hid e1
  clear KB hb2 e1 hx2 hor
  gi_wp2_with fail
  refine ⟨trivial, ?_⟩
  refine (callsIn_wide.2 hFull).mono ?_
  rintro e w3 ⟨rfl, hb3⟩
  clear hFull d0 d1 d2 d3 d4 d5
  have hb13 := HB2.out.trans (hb3.mono HB2.out.size)
  have HI3 : Hid (∀ V, Below w3.heap.size w3 V → Below w1.heap.size w1 V) := Lib.hid fun V hV => hb13.trans (hV.mono hb13.size)
  have LH : ∀ V, Below w3.heap.size w3 V → (Instr.loadAt 50 (.pointer (some ⟨w.heap.size, 0, none⟩))).run Tryz.prog V = .ok (Value.agg #[.int .i64 v, .int .i64 k, .int .u32 s, .int .i64 0, .int .i64 (q' : Int)]) V := fun V hV => by
    obtain ⟨_, _, hx⟩ := HX.out V (HI3.out V hV)
    obtain ⟨d0, d1, d2, d3, d4, d5⟩ := fr_block hx
    simp [Instr.loadAt, go_sem, d0, d1, d2, d3, d4]
  have LL : ∀ V, Below w3.heap.size w3 V → (Instr.loadAt 82 (.pointer (some ⟨w.heap.size, 5, none⟩))).run Tryz.prog V = .ok (.slice A n cp) V := fun V hV => by
    obtain ⟨_, _, hx⟩ := HX.out V (HI3.out V hV)
    obtain ⟨d0, d1, d2, d3, d4, d5⟩ := fr_block hx
    simp [Instr.loadAt, go_sem, d5]
  have LS : ∀ V, Below w3.heap.size w3 V → (Instr.loadAt 84 (.pointer (some ⟨w.heap.size, 0, none⟩))).run Tryz.prog V = .ok (Value.agg #[.int .i64 v, .int .i64 k, .int .u32 s, .int .i64 0, .int .i64 (q' : Int), .slice A n cp]) V := fun V hV => by
    obtain ⟨_, _, hx⟩ := HX.out V (HI3.out V hV)
    obtain ⟨d0, d1, d2, d3, d4, d5⟩ := fr_block hx
    simp [Instr.loadAt, go_sem, d0, d1, d2, d3, d4, d5]
  have KH : Hid (∀ V, Below w3.heap.size w3 V → Calls Tryz.prog 92 #[.pointer (some ⟨b, 0, none⟩)] V fun e w' => e = .returned (Value.agg #[.int .i64 v, .int .i64 k, .int .u32 s, .int .i64 0, .int .i64 (q' : Int)]) ∧ Below V.heap.size V w') := Lib.hid fun V hV => shead_any (HX.out V (HI3.out V hV)).1
  have KV : Hid (∀ V, Below w3.heap.size w3 V → Calls Tryz.prog 93 #[.pointer (some ⟨b, 0, none⟩)] V fun e w' => e = .returned (.int .i64 (n : Int)) ∧ Below V.heap.size V w') := Lib.hid fun V hV => (shave_any (HX.out V (HI3.out V hV)).1).mono fun e w' ⟨he, hw⟩ => ⟨by rw [he, HLE.out], by rw [hw]; exact Below.refl _ _⟩
  obtain ⟨T, hT⟩ : ∃ T, Sl.tot (fs.map Fr.ct) = T := ⟨_, rfl⟩
  have KZ : Hid (∀ V, Below w3.heap.size w3 V → Calls Tryz.prog 90 #[.pointer (some ⟨b, 0, none⟩)] V fun e w' => e = .returned (.int .i64 (T : Int)) ∧ Below V.heap.size V w') := Lib.hid fun V hV => by
    have := ssize_any (HX.out V (HI3.out V hV)).1
    rwa [HTOT.out, hT] at this
  have KY : Hid (∀ V, Below w3.heap.size w3 V → Calls Tryz.prog 70 #[Value.agg #[.int .i64 v, .int .i64 k, .int .u32 s, .int .i64 0, .int .i64 (q' : Int), .slice A n cp]] V fun e w' => e = .returned (.int .i64 (T : Int)) ∧ Below V.heap.size V w') := Lib.hid fun V hV => by
    have := rsize_any v k s 0 (HX.out V (HI3.out V hV)).2.1
    rwa [hT] at this
  have KF : Hid (∀ V, Below w3.heap.size w3 V → Calls Tryz.prog 94 #[.pointer (some ⟨b, 0, none⟩)] V fun e w' => e = .returned (.bool false) ∧ Below V.heap.size V w') := Lib.hid fun V hV => (sfull_any (HX.out V (HI3.out V hV)).1).mono fun e w' ⟨he, d, hw⟩ => ⟨by rw [he, HLE.out, HEQ.out], by rw [hw]; exact below_drewN (Below.refl _ _) d⟩
  clear hT hb13
  gi_wp2_with fail
  refine wpIn_wide.2 ?_
  refine wp_region_F 69 [] (fun _ _ _ => True) (fun V => Below w3.heap.size w3 V) (by kernel_rfl) (by kernel_rfl) (by rfl) (by simp) (fun W W' h hb => h.trans (hb.mono h.size)) (fun _ _ _ _ _ _ => trivial) (Below.refl _ _).drew ?_
  repeat (refine wpF_pure rfl rfl ?_; go_big_quiet_step (fail); refine wpQuiet_nil ?_)
  refine wpF_call (f := 92) (args := #[.pointer (some ⟨b, 0, none⟩)]) (Value.agg #[.int .i64 v, .int .i64 k, .int .u32 s, .int .i64 0, .int .i64 (q' : Int)]) rfl rfl (fun x => by first | rfl | (simp [go_sem]; done)) KH.out ?_
  simp only [Act.put, List.setIfInBounds_toArray, List.set_cons_succ, List.set_cons_zero]
  repeat (refine wpF_pure rfl rfl ?_; go_big_quiet_step (fail); refine wpQuiet_nil ?_)
  refine wpF_load _ rfl (by rfl) (by rfl) (by rfl) LH ?_
  simp only [Act.put, List.setIfInBounds_toArray, List.set_cons_succ, List.set_cons_zero]
  repeat (refine wpF_pure rfl rfl ?_; go_big_quiet_step (fail); refine wpQuiet_nil ?_)
  refine wpF_call (f := 93) (args := #[.pointer (some ⟨b, 0, none⟩)]) (.int .i64 (n : Int)) rfl rfl (fun x => by first | rfl | (simp [go_sem]; done)) KV.out ?_
  simp only [Act.put, List.setIfInBounds_toArray, List.set_cons_succ, List.set_cons_zero]
  repeat (refine wpF_pure rfl rfl ?_; go_big_quiet_step (fail); refine wpQuiet_nil ?_)
  refine wpF_load _ rfl (by rfl) (by rfl) (by rfl) LL ?_
  simp only [Act.put, List.setIfInBounds_toArray, List.set_cons_succ, List.set_cons_zero]
  repeat (refine wpF_pure rfl rfl ?_; go_big_quiet_step (fail); refine wpQuiet_nil ?_)
  refine wpF_call (f := 90) (args := #[.pointer (some ⟨b, 0, none⟩)]) (.int .i64 (T : Int)) rfl rfl (fun x => by first | rfl | (simp [go_sem]; done)) KZ.out ?_
  simp only [Act.put, List.setIfInBounds_toArray, List.set_cons_succ, List.set_cons_zero]
  refine wpF_load _ rfl (by rfl) (by rfl) (by rfl) LS ?_
  simp only [Act.put, List.setIfInBounds_toArray, List.set_cons_succ, List.set_cons_zero]
  refine wpF_call (f := 70) (args := #[Value.agg #[.int .i64 v, .int .i64 k, .int .u32 s, .int .i64 0, .int .i64 (q' : Int), .slice A n cp]]) (.int .i64 (T : Int)) rfl rfl (fun x => by first | rfl | (simp [go_sem]; done)) KY.out ?_
  simp only [Act.put, List.setIfInBounds_toArray, List.set_cons_succ, List.set_cons_zero]
  repeat (refine wpF_pure rfl rfl ?_; go_big_quiet_step (fail); refine wpQuiet_nil ?_)
  refine wpF_call (f := 94) (args := #[.pointer (some ⟨b, 0, none⟩)]) (.bool false) rfl rfl (fun x => by first | rfl | (simp [go_sem]; done)) KF.out ?_
  simp only [Act.put, List.setIfInBounds_toArray, List.set_cons_succ, List.set_cons_zero]
  repeat (refine wpF_pure rfl rfl ?_; go_big_quiet_step (fail); refine wpQuiet_nil ?_)
  refine wpF_skip rfl rfl ?_
  simp only [Act.put, List.setIfInBounds_toArray, List.set_cons_succ, List.set_cons_zero]
  refine wpF_skip rfl rfl ?_
  simp only [Act.put, List.setIfInBounds_toArray, List.set_cons_succ, List.set_cons_zero]
  refine wpF_skip rfl rfl ?_
  simp only [Act.put, List.setIfInBounds_toArray, List.set_cons_succ, List.set_cons_zero]
  repeat (refine wpF_pure rfl rfl ?_; go_big_quiet_step (fail); refine wpQuiet_nil ?_)
  intro xs4 w4 hb4' _
  simp only [fill]
  have hb4 := HI3.out w4 hb4'
  have HB4 := Lib.hid hb4
  obtain ⟨w5, hw5⟩ : ∃ w5, (w4.alloc (.cells #[.int .i64 0] 3)).alloc (.cells #[.bool true] 4) = w5 := ⟨_, rfl⟩
  have hb45 : Below w4.heap.size w4 w5 := by rw [← hw5]; exact ((Below.refl _ w4).alloc (Nat.le_refl _) _).alloc (by simp) _
  have hs5 : w5.heap.size = w4.heap.size + 2 := by rw [← hw5]; simp
  have bI5 : Boxed w5 w4.heap.size 3 (.int .i64 0) := by rw [← hw5]; exact (Boxed.new w4 _ _).alloc _
  have bO5 : Boxed w5 (w4.heap.size + 1) 4 (.bool true) := by
    rw [← hw5]
    have := Boxed.new (w4.alloc (.cells #[.int .i64 0] 3)) 4 (.bool true)
    rwa [World.size_alloc] at this
  have hb5 : Below w1.heap.size w1 w5 := hb4.trans (hb45.mono hb4.size)
  have KM := smissing_any (HX.out w5 hb5).1
  have hmz : misZ (E.map Pl.ct) q' = misZ (fs.map Fr.ct) q' := by unfold misZ; rw [HMIS.out]
  rw [hmz] at KM
  have HW5 := Lib.hid hw5
  have hs4 : w1.heap.size ≤ w4.heap.size := hb4.size
  clear LH LL LS KH KV KZ KY KF hb4' hb4 hw5 hmz
  gi_wp2_with fail
  refine ⟨trivial, ?_⟩
  rw [HW5.out]
  refine (callsIn_wide.2 KM).mono ?_
  rintro e w6 ⟨Bv, AL, cpL, rfl, hb56, hBv, hbxL, hcpL, hnumL⟩
  obtain ⟨bi, hbi⟩ : ∃ bi, w4.heap.size = bi := ⟨_, rfl⟩
  rw [hbi] at hs5 bI5 bO5
  have hs6 : w5.heap.size ≤ w6.heap.size := hb56.size
  have hLk6 : LkS w6 bi 0 w6 := ⟨(hb56.block _ (by omega)).trans bI5, (hb56.block _ (by omega)).trans bO5, Off.refl _ _⟩
  have hb16 : Below w1.heap.size w1 w6 := hb5.trans (hb56.mono hb5.size)
  obtain ⟨_, hra6, hx6⟩ := HX.out w6 hb16
  have HHV : Hid (∀ V, Off (fun k => k = bi ∨ k = bi + 1) w6 V → (V.cell? ⟨w.heap.size, 0, none⟩ = some (.int .i64 v) ∧ V.cell? ⟨w.heap.size, 1, none⟩ = some (.int .i64 k) ∧ V.cell? ⟨w.heap.size, 2, none⟩ = some (.int .u32 s) ∧ V.cell? ⟨w.heap.size, 3, none⟩ = some (.int .i64 0) ∧ V.cell? ⟨w.heap.size, 4, none⟩ = some (.int .i64 (q' : Int)) ∧ V.cell? ⟨w.heap.size, 5, none⟩ = some (.slice A n cp)) ∧ RefAt V (q' : Int) A n cp fs) := Lib.hid fun V hV => by
    have hB : Below w1.heap.size w1 V := hb16.trans (hV.below (fun k hk => by omega) hb16.size)
    obtain ⟨_, h2, h3⟩ := HX.out V hB
    exact ⟨fr_block h3, h2⟩
  have HB6 := Lib.hid hb16
  have HL6 := Lib.hid hLk6
  have HBX := Lib.hid hbxL
  have HNL := Lib.hid hnumL
  obtain ⟨C, hC⟩ : ∃ C, fs.map Fr.ct = C := ⟨_, rfl⟩
  have HCC := Lib.hid hC
  have hmz : misZ (fs.map Fr.ct) q' = (Sl.mis C q').map fun (i : Nat) => (i : Int) := by rw [hC]; rfl
  have hLl : (Sl.mis C q').length ≤ 255 := by have := Sl.mis_few C q'; omega
  have hBvl := hbxL.lt
  have hnil := values_not_nil Bv w6
  have hbiw : bi + 1 < w6.heap.size := by omega
  have HS4 : Hid (w1.heap.size ≤ bi) := by show _ ≤ _; omega
  have HSBV : Hid (bi + 1 < Bv) := by show _ < _; omega
  have HS5 : Hid (bi + 1 < w5.heap.size) := by show _ < _; omega
  clear hb56 hs6 hLk6 hb16 hra6 hx6 hbxL hnumL hb45 hb5 hs5 bI5 bO5 hs4 HW5 KM
  gi_wp2_with fail
  refine range_stops rfl (by omega) (gf := 107) (lb := #[.pointer (some ⟨Bv, 0, none⟩)]) rfl trivial (enters_of Tryz.func107 (by kernel_rfl) rfl)
    (fun x : Int => #[Value.int .i64 x]) (fun _ => rfl)
    (fun j x V => (∃ p, p ≤ q' ∧ (Sl.mis C p).length = j ∧ LkS w6 bi p V) ∧ ((Sl.mis C q').map fun (i : Nat) => (i : Int))[j]? = some x)
    (fun j V => ∃ p, p ≤ q' ∧ (Sl.mis C p).length = j ∧ LkS w6 bi p V)
    (fun _ _ => False) (fun _ _ => True) (Sl.mis C q').length
    (fun j x V l o o' h hl ho hc' => by
      obtain ⟨⟨i, h1, h2, h3⟩, h4⟩ := h
      exact ⟨⟨i, h1, h2, h3.below hbiw (below_put V o' hl)⟩, h4⟩)
    (fun j V l o o' h hl ho hc' => by
      obtain ⟨i, h1, h2, h3⟩ := h
      exact ⟨i, h1, h2, h3.below hbiw (below_put V o' hl)⟩)
    (fun _ _ _ _ _ h _ _ _ => h)
    (fun _ _ _ _ _ => trivial) (fun _ _ _ _ _ _ _ => trivial)
    (fun o => ⟨0, by omega, rfl, HL6.out.below hbiw (((Below.refl w6.heap.size w6).alloc (Nat.le_refl _) _).alloc (by simp) _)⟩) ?a1 ?assign ?body ?iter ?done ?stop
  case assign =>
    intro l x V K hK
    gi_wp2
    exact hK
  case body =>
    rintro l j x V hl ⟨⟨p, hpq, hpj, hLk⟩, hx⟩ hj
    rw [List.getElem?_map] at hx
    obtain ⟨qq, hqq, rfl⟩ := Option.map_eq_some_iff.1 hx
    obtain ⟨hqn, hqh, hpqq, hnext, hbetw⟩ := Sl.mis_next hqq hpj
    have HNX0 := Lib.hid hnext
    have HBT := Lib.hid hbetw
    have HQH := Lib.hid hqh
    have HLK := Lib.hid hLk
    have hqn' : (qq : Int) < (q' : Int) := by omega
    clear hx hqq hqh hnext hbetw hLk hpj hj hnil
    gi_wp2_with fail
    gi_loopw [] (fun wr => ∃ d : Nat, p ≤ d ∧ d ≤ qq ∧ LkS w6 bi d wr ∧ KeepsOthers V wr) (fun wr => 256 - inBoxS bi wr)
    case atStart => exact ⟨p, Nat.le_refl _, hpqq, HLK.out, KeepsOthers.refl _⟩
    case round =>
      obtain ⟨d, hpd, hdq, hLd, hko⟩ := hrel
      have kI := hLd.at'.cell
      obtain ⟨⟨c0, c1, c2, c3, c4, c5⟩, hraV⟩ := HHV.out wr hLd.off
      have hdn : (d : Int) < (q' : Int) := by omega
      have KHs := rhas_any v k s 0 hraV d
      unfold HasR at KHs
      rw [HCC.out] at KHs
      unfold frV frC at KHs
      have HLD := Lib.hid hLd
      have HKO := Lib.hid hko
      have hsz := hLd.off.size
      clear hLd hko hraV
      rename World => wr
      gi_wp2_with fail
      refine ⟨trivial, ?_⟩
      refine (callsIn_wide.2 KHs).mono ?_
      rintro e W1 ⟨hbW1, hor⟩
      have hL1 : LkS w6 bi d W1 := HLD.out.below hbiw (hbW1.mono hsz)
      have hko1 := HKO.out.trans (keeps_below hbW1)
      have kI := hL1.at'.cell
      have fI := hL1.at'.frozen
      have kO := hL1.ok.cell
      have fO := hL1.ok.frozen
      obtain ⟨⟨c0, c1, c2, c3, c4, c5⟩, _⟩ := HHV.out W1 hL1.off
      rcases hor with ⟨hno, rfl⟩ | ⟨hyes, jj, f', _, _, rfl⟩
      · have hdq2 : d = qq := by
          rcases Nat.lt_or_ge d qq with h4 | h4
          · rw [HBT.out d hpd h4] at hno; cases hno
          · omega
        subst hdq2
        have hfin : LkS w6 bi (d + 1) ((W1.setCell ⟨bi + 1, 0, none⟩ (.bool true)).setCell ⟨bi, 0, none⟩ (.int .i64 ((d : Int) + 1))) := hL1.right.next
        have kI2 := hL1.right.at'.cell
        have fI2 := hL1.right.at'.frozen
        have HFIN := Lib.hid hfin
        have HKO1 := Lib.hid hko1
        clear KHs hbW1 hno hL1 hko1 hfin
        gi_wp2
        exact ⟨((HKO1.out.trans (KeepsOthers.setCell _ _ _)).trans (KeepsOthers.setCell _ _ _)).from _, ⟨d + 1, by omega, HNX0.out, HFIN.out⟩, trivial⟩
      · have h4 : d < qq := by
          rcases Nat.lt_or_ge d qq with h4 | h4
          · exact h4
          · obtain rfl : d = qq := by omega
            rw [HQH.out] at hyes; cases hyes
        have hnx := hL1.next
        have hinb := HLD.out.num
        have hnum := hnx.num
        have HNX := Lib.hid (And.intro hnx (And.intro hnum hinb))
        have HKO1 := Lib.hid hko1
        clear KHs hbW1 hyes hL1 hko1 hnx hinb hnum
        gi_wp2
        go_roundw
        case rel => exact ⟨d + 1, by omega, by omega, HNX.out.1, HKO1.out.trans (KeepsOthers.setCell _ _ _)⟩
        case measure => rw [HNX.out.2.1, HNX.out.2.2]; omega
  case iter =>
    intro Bk X l V hBk hBlt hX hlw hD hB hY
    have hbxV : Boxed V Bv 159 (.slice AL (misZ (fs.map Fr.ct) q').length cpL) := by
      obtain ⟨p, _, _, h1⟩ := hD
      have := HSBV.out
      exact (h1.off.block Bv hBvl (by omega)).trans HBX.out
    rw [hmz] at HBX HNL hbxV
    refine (values_in 2 (by omega) 1 l Bv AL _ cpL ((Sl.mis C q').map fun (i : Nat) => (i : Int)) rfl (by rw [List.length_map]; omega) (fun k V => (∃ p, p ≤ q' ∧ (Sl.mis C p).length = k ∧ LkS w6 bi p V) ∧ Bk V) X ?_ ?_ V hbxV.cell ⟨hD, hB⟩).mono ?_
    · rintro k W ⟨⟨p, _, _, h1⟩, _⟩
      refine ⟨Bv, (HNL.out.keeps (w' := W) ⟨h1.off.size, fun g hg => h1.off.block g (by omega) (by have := HS5.out; have := hg.1; omega)⟩).nums fun g hg => hg.2⟩
    · rintro k x W ⟨h1, h2⟩ hx
      refine (hY _ _ W ⟨h1, hx⟩ h2 (by have := (List.getElem?_eq_some_iff.1 hx).1; rwa [List.length_map] at this)).mono ?_
      rintro e V2 (⟨rfl, hd, _, _⟩ | ⟨rfl, hx, _⟩)
      · exact .inl ⟨rfl, hd⟩
      · exact .inr ⟨rfl, hx⟩
    · rw [List.length_map]
      exact fun _ _ h => h
  case done =>
    rintro D V hD ⟨p, hpq, hpj, hLk⟩ hK
    have hrest : ∀ d, p ≤ d → d < q' → Sl.has C d = true := fun d h1 h2 => Sl.mis_rest hpj h1 h2
    have HRS := Lib.hid hrest
    have HLK := Lib.hid hLk
    have HKD := Lib.hid hK
    clear hrest hpj hLk hK hnil
    gi_wp2_with fail
    gi_loopw [] (fun wr => ∃ d : Nat, p ≤ d ∧ d ≤ q' ∧ LkS w6 bi d wr ∧ wr.heap[D]? = some (.deferred (some []))) (fun wr => 256 - inBoxS bi wr)
    case atStart => exact ⟨p, Nat.le_refl _, hpq, HLK.out, HKD.out⟩
    case round =>
      obtain ⟨d, hpd, hdq, hLd, hKd⟩ := hrel
      have kI := hLd.at'.cell
      have fI := hLd.at'.frozen
      have kO := hLd.ok.cell
      have fO := hLd.ok.frozen
      obtain ⟨⟨c0, c1, c2, c3, c4, c5⟩, hraV⟩ := HHV.out wr hLd.off
      rcases Nat.lt_or_ge d q' with h4 | h4
      · have hdn : (d : Int) < (q' : Int) := by omega
        have KHs := rhas_any v k s 0 hraV d
        unfold HasR at KHs
        rw [HCC.out] at KHs
        unfold frV frC at KHs
        have HLD := Lib.hid hLd
        have hsz := hLd.off.size
        have hDlt := (Array.getElem?_eq_some_iff.1 hKd).1
        have HKd := Lib.hid hKd
        clear hLd hraV hKd
        rename World => wr
        gi_wp2_with fail
        refine ⟨trivial, ?_⟩
        refine (callsIn_wide.2 KHs).mono ?_
        rintro e W1 ⟨hbW1, hor⟩
        have hL1 : LkS w6 bi d W1 := HLD.out.below hbiw (hbW1.mono hsz)
        have hK1 := (hbW1.block D hDlt).trans HKd.out
        rcases hor with ⟨hno, _⟩ | ⟨hyes, jj, f', _, _, rfl⟩
        · rw [HRS.out d hpd h4] at hno; cases hno
        have kI := hL1.at'.cell
        have fI := hL1.at'.frozen
        have kO := hL1.ok.cell
        have fO := hL1.ok.frozen
        have kI2 := hL1.right.at'.cell
        have fI2 := hL1.right.at'.frozen
        have hnx := hL1.right.next
        have hnum := hnx.num
        have hinb := HLD.out.num
        have hKn : ((W1.setCell ⟨bi + 1, 0, none⟩ (.bool true)).setCell ⟨bi, 0, none⟩ (.int .i64 ((d : Int) + 1))).heap[D]? = some (.deferred (some [])) := (Below.heap_setCell _ ⟨bi, 0, none⟩ _ D (by simp; omega)).trans ((Below.heap_setCell W1 ⟨bi + 1, 0, none⟩ _ D (by simp; omega)).trans hK1)
        have HNX := Lib.hid (And.intro hnx (And.intro hnum (And.intro hinb hKn)))
        clear KHs hbW1 hyes hL1 hK1 hnx hnum hinb hKn
        gi_wp2
        go_roundw
        case rel => exact ⟨d + 1, by omega, by omega, HNX.out.1, HNX.out.2.2.2⟩
        case measure => rw [HNX.out.2.1, HNX.out.2.2.1]; omega
      · obtain rfl : d = q' := by omega
        have hbV := HB1.out.trans ((HB6.out.trans (hLd.off.below (fun k hk => by have := HS4.out; omega) HB6.out.size)).mono HB1.out.size)
        have HBV := Lib.hid hbV
        have hDw : w.heap.size ≤ D := by have := HB1.out.size; have := HB6.out.size; omega
        clear hLd hraV hbV
        gi_wp2
        refine ⟨by simp, .inl ⟨_, _, rfl, run_takeDeferred hKd, ?_⟩⟩
        refine ⟨_, results_tmp rfl _ _ _, rfl, ?_⟩
        exact HBV.out.trans (below_put (B := w.heap.size) _ (.deferred none) hDw)
  case stop =>
    rintro D cd V _ h _
    exact h.elim
end Go.Proofs.YtfdbcfkjablnkaaGreat

namespace Go.Proofs.YtfdbcfkjablnkaaGreat
open Go.RowKit
set_option maxRecDepth 100000

/-- what Copy leaves -/
def CopyR (w : World) (v k s c : Int) (E : List Pl) (e : Ending) (w' : World) : Prop :=
  ∃ b m E', e = .returned (.pointer (some ⟨b, 0, none⟩)) ∧ SlotAt w' b m v k s c E' ∧ (E'.map Pl.ct).Perm (E.map Pl.ct) ∧ Below w.heap.size w w' ∧ w.heap.size ≤ b ∧ w.heap.size ≤ m
set_option maxHeartbeats 8000000 in
theorem scopy_any {w : World} {b m : Nat} {v k s c : Int} {E : List Pl} (h : SlotAt w b m v k s c E) :
    Calls Tryz.prog 86 #[.pointer (some ⟨b, 0, none⟩)] w (CopyR w v k s c E) := by
  obtain ⟨c0, c1, c2, c3, c4, c5⟩ := h.cells
  have hlt := h.size
  have hmlt := h.map.lt
  have hmm := @run_makeMap Tryz.prog
  obtain ⟨w2, hw2⟩ : ∃ w2, (w.alloc (.map #[] 0)).alloc (.cells #[.int .i64 v, .int .i64 k, .int .u32 s, .int .i64 0, .int .i64 c, .map (some w.heap.size)] 147) = w2 := ⟨_, rfl⟩
  have hb2 : Below w.heap.size w w2 := by rw [← hw2]; exact ((Below.refl _ w).alloc (Nat.le_refl _) _).alloc (by simp) _
  have hs2 : w2.heap.size = w.heap.size + 2 := by rw [← hw2]; simp
  have hnew : SlotAt w2 (w.heap.size + 1) w.heap.size v k s c [] := by
    have hr := World.alloc_heap_new (w.alloc (.map #[] 0)) (Obj.cells #[.int .i64 v, .int .i64 k, .int .u32 s, .int .i64 0, .int .i64 c, .map (some w.heap.size)] 147)
    rw [World.size_alloc, hw2] at hr
    have hm := (MapAt.new w).below ((Below.refl _ _).alloc (Nat.le_refl _) (Obj.cells #[.int .i64 v, .int .i64 k, .int .u32 s, .int .i64 0, .int .i64 c, .map (some w.heap.size)] 147))
    rw [hw2] at hm
    exact ⟨hr, hm, fun p hp => (by cases hp), fun p hp => (by cases hp), h.good, by simp [Sl.tot], h.word⟩
  have hold := h.below hb2
  have hmap2 := hold.map
  have d5 := hold.cells.2.2.2.2.2
  have HOLD := Lib.hid h
  have HNEW := Lib.hid hnew
  have HB2 := Lib.hid hb2
  have HW2 := Lib.hid hw2
  clear hold hw2 hb2 hnew h
  generalize hG : CopyR w v k s c E = G
  have HG := Lib.hid hG
  clear hG
  go_enter Tryz.func86, Tryz.ntmps86
  go_wp2_with (at_range; rw [HW2.out]; refine wpList_range_map rfl (.tmp 18) 145 rfl 3 40 Tryz.underlying145 rfl hmap2 ?_; intro w3 hrg3 hb3 hs3)
  try go_frame
  rw [hs2] at hrg3 hs3 ⊢
  go_loopw [4] (fun _ wr => ∃ D E2 : List Pl, RangeAt wr m (w.heap.size + 2) E D ∧ SlotAt wr (w.heap.size + 1) w.heap.size v k s c E2 ∧ Below w.heap.size w wr ∧ E2.map Pl.ct = D.map Pl.ct) (fun _ wr => wr.rangeLeft m (w.heap.size + 2))
  case atStart => exact ⟨[], [], hrg3, HNEW.out.below hb3, HB2.out.trans (hb3.mono HB2.out.size), rfl⟩
  case round =>
    obtain ⟨D, E2, hrg, hsl, hbw, hct⟩ := hrel
    go_wp2_with (at_next; refine wpList_next_map rfl (.tmp 19) rfl rfl hrg ?_ ?_)
    · intro hd
      have HFIN := Lib.hid (show CopyR w v k s c E (.returned (.pointer (some ⟨w.heap.size + 1, 0, none⟩))) wr from ⟨_, _, E2, rfl, hsl, by rw [hct]; exact hd.map _, hbw, by omega, Nat.le_refl _⟩)
      rw [HG.out] at HFIN
      clear hrg hsl hd hct
      go_wp2
      exact HFIN.out
    · intro p w1 hp hrg1 ho1 hs1 hen
      have hd1 := hrg1.left
      have hd0 := hrg.left
      obtain ⟨R, hperm⟩ := hrg1.sub
      have hlen := hperm.length_eq
      have hbw1 : Below w.heap.size w w1 := hbw.trans (ho1.below (fun q hq => by subst hq; omega) hbw.size)
      have hrc : w.heap.size + 2 < wr.heap.size := hrg.lt
      have hsl1 : SlotAt w1 (w.heap.size + 1) w.heap.size v k s c E2 := hsl.off ho1 (by omega) (by omega) (fun g cs hg e => by
        obtain ⟨A, clock, since, seen, c0, R, hb, h2, hr', _⟩ := hrg
        rw [e, hr'] at hg
        injection hg with hg
        cases hg)
      have hp1 := (HOLD.out.below hbw1).pays p hp
      have hpc := (HOLD.out.below hbw1).few p hp
      have hkeys := hrg1.keys.1
      have hnone : Pl.at E2 p.i = none := by
        have h1 := Pl.has_ct E2 p.i
        cases h9 : Pl.at E2 p.i with
        | none => rfl
        | some q =>
          rw [h9, hct] at h1
          have h2 := Sl.has_iff.1 h1
          have h3 := hkeys.1
          rw [List.map_append, List.nodup_append] at h3
          rw [List.map_map] at h2
          exact absurd rfl (h3.2.2 p.i h2 p.i (by simp))
      have hpi : p.i ≤ 9223372036854775807 := hkeys.2 p (by simp)
      have L1 : ∀ V, Below w1.heap.size w1 V → (Instr.loadAt 145 (.pointer (some ⟨w.heap.size + 1, 5, none⟩))).run Tryz.prog V = .ok (.map (some w.heap.size)) V := fun V hV => by
        obtain ⟨d0, d1, d2, d3, d4, d5⟩ := (hsl1.below hV).cells
        simp [Instr.loadAt, go_sem, d5]
      have hzl : p.zs.length ≤ 192 := by
        have h1 := tot_le hperm
        have h2 : Sl.tot ((D ++ [p]).map Pl.ct) = Sl.tot (D.map Pl.ct) + p.zs.length := by rw [List.map_append]; exact Sl.tot_push _ _
        have := HOLD.out.most
        omega
      have htot : Sl.tot (E2.map Pl.ct) + p.zs.length ≤ 192 := by
        have h1 := tot_le hperm
        have h2 : Sl.tot ((D ++ [p]).map Pl.ct) = Sl.tot (D.map Pl.ct) + p.zs.length := by rw [List.map_append]; exact Sl.tot_push _ _
        have := HOLD.out.most
        rw [hct]
        omega
      have HP1 := Lib.hid hp1
      have HSL1 := Lib.hid hsl1
      have HRG1 := Lib.hid hrg1
      have HNO := Lib.hid hnone
      have HBW1 := Lib.hid hbw1
      have HCT := Lib.hid hct
      have HPI := Lib.hid hpi
      have HPC := Lib.hid hpc
      have HD1 := Lib.hid hd1
      have HD0 := Lib.hid hd0
      have HLEN := Lib.hid hlen
      have HTOT := Lib.hid htot
      have HRC : Hid (w.heap.size + 2 < w1.heap.size) := by show _ < _; omega
      clear hp1 hsl1 hrg1 hnone hbw1 hct hpi hpc hd1 hd0 hlen htot hkeys hperm hrg hsl hbw hp
      go_wp2_with fail
      refine wp_region_FS 33 7 4 [31] (fun _ x V => ∃ A c2, x = .slice A p.zs.length c2 ∧ PayAt V ⟨p.i, A, c2, p.zs⟩) (fun V => Below w1.heap.size w1 V) (fun xs V V' => ∃ A c2, xs 31 = .slice A p.zs.length c2 ∧ PayAt V ⟨p.i, A, c2, p.zs⟩ ∧ MapAt V' w.heap.size (E2 ++ [⟨p.i, A, c2, p.zs⟩]) ∧ Off (fun q => q = w.heap.size) V V') (by kernel_rfl) (by kernel_rfl) (by rfl) (by kernel_rfl) (by rfl) (by simp) (fun W W' h hb => h.trans (hb.mono h.size)) (fun q x W W' ⟨A, c2, h1, h2⟩ hb => ⟨A, c2, h1, h2.below hb⟩) (Below.refl _ _).drew ?_
      repeat (first | (refine wpFS_step (wpF_nil rfl rfl rfl rfl ?_); simp only [wpF, Act.put, List.setIfInBounds_toArray, List.set_cons_succ, List.set_cons_zero]) | (refine wpFS_step (wpF_pure rfl rfl ?_); go_big_quiet_step (fail); refine wpQuiet_nil ?_; simp only [wpF]))
      refine wpFS_step (wpF_load _ rfl (by rfl) (by rfl) (by rfl) L1 ?_)
      simp only [wpF, Act.put, List.setIfInBounds_toArray, List.set_cons_succ, List.set_cons_zero]
      repeat (refine wpFS_step (wpF_pure rfl rfl ?_); go_big_quiet_step (fail); refine wpQuiet_nil ?_; simp only [wpF])
      refine wpFS_step (wpF_callsrc 31 (f := 78) (args := #[.slice p.a p.zs.length p.cp]) (by simp) rfl rfl rfl (fun x => by first | rfl | (simp [go_sem]; done)) (fun V hV => (clone_any p.a p.zs.length p.cp p.zs V rfl (by omega) ((HP1.out.below hV).nums)).mono fun e V' ⟨x, he, hm⟩ => ?_) ?_)
      · obtain ⟨A, c2, rfl, hp⟩ := hm.pay HP1.out.ne HP1.out.byte p.i
        exact ⟨_, he, ⟨A, c2, rfl, hp⟩, hm.2⟩
      simp only [wpF, Act.put, List.setIfInBounds_toArray, List.set_cons_succ, List.set_cons_zero]
      refine wpFS_upd rfl rfl rfl (fun xs V hV hx => ?_) ?_
      · obtain ⟨A, c2, e31, hp⟩ := hx 31 (by simp)
        obtain ⟨V', hrun, hmap, hoff, _⟩ := (HSL1.out.below hV).map.run_upd (P := Tryz.prog) (t := 145) Tryz.underlying145 Tryz.underlying3 ⟨p.i, A, c2, p.zs⟩ HPI.out HNO.out
        refine ⟨V', ?_, A, c2, e31, hp, hmap, hoff⟩
        simp only [Pl.val] at hrun
        simp only [fill, Act.put, Act.eval, e31]
        exact hrun
      simp only [wpFS]
      rintro xs V V' hV hx ⟨A, c2, e31, hp, hmap, hoff⟩
      have hSV := HSL1.out.below hV
      have hbV := HBW1.out.trans (hV.mono HBW1.out.size)
      have hncell : ∀ g cs, V.heap[g]? = some (.cells cs 5 (0, 0)) → ¬ (g = w.heap.size) := fun g cs hg e => hSV.map.not_cells _ _ _ (by rw [← e]; exact hg)
      have hfin : SlotAt V' (w.heap.size + 1) w.heap.size v k s c (E2 ++ [⟨p.i, A, c2, p.zs⟩]) := by
        refine ⟨(hoff.block _ hSV.size (by omega)).trans hSV.row, hmap, fun q hq => ?_, fun q hq => ?_, hSV.good, ?_, hSV.word⟩
        · rcases List.mem_append.1 hq with hq | hq
          · exact (hSV.pays q hq).off hoff hncell
          · obtain rfl := List.mem_singleton.1 hq
            exact hp.off hoff hncell
        · rcases List.mem_append.1 hq with hq | hq
          · exact hSV.few q hq
          · obtain rfl := List.mem_singleton.1 hq
            exact HPC.out
        · rw [List.map_append, List.map_singleton, Sl.tot_push]
          exact HTOT.out
      have hrgV := HRG1.out.below hV
      have hrgF : RangeAt V' m (w.heap.size + 2) E (D ++ [p]) := hrgV.off hoff (by omega) (by omega)
      have hbF : Below w.heap.size w V' := hbV.trans (hoff.below (fun q hq => by omega) hbV.size)
      have HFIN := Lib.hid (And.intro hfin (And.intro hrgF hbF))
      have hleft := hrgF.left
      have HLEFT := Lib.hid hleft
      clear hp hmap hoff hSV hbV hncell hfin hV hx hrgV hrgF hbF hleft L1
      simp only [fill, Act.put, List.setIfInBounds_toArray, List.set_cons_succ, List.set_cons_zero]
      generalize xs 31 = x31
      go_wp2
      go_roundw
      case rel => exact ⟨D ++ [p], _, HFIN.out.2.1, HFIN.out.1, HFIN.out.2.2, by rw [List.map_append, List.map_append, HCT.out]; rfl⟩
      case measure =>
        have h1 := HLEFT.out
        have h2 := HD0.out
        have h3 := HLEN.out
        rw [h1, h2]
        simp at h3 ⊢
        omega
end Go.Proofs.YtfdbcfkjablnkaaGreat

namespace Go.Proofs.YtfdbcfkjablnkaaGreat
open Go.RowKit
set_option maxRecDepth 100000

end Go.Proofs.YtfdbcfkjablnkaaGreat

namespace Go.Proofs.YtfdbcfkjablnkaaGreat
open Go.RowKit Go.Shelf
set_option maxRecDepth 100000
attribute [local go_sem] Oper.semAt_some

/-- a frame, cut -/
theorem cut_any (v k s i c : Int) (A : Option Addr) (n m cp : Nat) (w : World) (hm : min (n : Int) 250 = (m : Int)) (hmn : m ≤ n) (hn : n ≤ cp) :
    Calls Tryz.prog 7 #[frV v k s i c (.slice A n cp)] w fun e w' => e = .returned (frV v k s i c (.slice A m cp)) ∧ Below w.heap.size w w' := by
  have hmc : (m : Int) ≤ (cp : Int) := by omega
  unfold frV
  have HF : Hid (frC v k s i c (.slice A n cp) = #[.int .i64 v, .int .i64 k, .int .u32 s, .int .i64 i, .int .i64 c, .slice A n cp]) := rfl
  have HG : Hid (frC v k s i c (.slice A m cp) = #[.int .i64 v, .int .i64 k, .int .u32 s, .int .i64 i, .int .i64 c, .slice A m cp]) := rfl
  rw [HF.out, HG.out]
  go_enter Tryz.func7, Tryz.ntmps7
  go_wp2
  refine bodyPost_ret (v := .agg #[.int .i64 v, .int .i64 k, .int .u32 s, .int .i64 i, .int .i64 c, .slice A m cp]) (by simp [results, Tryz.results7, go_sem]) rfl ?_
  exact ⟨rfl, ((Below.refl _ w).alloc (Nat.le_refl _) _).alloc (by simp) _⟩
end Go.Proofs.YtfdbcfkjablnkaaGreat

namespace Go.Proofs.YtfdbcfkjablnkaaGreat
open Go.RowKit Go.Shelf
set_option maxRecDepth 100000
attribute [local go_sem] Oper.semAt_some

theorem of_frame (v k s i c : Int) (A : Option Addr) (n cp : Nat) (w : World) : Calls Tryz.prog 9 #[frV v k s i c (.slice A n cp)] w fun e w' => e = .returned (frV v k s i c (.slice A n cp)) ∧ Below w.heap.size w w' := by
  have hb : Below w.heap.size w ((w.alloc (.cells (frC v k s i c (.slice A n cp)) 42)).alloc (.cells (frC v k s i c (.slice A n cp)) 52)) := ((Below.refl _ w).alloc (Nat.le_refl _) _).alloc (by simp) _
  have HB := Lib.hid hb
  unfold frV
  have HF : Hid (frC v k s i c (.slice A n cp) = #[.int .i64 v, .int .i64 k, .int .u32 s, .int .i64 i, .int .i64 c, .slice A n cp]) := rfl
  rw [HF.out] at HB ⊢
  clear hb
  go_enter Tryz.func9, Tryz.ntmps9
  go_wp2
  refine bodyPost_ret (v := .agg #[.int .i64 v, .int .i64 k, .int .u32 s, .int .i64 i, .int .i64 c, .slice A n cp]) (by simp [results, Tryz.results9, go_sem]) rfl ?_
  exact ⟨rfl, HB.out⟩
end Go.Proofs.YtfdbcfkjablnkaaGreat

namespace Go.Proofs.YtfdbcfkjablnkaaGreat
open Go.RowKit
set_option maxRecDepth 100000

theorem salike_any {w : World} {b m : Nat} {v k s : Int} {c : Int} {E : List Pl} (h : SlotAt w b m v k s c E) {A : Option Addr} {n cp : Nat} {fs : List Fr} (hr : RefAt w c A n cp fs) (hp : (E.map Pl.ct).Perm (fs.map Fr.ct)) :
    Calls Tryz.prog 69 #[.pointer (some ⟨b, 0, none⟩), frV v k s 0 c (.slice A n cp)] w fun e w' => e = .returned (.bool true) ∧ Below w.heap.size w w' := by
  obtain ⟨q, rfl, _⟩ := h.count
  by_cases hq : n = q
  · exact salike_full h hr hp hq
  · exact salike_part h hr hp hq
/-- the document's slot behind a frame -/
def nxF (gs : List Fr) (f : Fr) (er : Int) : List Fr := if er = 0 then gs ++ [f] else gs
theorem rput_nx {w w' : World} {v k s c : Int} {A : Option Addr} {n cp : Nat} {gs : List Fr} {f : Fr} {er : Int} {e : Ending} (hr : RefAt w c A n cp gs) (h : RPutR w v k s c A n cp gs f er e w') :
    ∃ A2 n2 cp2, e = .returned (.tuple #[frV v k s 0 c (.slice A2 n2 cp2), .int .i64 er]) ∧ RefAt w' c A2 n2 cp2 (nxF gs f er) ∧ Below w.heap.size w w' := by
  obtain ⟨hb, ⟨h0, he⟩ | ⟨h0, A2, cp2, he, hr2⟩⟩ := h
  · exact ⟨A, n, cp, he, by unfold nxF; rw [if_neg h0]; exact hr.below hb, hb⟩
  · subst h0
    exact ⟨A2, n + 1, cp2, he, hr2, hb⟩
/-- where the law's loop is: the slot and the document's are the same -/
structure PP (w : World) (b m bm : Nat) (v k s c : Int) (E : List Pl) (A : Option Addr) (n cp : Nat) (gs : List Fr) (wr : World) : Prop where
  slot : SlotAt wr b m v k s c E
  box : wr.heap[bm]? = some (.cells (frC v k s 0 c (.slice A n cp)) 84 (0, 0))
  ref : RefAt wr c A n cp gs
  same : E.map Pl.ct = gs.map Fr.ct
  below : Below w.heap.size w wr
theorem PP.below' {w wr wr' : World} {b m bm : Nat} {v k s c : Int} {E : List Pl} {A : Option Addr} {n cp : Nat} {gs : List Fr} (h : PP w b m bm v k s c E A n cp gs wr) (hb : Below wr.heap.size wr wr') : PP w b m bm v k s c E A n cp gs wr' :=
  ⟨h.slot.below hb, (hb.block bm (Array.getElem?_eq_some_iff.1 h.box).1).trans h.box, h.ref.below hb, h.same, h.below.trans (hb.mono h.below.size)⟩
theorem fs_store (W : World) (g : Nat) (old cs : Array Value) (h : W.heap[g]? = some (.cells old 84 (0, 0))) (ho : old.size = 6) (hc : cs.size = 6) (h1 : cs.all (·.oneCell') = true) :
    (Instr.storeAt 84 (.pointer (some ⟨g, 0, none⟩)) (.agg cs)).run Tryz.prog W = .ok () (W.setRow g cs) := by
  simp only [Instr.storeAt, Instr.sureAddr, Sem.run_bind, Sem.run_pure, Result.andThen]
  exact run_storeVar_row W g 84 84 old cs h (by rw [hc]; exact ssInfo) (by omega) h1
/-- what the operations of 'next, want := ref.Put(m, Of(f))' hand on -/
def FNx (H : Nat) (v k s c : Int) (gs : List Fr) (f : Fr) (er : Int) (q : Tmp) (x : Value) (W : World) : Prop :=
  if q = 12 then ∃ g, x = .pointer (some ⟨g, 0, none⟩) ∧ H ≤ g ∧ W.heap[g]? = some (.cells (frC 0 0 0 0 0 (.slice none 0 0)) 84 (0, 0))
  else ∃ A2 n2 cp2, x = (if q = 63 then frV v k s 0 c (.slice A2 n2 cp2) else .tuple #[frV v k s 0 c (.slice A2 n2 cp2), .int .i64 er]) ∧ RefAt W c A2 n2 cp2 (nxF gs f er)
theorem FNx.later {H : Nat} {v k s c : Int} {gs : List Fr} {f : Fr} {er : Int} {q : Tmp} {x : Value} {W W' : World} (h : FNx H v k s c gs f er q x W) (hb : Below W.heap.size W W') : FNx H v k s c gs f er q x W' := by
  unfold FNx at h ⊢
  split at h
  · rename_i hq
    rw [if_pos hq]
    obtain ⟨g, e, hg, h1⟩ := h
    exact ⟨g, e, hg, (hb.block g (Array.getElem?_eq_some_iff.1 h1).1).trans h1⟩
  · rename_i hq
    rw [if_neg hq]
    obtain ⟨A2, n2, cp2, e, h1⟩ := h
    exact ⟨A2, n2, cp2, e, h1.below hb⟩
end Go.Proofs.YtfdbcfkjablnkaaGreat

namespace Go.Proofs.YtfdbcfkjablnkaaGreat
open Go.RowKit Go.Shelf
set_option maxRecDepth 100000
attribute [local go_sem] Oper.semAt_some
namespace Tb
/-- the same message, whatever the order in which its frames came -/
def Like (x y : Ms) : Prop := y.v = x.v ∧ y.k = x.k ∧ y.s = x.s ∧ y.c = x.c ∧ x.C.Perm y.C
def Likes : List Ms → List Ms → Prop
  | [], [] => True
  | x :: r, y :: s => Like x y ∧ Likes r s
  | _, _ => False
theorem Likes.push : ∀ {T T' : List Ms} {x y : Ms}, Likes T T' → Like x y → Likes (T ++ [x]) (T' ++ [y])
  | [], [], _, _, _, h => ⟨h, trivial⟩
  | _ :: _, _ :: _, _, _, h, h2 => ⟨h.1, Likes.push h.2 h2⟩
  | [], _ :: _, _, _, h, _ => h.elim
  | _ :: _, [], _, _, h, _ => h.elim
theorem Likes.nums : ∀ {T T' : List Ms}, Likes T T' → nums T' = nums T
  | [], [], _ => rfl
  | x :: r, y :: s, h => by
    have := Likes.nums h.2
    unfold Tb.nums at *
    rw [List.map_cons, List.map_cons, this, h.1.2.2.1]
  | [], _ :: _, h => h.elim
  | _ :: _, [], h => h.elim
end Tb
theorem nodup_at {α : Type} : ∀ {l : List α} {i j : Nat} {a : α}, l.Nodup → l[i]? = some a → l[j]? = some a → i = j
  | [], i, _, a, _, h, _ => by simp at h
  | x :: r, 0, 0, a, _, _, _ => rfl
  | x :: r, 0, j + 1, a, hn, h1, h2 => by
    simp only [List.getElem?_cons_zero, Option.some.injEq] at h1
    rw [List.getElem?_cons_succ] at h2
    exact absurd (List.mem_of_getElem? h2) (by rw [← h1]; exact (List.nodup_cons.1 hn).1)
  | x :: r, i + 1, 0, a, hn, h1, h2 => by
    simp only [List.getElem?_cons_zero, Option.some.injEq] at h2
    rw [List.getElem?_cons_succ] at h1
    exact absurd (List.mem_of_getElem? h1) (by rw [← h2]; exact (List.nodup_cons.1 hn).1)
  | x :: r, i + 1, j + 1, a, hn, h1, h2 => by
    rw [List.getElem?_cons_succ] at h1 h2
    rw [nodup_at (List.nodup_cons.1 hn).2 h1 h2]
/-- what the slots hold whose values are known by what they are good for -/
def FCp (H n r : Nat) (L : List Int) (q : Tmp) (x : Value) (W : World) : Prop :=
  if q = 16 then ∃ A cp, x = .slice A n cp ∧ W.ownsRow H 22 1 (.slice A n cp) n (L.map (Value.int .u32))
  else if q = 17 then ∃ m, x = .map (some m) ∧ H ≤ m ∧ TMapAt W m []
  else if q = 18 then ∃ A cp m, x = .agg #[.int .i64 (r : Int), .slice A n cp, .map (some m)] ∧ W.ownsRow H 22 1 (.slice A n cp) n (L.map (Value.int .u32)) ∧ H ≤ m ∧ TMapAt W m []
  else if q = 19 then ∃ c A cp m, x = .pointer (some ⟨c, 0, none⟩) ∧ H ≤ c ∧ W.heap[c]? = some (.cells #[.int .i64 (r : Int), .slice A n cp, .map (some m)] 97 (0, 0)) ∧ W.ownsRow H 22 1 (.slice A n cp) n (L.map (Value.int .u32)) ∧ H ≤ m ∧ TMapAt W m []
  else ∃ p, x = .pointer (some ⟨p, 0, none⟩) ∧ H ≤ p ∧ Boxed W p 66 (.pointer none)
theorem tord_below {w w' : World} {base size n : Nat} {e : TypeId} {v : Value} {xs : List Value} (h : w.ownsRow base e size v n xs) (hb : Below w.heap.size w w') : w'.ownsRow base e size v n xs := tord_off h (Off.of_below (S := fun _ => False) hb) fun _ _ h => h
theorem row_below {w w' : World} {q : Nat} {o : Obj} (h : w.heap[q]? = some o) (hb : Below w.heap.size w w') : w'.heap[q]? = some o := (hb.block q (Array.getElem?_eq_some_iff.1 h).1).trans h
theorem FCp.later {H n r : Nat} {L : List Int} {q : Tmp} {x : Value} {W W' : World} (h : FCp H n r L q x W) (hb : Below W.heap.size W W') : FCp H n r L q x W' := by
  unfold FCp at *
  split
  · rename_i e; rw [if_pos e] at h
    obtain ⟨A, cp, h1, h2⟩ := h
    exact ⟨A, cp, h1, tord_below h2 hb⟩
  · rename_i e; rw [if_neg e] at h
    split
    · rename_i e; rw [if_pos e] at h
      obtain ⟨m, h1, h2, h3⟩ := h
      exact ⟨m, h1, h2, h3.below hb⟩
    · rename_i e; rw [if_neg e] at h
      split
      · rename_i e; rw [if_pos e] at h
        obtain ⟨A, cp, m, h1, h2, h3, h4⟩ := h
        exact ⟨A, cp, m, h1, tord_below h2 hb, h3, h4.below hb⟩
      · rename_i e; rw [if_neg e] at h
        split
        · rename_i e; rw [if_pos e] at h
          obtain ⟨c, A, cp, m, h1, h2, h3, h4, h5, h6⟩ := h
          exact ⟨c, A, cp, m, h1, h2, row_below h3 hb, tord_below h4 hb, h5, h6.below hb⟩
        · rename_i e; rw [if_neg e] at h
          obtain ⟨p, h1, h2, h3⟩ := h
          exact ⟨p, h1, h2, row_below h3 hb⟩
/-- a copy under way: box p holds the table in block c, its map in block m; X' has come -/
structure CpS (w : World) (p c m r n cp : Nat) (A : Option Addr) (L : List Int) (X X' : List Sx) (V : World) : Prop where
  box : Boxed V p 66 (.pointer (some ⟨c, 0, none⟩))
  row : V.heap[c]? = some (.cells #[.int .i64 (r : Int), .slice A n cp, .map (some m)] 97 (0, 0))
  ord : V.ownsRow w.heap.size 22 1 (.slice A n cp) n (L.map (Value.int .u32))
  map : TMapAt V m (X'.map Sx.key)
  slots : ∀ x ∈ X', x.At V
  maps : (m :: X'.map Sx.m).Nodup
  like : Tb.Likes (X.map Sx.ms) (X'.map Sx.ms)
  new : w.heap.size ≤ p ∧ w.heap.size ≤ c ∧ w.heap.size ≤ m ∧ ∀ x ∈ X', w.heap.size ≤ x.m
  below : Below w.heap.size w V
section
variable {w V V' W W' : World} {p c m r n cp : Nat} {A : Option Addr} {L : List Int} {X X' : List Sx}
theorem CpS.below' (h : CpS w p c m r n cp A L X X' V) (hb : Below V.heap.size V V') : CpS w p c m r n cp A L X X' V' :=
  ⟨(hb.block _ h.box.lt).trans h.box, row_below h.row hb, tord_below h.ord hb, h.map.below hb, fun x hx => (h.slots x hx).below hb, h.maps, h.like, h.new, h.below.trans (hb.mono h.below.size)⟩
/-- a record that is no row and no map is turned -/
theorem CpS.loop {l : Nat} {o : Obj} (h : CpS w p c m r n cp A L X X' V) (ho : V.heap[l]? = some o) (o1 : ∀ cs t x, o ≠ .cells cs t x) (o2 : ∀ A k, o ≠ .map A k) (hl : w.heap.size ≤ l) (o' : Obj) : CpS w p c m r n cp A L X X' (V.putObj l o') := by
  have hof : Off (fun q => q = l) V (V.putObj l o') := ⟨rfl, rfl, rfl, by simp, fun k _ hk => World.putObj_heap_other hk⟩
  have hc : ∀ (q : Nat) (cs : Array Value) (t : TypeId) (x : Nat × Nat), V.heap[q]? = some (.cells cs t x) → ¬ q = l := fun q cs t x h1 e => by
    rw [e, ho] at h1; injection h1 with h1; exact o1 _ _ _ h1
  have hm : ∀ (q : Nat) (A : Array MapEntry) (k : Nat), V.heap[q]? = some (.map A k) → ¬ q = l := fun q A k h1 e => by
    rw [e, ho] at h1; injection h1 with h1; exact o2 _ _ h1
  refine ⟨(hof.block _ h.box.lt (hc _ _ _ _ h.box)).trans h.box, (hof.block _ (Array.getElem?_eq_some_iff.1 h.row).1 (hc _ _ _ _ h.row)).trans h.row, tord_off h.ord hof fun g hg => ?_, h.map.off hof ?_, fun x hx => (h.slots x hx).off hof (fun cs h1 => hc _ _ _ _ h1) ?_ (fun g cs h1 => hc _ _ _ _ h1), h.maps, h.like, h.new, h.below.trans (below_put V o' hl)⟩
  · obtain ⟨cs, h1⟩ := tord_row h.ord hg
    exact hc _ _ _ _ h1
  · obtain ⟨A, k, h1, _⟩ := h.map
    exact hm _ _ _ h1
  · obtain ⟨A, k, h1, _⟩ := SlotAt.map (h.slots x hx)
    exact hm _ _ _ h1
theorem CpS.keys (h : CpS w p c m r n cp A L X X' V) : X'.map Sx.s = X.map Sx.s := by
  have := h.like.nums
  rw [nums_ms, nums_ms] at this
  exact this
/-- one more copy has come -/
theorem CpS.push {x y : Sx} (h : CpS w p c m r n cp A L X X' V) (hW : Below V.heap.size V W) (hx : Tb.Like x.ms y.ms) (hy : y.At W) (hym : V.heap.size ≤ y.m) (hmap : TMapAt W' m ((X' ++ [y]).map Sx.key)) (hoff : Off (fun q => q = m) W W') :
    CpS w p c m r n cp A L (X ++ [x]) (X' ++ [y]) W' := by
  have hw := h.below' hW
  have hmlt := h.map.lt
  have hcell : ∀ (q : Nat) (cs : Array Value) (t : TypeId) (z : Nat × Nat), W.heap[q]? = some (.cells cs t z) → ¬ q = m := fun q cs t z h1 e => hw.map.not_cells cs t z (by rw [← e]; exact h1)
  have hXm : ∀ z ∈ X', z.m < V.heap.size := fun z hz => (SlotAt.map (h.slots z hz)).lt
  refine ⟨(hoff.block _ hw.box.lt (hcell _ _ _ _ hw.box)).trans hw.box, (hoff.block _ (Array.getElem?_eq_some_iff.1 hw.row).1 (hcell _ _ _ _ hw.row)).trans hw.row, tord_off hw.ord hoff fun g hg => ?_, hmap, fun z hz => ?_, ?_, ?_, ⟨h.new.1, h.new.2.1, h.new.2.2.1, fun z hz => ?_⟩, hw.below.trans (hoff.below (fun q hq => by rw [hq]; exact h.new.2.2.1) hw.below.size)⟩
  · obtain ⟨cs, h1⟩ := tord_row hw.ord hg
    exact hcell _ _ _ _ h1
  · rcases List.mem_append.1 hz with hz | hz
    · exact (hw.slots z hz).off hoff (fun cs h1 => hcell _ _ _ _ h1) (fun e => (List.nodup_cons.1 h.maps).1 (List.mem_map.2 ⟨z, hz, e⟩)) (fun g cs h1 => hcell _ _ _ _ h1)
    · obtain rfl := List.mem_singleton.1 hz
      exact hy.off hoff (fun cs h1 => hcell _ _ _ _ h1) (by omega) (fun g cs h1 => hcell _ _ _ _ h1)
  · rw [List.map_append, ← List.cons_append, List.nodup_append]
    refine ⟨h.maps, by simp, fun a ha q hq => ?_⟩
    have hq' : q = y.m := by simpa using hq
    subst hq'
    rcases List.mem_cons.1 ha with rfl | ha
    · omega
    · obtain ⟨z, hz, rfl⟩ := List.mem_map.1 ha
      have := hXm z hz
      omega
  · rw [List.map_append, List.map_append]
    exact h.like.push hx
  · rcases List.mem_append.1 hz with hz | hz
    · exact h.new.2.2.2 z hz
    · obtain rfl := List.mem_singleton.1 hz
      have := h.below.size
      omega
theorem CpS.done (h : CpS w p c m r n cp A (X.map Sx.s) X X' V) (hl : X.length = n) (hr : 1 ≤ r ∧ r ≤ 16) (hn : n ≤ r) : TblAt V (fun q => w.heap.size ≤ q) c r m A n cp X' := by
  have hk := h.keys
  have hl' : X'.length = n := by
    have := congrArg List.length hk
    rw [List.length_map, List.length_map] at this
    omega
  refine ⟨h.row, hl', ?_, h.map, h.slots, h.maps, hr, hn, h.new.2.1, h.new.2.2.1, fun g hg => (h.ord.lt g hg).1, h.new.2.2.2⟩
  rw [hk]
  exact ⟨h.ord.1, h.ord.2.imp id fun ⟨g, cap, cur, h1, h2, h3⟩ => ⟨g, cap, cur, h1, Nat.zero_le _, h3⟩⟩
end
section
variable {w : World} {S : Nat → Prop} {b r m n cp : Nat} {A : Option Addr} {X : List Sx}
set_option maxHeartbeats 8000000 in
theorem tcopy_any (h : TblAt w S b r m A n cp X) :
    Calls Tryz.prog 57 #[.pointer (some ⟨b, 0, none⟩)] w fun e w' => ∃ c m' A' cp' X', e = .returned (.pointer (some ⟨c, 0, none⟩)) ∧ TblAt w' (fun q => w.heap.size ≤ q) c r m' A' n cp' X' ∧ Tb.Likes (X.map Sx.ms) (X'.map Sx.ms) ∧ Below w.heap.size w w' := by
  have hlen := h.len
  have hn16 : n ≤ 16 := by have := h.few; have := h.room; omega
  have hmm := @run_makeMap Tryz.prog
  have HT := Lib.hid h
  have L1 : ∀ W, Below w.heap.size w W → (Instr.loadAt 3 (.pointer (some ⟨b, 0, none⟩))).run Tryz.prog W = .ok (.int .i64 (r : Int)) W := fun W hW => by
    obtain ⟨c0, c1, c2⟩ := (HT.out.below hW).cells
    simp [Instr.loadAt, go_sem, c0]
  have L2 : ∀ W, Below w.heap.size w W → (Instr.loadAt 95 (.pointer (some ⟨b, 1, none⟩))).run Tryz.prog W = .ok (.slice A n cp) W := fun W hW => by
    obtain ⟨c0, c1, c2⟩ := (HT.out.below hW).cells
    simp [Instr.loadAt, go_sem, c1]
  have KC : ∀ W, Below w.heap.size w W → Calls Tryz.prog 85 #[.slice A n cp] W fun e w' => ∃ v, e = .returned v ∧ MadeK 22 .u32 W w' (X.map Sx.s) v := fun W hW => clone_u32 A n cp (X.map Sx.s) W (by rw [List.length_map]; exact hlen) (by omega) ((HT.out.nums.below hW).mono hW.size)
  clear h
  refine (callsIn_wide (n := 3)).1 ?_
  refine callsIn_of_wp_marks Tryz.func57 rfl trivial ?_ rfl
  simp only [Tryz.ntmps57, List.size_toArray, List.length_cons, List.length_nil, Nat.reduceAdd, Nat.reduceSub, Array.replicate_succ, Array.replicate_zero, List.push_toArray, List.append_toArray, List.nil_append, List.cons_append]
  gi_wp2_with fail
  refine wpIn_wide.2 ?_
  refine wp_region_FS 32 13 6 [16, 17, 18, 19, 3] (FCp w.heap.size n r (X.map Sx.s)) (fun W => Below w.heap.size w W) (fun xs W W' => ∃ c p, xs 19 = .pointer (some ⟨c, 0, none⟩) ∧ xs 3 = .pointer (some ⟨p, 0, none⟩) ∧ ∃ m' A' cp', CpS w p c m' r n cp' A' (X.map Sx.s) [] [] W') (by kernel_rfl) (by kernel_rfl) (by rfl) (by kernel_rfl) (by rfl) (by simp) (fun W W' h hb => h.trans (hb.mono h.size)) (fun q x W W' h hb => h.later hb) (Below.refl _ _).drew ?_
  repeat (first | (refine wpFS_step (wpF_nil rfl rfl rfl rfl ?_); simp only [wpF, Act.put, List.setIfInBounds_toArray, List.set_cons_succ, List.set_cons_zero]) | (refine wpFS_step (wpF_pure rfl rfl ?_); go_big_quiet_step (fail); refine wpQuiet_nil ?_; simp only [wpF]))
  refine wpFS_step (wpF_load _ rfl (by rfl) (by rfl) (by rfl) L1 ?_)
  simp only [wpF, Act.put, List.setIfInBounds_toArray, List.set_cons_succ, List.set_cons_zero]
  repeat (first | (refine wpFS_step (wpF_nil rfl rfl rfl rfl ?_); simp only [wpF, Act.put, List.setIfInBounds_toArray, List.set_cons_succ, List.set_cons_zero]) | (refine wpFS_step (wpF_pure rfl rfl ?_); go_big_quiet_step (fail); refine wpQuiet_nil ?_; simp only [wpF]))
  refine wpFS_step (wpF_load _ rfl (by rfl) (by rfl) (by rfl) L2 ?_)
  simp only [wpF, Act.put, List.setIfInBounds_toArray, List.set_cons_succ, List.set_cons_zero]
  refine wpFS_step (wpF_callsrc 16 (f := 85) (args := #[.slice A n cp]) (by simp) rfl rfl rfl (fun x => by first | rfl | (simp [go_sem]; done)) (fun V hV => (KC V hV).mono fun e V' ⟨x, he, hm⟩ => ?_) ?_)
  · obtain ⟨A', c', rfl, _, _⟩ := hm.slice
    have h1 := hm.1
    rw [List.length_map, hlen] at h1 he
    refine ⟨_, he, ?_, hm.2⟩
    unfold FCp
    rw [if_pos rfl]
    refine ⟨_, _, rfl, h1.1, h1.2.imp id fun ⟨g, cap, cur, h2, h3, h4⟩ => ⟨g, cap, cur, h2, Nat.le_trans hV.size h3, h4⟩⟩
  simp only [wpF, Act.put, List.setIfInBounds_toArray, List.set_cons_succ, List.set_cons_zero]
  refine wpFS_step (wpF_src 17 (by simp) rfl rfl rfl (fun W hW => ⟨.map (some W.heap.size), W.alloc (.map #[] 0), ?_, ?_, (Below.refl _ _).alloc (Nat.le_refl _) _⟩) ?_)
  · simp [execOp, hmm, go_sem]
  · unfold FCp
    rw [if_neg (by decide), if_pos rfl]
    exact ⟨_, rfl, hW.size, TMapAt.new W⟩
  simp only [wpF, Act.put, List.setIfInBounds_toArray, List.set_cons_succ, List.set_cons_zero]
  refine wpFS_step (wpF_mix 18 [16, 17] (by simp) rfl (by kernel_rfl) (by kernel_rfl) (fun xs => by rfl) (fun xs W hW hx => ?_) ?_)
  · have h16 := hx 16 (by simp)
    have h17 := hx 17 (by simp)
    unfold FCp at h16 h17
    rw [if_pos rfl] at h16
    rw [if_neg (by decide), if_pos rfl] at h17
    obtain ⟨A', cp', e16, ho⟩ := h16
    obtain ⟨m', e17, hm, hmap⟩ := h17
    refine ⟨.agg #[.int .i64 (r : Int), .slice A' n cp', .map (some m')], W, ?_, ?_, Below.refl _ _⟩
    · simp [execOp, fill, Act.put, Act.eval, e16, e17, go_sem]
    · unfold FCp
      rw [if_neg (by decide), if_neg (by decide), if_pos rfl]
      exact ⟨_, _, _, rfl, ho, hm, hmap⟩
  simp only [wpF, Act.put, List.setIfInBounds_toArray, List.set_cons_succ, List.set_cons_zero]
  refine wpFS_step (wpF_mix 19 [18] (by simp) rfl (by kernel_rfl) (by kernel_rfl) (fun xs => by rfl) (fun xs W hW hx => ?_) ?_)
  · have h18 := hx 18 (by simp)
    unfold FCp at h18
    rw [if_neg (by decide), if_neg (by decide), if_pos rfl] at h18
    obtain ⟨A', cp', m', e18, ho, hm, hmap⟩ := h18
    have hal := (Below.refl W.heap.size W).alloc (Nat.le_refl _) (.cells #[.int .i64 (r : Int), .slice A' n cp', .map (some m')] 97)
    refine ⟨.pointer (some ⟨W.heap.size, 0, none⟩), W.alloc (.cells #[.int .i64 (r : Int), .slice A' n cp', .map (some m')] 97), ?_, ?_, hal⟩
    · simp [execOp, fill, Act.put, Act.eval, e18, go_sem]
    · unfold FCp
      rw [if_neg (by decide), if_neg (by decide), if_neg (by decide), if_pos rfl]
      exact ⟨_, A', cp', m', rfl, hW.size, World.alloc_heap_new _ _, tord_below ho hal, hm, hmap.below hal⟩
  simp only [wpF, Act.put, List.setIfInBounds_toArray, List.set_cons_succ, List.set_cons_zero]
  refine wpFS_step (wpF_src 3 (by simp) rfl rfl rfl (fun W hW => ⟨.pointer (some ⟨W.heap.size, 0, none⟩), W.alloc (.cells #[.pointer none] 66), ?_, ?_, (Below.refl _ _).alloc (Nat.le_refl _) _⟩) ?_)
  · simp [go_sem]
  · unfold FCp
    rw [if_neg (by decide), if_neg (by decide), if_neg (by decide), if_neg (by decide)]
    exact ⟨_, rfl, hW.size, World.alloc_heap_new _ _⟩
  simp only [wpF, Act.put, List.setIfInBounds_toArray, List.set_cons_succ, List.set_cons_zero]
  refine wpFS_storeX rfl rfl rfl (fun xs W hW hx => ?_) ?_
  · have h19 := hx 19 (by simp)
    have h3 := hx 3 (by simp)
    unfold FCp at h19 h3
    rw [if_neg (by decide), if_neg (by decide), if_neg (by decide), if_pos rfl] at h19
    rw [if_neg (by decide), if_neg (by decide), if_neg (by decide), if_neg (by decide)] at h3
    obtain ⟨c, A', cp', m', e19, hc, hrow, ho, hm, hmap⟩ := h19
    obtain ⟨p, e3, hp, hbx⟩ := h3
    have k1 := hbx.cell
    have k2 := hbx.frozen
    refine ⟨W.setCell ⟨p, 0, none⟩ (.pointer (some ⟨c, 0, none⟩)), ?_, c, p, e19, e3, m', A', cp', ?_⟩
    · simp [fill, Act.put, Act.eval, e19, e3, Instr.storeAt, go_sem, k1, k2]
    · have hof : Off (fun q => q = p) W (W.setCell ⟨p, 0, none⟩ (.pointer (some ⟨c, 0, none⟩))) := (Off.refl (fun q => q = p) W).setCell (p := ⟨p, 0, none⟩) rfl _
      have hne : ∀ (q : Nat) (cs : Array Value) (t : TypeId), W.heap[q]? = some (.cells cs t (0, 0)) → t ≠ 66 → q ≠ p := fun q cs t h1 h2 e => by
        rw [e, show W.heap[p]? = _ from hbx] at h1
        injection h1 with h1
        injection h1 with _ h1
        exact h2 h1.symm
      refine ⟨hbx.set _, (hof.block c (Array.getElem?_eq_some_iff.1 hrow).1 (hne c _ _ hrow (by decide))).trans hrow, tord_off ho hof fun g hg => ?_, hmap.off hof fun e => hmap.not_cells _ _ _ (by rw [e]; exact hbx), fun x hx => (by cases hx), by simp, trivial, ⟨hp, hc, hm, fun x hx => (by cases hx)⟩, hW.setCell (p := ⟨p, 0, none⟩) hp _⟩
      obtain ⟨cs, hcs⟩ := tord_row ho hg
      exact hne g _ _ hcs (by decide)
  simp only [wpFS]
  rintro xs W W3 hW hx ⟨c, p, e19, e3, m', A', cp', hS⟩
  simp only [fill, Act.put, List.setIfInBounds_toArray, List.set_cons_succ, List.set_cons_zero]
  rw [e3]
  generalize xs 16 = x16
  generalize xs 17 = x17
  generalize xs 18 = x18
  generalize xs 19 = x19
  have HS3 := Lib.hid hS
  have K := teach_any (some ⟨b, 0, none⟩) W3
  clear hx hW e19 e3 L1 L2 KC hS
  gi_wp2_with fail
  refine ⟨trivial, ?_⟩
  refine (callsIn_wide.2 K).mono ?_
  rintro e W4 ⟨rfl, hW4⟩
  clear K
  have hb34 : Below W3.heap.size W3 W4 := by rw [hW4]; exact (Below.refl _ W3).alloc (Nat.le_refl _) _
  have hs4 : W4.heap.size = W3.heap.size + 1 := by rw [hW4]; simp
  have bT : Boxed W4 W3.heap.size 66 (.pointer (some ⟨b, 0, none⟩)) := by rw [hW4]; exact Boxed.new W3 _ _
  have hS4 := HS3.out.below' hb34
  clear hW4 HS3 hb34
  obtain ⟨t0, ht0⟩ : ∃ t0, W3.heap.size = t0 := ⟨_, rfl⟩
  rw [ht0] at hs4 bT ⊢
  clear ht0
  have ht4 : t0 < W4.heap.size := by omega
  clear hs4
  gi_wp2_with fail
  refine range_stopsL rfl (by omega) (gf := 104) (lb := #[.pointer (some ⟨t0, 0, none⟩)]) rfl trivial (enters_of Tryz.func104 (by kernel_rfl) rfl)
    (fun x : Sx => #[Value.int .u32 x.s, .pointer (some ⟨x.b, 0, none⟩)]) (fun _ => rfl)
    (fun j x V => (∃ X', CpS w p c m' r n cp' A' (X.map Sx.s) (X.take j) X' V ∧ Boxed V t0 66 (.pointer (some ⟨b, 0, none⟩)) ∧ W4.heap.size ≤ V.heap.size) ∧ X[j]? = some x)
    (fun j V => ∃ X', CpS w p c m' r n cp' A' (X.map Sx.s) (X.take j) X' V ∧ Boxed V t0 66 (.pointer (some ⟨b, 0, none⟩)) ∧ W4.heap.size ≤ V.heap.size)
    (fun _ _ => False) (fun _ _ => True) n
    (fun j x V l o o' h hl ho => ⟨by
      obtain ⟨⟨X', h1, h2, h3⟩, _⟩ := h
      exact ⟨X', h1.loop ho (fun _ _ _ h => by cases h) (fun _ _ h => by cases h) (by have := hS4.below.size; omega) o', (World.putObj_heap_other (by omega)).trans h2, by simpa using h3⟩, h.2⟩)
    (fun j V l o o' h hl ho => by
      obtain ⟨X', h1, h2, h3⟩ := h
      exact ⟨X', h1.loop ho (fun _ _ _ h => by cases h) (fun _ _ h => by cases h) (by have := hS4.below.size; omega) o', (World.putObj_heap_other (by omega)).trans h2, by simpa using h3⟩)
    (fun _ _ _ _ _ h _ _ _ => h)
    (fun _ _ _ _ _ => trivial) (fun _ _ _ _ _ _ _ => trivial)
    (fun o => ⟨[], (hS4.below' ((Below.refl _ W4).alloc (Nat.le_refl _) _)).below' ((Below.refl _ _).alloc (Nat.le_refl _) _), (bT.alloc _).alloc _, by simp; omega⟩) ?a1 ?assign ?body ?iter ?done ?stop
  case assign =>
    intro l x V K hK
    gi_wp2
    exact hK
  case body =>
    rintro l j x V hl ⟨⟨X', hC, hbx, hsz⟩, hxj⟩ hj
    have hx : x ∈ X := List.mem_of_getElem? hxj
    have hxat : x.At V := (HT.out.below hC.below).slots x hx
    have hm4 : m' < W4.heap.size := hS4.map.lt
    have hwx := HT.out.keys.2 x hx
    have hno : teAt (X'.map Sx.key) x.s = none := te_none fun y hy e => by
      have h1 : y.s ∈ X'.map Sx.s := List.mem_map.2 ⟨y, hy, rfl⟩
      rw [hC.keys] at h1
      obtain ⟨z, hz, hzs⟩ := List.mem_map.1 h1
      obtain ⟨i, hi, hzi⟩ := List.getElem_of_mem hz
      rw [List.length_take] at hi
      rw [List.getElem_take] at hzi
      have hnd := HT.out.keys.1
      have h2 : X[i]? = some z := by rw [← hzi]; exact List.getElem?_eq_getElem (by omega)
      have h5 := nodup_at (i := i) (j := j) hnd (by rw [List.getElem?_map, h2]; rfl) (by rw [List.getElem?_map, hxj]; simp [hzs, e])
      omega
    have L1 : ∀ W, Below V.heap.size V W → (Instr.loadAt 66 (.pointer (some ⟨p, 0, none⟩))).run Tryz.prog W = .ok (.pointer (some ⟨c, 0, none⟩)) W := fun W hW => by
      have k1 := (show Boxed W p 66 _ from (hW.block _ hC.box.lt).trans hC.box).cell
      simp [Instr.loadAt, go_sem, k1]
    have L2 : ∀ W, Below V.heap.size V W → (Instr.loadAt 94 (.pointer (some ⟨c, 2, none⟩))).run Tryz.prog W = .ok (.map (some m')) W := fun W hW => by
      have k1 := row_below hC.row hW
      have k2 : W.cell? ⟨c, 2, none⟩ = some (.map (some m')) := by simp [World.cell?, k1]
      simp [Instr.loadAt, go_sem, k2]
    have KY : ∀ W, Below V.heap.size V W → Calls Tryz.prog 86 #[.pointer (some ⟨x.b, 0, none⟩)] W (CopyR W x.v x.k x.s x.c x.E) := fun W hW => scopy_any (SlotAt.below hxat hW)
    have hnx : X.take (j + 1) = X.take j ++ [x] := by rw [List.take_add_one, hxj]; rfl
    have HC := Lib.hid hC
    have HBX := Lib.hid hbx
    have HNO := Lib.hid hno
    have HNX := Lib.hid hnx
    clear hC hbx hno hnx hS4 bT hxat
    gi_wp2_with fail
    refine wpIn_region_FS 32 7 5 [30] (fun _ z W => ∃ y : Sx, z = .pointer (some ⟨y.b, 0, none⟩) ∧ y.At W ∧ Tb.Like x.ms y.ms ∧ V.heap.size ≤ y.m) (fun W => Below V.heap.size V W) (fun xs W W' => ∃ y : Sx, xs 30 = .pointer (some ⟨y.b, 0, none⟩) ∧ CpS w p c m' r n cp' A' (X.map Sx.s) (X.take (j + 1)) (X' ++ [y]) W' ∧ Off (fun q => q = m') W W') (by kernel_rfl) (fun ⟨_, _, h⟩ => h) (by kernel_rfl) (by rfl) (by kernel_rfl) (by rfl) (by simp) (fun W W' h hb => h.trans (hb.mono h.size)) (fun q z W W' h hb => by
      obtain ⟨y, h1, h2, h3, h4⟩ := h
      exact ⟨y, h1, h2.below hb, h3, h4⟩) (Below.refl _ _).drew (by rfl) ?_
    refine wpFS_step (wpF_load _ rfl (by rfl) (by rfl) (by rfl) L1 ?_)
    simp only [wpF, Act.put, List.setIfInBounds_toArray, List.set_cons_succ, List.set_cons_zero]
    repeat (first | (refine wpFS_step (wpF_nil rfl rfl rfl rfl ?_); simp only [wpF, Act.put, List.setIfInBounds_toArray, List.set_cons_succ, List.set_cons_zero]) | (refine wpFS_step (wpF_pure rfl rfl ?_); go_big_quiet_step (fail); refine wpQuiet_nil ?_; simp only [wpF]))
    refine wpFS_step (wpF_load _ rfl (by rfl) (by rfl) (by rfl) L2 ?_)
    simp only [wpF, Act.put, List.setIfInBounds_toArray, List.set_cons_succ, List.set_cons_zero]
    repeat (refine wpFS_step (wpF_pure rfl rfl ?_); go_big_quiet_step (fail); refine wpQuiet_nil ?_; simp only [wpF])
    refine wpFS_step (wpF_callsrc 30 (f := 86) (args := #[.pointer (some ⟨x.b, 0, none⟩)]) (by simp) rfl rfl rfl (fun x => by first | rfl | (simp [go_sem]; done)) (fun W hW => (KY W hW).mono fun e W' ⟨yb, ym, E', he, hat, hp, hb, _, hym⟩ => ⟨_, he, ⟨⟨yb, ym, x.v, x.k, x.s, x.c, E'⟩, rfl, hat, ⟨rfl, rfl, rfl, rfl, hp.symm⟩, Nat.le_trans hW.size hym⟩, hb⟩) ?_)
    simp only [wpF, Act.put, List.setIfInBounds_toArray, List.set_cons_succ, List.set_cons_zero]
    refine wpFS_upd rfl rfl rfl (fun xs W hW hx => ?_) ?_
    · obtain ⟨y, e30, hy, hlike, hym⟩ := hx 30 (by simp)
      obtain ⟨W', hrun, hmap, hoff, _⟩ := (HC.out.below' hW).map.run_upd (P := Tryz.prog) (t := 94) Tryz.underlying94 Tryz.underlying22 hwx y.b HNO.out
      refine ⟨W', ?_, y, e30, ?_, hoff⟩
      · simp only [fill, Act.put, Act.eval, e30]
        exact hrun
      · rw [HNX.out]
        refine HC.out.push hW hlike hy hym ?_ hoff
        rw [List.map_append]
        have hys : y.s = x.s := hlike.2.2.1
        simp only [List.map_cons, List.map_nil, Sx.key, hys] at hmap ⊢
        exact hmap
    simp only [wpFS]
    rintro xs W W' hW _ ⟨y, e30, hC', hoff⟩
    refine (show KeepsFrom W4.heap.size V W' ∧ (∃ X', CpS w p c m' r n cp' A' (X.map Sx.s) (X.take (j + 1)) X' W' ∧ Boxed W' t0 66 (.pointer (some ⟨b, 0, none⟩)) ∧ W4.heap.size ≤ W'.heap.size) ∧ True from ⟨⟨Nat.le_trans hW.size hoff.size, fun k o hk ho hc => ?_⟩, ⟨X' ++ [y], hC', ?_, ?_⟩, trivial⟩)
    · exact (hoff.block k (Nat.lt_of_lt_of_le (Array.getElem?_eq_some_iff.1 ho).1 hW.size) (by omega)).trans ((hW.block k (Array.getElem?_eq_some_iff.1 ho).1).trans ho)
    · have h1 : Boxed W t0 66 (.pointer (some ⟨b, 0, none⟩)) := (hW.block _ HBX.out.lt).trans HBX.out
      exact (hoff.block _ h1.lt fun e => (HC.out.below' hW).map.not_cells _ _ _ (by rw [← e]; exact h1)).trans h1
    · have := hW.size
      have := hoff.size
      omega
  case iter =>
    intro Bk Xp l V hBk hBlt hX hlw hD hB hY
    have hln := hlen
    refine (teach_in 2 (by omega) 1 l t0 b r m A n cp X (fun j V => (∃ X', CpS w p c m' r n cp' A' (X.map Sx.s) (X.take j) X' V ∧ Boxed V t0 66 (.pointer (some ⟨b, 0, none⟩)) ∧ W4.heap.size ≤ V.heap.size) ∧ Bk V) Xp ?_ ?_ V ⟨hD, hB⟩).mono ?_
    · rintro k W ⟨⟨X', h1, h2, h3⟩, _⟩
      exact ⟨h2.cell, S, HT.out.below h1.below⟩
    · rintro k x W ⟨h1, h2⟩ hx
      refine (hY _ _ W ⟨h1, hx⟩ h2 (by rw [← hlen]; exact (List.getElem?_eq_some_iff.1 hx).1)).mono ?_
      rintro e V2 (⟨rfl, hd, _, _⟩ | ⟨rfl, hx, _⟩)
      · exact .inl ⟨rfl, hd⟩
      · exact .inr ⟨rfl, hx⟩
    · exact fun _ _ h => h
  case done =>
    rintro D V hD ⟨X', hC, hbx, hsz⟩ hK
    have kP := hC.box.cell
    rw [show X.take n = X by rw [← hlen]; exact List.take_length] at hC
    have hwD : w.heap.size ≤ D := by have := hS4.below.size; omega
    have hr := HT.out.room
    have hf := HT.out.few
    have HFIN : Hid (TblAt (V.putObj D (.deferred none)) (fun q => w.heap.size ≤ q) c r m' A' n cp' X' ∧ Tb.Likes (X.map Sx.ms) (X'.map Sx.ms) ∧ Below w.heap.size w (V.putObj D (.deferred none))) := by
      have hC2 := hC.loop hK (fun _ _ _ h => by cases h) (fun _ _ h => by cases h) hwD (.deferred none)
      exact ⟨hC2.done hlen hr hf, hC2.like, hC2.below⟩
    clear hC hbx hS4 bT HT
    gi_wp2
    refine ⟨by simp, .inl ⟨_, _, rfl, run_takeDeferred hK, ?_⟩⟩
    refine ⟨_, results_tmp rfl _ _ _, ?_⟩
    exact ⟨c, m', A', cp', X', rfl, HFIN.out.1, HFIN.out.2.1, HFIN.out.2.2⟩
  case stop =>
    rintro D cd W' _ h _
    exact h.elim
end
end Go.Proofs.YtfdbcfkjablnkaaGreat

namespace Go.Proofs.YtfdbcfkjablnkaaGreat
open Go.RowKit
set_option maxRecDepth 100000

theorem soInfo : (Tryz.prog.info? 47).map (·.size) = some 4 := by kernel_rfl
theorem row_keep {w w' : World} {q : Nat} {o : Obj} (h : w.heap[q]? = some o) (hb : Below w.heap.size w w') : w'.heap[q]? = some o := (hb.block q (Array.getElem?_eq_some_iff.1 h).1).trans h
theorem run_storeVar_rowT {V : World} {g : Nat} {old cs : Array Value} (h : V.heap[g]? = some (.cells old 34 (0, 0))) {r n cp : Nat} {A : Option Addr} (hc : cs = #[.int .i64 (r : Int), .slice A n cp] := by rfl) (ho : old.size = 2 := by rfl) :
    (Instr.storeAt 34 (.pointer (some ⟨g, 0, none⟩)) (.agg cs)).run Tryz.prog V = .ok () (V.setRow g cs) := by
  subst hc
  simp only [Instr.storeAt, Instr.sureAddr, Sem.run_bind, Sem.run_pure, Result.andThen]
  exact run_storeVar_row V g 34 34 old _ h stInfo (by rw [ho]; rfl) (by simp [Value.oneCell'])
theorem run_storeVar_rowO {V : World} {g : Nat} {old : Array Value} {A : Option Addr} {n cp : Nat} {wh ev : Bool} {o : Int} (h : V.heap[g]? = some (.cells old 47 (0, 0))) (ho : old.size = 4 := by rfl) :
    (Instr.storeAt 47 (.pointer (some ⟨g, 0, none⟩)) (.agg (outC A n cp wh ev o))).run Tryz.prog V = .ok () (V.setRow g (outC A n cp wh ev o)) := by
  simp only [Instr.storeAt, Instr.sureAddr, Sem.run_bind, Sem.run_pure, Result.andThen]
  exact run_storeVar_row V g 47 47 old _ h soInfo (by rw [ho]; rfl) (out_one _ _ _ _ _ _)
/-- the frames that a table of the document's keeps are such as Src tells -/
def SrcL (Src : Fr → Prop) (L : List Ds) : Prop := ∀ d ∈ L, ∀ g ∈ d.gs, Src g
/-- what the document's Put answers -/
def DPutR (Src : Fr → Prop) (w : World) (r : Nat) (T : List Tb.Ms) (f : Fr) (e : Ending) (w' : World) : Prop :=
  Below w.heap.size w w' ∧ ∃ A n cp L Ab cb, e = .returned (.tuple #[docV r A n cp, outV Ab (Tb.put r T f).o.zs.length cb (Tb.put r T f).o.wh (Tb.put r T f).o.ev (Tb.put r T f).o.old, .int .i64 (Tb.put r T f).e]) ∧
    DocAt w' A n cp L ∧ (Tb.put r T f).T = L.map Ds.ms ∧ (Tb.put r T f).o.zs.length ≤ cb ∧ Nums .u8 w' w'.heap.size Ab (Tb.put r T f).o.zs ∧ SrcL Src L ∧ ∀ p, Ab = some p → w.heap.size ≤ p.block
/-- the boxes that Put makes first -/
structure Dp (w : World) (r : Nat) (A : Option Addr) (n cp : Nat) (f : Fr) (W : World) : Prop where
  t : W.heap[w.heap.size]? = some (.cells #[.int .i64 (r : Int), .slice A n cp] 34 (0, 0))
  f : W.heap[w.heap.size + 1]? = some (.cells f.cs 52 (0, 0))
  rt : W.heap[w.heap.size + 2]? = some (.cells #[.int .i64 0, .slice none 0 0] 34 (0, 0))
  ro : W.heap[w.heap.size + 3]? = some (.cells (outC none 0 0 false false 0) 47 (0, 0))
  below : Below w.heap.size w W
section
variable {w W W' : World} {r n cp : Nat} {A : Option Addr} {f : Fr}
theorem Dp.start (hw : (((w.alloc (.cells #[.int .i64 (r : Int), .slice A n cp] 34)).alloc (.cells f.cs 52)).alloc (.cells #[.int .i64 0, .slice none 0 0] 34)).alloc (.cells (outC none 0 0 false false 0) 47) = W) : Dp w r A n cp f W ∧ W.heap.size = w.heap.size + 4 := by
  obtain ⟨W3, hW3⟩ : ∃ W3, ((w.alloc (.cells #[.int .i64 (r : Int), .slice A n cp] 34)).alloc (.cells f.cs 52)).alloc (.cells #[.int .i64 0, .slice none 0 0] 34) = W3 := ⟨_, rfl⟩
  obtain ⟨hb, hs, h1, h2, h3⟩ := three_boxes hW3
  rw [hW3] at hw
  subst hw
  have h4 := World.alloc_heap_new W3 (.cells (outC none 0 0 false false 0) 47)
  rw [hs] at h4
  have hk : ∀ q, q < w.heap.size + 3 → (W3.alloc (.cells (outC none 0 0 false false 0) 47)).heap[q]? = W3.heap[q]? := fun q hq => Below.heap_alloc _ _ _ (by omega)
  exact ⟨⟨(hk _ (by omega)).trans h1, (hk _ (by omega)).trans h2, (hk _ (by omega)).trans h3, h4, hb.alloc hb.size _⟩, by rw [World.size_alloc, hs]⟩
theorem Dp.later (h : Dp w r A n cp f W) (hb : Below W.heap.size W W') : Dp w r A n cp f W' :=
  ⟨row_keep h.t hb, row_keep h.f hb, row_keep h.rt hb, row_keep h.ro hb, h.below.trans (hb.mono h.below.size)⟩
/-- the end: both results are stored -/
theorem dput_fin {A' : Option Addr} {n' cp' : Nat} {L : List Ds} {Ab : Option Addr} {cb : Nat} {T : List Tb.Ms} {R : Tb.Res} {Src : Fr → Prop} (hsrc : SrcL Src L) (hw4 : w.heap.size + 4 ≤ W.heap.size) (h2 : W.heap[w.heap.size + 2]? = some (.cells #[.int .i64 0, .slice none 0 0] 34 (0, 0)))
    (h3 : W.heap[w.heap.size + 3]? = some (.cells (outC none 0 0 false false 0) 47 (0, 0))) (hb : Below w.heap.size w W) (hp : Tb.put r T f = R) (hd : DocAt W A' n' cp' L) (hT : R.T = L.map Ds.ms) (hz : R.o.zs.length ≤ cb) (hn : Nums .u8 W W.heap.size Ab R.o.zs) (hnew : ∀ p, Ab = some p → w.heap.size ≤ p.block) :
    let W1 := W.setRow (w.heap.size + 2) #[.int .i64 (r : Int), .slice A' n' cp']
    let W2 := W1.setRow (w.heap.size + 3) (outC Ab R.o.zs.length cb R.o.wh R.o.ev R.o.old)
    W1.heap[w.heap.size + 3]? = some (.cells (outC none 0 0 false false 0) 47 (0, 0)) ∧
    W2.cell? ⟨w.heap.size + 2, 0, none⟩ = some (.int .i64 (r : Int)) ∧ W2.cell? ⟨w.heap.size + 2, 1, none⟩ = some (.slice A' n' cp') ∧
    W2.cell? ⟨w.heap.size + 3, 0, none⟩ = some (.slice Ab R.o.zs.length cb) ∧ W2.cell? ⟨w.heap.size + 3, 1, none⟩ = some (.bool R.o.wh) ∧ W2.cell? ⟨w.heap.size + 3, 2, none⟩ = some (.bool R.o.ev) ∧ W2.cell? ⟨w.heap.size + 3, 3, none⟩ = some (.int .u32 R.o.old) ∧
    DPutR Src w r T f (.returned (.tuple #[.agg #[.int .i64 (r : Int), .slice A' n' cp'], .agg #[.slice Ab R.o.zs.length cb, .bool R.o.wh, .bool R.o.ev, .int .u32 R.o.old], .int .i64 R.e])) W2 := by
  intro W1 W2
  have h2' := setRow_heap W (w.heap.size + 2) _ #[.int .i64 (r : Int), .slice A' n' cp'] _ _ h2
  have ho1 : Off (fun q => q = w.heap.size + 2) W W1 := Off.setRow (S := fun q => q = w.heap.size + 2) (Off.refl _ W) rfl _
  have h31 : W1.heap[w.heap.size + 3]? = _ := (ho1.block (w.heap.size + 3) (by omega) (by omega)).trans h3
  have h3' := setRow_heap W1 (w.heap.size + 3) _ (outC Ab R.o.zs.length cb R.o.wh R.o.ev R.o.old) _ _ h31
  have ho2 : Off (fun q => q = w.heap.size + 3) W1 W2 := Off.setRow (S := fun q => q = w.heap.size + 3) (Off.refl _ W1) rfl _
  have h22 : W2.heap[w.heap.size + 2]? = _ := (ho2.block (w.heap.size + 2) (by have := ho1.size; omega) (by omega)).trans h2'
  have ho : Off (fun q => q = w.heap.size + 2 ∨ q = w.heap.size + 3) W W2 := (ho1.mono (S' := fun q => q = w.heap.size + 2 ∨ q = w.heap.size + 3) fun _ _ h => .inl h).trans ho2 fun _ _ h => .inr h
  have hS : Sml W (fun q => q = w.heap.size + 2 ∨ q = w.heap.size + 3) := by
    rintro g cs t fz hg (rfl | rfl)
    · rw [h2] at hg
      obtain ⟨rfl, rfl, rfl⟩ : #[Value.int .i64 0, .slice none 0 0] = cs ∧ 34 = t ∧ (0, 0) = fz := by simpa using hg
      exact ⟨by simp, fun j z h => (by rcases j with _ | _ | j <;> simp at h), by decide⟩
    · rw [h3] at hg
      obtain ⟨rfl, rfl, rfl⟩ : outC none 0 0 false false 0 = cs ∧ 47 = t ∧ (0, 0) = fz := by simpa using hg
      exact ⟨by decide, fun j z h => (by rcases j with _ | _ | _ | _ | j <;> simp [outC] at h), by decide⟩
  obtain ⟨c0, c1⟩ := doc_cells h22
  obtain ⟨o0, o1, o2, o3⟩ := out_block h3'
  refine ⟨h31, c0, c1, o0, o1, o2, o3, ?_⟩
  subst hp
  exact ⟨hb.trans (ho.below (fun q hq => by omega) hb.size), A', n', cp', L, Ab, cb, rfl, hd.sml ho hS, hT, hz, nums_sml hn ho rfl hS, hsrc, hnew⟩
end
/-- the boxes behind find: the table may have been turned, a slot may have gone -/
structure Dm (w : World) (r : Nat) (A0 : Option Addr) (n0 cp0 : Nat) (f : Fr) (pw po : Nat) (A : Option Addr) (n cp : Nat) (L1 : List Ds) (ev : Bool) (old : Int) (W : World) : Prop where
  t : W.heap[w.heap.size]? = some (.cells #[.int .i64 (r : Int), .slice A n cp] 34 (0, 0))
  f : W.heap[w.heap.size + 1]? = some (.cells f.cs 52 (0, 0))
  rt : W.heap[w.heap.size + 2]? = some (.cells #[.int .i64 0, .slice none 0 0] 34 (0, 0))
  ro : W.heap[w.heap.size + 3]? = some (.cells (outC none 0 0 false false 0) 47 (0, 0))
  was : W.heap[pw]? = some (.cells #[.int .i64 (r : Int), .slice A0 n0 cp0] 34 (0, 0))
  out : W.heap[po]? = some (.cells (outC none 0 0 false ev old) 47 (0, 0))
  doc : DocAt W A n cp L1
  below : Below w.heap.size w W
  lo : w.heap.size + 4 ≤ pw ∧ po = pw + 1
theorem Dm.later {w W W' : World} {r n0 cp0 n cp pw po : Nat} {A0 A : Option Addr} {f : Fr} {L1 : List Ds} {ev : Bool} {old : Int} (h : Dm w r A0 n0 cp0 f pw po A n cp L1 ev old W) (hb : Below W.heap.size W W') : Dm w r A0 n0 cp0 f pw po A n cp L1 ev old W' :=
  ⟨row_keep h.t hb, row_keep h.f hb, row_keep h.rt hb, row_keep h.ro hb, row_keep h.was hb, row_keep h.out hb, h.doc.below hb, h.below.trans (hb.mono h.below.size), h.lo⟩
/-- a slot has gone for the new one -/
theorem Dm.gone {w W : World} {r n0 cp0 n cp pw n' cp' : Nat} {A0 A A' : Option Addr} {f : Fr} {L1 L2 : List Ds} {old : Int} (h : Dm w r A0 n0 cp0 f pw (pw + 1) A n cp L1 false 0 W) (hd : DocAt W A' n' cp' L2) :
    let W1 := W.setRow w.heap.size #[.int .i64 (r : Int), .slice A' n' cp']
    let W2 := W1.setCell ⟨pw + 1, 2, none⟩ (.bool true)
    let W3 := W2.setCell ⟨pw + 1, 3, none⟩ (.int .u32 old)
    W1.cell? ⟨pw + 1, 2, none⟩ = some (.bool false) ∧ (∀ q, W1.frozen? ⟨pw + 1, q, none⟩ = false) ∧ W2.cell? ⟨pw + 1, 3, none⟩ = some (.int .u32 0) ∧ (∀ q, W2.frozen? ⟨pw + 1, q, none⟩ = false) ∧
      Dm w r A0 n0 cp0 f pw (pw + 1) A' n' cp' L2 true old W3 := by
  intro W1 W2 W3
  have hlo := h.lo.1
  have t1 : W1.heap[w.heap.size]? = _ := setRow_heap W w.heap.size _ #[.int .i64 (r : Int), .slice A' n' cp'] _ _ h.t
  have ho1 : Off (fun q => q = w.heap.size) W W1 := Off.setRow (S := fun q => q = w.heap.size) (Off.refl _ W) rfl _
  have hlt : pw + 1 < W.heap.size := (Array.getElem?_eq_some_iff.1 h.out).1
  have u1 : W1.heap[pw + 1]? = _ := (ho1.block (pw + 1) hlt (by omega)).trans h.out
  have u2 : W2.heap[pw + 1]? = some (.cells #[.slice none 0 0, .bool false, .bool true, .int .u32 0] 47 (0, 0)) := setCell_at (j := 2) (u := .bool true) u1
  have u3 : W3.heap[pw + 1]? = some (.cells #[.slice none 0 0, .bool false, .bool true, .int .u32 old] 47 (0, 0)) := setCell_at (j := 3) (u := .int .u32 old) u2
  have ho2 : Off (fun q => q = pw + 1) W1 W3 := ((Off.refl (fun q => q = pw + 1) W1).setCell (p := ⟨pw + 1, 2, none⟩) rfl _).setCell (p := ⟨pw + 1, 3, none⟩) rfl _
  have ho : Off (fun q => q = w.heap.size ∨ q = pw + 1) W W3 := (ho1.mono (S' := fun q => q = w.heap.size ∨ q = pw + 1) fun _ _ h => .inl h).trans ho2 fun _ _ h => .inr h
  have hS : Sml W (fun q => q = w.heap.size ∨ q = pw + 1) := by
    rintro g cs t fz hg (rfl | rfl)
    · rw [h.t] at hg
      obtain ⟨rfl, rfl, rfl⟩ : #[Value.int .i64 (r : Int), .slice A n cp] = cs ∧ 34 = t ∧ (0, 0) = fz := by simpa using hg
      exact ⟨by simp, fun j z h => (by rcases j with _ | _ | j <;> simp at h), by decide⟩
    · rw [h.out] at hg
      obtain ⟨rfl, rfl, rfl⟩ : outC none 0 0 false false 0 = cs ∧ 47 = t ∧ (0, 0) = fz := by simpa using hg
      exact ⟨by decide, fun j z h => (by rcases j with _ | _ | _ | _ | j <;> simp [outC] at h), by decide⟩
  have keep : ∀ q, q < W.heap.size → q ≠ w.heap.size → q ≠ pw + 1 → W3.heap[q]? = W.heap[q]? := fun q hq h1 h2 => ho.block q hq fun h => h.elim h1 h2
  have lt : ∀ q o, W.heap[q]? = some o → q < W.heap.size := fun q o h => (Array.getElem?_eq_some_iff.1 h).1
  refine ⟨by simp [World.cell?, u1, outC], fun q => by simp [World.frozen?, u1], by simp [World.cell?, u2], fun q => by simp [World.frozen?, u2], ?_⟩
  refine ⟨(ho2.block w.heap.size (Array.getElem?_eq_some_iff.1 t1).1 (by omega)).trans t1, (keep _ (lt _ _ h.f) (by omega) (by omega)).trans h.f, (keep _ (lt _ _ h.rt) (by omega) (by omega)).trans h.rt, (keep _ (lt _ _ h.ro) (by omega) (by omega)).trans h.ro, (keep _ (lt _ _ h.was) (by omega) (by omega)).trans h.was, u3, hd.sml ho hS,
    h.below.trans (ho.below (fun q hq => by omega) h.below.size), h.lo⟩
/-- the slot that f would open -/
def Ds.new (f : Fr) : Ds := ⟨f.v, f.k, f.s, f.c, none, 0, 0, []⟩
theorem Ds.new_at {f : Fr} (W : World) (hc : chk f.v f.k f.i f.c = 0) (hs : 0 ≤ f.s ∧ f.s ≤ 4294967295) : (Ds.new f).At W := by
  obtain ⟨h1, h2, h3, h4, h5, h6, h7⟩ := chk_zero hc
  refine ⟨⟨⟨fun f hf => (by cases hf), fun j f hf => by simp [Ds.new] at hf⟩, rfl, Nat.le_refl _, fun f hf => (by cases hf), by simp [Ds.new, Sl.Keys], by simp [Ds.new, Sl.tot], h5, fun g off e => (by cases e)⟩, hs, ?_⟩
  have : chk f.v f.k 0 f.c = 0 := by
    unfold chk
    rw [if_neg (by omega), if_neg (by omega), if_neg (by omega)]
  exact this
/-- the list is another one -/
theorem Dm.list {w W w6 : World} {r n0 cp0 n cp pw po g6 q c6 : Nat} {A0 A : Option Addr} {f : Fr} {L1 L2 : List Ds} {ev : Bool} {old : Int} (h : Dm w r A0 n0 cp0 f pw po A n cp L1 ev old W) (hb : Below W.heap.size W w6)
    (hown : w6.ownsRow W.heap.size 84 6 (.slice (some ⟨g6, 0, none⟩) q c6) q (flatD L2)) (hq : L2.length = q) (hat : ∀ d ∈ L2, d ∈ L1 ∨ ∀ W, d.At W) (hn : q ≤ 1000) :
    w6.cell? ⟨w.heap.size, 1, none⟩ = some (.slice A n cp) ∧ (∀ p, w6.frozen? ⟨w.heap.size, p, none⟩ = false) ∧
      Dm w r A0 n0 cp0 f pw po (some ⟨g6, 0, none⟩) q c6 L2 ev old (w6.setCell ⟨w.heap.size, 1, none⟩ (.slice (some ⟨g6, 0, none⟩) q c6)) := by
  have h6 := h.later hb
  have t3 : (w6.setCell ⟨w.heap.size, 1, none⟩ (.slice (some ⟨g6, 0, none⟩) q c6)).heap[w.heap.size]? = some (.cells #[.int .i64 (r : Int), .slice (some ⟨g6, 0, none⟩) q c6] 34 (0, 0)) := setCell_at (j := 1) (u := .slice (some ⟨g6, 0, none⟩) q c6) h6.t
  have ho : Off (fun q => q = w.heap.size) w6 (w6.setCell ⟨w.heap.size, 1, none⟩ (.slice (some ⟨g6, 0, none⟩) q c6)) := (Off.refl (fun q => q = w.heap.size) w6).setCell (p := ⟨w.heap.size, 1, none⟩) rfl _
  have hS : Sml w6 (fun q => q = w.heap.size) := by
    rintro g cs t fz hg rfl
    rw [h6.t] at hg
    obtain ⟨rfl, rfl, rfl⟩ : #[Value.int .i64 (r : Int), .slice A n cp] = cs ∧ 34 = t ∧ (0, 0) = fz := by simpa using hg
    exact ⟨by simp, fun j z h => (by rcases j with _ | _ | j <;> simp at h), by decide⟩
  have hlo := h.lo
  have hwW := h.below.size
  have keep : ∀ k o, w6.heap[k]? = some o → k ≠ w.heap.size → (w6.setCell ⟨w.heap.size, 1, none⟩ (.slice (some ⟨g6, 0, none⟩) q c6)).heap[k]? = some o := fun k o hk hne => (ho.block k (Array.getElem?_eq_some_iff.1 hk).1 hne).trans hk
  have hlt0 : w.heap.size < W.heap.size := (Array.getElem?_eq_some_iff.1 h.t).1
  have hown3 := tord_off hown ho fun g hg e => by
    have := (hown.lt g hg).1
    omega
  have hall : ∀ d ∈ L2, d.At (w6.setCell ⟨w.heap.size, 1, none⟩ (.slice (some ⟨g6, 0, none⟩) q c6)) := fun d hd => by
    rcases hat d hd with h1 | h1
    · exact (h6.doc.at' d h1).sml ho hS
    · exact h1 _
  obtain ⟨A', c', e', _, hdoc⟩ := own_docs (by rw [hq]; exact hown3) hall (by omega)
  rw [hq] at e' hdoc
  injection e' with e1 e2 e3
  subst e1 e3
  exact ⟨(doc_cells h6.t).2, fun p => by simp [World.frozen?, h6.t], t3, keep _ _ h6.f (by omega), keep _ _ h6.rt (by omega), keep _ _ h6.ro (by omega), keep _ _ h6.was (by omega), keep _ _ h6.out (by omega), hdoc, h6.below.trans (ho.below (fun q hq => by omega) h6.below.size), hlo⟩
/-- what the operations of 't.L = append(append([]S{}, t.L...), New(f.H))' hand on -/
def FDoc (H n : Nat) (L : List Ds) (d : Ds) (q : Tmp) (x : Value) (W : World) : Prop :=
  if q = 69 then ∃ g, x = .slice (some ⟨g, 0, none⟩) 0 0 ∧ W.ownsRow H 84 6 (.slice (some ⟨g, 0, none⟩) 0 0) 0 []
  else if q = 72 then W.ownsRow H 84 6 x n (flatD L)
  else ∃ g, x = .slice (some ⟨g, 0, none⟩) 1 1 ∧ W.heap[g]? = some (.cells d.cs 84 (0, 0))
theorem FDoc.later {H n : Nat} {L : List Ds} {d : Ds} {q : Tmp} {x : Value} {W W' : World} (h : FDoc H n L d q x W) (hb : Below W.heap.size W W') : FDoc H n L d q x W' := by
  unfold FDoc at h ⊢
  split at h
  · rename_i hq
    rw [if_pos hq]
    obtain ⟨g, e, h1⟩ := h
    exact ⟨g, e, own_below6 h1 hb⟩
  · rename_i hq
    rw [if_neg hq]
    split at h
    · rename_i hq2
      rw [if_pos hq2]
      exact own_below6 h hb
    · rename_i hq2
      rw [if_neg hq2]
      obtain ⟨g, e, h1⟩ := h
      exact ⟨g, e, row_keep h1 hb⟩
/-- what the operations of 's, e := Put(t.L[at], f)' hand on -/
def FPt (H : Nat) (d : Ds) (f : Fr) (er : Int) (q : Tmp) (x : Value) (W : World) : Prop :=
  if q = 12 then ∃ g, x = .pointer (some ⟨g, 0, none⟩) ∧ H ≤ g ∧ W.heap[g]? = some (.cells (frC 0 0 0 0 0 (.slice none 0 0)) 84 (0, 0))
  else ∃ A2 n2 cp2, x = (if q = 91 then frV d.v d.k d.s 0 d.c (.slice A2 n2 cp2) else .tuple #[frV d.v d.k d.s 0 d.c (.slice A2 n2 cp2), .int .i64 er]) ∧ RefAt W d.c A2 n2 cp2 (nxF d.gs f er)
theorem FPt.later {H : Nat} {d : Ds} {f : Fr} {er : Int} {q : Tmp} {x : Value} {W W' : World} (h : FPt H d f er q x W) (hb : Below W.heap.size W W') : FPt H d f er q x W' := by
  unfold FPt at h ⊢
  split at h
  · rename_i hq
    rw [if_pos hq]
    obtain ⟨g, e, hg, h1⟩ := h
    exact ⟨g, e, hg, row_keep h1 hb⟩
  · rename_i hq
    rw [if_neg hq]
    obtain ⟨A2, n2, cp2, e, h1⟩ := h
    exact ⟨A2, n2, cp2, e, h1.below hb⟩
theorem put1_set {L : List Ds} {j : Nat} {d : Ds} {f : Fr} (hk : (L.map Ds.s).Nodup) (hj : L[j]? = some d) (hd : d.s = f.s) : Tb.put1 (L.map Ds.ms) f = (L.map Ds.ms).set j (d.ms.push f) := by
  apply List.ext_getElem?
  intro i
  have hjl := (List.getElem?_eq_some_iff.1 hj).1
  simp only [Tb.put1, List.getElem?_map, List.getElem?_set, List.length_map]
  by_cases hij : j = i
  · subst hij
    rw [hj, if_pos rfl, if_pos hjl]
    show some (if d.ms.s = f.s then d.ms.push f else d.ms) = _
    rw [if_pos (show d.ms.s = f.s from hd)]
  · rw [if_neg hij]
    cases hx : L[i]? with
    | none => rfl
    | some x =>
      show some (if x.ms.s = f.s then x.ms.push f else x.ms) = some x.ms
      rw [if_neg]
      intro hs
      refine hij (nodup_at (a := f.s) hk ?_ ?_)
      · rw [List.getElem?_map, hj]; exact congrArg some hd
      · rw [List.getElem?_map, hx]; exact congrArg some hs
theorem wpList_appendU {P : Program} {ops : Array Oper} {rest : List Oper} {o : Oper} {a : Act} {w w' : World} {Q : Exit → Act → World → Prop} {v1 v2 v' : Value} (hgd : o.guard = none) (s x : Operand) (t : TypeId) (hop : o.op = Op.call { callee := Callee.builtin Builtin.append, args := #[s, x], argTypes := #[t, t] })
    (hs : a.eval s = v1) (hx : a.eval x = v2) (hrun : (Builtin.append_ #[t, t] o.type #[v1, v2]).run P w = .ok v' w') (h : wpList P ops Q rest (a.put o.dst v') w') : wpList P ops Q (o :: rest) a w := by
  refine wpList_plain hgd fun K hK => ?_
  unfold Oper.wp
  rw [exec_appendU s x t hop hs hx hrun]
  exact hK _ _ h
/-- one of the list's slots has been set -/
theorem Dm.with {w W W' : World} {r n0 cp0 n cp pw g : Nat} {A0 A : Option Addr} {f : Fr} {L1 L2 : List Ds} {ev : Bool} {old : Int} (h : Dm w r A0 n0 cp0 f pw (pw + 1) A n cp L1 ev old W) (ho : Off (fun q => q = g) W W') (hg : pw + 1 < g) (hd : DocAt W' A n cp L2) :
    Dm w r A0 n0 cp0 f pw (pw + 1) A n cp L2 ev old W' := by
  have hlo := h.lo.1
  have keep : ∀ k o, W.heap[k]? = some o → k ≠ g → W'.heap[k]? = some o := fun k o hk hne => (ho.block k (Array.getElem?_eq_some_iff.1 hk).1 hne).trans hk
  exact ⟨keep _ _ h.t (by omega), keep _ _ h.f (by omega), keep _ _ h.rt (by omega), keep _ _ h.ro (by omega), keep _ _ h.was (by omega), keep _ _ h.out (by omega), hd, h.below.trans (ho.below (fun q hq => by omega) h.below.size), h.lo⟩
/-- the boxes at the end -/
structure De (w : World) (r : Nat) (f : Fr) (po : Nat) (A : Option Addr) (n cp : Nat) (L1 : List Ds) (Ab : Option Addr) (cb : Nat) (zs : List Int) (wh ev : Bool) (old : Int) (W : World) : Prop where
  t : W.heap[w.heap.size]? = some (.cells #[.int .i64 (r : Int), .slice A n cp] 34 (0, 0))
  f : W.heap[w.heap.size + 1]? = some (.cells f.cs 52 (0, 0))
  rt : W.heap[w.heap.size + 2]? = some (.cells #[.int .i64 0, .slice none 0 0] 34 (0, 0))
  ro : W.heap[w.heap.size + 3]? = some (.cells (outC none 0 0 false false 0) 47 (0, 0))
  out : W.heap[po]? = some (.cells (outC Ab zs.length cb wh ev old) 47 (0, 0))
  doc : DocAt W A n cp L1
  nums : Nums .u8 W W.heap.size Ab zs
  room : zs.length ≤ cb
  below : Below w.heap.size w W
  lo : w.heap.size + 5 ≤ po
  new : ∀ p, Ab = some p → w.heap.size ≤ p.block
theorem De.later {w W W' : World} {r n cp po cb : Nat} {A Ab : Option Addr} {f : Fr} {L1 : List Ds} {zs : List Int} {wh ev : Bool} {old : Int} (h : De w r f po A n cp L1 Ab cb zs wh ev old W) (hb : Below W.heap.size W W') : De w r f po A n cp L1 Ab cb zs wh ev old W' :=
  ⟨row_keep h.t hb, row_keep h.f hb, row_keep h.rt hb, row_keep h.ro hb, row_keep h.out hb, h.doc.below hb, (h.nums.below hb).mono hb.size, h.room, h.below.trans (hb.mono h.below.size), h.lo, h.new⟩
theorem Dm.part {w W : World} {r n0 cp0 n cp pw : Nat} {A0 A : Option Addr} {f : Fr} {L1 : List Ds} {ev : Bool} {old : Int} (h : Dm w r A0 n0 cp0 f pw (pw + 1) A n cp L1 ev old W) : De w r f (pw + 1) A n cp L1 none 0 [] false ev old W :=
  ⟨h.t, h.f, h.rt, h.ro, h.out, h.doc, Nums.nil, Nat.le_refl _, h.below, by have := h.lo; omega, fun p hp => by cases hp⟩
/-- a body is told -/
theorem Dm.told {w W : World} {r n0 cp0 n cp pw cb q : Nat} {A0 A Ab : Option Addr} {f : Fr} {L1 : List Ds} {ev : Bool} {old : Int} {zs : List Int} (h : Dm w r A0 n0 cp0 f pw (pw + 1) A n cp L1 ev old W) (hq : zs.length = q) (hn : Nums .u8 W W.heap.size Ab zs) (hr : q ≤ cb) (hnew : ∀ p, Ab = some p → w.heap.size ≤ p.block) :
    let W1 := W.setCell ⟨pw + 1, 0, none⟩ (.slice Ab q cb)
    let W2 := W1.setCell ⟨pw + 1, 1, none⟩ (.bool true)
    W.cell? ⟨pw + 1, 0, none⟩ = some (.slice none 0 0) ∧ (∀ p, W.frozen? ⟨pw + 1, p, none⟩ = false) ∧ W1.cell? ⟨pw + 1, 1, none⟩ = some (.bool false) ∧ (∀ p, W1.frozen? ⟨pw + 1, p, none⟩ = false) ∧ De w r f (pw + 1) A n cp L1 Ab cb zs true ev old W2 := by
  intro W1 W2
  subst hq
  have hlo := h.lo.1
  have u1 : W1.heap[pw + 1]? = some (.cells #[.slice Ab zs.length cb, .bool false, .bool ev, .int .u32 old] 47 (0, 0)) := setCell_at (j := 0) (u := .slice Ab zs.length cb) h.out
  have u2 : W2.heap[pw + 1]? = some (.cells #[.slice Ab zs.length cb, .bool true, .bool ev, .int .u32 old] 47 (0, 0)) := setCell_at (j := 1) (u := .bool true) u1
  have ho : Off (fun q => q = pw + 1) W W2 := ((Off.refl (fun q => q = pw + 1) W).setCell (p := ⟨pw + 1, 0, none⟩) rfl _).setCell (p := ⟨pw + 1, 1, none⟩) rfl _
  have hS : Sml W (fun q => q = pw + 1) := by
    rintro g cs t fz hg rfl
    rw [h.out] at hg
    obtain ⟨rfl, rfl, rfl⟩ : outC none 0 0 false ev old = cs ∧ 47 = t ∧ (0, 0) = fz := by simpa using hg
    exact ⟨by simp [outC], fun j z h => (by rcases j with _ | _ | _ | _ | j <;> simp [outC] at h), by decide⟩
  have keep : ∀ k o, W.heap[k]? = some o → k ≠ pw + 1 → W2.heap[k]? = some o := fun k o hk hne => (ho.block k (Array.getElem?_eq_some_iff.1 hk).1 hne).trans hk
  obtain ⟨o0, -, -, -⟩ := out_block h.out
  refine ⟨o0, fun p => by simp [World.frozen?, h.out], by simp [World.cell?, u1], fun p => by simp [World.frozen?, u1], keep _ _ h.t (by omega), keep _ _ h.f (by omega), keep _ _ h.rt (by omega), keep _ _ h.ro (by omega), u2, h.doc.sml ho hS, nums_sml hn ho rfl hS, hr, h.below.trans (ho.below (fun q hq => by omega) h.below.size), by omega, hnew⟩
/-- the slot goes -/
theorem De.gone {w W : World} {r n cp po cb n' cp' : Nat} {A Ab A' : Option Addr} {f : Fr} {L1 L2 : List Ds} {zs : List Int} {wh ev : Bool} {old : Int} (h : De w r f po A n cp L1 Ab cb zs wh ev old W) (hd : DocAt W A' n' cp' L2) :
    De w r f po A' n' cp' L2 Ab cb zs wh ev old (W.setRow w.heap.size #[.int .i64 (r : Int), .slice A' n' cp']) := by
  have hlo := h.lo
  have t1 := setRow_heap W w.heap.size _ #[.int .i64 (r : Int), .slice A' n' cp'] _ _ h.t
  have ho : Off (fun q => q = w.heap.size) W (W.setRow w.heap.size #[.int .i64 (r : Int), .slice A' n' cp']) := Off.setRow (S := fun q => q = w.heap.size) (Off.refl _ W) rfl _
  have hS : Sml W (fun q => q = w.heap.size) := by
    rintro g cs t fz hg rfl
    rw [h.t] at hg
    obtain ⟨rfl, rfl, rfl⟩ : #[Value.int .i64 (r : Int), .slice A n cp] = cs ∧ 34 = t ∧ (0, 0) = fz := by simpa using hg
    exact ⟨by simp, fun j z h => (by rcases j with _ | _ | j <;> simp at h), by decide⟩
  have keep : ∀ k o, W.heap[k]? = some o → k ≠ w.heap.size → (W.setRow w.heap.size #[.int .i64 (r : Int), .slice A' n' cp']).heap[k]? = some o := fun k o hk hne => (ho.block k (Array.getElem?_eq_some_iff.1 hk).1 hne).trans hk
  exact ⟨t1, keep _ _ h.f (by omega), keep _ _ h.rt (by omega), keep _ _ h.ro (by omega), keep _ _ h.out (by omega), hd.sml ho hS, nums_sml h.nums ho rfl hS, h.room, h.below.trans (ho.below (fun q hq => by omega) h.below.size), h.lo, h.new⟩
/-- a list copied, one of its slots set -/
theorem Dm.setAt {w W W' : World} {r n0 cp0 n cp pw g c : Nat} {A0 A : Option Addr} {f : Fr} {L1 : List Ds} {ev : Bool} {old : Int} {j : Nat} {dp : Ds} (h : Dm w r A0 n0 cp0 f pw (pw + 1) A n cp L1 ev old W) (hb : Below W.heap.size W W')
    (hown : W'.ownsRow W.heap.size 84 6 (.slice (some ⟨g, 0, none⟩) n c) n (flatD L1)) (hj : j < n) (hn : n ≤ 1000) (hdp : dp.At W) :
    let W2 := W'.setCell ⟨w.heap.size, 1, none⟩ (.slice (some ⟨g, 0, none⟩) n c)
    let W3 := W2.setCells g (j * 6) dp.cs.toList
    W'.cell? ⟨w.heap.size, 1, none⟩ = some (.slice A n cp) ∧ (∀ p, W'.frozen? ⟨w.heap.size, p, none⟩ = false) ∧ W2.cell? ⟨w.heap.size, 1, none⟩ = some (.slice (some ⟨g, 0, none⟩) n c) ∧ W2.there g (j * 6) dp.cs.size ∧
      (∀ k o, W.heap[k]? = some o → k ≠ w.heap.size → W2.heap[k]? = some o ∧ W3.heap[k]? = some o) ∧ dp.At W3 ∧ Dm w r A0 n0 cp0 f pw (pw + 1) (some ⟨g, 0, none⟩) n c (L1.set j dp) ev old W3 := by
  intro W2 W3
  have hlen := h.doc.len
  obtain ⟨y1, y2, hm2⟩ := h.list hb hown hlen (fun d hd => .inl hd) hn
  have ho2 : Off (fun q => q = w.heap.size) W' W2 := (Off.refl (fun q => q = w.heap.size) W').setCell (p := ⟨w.heap.size, 1, none⟩) rfl _
  have hg := (hown.lt g rfl)
  have hlt0 : w.heap.size < W.heap.size := (Array.getElem?_eq_some_iff.1 h.t).1
  have hlto : pw + 1 < W.heap.size := (Array.getElem?_eq_some_iff.1 h.out).1
  have hown2 := tord_off hown ho2 fun q hq e => by
    have := (hown.lt q hq).1
    omega
  have ho3 : Off (fun q => q = g) W2 W3 := Off.setCells (S := fun q => q = g) rfl _ _ (Off.refl _ W2)
  have ho : Off (fun q => q = w.heap.size ∨ W.heap.size ≤ q) W W3 := ((Off.of_below hb : Off (fun q => q = w.heap.size ∨ W.heap.size ≤ q) W W').trans ho2 fun _ _ h => .inl h).trans ho3 fun q hq e => .inr (by omega)
  have hS : Sml W (fun q => q = w.heap.size ∨ W.heap.size ≤ q) := by
    rintro q cs t fz hg (rfl | hq)
    · rw [h.t] at hg
      obtain ⟨rfl, rfl, rfl⟩ : #[Value.int .i64 (r : Int), .slice A n cp] = cs ∧ 34 = t ∧ (0, 0) = fz := by simpa using hg
      exact ⟨by simp, fun j z h => (by rcases j with _ | _ | j <;> simp at h), by decide⟩
    · have := (Array.getElem?_eq_some_iff.1 hg).1
      omega
  have hall : ∀ x ∈ L1.set j dp, x.At W3 := fun x hx => by
    rcases List.mem_or_eq_of_mem_set hx with h1 | rfl
    · exact (h.doc.at' x h1).sml ho hS
    · exact hdp.sml ho hS
  obtain ⟨hth, hdoc⟩ := docs_set hown2 hlen hj hall hn
  refine ⟨y1, y2, (doc_cells hm2.t).2, hth, fun k o hk hne => ?_, hdp.sml ho hS, hm2.with ho3 (by omega) hdoc⟩
  have hkl := (Array.getElem?_eq_some_iff.1 hk).1
  have h2 : W2.heap[k]? = some o := (ho2.block k (by have := hb.size; omega) hne).trans ((hb.block k hkl).trans hk)
  exact ⟨h2, (ho3.block k (Array.getElem?_eq_some_iff.1 h2).1 (by omega)).trans h2⟩
theorem Tb.new_err {f : Fr} (h1 : chk f.v f.k f.i f.c = 0) (h2 : f.zs ≠ []) : (Tb.Ms.new f).err f = if 192 < f.zs.length then 6 else 0 := by
  obtain ⟨_, _, _, _, _, h3, h4⟩ := chk_zero h1
  have h5 : f.zs.length ≠ 0 := fun e => h2 (List.eq_nil_of_length_eq_zero e)
  show sErr f.v f.k f.s f.c f.v f.k f.s f.i f.c [] f.zs = _
  unfold sErr
  rw [if_neg (by simp [mateZ]), if_neg (by omega), if_neg h5, if_neg (by simp [Sl.has])]
  simp [Sl.tot]
end Go.Proofs.YtfdbcfkjablnkaaGreat
