/-
  Whatever a table is asked, each answer and its slots are the document's: the law TablePlays returns true for every argument. No condition.
-/
import Derived.Test.YtloncplpjdekoaaRows
import Derived.Below
import Derived.WalkKit
import Derived.ProofKit
import Derived.OpenShut
import Derived.ShutString
import Derived.ChangeOld
import Derived.Test.YtloncplpjdekoaaMBPlaysProof3
namespace Go.Proofs.Ytloncplpjdekoaa
open Go.RowKit
/-- nothing but the way through -/
def Qn (Q : Exit → Act → World → Prop) : Exit → Act → World → Prop := fun e a w => e = .normal ∧ Q .normal a w
theorem upon_imp {P : Program} {o : Oper} {a : Act} {K K' : Act → World → Prop} {Q Q' : Exit → Act → World → Prop} (hK : ∀ a w, K a w → K' a w) (hQ : ∀ e a w, Q e a w → Q' e a w) {r : Result Next} (h : o.upon P a K Q r) : o.upon P a K' Q' r := by
  cases r with
  | ok n w' =>
    cases n <;> simp only [Oper.upon] at h ⊢
    case value u => exact hK _ _ h
    case skip => exact hK _ _ h
    case defer d => exact hK _ _ h
    case enter f args =>
      refine Calls.mono h fun e w'' he => ?_
      cases e with
      | returned u => exact hK _ _ he
      | panicked c => exact hQ _ _ _ he
      | outgrown => obtain ⟨a, w, h⟩ := he; exact ⟨a, w, hQ _ _ _ h⟩
    case row row args => exact Rows.mono h fun u w'' he => hK _ _ he
  | halt x w' =>
    cases x <;> simp only [Oper.upon] at h ⊢
    case panic u => exact hQ _ _ _ h
theorem wpAny_imp {P : Program} {md : Region.Mode} {ops : Array Oper} {Q Q' : Exit → Act → World → Prop} (hQ : ∀ e a w, Q e a w → Q' e a w) : ∀ (fuel : Nat) (listed : Array Bool) (a : Act) (w : World), wpAny P md ops Q fuel listed a w → wpAny P md ops Q' fuel listed a w
  | 0, _, _, _, h => ⟨h.1, hQ _ _ _ h.2⟩
  | fuel + 1, listed, a, w, h => ⟨fun h0 => hQ _ _ _ (h.1 h0), fun i hi => by
      have h1 := h.2 i hi
      unfold Go.wpOp at *
      cases ho : ops[i]? with
      | none => rw [ho] at h1; exact wpAny_imp hQ fuel _ _ _ h1
      | some o =>
        rw [ho] at h1
        simp only at h1 ⊢
        split
        · rename_i hw
          rw [if_pos hw] at h1
          rcases h1 with h1 | ⟨h1, a', w', h2⟩
          · exact .inl (upon_imp (fun a w h => wpAny_imp hQ fuel _ _ _ h) hQ h1)
          · exact .inr ⟨h1, a', w', hQ _ _ _ h2⟩
        · rename_i hw
          rw [if_neg hw] at h1
          exact wpAny_imp hQ fuel _ _ _ h1⟩
/-- a move, or an extract, that nothing guards -/
def lateB (o : Oper) : Bool := (match o.op with | .move _ => true | .extract _ _ => true | _ => false) && o.guard.isNone
theorem late_run {o : Oper} (hl : lateB o = true) (ρ : Operand → Value) (P : Program) : (∃ v, ∀ W, (execOp ρ o).run P W = .ok (.value v) W) ∨ ∀ W, ∃ x W', (execOp ρ o).run P W = .halt x W' := by
  obtain ⟨dst, op, type, pos, after, guard⟩ := o
  unfold lateB at hl
  cases op <;> simp only [Bool.false_and, Bool.true_and, Bool.false_eq_true] at hl
  case move x =>
    refine .inl ⟨ρ x, fun W => ?_⟩
    simp [execOp, go_sem]
  case extract t k =>
    simp only [execOp, Instr.extract]
    cases ht : ρ t with
    | tuple vs =>
      cases hk : vs[k]? with
      | none => exact .inr fun W => by simp [hk, go_sem]
      | some u => exact .inl ⟨u, fun W => by simp [hk, go_sem]⟩
    | _ => exact .inr fun W => by simp [go_sem]
theorem qn_not {Q : Exit → Act → World → Prop} {e : Exit} {a : Act} {w : World} (h : Qn Q e a w) (he : e ≠ .normal) : False := he h.1
section
variable {P : Program} {l : List Oper} {vs : List Value} {fs : List Tmp} {FS : Tmp → Value → World → Prop} {I : World → Prop} {a0 : Act}
theorem any_of_FTL {N n fu : Nat} {late : Nat → Bool} {Q' : Exit → Act → World → Prop} (hR : RG .any l.toArray N) (hN : N ≤ a0.tmps.size) (hlen : vs.length = l.length) (hI : Closed I) (hF : ∀ s x w w', FS s x w → Below w.heap.size w w' → FS s x w')
    (hob : ∀ (j : Nat) o v, j < n → l[j]? = some o → vs[j]? = some v → Ob P l.toArray I fs FS o v (lex l vs a0 j)) (hn : n < l.length)
    (hreach : ∀ t j, n ≤ t → t < l.length → j < n → late j = false → reachB .any l.toArray fu t j = true) (hlate : ∀ j o, late j = true → l[j]? = some o → lateB o = true)
    (hQ : ∀ (listed : Array Bool) b w, (∀ j, j < n → listed.getD j true = true) → (∀ t, n ≤ t → t < l.length → listed.getD t true = false) → Inv l vs fs FS I a0 listed b w → wpAny P .any l.toArray (Qn Q') (l.length - n) listed b w) :
    ∀ (f : Nat) (listed : Array Bool) (b : Act) (w : World), (listed.toList.take n).count false = f → (∀ t, n ≤ t → t < l.length → listed.getD t true = false) → Inv l vs fs FS I a0 listed b w → wpAny P .any l.toArray (Qn Q') (f + (l.length - n)) listed b w
  | 0, listed, b, w, hcn, hh, h => by
    rw [Nat.zero_add]
    exact hQ listed b w (fun j hj => count_take_zero hcn j hj) hh h
  | f + 1, listed, b, w, hcn, hh, h => by
    obtain ⟨i0, hi0, hu0⟩ := count_take_pos hcn
    rw [show f + 1 + (l.length - n) = (f + (l.length - n)) + 1 by omega]
    by_cases hall : ∀ j, j < n → late j = false → listed.getD j true = true
    · -- only moves and extracts are left ahead of the tail: the first of them comes first
      obtain ⟨i, hin, hun, hmin⟩ : ∃ i, i < n ∧ listed.getD i true = false ∧ ∀ j, j < i → listed.getD j true = true := by
        have key : ∀ m, m ≤ n → (∀ j, j < m → listed.getD j true = true) ∨ ∃ i, i < m ∧ listed.getD i true = false ∧ ∀ j, j < i → listed.getD j true = true := by
          intro m
          induction m with
          | zero => exact fun _ => .inl fun j hj => absurd hj (Nat.not_lt_zero _)
          | succ m ih =>
            intro hm
            rcases ih (by omega) with h1 | ⟨i, h1, h2, h3⟩
            · cases hc : listed.getD m true with
              | true =>
                refine .inl fun j hj => ?_
                rcases Nat.lt_or_ge j m with h4 | h4
                · exact h1 j h4
                · obtain rfl : j = m := by omega
                  exact hc
              | false => exact .inr ⟨m, by omega, hc, h1⟩
            · exact .inr ⟨i, by omega, h2, h3⟩
        rcases key n (Nat.le_refl _) with h1 | ⟨i, h1, h2, h3⟩
        · rw [h1 i0 hi0] at hu0; cases hu0
        · exact ⟨i, h1, h2, h3⟩
      have hil : i < l.length := by omega
      obtain ⟨o, ho2⟩ : ∃ o, l[i]? = some o := ⟨_, List.getElem?_eq_getElem hil⟩
      have ho : l.toArray[i]? = some o := by simpa using ho2
      have hla : late i = true := by
        cases hc : late i with
        | true => rfl
        | false => rw [hall i hin hc] at hun; cases hun
      have hlo := hlate i o hla ho2
      obtain ⟨v, hv⟩ : ∃ v, vs[i]? = some v := ⟨_, List.getElem?_eq_getElem (by rw [hlen]; exact hil)⟩
      have hp : ∀ e ∈ o.after, Region.binds .any e = true → listed.getD e.on true = true := fun e he hb => hmin _ (hR.back i o ho e he hb)
      have hls := h.lsize
      have hr : i ∈ Region.ready .any l.toArray listed := mem_ready.2 ⟨hun, o, ho, fun e he hb => by
        have h1 := hp e he hb
        have h2 := hR.back i o ho e he hb
        rw [Array.getD_eq_getD_getElem?] at h1 ⊢
        rw [Array.getElem?_eq_getElem (by omega)] at h1 ⊢
        exact h1⟩
      have hw : Region.wanted o (yielded l.toArray b.tmps) = true := by
        unfold lateB at hlo
        rw [Bool.and_eq_true] at hlo
        unfold Region.wanted
        rw [Option.isNone_iff_eq_none.1 hlo.2]
      have hop := op_of_F (Q' := Qn Q') (K := fun a' w' => w' = w → ∀ d, o.dst = some d → (d ∈ fs → ∃ x, a'.tmps[d]? = some x ∧ FS d x w) ∧ (d ∉ fs → a'.tmps[d]? = vs[i]?)) hR hN hlen h ho2 hun hp hv (hob i o v hin ho2 hv) (fun u w' _ hu e d hd => by
        subst e
        have hlt : d < b.tmps.size := by
          rw [h.size]
          exact Nat.lt_of_lt_of_le (hR.small i o d ho hd) hN
        rw [hd]
        exact ⟨fun hf => ⟨u, put_same u hlt, (hu d hd).1 hf⟩, fun hf => (put_same u hlt).trans ((hu d hd).2 hf).symm⟩)
      unfold Go.wpOp at hop
      simp only [ho] at hop
      rw [if_pos hw] at hop
      obtain ⟨u, hval⟩ : ∃ u, ∀ W, (execOp b.eval o).run P W = .ok (.value u) W := by
        rcases late_run hlo b.eval P with h1 | h1
        · exact h1
        · obtain ⟨x, W', h2⟩ := h1 w
          rcases hop with hop | ⟨_, a', w', hq⟩
          · unfold Oper.wp at hop
            rw [h2] at hop
            cases x <;> simp only [Oper.upon] at hop
            exact (qn_not hop (by simp)).elim
          · exact (qn_not hq (by simp)).elim
      have hu : ∀ d, o.dst = some d → (d ∈ fs → FS d u w) ∧ (d ∉ fs → vs[i]? = some u) := by
        rcases hop with hop | ⟨_, a', w', hq⟩
        · unfold Oper.wp at hop
          rw [hval w] at hop
          simp only [Oper.upon] at hop
          intro d hd
          have hlt : d < b.tmps.size := by
            rw [h.size]
            exact Nat.lt_of_lt_of_le (hR.small i o d ho hd) hN
          obtain ⟨h1, h2⟩ := hop trivial d hd
          rw [hd, put_same u hlt] at h1 h2
          refine ⟨fun hf => ?_, fun hf => (h2 hf).symm⟩
          obtain ⟨x, hx, hfx⟩ := h1 hf
          rw [Option.some.inj hx]; exact hfx
        · exact (qn_not hq (by simp)).elim
      refine wpAny_first (v := u) ho hR.sel (fun c a w hq => (qn_not hq (by simp)).elim) _ listed b w (fun j oj hj hji hunj hno => ?_) hr (.inl ⟨hw, hval⟩) ?_
      · -- apart
        have hnj : ∀ e ∈ o.after, Region.binds .any e = true → e.on ≠ j := fun e he hb heq => by
          rw [← heq, hp e he hb] at hunj; cases hunj
        have h1 : ∀ d, o.dst = some d → d ∉ oj.looksAt l.toArray := fun d hd hdl => by
          rcases hR.look j i oj o d hj ho hd hdl with ⟨_, e, he, hb, heq⟩ | ⟨_, e, he, hb, heq⟩
          · exact hno e he hb heq
          · exact hnj e he hb heq
        have h2 : ∀ d, o.dst = some d → oj.dst ≠ some d := fun d hd => hR.once j i oj o d hj ho hd hji
        have h3 : ∀ d, oj.dst = some d → d ∉ o.looksAt l.toArray := fun d hd hdl => by
          rcases hR.look i j o oj d ho hj hd hdl with ⟨_, e, he, hb, heq⟩ | ⟨_, e, he, hb, heq⟩
          · exact hnj e he hb heq
          · exact hno e he hb heq
        unfold Oper.apart
        rw [Bool.and_eq_true]
        constructor
        · cases hd : o.dst with
          | none => rfl
          | some d => simpa using ⟨h1 d hd, h2 d hd⟩
        · cases hd : oj.dst with
          | none => rfl
          | some d => simpa using h3 d hd
      · have hcnt := count_take hin hun
        exact any_of_FTL hR hN hlen hI hF hob hn hreach hlate hQ f _ _ w (by omega) (fun t h1 h2 => by rw [getD_set_far _ (by omega)]; exact hh t h1 h2) (h.next hR hN hI hF ho2 hp (Below.refl _ _) hu)
    · obtain ⟨j0, hj0, hl0, hu1⟩ : ∃ j, j < n ∧ late j = false ∧ listed.getD j true = false := by
        simp only [Classical.not_forall] at hall
        obtain ⟨j, h1, h2, h3⟩ := hall
        exact ⟨j, h1, h2, by simpa using h3⟩
      refine ⟨fun h0 => ?_, fun i hi => ?_⟩
      · have hall := ready_all hR h.lsize h0
        rw [hall i0] at hu0
        cases hu0
      obtain ⟨hun, o, ho, hall⟩ := mem_ready.1 hi
      have ho2 : l[i]? = some o := by simpa using ho
      have hp : ∀ e ∈ o.after, Region.binds .any e = true → listed.getD e.on true = true := fun e he hb => by
        have h1 := hall e he hb
        rw [Array.getD_eq_getD_getElem?] at h1 ⊢
        cases hx : listed[e.on]? with
        | none => rfl
        | some y => rw [hx] at h1; simpa using h1
      have hin : i < n := by
        rcases Nat.lt_or_ge i n with h1 | h1
        · exact h1
        · have h2 := reach_ready h ho2 hp fu j0 (hreach i j0 h1 (List.getElem?_eq_some_iff.1 ho2).1 hj0 hl0)
          rw [h2] at hu1; cases hu1
      obtain ⟨v, hv⟩ : ∃ v, vs[i]? = some v := ⟨_, List.getElem?_eq_getElem (by rw [hlen]; exact (List.getElem?_eq_some_iff.1 ho2).1)⟩
      have hcnt := count_take hin hun
      exact op_of_F hR hN hlen h ho2 hun hp hv (hob i o v hin ho2 hv) fun u w' hb hu =>
        any_of_FTL hR hN hlen hI hF hob hn hreach hlate hQ f _ _ w' (by omega) (fun t h1 h2 => by rw [getD_set_far _ (by omega)]; exact hh t h1 h2) (h.next hR hN hI hF ho2 hp hb hu)
/-- ONE WALK IN THE TEXT's ORDER SERVES EVERY ORDER; the tail, behind place n, as it stands; lates: moves and extracts that the tail need not wait for -/
theorem wp_region_FTL {id : Nat} {Q : Exit → Act → World → Prop} {a : Act} {w : World} {l : List Oper} (N n fu : Nat) (lates : List Nat) (fs : List Tmp) (FS : Tmp → Value → World → Prop) (I : World → Prop) (hm : P.follows .mixedOrders = true) (hB : rgB .any l.toArray N = true)
    (hn : decide (n < l.length) = true) (hre : ((List.range (l.length - n)).all fun t => (List.range n).all fun j => lates.contains j || reachB .any l.toArray fu (n + t) j) = true) (hla : (lates.all fun j => ((l[j]?).map lateB).getD false) = true)
    (hq : Region.seqB .any l.toArray (l.length - n) n (List.replicate n true ++ List.replicate (l.length - n) false).toArray = true)
    (hfs : (fs.all fun s => (l.take n).any fun o => o.dst == some s) = true) (hN : N ≤ a.tmps.size) (hI : Closed I) (hF : ∀ s x w w', FS s x w → Below w.heap.size w w' → FS s x w') (hC : I w.drew)
    (h : wpF P l.toArray I fs FS (fun a' => ∀ xs w', I w' → (∀ s ∈ fs, FS s (xs s) w') → wpList P l.toArray (Qn Q) (l.drop n) (fill fs xs a') w') (l.take n) a) : (Code.region id l.toArray true).wp P Q a w := by
  have hR := rgB_spec hB
  have hn' : n < l.length := by simpa using hn
  obtain ⟨vs0, hlen0, hob0, hE0⟩ := wpF_vals (l.take n) a h
  have htl : (l.take n).length = n := by rw [List.length_take]; omega
  rw [htl] at hlen0 hE0
  obtain ⟨vs, hvs⟩ : ∃ vs, vs0 ++ List.replicate (l.length - n) undef = vs := ⟨_, rfl⟩
  have hlen : vs.length = l.length := by rw [← hvs, List.length_append, List.length_replicate]; omega
  have hlex : ∀ j, j ≤ n → lex (l.take n) vs0 a j = lex l vs a j := fun j hj => by rw [← hvs]; exact lex_take l vs0 _ a n j hj (by rw [hlen0, htl])
  have hob : ∀ (j : Nat) o v, j < n → l[j]? = some o → vs[j]? = some v → Ob P l.toArray I fs FS o v (lex l vs a j) := fun j o v hj ho hv => by
    rw [← hlex j (by omega)]
    refine hob0 j o v (by rw [List.getElem?_take, if_pos hj]; exact ho) ?_
    rw [← hvs, List.getElem?_append_left (by omega)] at hv
    exact hv
  rw [hlex n (Nat.le_refl _)] at hE0
  refine wp_region_any hm (wpAny_imp (Q := Qn Q) (fun e a w h => ?_) _ _ _ _ ?_)
  · obtain ⟨rfl, h⟩ := h
    exact h
  have hre' : ∀ t j, n ≤ t → t < l.length → j < n → lates.contains j = false → reachB .any l.toArray fu t j = true := fun t j h1 h2 h3 h4 => by
    rw [List.all_eq_true] at hre
    have h5 := hre (t - n) (List.mem_range.2 (by omega))
    rw [List.all_eq_true] at h5
    have h6 := h5 j (List.mem_range.2 h3)
    rw [h4, Bool.false_or, show n + (t - n) = t by omega] at h6
    exact h6
  have hla' : ∀ j o, lates.contains j = true → l[j]? = some o → lateB o = true := fun j o h1 h2 => by
    rw [List.all_eq_true] at hla
    have h3 := hla j (by simpa using h1)
    rw [h2] at h3
    exact h3
  have key := any_of_FTL (Q' := Q) (late := fun j => lates.contains j) (fu := fu) (l := l) (vs := vs) (fs := fs) (FS := FS) (I := I) (a0 := a) (n := n) hR hN hlen hI hF hob hn' hre' hla' ?_ n (Array.replicate l.toArray.size false) a w.drew (by
      simp only [List.size_toArray, Array.toList_replicate, List.take_replicate, List.count_replicate_self]; omega) (fun t _ ht => getD_in (by simpa using ht) (getD_replicate_false _ _)) ?_
  · rw [show n + (l.length - n) = l.toArray.size by simp; omega] at key
    exact key
  · intro listed b W hall hno hinv
    have hw : ∀ s ∈ fs, ∃ x, b.tmps[s]? = some x ∧ FS s x W := fun s hs => by
      rw [List.all_eq_true] at hfs
      have h1 := hfs s hs
      rw [List.any_eq_true] at h1
      obtain ⟨o, ho, hd⟩ := h1
      obtain ⟨j, hj, rfl⟩ := List.getElem_of_mem ho
      have hj1 : j < n := by rw [List.length_take] at hj; omega
      have hj2 : j < l.length := by omega
      have hd' : (l[j]).dst = some s := by simpa using hd
      obtain ⟨v, hv⟩ : ∃ v, vs[j]? = some v := ⟨_, List.getElem?_eq_getElem (by rw [hlen]; exact hj2)⟩
      exact (hinv.ins j l[j] s v (List.getElem?_eq_getElem hj2) (hall j hj1) hd' hv).1 hs
    have hb : b = fill fs (fun s => b.tmps.getD s undef) (lex l vs a n) := by
      have ht : b.tmps = (fill fs (fun s => b.tmps.getD s undef) (lex l vs a n)).tmps := by
        apply Array.ext_getElem?
        intro d
        by_cases hd : d ∈ fs
        · obtain ⟨x, hx, _⟩ := hw d hd
          have hlt : d < (lex l vs a n).tmps.size := by
            rw [(lex_size l vs a n).1, ← hinv.size]
            exact (Array.getElem?_eq_some_iff.1 hx).1
          rw [fill_in fs _ _ d hd hlt, hx]
          simp [hx]
        · rw [fill_out fs _ _ d hd]
          by_cases hwr : ∃ (j : Nat) (oj : Oper), j < n ∧ l[j]? = some oj ∧ oj.dst = some d
          · obtain ⟨j, oj, hjn, hj, hdj⟩ := hwr
            obtain ⟨v, hv⟩ : ∃ v, vs[j]? = some v := ⟨_, List.getElem?_eq_getElem (by rw [hlen]; exact (List.getElem?_eq_some_iff.1 hj).1)⟩
            have hj' : l.toArray[j]? = some oj := by simpa using hj
            rw [(hinv.ins j oj d v hj (hall j hjn) hdj hv).2 hd]
            exact (lex_in l vs a n j oj d v hj hjn hv hdj (Nat.lt_of_lt_of_le (hR.small _ _ _ hj' hdj) hN) fun i oi hi _ hne => hR.once i j oi oj d (by simpa using hi) hj' hdj hne).symm
          · rw [lex_out l vs a n d fun i oi hi hin hdi => hwr ⟨i, oi, hin, hi, hdi⟩]
            refine hinv.out d fun i oi hi hli hdi => hwr ⟨i, oi, ?_, hi, hdi⟩
            rcases Nat.lt_or_ge i n with h1 | h1
            · exact h1
            · rw [hno i h1 (List.getElem?_eq_some_iff.1 hi).1] at hli; cases hli
      have hd : b.defers = (fill fs (fun s => b.tmps.getD s undef) (lex l vs a n)).defers := by
        rw [(fill_size ..).2, (lex_size ..).2]
        exact hinv.defers
      cases b
      simp only at ht hd
      rw [Act.mk.injEq]
      exact ⟨ht, hd⟩
    have hL : listed = (List.replicate n true ++ List.replicate (l.length - n) false).toArray := by
      apply Array.ext
      · simp [hinv.lsize]; omega
      · intro j h1 h2
        have hj : j < l.length := by rw [← hinv.lsize]; exact h1
        by_cases hjn : j < n
        · have h3 := hall j hjn
          rw [Array.getD_eq_getD_getElem?, Array.getElem?_eq_getElem h1] at h3
          simp only [List.getElem_toArray]
          rw [List.getElem_append_left (by simpa using hjn)]
          simpa using h3
        · have h3 := hno j (by omega) hj
          rw [Array.getD_eq_getD_getElem?, Array.getElem?_eq_getElem h1] at h3
          simp only [List.getElem_toArray]
          rw [List.getElem_append_right (by simpa using Nat.le_of_not_lt hjn)]
          simpa using h3
    have hE := hE0 (fun s => b.tmps.getD s undef) W hinv.cls fun s hs => by
      obtain ⟨x, hx, hf⟩ := hw s hs
      simpa [hx] using hf
    rw [← hb] at hE
    have := wpAny_of_seq (md := .any) (Q' := Qn Q) (l.drop n) n listed b W (fun j => by simp [List.getElem?_drop]) (by rw [List.length_drop, hL]; exact hq) hE
    rwa [List.length_drop] at this
  · refine ⟨hC, rfl, rfl, fun _ _ => rfl, fun j o d v hj hlj => ?_, fun j o hj hlj => ?_, by simp⟩
    all_goals
      have hlt := (List.getElem?_eq_some_iff.1 hj).1
      rw [Array.getD_eq_getD_getElem?] at hlj
      simp [hlt] at hlj
/-- in the tail: an operation that looks at no memory -/
theorem wpList_val {ops : Array Oper} {rest : List Oper} {o : Oper} {a : Act} {w : World} {Q : Exit → Act → World → Prop} (hgd : o.guard = none) (v : Value) (hrun : ∀ W, (execOp a.eval o).run P W = .ok (.value v) W) (h : wpList P ops Q rest (a.put o.dst v) w) : wpList P ops Q (o :: rest) a w := by
  unfold wpList
  rw [if_pos (by simp [Region.wanted, hgd])]
  left
  unfold Oper.wp
  rw [hrun w]
  exact h
end
end Go.Proofs.Ytloncplpjdekoaa

namespace Go.Proofs.Ytloncplpjdekoaa
open Go.RowKit Go.ChangeShapes Go.WideShapes Go.Deep
set_option maxRecDepth 100000

/-- a call: its kind, its frame -/
structure Ac where
  k : Int
  f : Fr
def Ac.cs (a : Ac) : Array Value := #[.int .i64 a.k, .int .i64 a.f.v, .int .i64 a.f.k, .int .u32 a.f.s, .int .i64 a.f.i, .int .i64 a.f.c, .slice a.f.a a.f.zs.length a.f.cp]
def AcsAt (w : World) (A : Option Addr) (l : List Ac) : Prop :=
  (∀ a ∈ l, a.f.At w w.heap.size) ∧ ∀ (j : Nat) (a : Ac), l[j]? = some a → ∃ b off, A = some ⟨b, off, none⟩ ∧ b < w.heap.size ∧ ∀ (q : Nat) (u : Value), a.cs[q]? = some u → w.cell? ⟨b, off + j * 7 + q, none⟩ = some u
theorem AcsAt.seven {w W : World} {A : Option Addr} {l : List Ac} (h : AcsAt w A l) (hb : Below w.heap.size w W) {j : Nat} {a : Ac} (hj : l[j]? = some a) : ∃ b off, A = some ⟨b, off, none⟩ ∧ b < w.heap.size ∧
    W.cell? ⟨b, off + j * 7, none⟩ = some (.int .i64 a.k) ∧ W.cell? ⟨b, off + j * 7 + 1, none⟩ = some (.int .i64 a.f.v) ∧ W.cell? ⟨b, off + j * 7 + 2, none⟩ = some (.int .i64 a.f.k) ∧ W.cell? ⟨b, off + j * 7 + 3, none⟩ = some (.int .u32 a.f.s) ∧
    W.cell? ⟨b, off + j * 7 + 4, none⟩ = some (.int .i64 a.f.i) ∧ W.cell? ⟨b, off + j * 7 + 5, none⟩ = some (.int .i64 a.f.c) ∧ W.cell? ⟨b, off + j * 7 + 6, none⟩ = some (.slice a.f.a a.f.zs.length a.f.cp) := by
  obtain ⟨b, off, e, hB, hc⟩ := h.2 j a hj
  have hk : ∀ q u, a.cs[q]? = some u → W.cell? ⟨b, off + j * 7 + q, none⟩ = some u := fun q u hq => (hb.cell (p := ⟨b, off + j * 7 + q, none⟩) hB).trans (hc q u hq)
  exact ⟨b, off, e, hB, hk 0 _ rfl, hk 1 _ rfl, hk 2 _ rfl, hk 3 _ rfl, hk 4 _ rfl, hk 5 _ rfl, hk 6 _ rfl⟩
section
variable {H : Type} {enc : TypeId × Value → H} {w : World}
theorem ac_of {fuel : Nat} {cs : List Value} {x : DataW H × List MemPlace} (h : DataW.trod enc Try.prog w 0 (fun _ => true) true fuel 39 cs = some x) :
    ∃ a : Ac, cs = a.cs.toList ∧ a.f.At w w.heap.size := by
  obtain ⟨xs, n, _, _, hlen, hxl, hf⟩ := DataW.trod_struct Try.underlying39 h
  have h7 : Try.prog.cellsOf 39 = 7 := by kernel_rfl
  have k0 : Try.prog.cellsOf 3 = 1 := by kernel_rfl
  have k1 : Try.prog.cellsOf 36 = 6 := by kernel_rfl
  rw [h7] at hlen
  match cs, hlen with
  | [c0, c1, c2, c3, c4, c5, c6], _ =>
    have hx : ∀ i, i < 2 → ∃ y, xs[i]? = some y := fun i hi => ⟨_, List.getElem?_eq_getElem (by rw [hxl]; exact hi)⟩
    obtain ⟨y0, e0⟩ := hx 0 (by decide)
    obtain ⟨y1, e1⟩ := hx 1 (by decide)
    have f0 : DataW.trod enc Try.prog w 0 (fun _ => true) true n 3 (([c0, c1, c2, c3, c4, c5, c6].drop 0).take (Try.prog.cellsOf 3)) = some y0 := (hf 0 _ rfl).trans e0
    rw [k0] at f0
    have f1 : DataW.trod enc Try.prog w 0 (fun _ => true) true n 36 (([c0, c1, c2, c3, c4, c5, c6].drop 1).take (Try.prog.cellsOf 36)) = some y1 := (hf 1 _ rfl).trans e1
    rw [k1] at f1
    obtain ⟨k, g0, _, _⟩ := DataW.trod_int Try.underlying3 f0
    obtain ⟨f, g1, hat, _⟩ := fr_of f1
    injection g0 with g0
    simp only [List.drop_succ_cons, List.drop_zero, List.take_succ_cons, List.take_zero, Fr.cs, frC, List.cons.injEq, and_true] at g1
    obtain ⟨rfl, rfl, rfl, rfl, rfl, rfl⟩ := g1
    subst g0
    exact ⟨⟨k, f⟩, rfl, hat⟩
theorem acs_of {fuel : Nat} {A : Option Addr} {len cap : Nat} {x : DataW H × List MemPlace} (h : DataW.trod enc Try.prog w 0 (fun _ => true) true fuel 22 [.slice A len cap] = some x) :
    ∃ fs : List Ac, fs.length = len ∧ len ≤ 9223372036854775807 ∧ AcsAt w A fs := by
  rcases open_slice Try.underlying22 h with ⟨hcs, _⟩ | ⟨a, l, c, m, n, D, Pl, hcs, _, hl, hm, hmm, _, hi⟩
  · injection hcs with hcs
    injection hcs with h1 h2 h3
    subst h1 h2 h3
    exact ⟨[], rfl, by decide, ⟨fun f hf => by simp at hf, fun j f hj => by simp at hj⟩⟩
  · injection hcs with hcs
    injection hcs with h1 h2 h3
    subst h1 h2 h3
    have h6 : Try.prog.cellsOf 39 = 7 := by kernel_rfl
    have hmc : m = cap := by simpa using hmm
    have key : ∀ i, ∃ f : Ac, i < len → f.f.At w w.heap.size ∧ ∃ b o, some a = some (⟨b, o, none⟩ : Addr) ∧ b < w.heap.size ∧ ∀ (q : Nat) (u : Value), f.cs[q]? = some u → w.cell? ⟨b, o + i * 7 + q, none⟩ = some u := by
      intro i
      by_cases hil : i < len
      · obtain ⟨cs', hc', ht'⟩ := hi i (by omega)
        rw [h6] at hc'
        obtain ⟨f, rfl, hat⟩ := ac_of ht'
        obtain ⟨_, _, hcell⟩ := World.cells?_some hc'
        obtain ⟨cs0, hc0, ht0⟩ := hi 0 (by omega)
        rw [h6] at hc0
        obtain ⟨f0, rfl, _⟩ := ac_of ht0
        have hz := (World.cells?_some hc0).2.2 0 (by decide)
        have hadd : ∀ a : Addr, a.add 0 = a := fun a => by unfold Addr.add; rw [if_pos rfl]
        rw [Nat.zero_mul, hadd, hadd] at hz
        obtain ⟨b, o, sp⟩ := a
        have hsp : sp = none := World.cell?_spot hz
        subst hsp
        have hcj : ∀ (j : Nat) v, f.cs[j]? = some v → w.cell? ⟨b, o + i * 7 + j, none⟩ = some v := fun j v hv => by
          have hj : j < 7 := (Array.getElem?_eq_some_iff.1 hv).1
          have h0 := hcell j hj
          rw [Addr.add_lit, Addr.add_lit, Array.getElem?_toList, hv] at h0
          exact h0
        exact ⟨f, fun _ => ⟨hat, b, o, rfl, block_of_cell (hcj 0 _ rfl), hcj⟩⟩
      · exact ⟨⟨0, ⟨0, 0, 0, 0, 0, none, 0, []⟩⟩, fun h => absurd h hil⟩
    obtain ⟨g, hg⟩ := Classical.axiomOfChoice key
    have hall : ∀ (i : Nat) f, ((List.range len).map g)[i]? = some f → i < len ∧ f = g i := fun i f hd => by
      rw [List.getElem?_map] at hd
      obtain ⟨j, hj, rfl⟩ := Option.map_eq_some_iff.1 hd
      have hil : i < len := by
        rcases Nat.lt_or_ge i len with h | h
        · exact h
        · rw [List.getElem?_eq_none (by simpa using h)] at hj; simp at hj
      rw [List.getElem?_range hil] at hj
      injection hj with hj
      exact ⟨hil, by rw [hj]⟩
    refine ⟨(List.range len).map g, by simp, by unfold maxLen at hm; omega, ⟨fun f hf => ?_, fun j f hj => ?_⟩⟩
    · obtain ⟨i, hi, rfl⟩ := List.mem_iff_getElem.1 hf
      obtain ⟨h1, h2⟩ := hall i _ (List.getElem?_eq_getElem hi)
      rw [h2]; exact (hg i h1).1
    · obtain ⟨h1, rfl⟩ := hall j f hj
      exact (hg j h1).2
end
end Go.Proofs.Ytloncplpjdekoaa

namespace Go.Proofs.Ytloncplpjdekoaa
open Go.RowKit Go.Shelf
set_option maxRecDepth 100000

/-- what the operations of 'next, w, want := ref.Put(m, Of(f))' hand on -/
def FTp (Src : Fr → Prop) (H B r : Nat) (T : List Tb.Ms) (er : Int) (o : Tb.Out) (q : Tmp) (x : Value) (W : World) : Prop :=
  if q = 10 then ∃ g, x = .pointer (some ⟨g, 0, none⟩) ∧ H ≤ g ∧ W.heap[g]? = some (.cells #[.int .i64 0, .slice none 0 0] 30 (0, 0))
  else if q = 11 then ∃ g, x = .pointer (some ⟨g, 0, none⟩) ∧ H ≤ g ∧ W.heap[g]? = some (.cells (outC none 0 0 false false 0) 41 (0, 0))
  else ∃ A n cp L Ab cb, x = (if q = 73 then docV r A n cp else if q = 74 then outV Ab o.zs.length cb o.wh o.ev o.old else .tuple #[docV r A n cp, outV Ab o.zs.length cb o.wh o.ev o.old, .int .i64 er]) ∧
    DocAt W A n cp L ∧ T = L.map Ds.ms ∧ o.zs.length ≤ cb ∧ Nums .u8 W W.heap.size Ab o.zs ∧ SrcL Src L ∧ ∀ p, Ab = some p → B ≤ p.block
theorem FTp.later {Src : Fr → Prop} {H B r : Nat} {T : List Tb.Ms} {er : Int} {o : Tb.Out} {q : Tmp} {x : Value} {W W' : World} (h : FTp Src H B r T er o q x W) (hb : Below W.heap.size W W') : FTp Src H B r T er o q x W' := by
  unfold FTp at *
  split
  · rename_i e; rw [if_pos e] at h
    obtain ⟨g, h1, h2, h3⟩ := h
    exact ⟨g, h1, h2, row_keep h3 hb⟩
  · rename_i e; rw [if_neg e] at h
    split
    · rename_i e; rw [if_pos e] at h
      obtain ⟨g, h1, h2, h3⟩ := h
      exact ⟨g, h1, h2, row_keep h3 hb⟩
    · rename_i e; rw [if_neg e] at h
      obtain ⟨A, n, cp, L, Ab, cb, h1, h2, h3, h4, h5, h6, h7⟩ := h
      exact ⟨A, n, cp, L, Ab, cb, h1, h2.below hb, h3, h4, (h5.below hb).mono hb.size, h6, h7⟩
set_option maxHeartbeats 16000000 in
theorem tplays_go (x : Int) (A0 : Option Addr) (N : Nat) (cp0 : Nat) (l : List Ac) (w : World) (hn : l.length = N) (h1 : AcsAt w A0 l) :
    Calls Try.prog 3 #[.int .i64 x, .slice A0 N cp0] w fun e w' => e = .returned (.bool true) ∧ Below w.heap.size w w' := by
  have HKN := Lib.hid (fun W => tbknown_any W)
  have HNW := Lib.hid (tnew_any x w)
  have H1 := Lib.hid h1
  have HN := Lib.hid hn
  clear h1 hn
  go_enter Try.func3, Try.ntmps3
  go_wp2_with fail
  refine HNW.out.mono ?_
  rintro e w1 (⟨hx, rfl, rfl⟩ | ⟨r, rfl, b, m, rfl, hT, hb1⟩)
  · clear HNW
    rename World => wr
    by_cases hx1 : x < 1
    · go_wp2_with fail
      refine (HKN.out wr).mono ?_
      rintro e wz ⟨rfl, hbz⟩
      go_wp2
      go_ret
      exact ⟨rfl, hbz⟩
    · have hx2 : 16 < x := by omega
      go_wp2_with fail
      refine (HKN.out wr).mono ?_
      rintro e wz ⟨rfl, hbz⟩
      go_wp2
      go_ret
      exact ⟨rfl, hbz⟩
  have hr := hT.room
  have hr1 : ¬ (r : Int) < 1 := by omega
  have hr2 : ¬ 16 < (r : Int) := by omega
  obtain ⟨bm, hbm⟩ : ∃ bm, w1.heap.size = bm := ⟨_, rfl⟩
  obtain ⟨w2, hw2⟩ : ∃ w2, w1.alloc (.cells #[.int .i64 (r : Int), .slice none 0 0] 30) = w2 := ⟨_, rfl⟩
  obtain ⟨hb12, _, hx2⟩ := doc_box hw2
  have HT0 : Hid (Tw w b r bm m none 0 0 [] none 0 0 [] w2) := Lib.hid ⟨(hT.below hb12).exact, by rw [← hbm]; exact hx2, .nil _, trivial, fun d hd => (by cases hd), fun q hq => hT.own_sub q hq, by rw [← hbm]; exact hb1.size, hb1.trans (hb12.mono hb1.size)⟩
  have HW2 := Lib.hid hw2
  have HBM := Lib.hid hbm
  clear HNW hT hb1 hw2 hb12 hx2 hbm
  go_wp2_with fail
  rw [HW2.out, HBM.out]
  clear hr1 hr2
  go_loopw [5, 8] (fun tv iv wr => ∃ (j b m : Nat) (A : Option Addr) (n cp : Nat) (X : List Sx) (A2 : Option Addr) (n2 cp2 : Nat) (L : List Ds), j ≤ N ∧ j ≤ 60 ∧ tv = .pointer (some ⟨b, 0, none⟩) ∧ iv = .int .i64 (j : Int) ∧ Hid (Tw w b r bm m A n cp X A2 n2 cp2 L wr)) (fun _ iv _ => 60 - (intOf iv).toNat)
  case atStart => exact ⟨0, b, m, none, 0, 0, [], none, 0, 0, [], by omega, by omega, rfl, rfl, HT0⟩
  case round =>
    clear HT0 HW2 HBM
    obtain ⟨j, b, m, A, n, cp, X, A2, n2, cp2, L, hjN, hj60, rfl, rfl, HT⟩ := hrel
    by_cases hj1 : j < N
    · by_cases hj2 : j < 60
      · have hj1' : (j : Int) < (N : Int) := by omega
        have hj2' : (j : Int) < 60 := by omega
        obtain ⟨a, haj⟩ : ∃ a, l[j]? = some a := ⟨_, List.getElem?_eq_getElem (by rw [HN.out]; omega)⟩
        obtain ⟨f, hf⟩ : ∃ f, a.f = f := ⟨_, rfl⟩
        obtain ⟨kk, hkk⟩ : ∃ kk, a.k = kk := ⟨_, rfl⟩
        have hat := H1.out.1 a (List.mem_of_getElem? haj)
        obtain ⟨g, off, rfl, hg, a0, a1, a2, a3, a4, a5, a6⟩ := H1.out.seven HT.out.below haj
        rw [hf] at hat a1 a2 a3 a4 a5 a6
        rw [hkk] at a0
        have hfl : (f.zs.take 250).length = min 250 f.zs.length := List.length_take
        have h250 : f.cut.zs.length ≤ 250 := by show (f.zs.take 250).length ≤ 250; omega
        have KC : ∀ W, Calls Try.prog 9 #[.agg #[.int .i64 f.v, .int .i64 f.k, .int .u32 f.s, .int .i64 f.i, .int .i64 f.c, .slice f.a f.zs.length f.cp]] W fun e w' => e = .returned (.agg #[.int .i64 f.cut.v, .int .i64 f.cut.k, .int .u32 f.cut.s, .int .i64 f.cut.i, .int .i64 f.cut.c, .slice f.cut.a f.cut.zs.length f.cut.cp]) ∧ Below W.heap.size W w' :=
          fun W => cut_any f.v f.k f.s f.i f.c f.a f.zs.length (f.zs.take 250).length f.cp W (by omega) (by omega) hat.room
        have HCA := Lib.hid (Fr.cut_at hat)
        have HKC := Lib.hid KC
        have hgW : g < wr.heap.size := by have := HT.out.below.size; omega
        clear KC hat hfl hj1 hj2 hg haj hf hkk
        generalize f.cut = h at HCA HKC h250
        obtain ⟨hv, hk, hs, hi, hc, ha, hcp, hz⟩ := h
        simp only at HKC h250
        go_wp2_with fail
        refine (HKC.out wr).mono ?_
        rintro e W1 ⟨rfl, hbW1⟩
        have a0' : (W1.alloc (.cells #[.int .i64 hv, .int .i64 hk, .int .u32 hs, .int .i64 hi, .int .i64 hc, .slice ha hz.length hcp] 36)).cell? ⟨g, off + j * 7, none⟩ = some (.int .i64 kk) :=
          ((hbW1.alloc hbW1.size (.cells #[.int .i64 hv, .int .i64 hk, .int .u32 hs, .int .i64 hi, .int .i64 hc, .slice ha hz.length hcp] 36)).cell (p := ⟨g, off + j * 7, none⟩) hgW).trans a0
        obtain ⟨W2, hW2⟩ : ∃ W2, W1.alloc (.cells #[.int .i64 hv, .int .i64 hk, .int .u32 hs, .int .i64 hi, .int .i64 hc, .slice ha hz.length hcp] 36) = W2 := ⟨_, rfl⟩
        have hb12 : Below W1.heap.size W1 W2 := by rw [← hW2]; exact (Below.refl _ W1).alloc (Nat.le_refl _) _
        obtain ⟨bf, hbf⟩ : ∃ bf, W1.heap.size = bf := ⟨_, rfl⟩
        have hxf : W2.heap[bf]? = some (.cells (frC hv hk hs hi hc (.slice ha hz.length hcp)) 36 (0, 0)) := by rw [← hW2, ← hbf]; exact World.alloc_heap_new _ _
        have hbr2 := hbW1.trans (hb12.mono hbW1.size)
        have HT2 := Lib.hid (HT.out.later hbr2)
        have HXF := Lib.hid hxf
        have HW2 := Lib.hid hW2
        have HBF := Lib.hid hbf
        have hfat : Hid ((⟨hv, hk, hs, hi, hc, ha, hcp, hz⟩ : Fr).At w w.heap.size) := HCA
        clear hW2 hb12 hxf hbr2 hbW1 a1 a2 a3 a4 a5 a6 hbf HKC HCA HT a0
        by_cases hk0 : kk = 0
        · have hk0' : (kk == 0) = true := by simpa using hk0
          clear hk0
          obtain ⟨hnd, hnn, hXs⟩ := HT2.out.nodup
          subst hnn
          have hroom := HT2.out.tbl.room
          have hfew := HT2.out.tbl.few
          have hgdX := HT2.out.tbl.good
          obtain ⟨R, hR⟩ : ∃ R, Tb.put r (L.map Ds.ms) ⟨hv, hk, hs, hi, hc, ha, hcp, hz⟩ = R := ⟨_, rfl⟩
          have hlk := HT2.out.like.put (keysL HT2.out.doc) r ⟨hv, hk, hs, hi, hc, ha, hcp, hz⟩
          rw [hR] at hlk
          obtain ⟨R', hR'⟩ : ∃ R', Tb.put r (X.map Sx.ms) ⟨hv, hk, hs, hi, hc, ha, hcp, hz⟩ = R' := ⟨_, rfl⟩
          have hz192 := Tb.put_zs (r := r) (f := ⟨hv, hk, hs, hi, hc, ha, hcp, hz⟩) hgdX.1 hgdX.2
          rw [hR'] at hlk hz192
          obtain ⟨er0, T3, zs, wh, ev, old⟩ := R
          obtain ⟨er, T3', o'⟩ := R'
          obtain ⟨hle, hlo, hlT⟩ := hlk
          simp only at hle hlo hlT hz192
          subst hle hlo
          simp only at hz192
          have HB2 := Lib.hid HT2.out.below
          have hbm2 : bm < W2.heap.size := (Array.getElem?_eq_some_iff.1 HT2.out.box).1
          have hbf2 : bf < W2.heap.size := (Array.getElem?_eq_some_iff.1 HXF.out).1
          have hwbm := HT2.out.lowb
          have LM : ∀ V, Below W2.heap.size W2 V → (Instr.loadAt 30 (.pointer (some ⟨bm, 0, none⟩))).run Try.prog V = .ok (.agg #[.int .i64 (r : Int), .slice A2 n2 cp2]) V := fun V hV => by
            obtain ⟨d0, d1⟩ := doc_cells (row_keep HT2.out.box hV)
            simp [Instr.loadAt, go_sem, d0, d1]
          have LF : ∀ V, Below W2.heap.size W2 V → (Instr.loadAt 36 (.pointer (some ⟨bf, 0, none⟩))).run Try.prog V = .ok (.agg #[.int .i64 hv, .int .i64 hk, .int .u32 hs, .int .i64 hi, .int .i64 hc, .slice ha hz.length hcp]) V := fun V hV => by
            obtain ⟨d0, d1, d2, d3, d4, d5⟩ := fr_block (row_keep HXF.out hV)
            simp [Instr.loadAt, go_sem, d0, d1, d2, d3, d4, d5]
          have hFA : Hid (∀ V, Below w.heap.size w V → (⟨hv, hk, hs, hi, hc, ha, hcp, hz⟩ : Fr).At V V.heap.size) := Lib.hid fun V hV => (hfat.out.below hV).mono hV.size
          have KO : Hid (∀ V, Below W2.heap.size W2 V → Calls Try.prog 11 #[Value.agg #[.int .i64 hv, .int .i64 hk, .int .u32 hs, .int .i64 hi, .int .i64 hc, .slice ha hz.length hcp]] V fun e w' => e = .returned (Value.agg #[.int .i64 hv, .int .i64 hk, .int .u32 hs, .int .i64 hi, .int .i64 hc, .slice ha hz.length hcp]) ∧ Below V.heap.size V w') := Lib.hid fun V _ => of_frame hv hk hs hi hc ha hz.length hcp V
          have KR : Hid (∀ V, Below W2.heap.size W2 V → Calls Try.prog 10 #[.agg #[.int .i64 (r : Int), .slice A2 n2 cp2], Value.agg #[.int .i64 hv, .int .i64 hk, .int .u32 hs, .int .i64 hi, .int .i64 hc, .slice ha hz.length hcp]] V fun e w' => ∃ u, e = .returned u ∧ FTp (fun g => g.At w w.heap.size) W2.heap.size W2.heap.size r T3 er ⟨zs, wh, ev, old⟩ 72 u w' ∧ Below V.heap.size V w') := Lib.hid fun V hV => by
            refine (dput_any (HT2.out.doc.below hV) hnd r hroom.1 hfew hroom.2 ⟨hv, hk, hs, hi, hc, ha, hcp, hz⟩ (hFA.out V (HB2.out.trans (hV.mono HB2.out.size))) h250 (fun g => g.At w w.heap.size) HT2.out.src hfat.out).mono ?_
            rintro e V' ⟨hb, A3, n3, cp3, L3, Ab, cb, he, hd, hT3, hcb, hnb, hsr, hnew⟩
            rw [hR] at he hT3 hcb hnb
            refine ⟨_, he, ⟨A3, n3, cp3, L3, Ab, cb, rfl, hd, hT3, hcb, hnb, hsr, fun p hp => ?_⟩, hb⟩
            have := hnew p hp
            have := hV.size
            omega
          clear hXs hgdX hnd
          go_wp2_with fail
          rw [HW2.out, HBF.out]
          refine wp_region_FTL 143 10 6 [6, 7] [72, 68, 73, 74, 10, 11] (FTp (fun g => g.At w w.heap.size) W2.heap.size W2.heap.size r T3 er ⟨zs, wh, ev, old⟩) (fun V => Below W2.heap.size W2 V) (by kernel_rfl) (by kernel_rfl) (by rfl) (by kernel_rfl) (by kernel_rfl) (by kernel_rfl) (by rfl) (by simp) (fun W W' h hb => h.trans (hb.mono h.size)) (fun q x W W' h hb => h.later hb) (Below.refl _ _).drew ?_
          simp only [List.take_succ_cons, List.take_zero, List.drop_succ_cons, List.drop_zero]
          refine wpF_load _ rfl (by rfl) (by rfl) (by rfl) LM ?_
          simp only [Act.put, List.setIfInBounds_toArray, List.set_cons_succ, List.set_cons_zero]
          refine wpF_load _ rfl (by rfl) (by rfl) (by rfl) LF ?_
          simp only [Act.put, List.setIfInBounds_toArray, List.set_cons_succ, List.set_cons_zero]
          refine wpF_call (f := 11) (args := #[Value.agg #[.int .i64 hv, .int .i64 hk, .int .u32 hs, .int .i64 hi, .int .i64 hc, .slice ha hz.length hcp]]) (Value.agg #[.int .i64 hv, .int .i64 hk, .int .u32 hs, .int .i64 hi, .int .i64 hc, .slice ha hz.length hcp]) rfl rfl (fun x => by first | rfl | (simp [go_sem]; done)) KO.out ?_
          simp only [Act.put, List.setIfInBounds_toArray, List.set_cons_succ, List.set_cons_zero]
          refine wpF_callsrc 72 (f := 10) (args := #[.agg #[.int .i64 (r : Int), .slice A2 n2 cp2], Value.agg #[.int .i64 hv, .int .i64 hk, .int .u32 hs, .int .i64 hi, .int .i64 hc, .slice ha hz.length hcp]]) (by simp) rfl rfl rfl (fun x => by first | rfl | (simp [go_sem]; done)) KR.out ?_
          simp only [Act.put, List.setIfInBounds_toArray, List.set_cons_succ, List.set_cons_zero]
          refine wpF_mix 68 [72] (by simp) rfl (by kernel_rfl) (by kernel_rfl) (fun xs => by rfl) (fun xs V hV hx => ⟨xs 72, V, by simp [execOp, fill, Act.put, Act.eval, go_sem], hx 72 (by simp), Below.refl _ _⟩) ?_
          simp only [Act.put, List.setIfInBounds_toArray, List.set_cons_succ, List.set_cons_zero]
          refine wpF_mix 73 [68] (by simp) rfl (by kernel_rfl) (by kernel_rfl) (fun xs => by rfl) (fun xs V hV hx => ?_) ?_
          · obtain ⟨A3, n3, cp3, L3, Ab, cb, e68, h3⟩ := (show ∃ A n cp L Ab cb, xs 68 = .tuple #[docV r A n cp, outV Ab zs.length cb wh ev old, .int .i64 er] ∧ DocAt V A n cp L ∧ T3 = L.map Ds.ms ∧ zs.length ≤ cb ∧ Nums .u8 V V.heap.size Ab zs ∧ SrcL (fun g => g.At w w.heap.size) L ∧ ∀ p, Ab = some p → W2.heap.size ≤ p.block from hx 68 (by simp))
            exact ⟨docV r A3 n3 cp3, V, by simp [execOp, fill, Act.put, Act.eval, e68, go_sem], ⟨A3, n3, cp3, L3, Ab, cb, rfl, h3⟩, Below.refl _ _⟩
          simp only [Act.put, List.setIfInBounds_toArray, List.set_cons_succ, List.set_cons_zero]
          refine wpF_mix 74 [68] (by simp) rfl (by kernel_rfl) (by kernel_rfl) (fun xs => by rfl) (fun xs V hV hx => ?_) ?_
          · obtain ⟨A3, n3, cp3, L3, Ab, cb, e68, h3⟩ := (show ∃ A n cp L Ab cb, xs 68 = .tuple #[docV r A n cp, outV Ab zs.length cb wh ev old, .int .i64 er] ∧ DocAt V A n cp L ∧ T3 = L.map Ds.ms ∧ zs.length ≤ cb ∧ Nums .u8 V V.heap.size Ab zs ∧ SrcL (fun g => g.At w w.heap.size) L ∧ ∀ p, Ab = some p → W2.heap.size ≤ p.block from hx 68 (by simp))
            exact ⟨outV Ab zs.length cb wh ev old, V, by simp [execOp, fill, Act.put, Act.eval, e68, go_sem], ⟨A3, n3, cp3, L3, Ab, cb, rfl, h3⟩, Below.refl _ _⟩
          simp only [Act.put, List.setIfInBounds_toArray, List.set_cons_succ, List.set_cons_zero]
          refine wpF_useval 68 4 (.int .i64 er) (by simp) (by rfl) (by kernel_rfl) (by kernel_rfl) (by rfl) (fun x => by rfl) (fun x V hV hx => ?_) ?_
          · obtain ⟨A3, n3, cp3, L3, Ab, cb, e68, h3⟩ := (show ∃ A n cp L Ab cb, x = .tuple #[docV r A n cp, outV Ab zs.length cb wh ev old, .int .i64 er] ∧ DocAt V A n cp L ∧ T3 = L.map Ds.ms ∧ zs.length ≤ cb ∧ Nums .u8 V V.heap.size Ab zs ∧ SrcL (fun g => g.At w w.heap.size) L ∧ ∀ p, Ab = some p → W2.heap.size ≤ p.block from hx)
            simp [execOp, Act.put, Act.eval, e68, go_sem]
          simp only [Act.put, List.setIfInBounds_toArray, List.set_cons_succ, List.set_cons_zero]
          refine wpF_src 10 (by simp) rfl (by kernel_rfl) (by kernel_rfl) (fun V hV => ⟨.pointer (some ⟨V.heap.size, 0, none⟩), V.alloc (.cells #[.int .i64 0, .slice none 0 0] 30), ?_, ⟨_, rfl, hV.size, World.alloc_heap_new _ _⟩, (Below.refl _ _).alloc (Nat.le_refl _) _⟩) ?_
          · have hzz : (zeroValue 30).run Try.prog V = .ok (.agg #[.int .i64 0, .slice none 0 0]) V := by kernel_rfl
            simp [execOp, go_sem, hzz]
            try rfl
          simp only [Act.put, List.setIfInBounds_toArray, List.set_cons_succ, List.set_cons_zero]
          refine wpF_src 11 (by simp) rfl (by kernel_rfl) (by kernel_rfl) (fun V hV => ⟨.pointer (some ⟨V.heap.size, 0, none⟩), V.alloc (.cells (outC none 0 0 false false 0) 41), ?_, ⟨_, rfl, hV.size, World.alloc_heap_new _ _⟩, (Below.refl _ _).alloc (Nat.le_refl _) _⟩) ?_
          · have hzz : (zeroValue 41).run Try.prog V = .ok (.agg (outC none 0 0 false false 0)) V := by kernel_rfl
            simp [execOp, go_sem, hzz]
            try rfl
          simp only [Act.put, List.setIfInBounds_toArray, List.set_cons_succ, List.set_cons_zero]
          intro xs V hV hx
          obtain ⟨g10, e10, hg10, hc10⟩ := (show ∃ g, xs 10 = .pointer (some ⟨g, 0, none⟩) ∧ W2.heap.size ≤ g ∧ V.heap[g]? = some (.cells #[.int .i64 0, .slice none 0 0] 30 (0, 0)) from hx 10 (by simp))
          obtain ⟨g11, e11, hg11, hc11⟩ := (show ∃ g, xs 11 = .pointer (some ⟨g, 0, none⟩) ∧ W2.heap.size ≤ g ∧ V.heap[g]? = some (.cells (outC none 0 0 false false 0) 41 (0, 0)) from hx 11 (by simp))
          obtain ⟨A3, n3, cp3, L3, _, _, e73, hd3, hT3, _, _, hsr3, _⟩ := (show ∃ A n cp L Ab cb, xs 73 = docV r A n cp ∧ DocAt V A n cp L ∧ T3 = L.map Ds.ms ∧ zs.length ≤ cb ∧ Nums .u8 V V.heap.size Ab zs ∧ SrcL (fun g => g.At w w.heap.size) L ∧ ∀ p, Ab = some p → W2.heap.size ≤ p.block from hx 73 (by simp))
          obtain ⟨_, _, _, _, Ab, cb, e74, _, _, hcb, hnb, _, hnew⟩ := (show ∃ A n cp L Ab cb, xs 74 = outV Ab zs.length cb wh ev old ∧ DocAt V A n cp L ∧ T3 = L.map Ds.ms ∧ zs.length ≤ cb ∧ Nums .u8 V V.heap.size Ab zs ∧ SrcL (fun g => g.At w w.heap.size) L ∧ ∀ p, Ab = some p → W2.heap.size ≤ p.block from hx 74 (by simp))
          simp only [fill, Act.put, List.setIfInBounds_toArray, List.set_cons_succ, List.set_cons_zero]
          rw [e10, e11, e73, e74]
          generalize xs 72 = x72
          generalize xs 68 = x68
          have hgg : g11 ≠ g10 := fun e => by
            rw [e, hc10] at hc11
            injection hc11 with h1
            injection h1 with _ h1 _
            exact absurd h1 (by decide)
          clear hx
          unfold docV outV
          refine wpList_store_row rfl 30 (.tmp 10) (.tmp 73) rfl g10 #[.int .i64 (r : Int), .slice A3 n3 cp3] rfl rfl 30 _ hc10 stInfo rfl (by simp [Value.oneCell']) ?_
          have hc11' : (V.setRow g10 #[.int .i64 (r : Int), .slice A3 n3 cp3]).heap[g11]? = some (.cells (outC none 0 0 false false 0) 41 (0, 0)) := (setRow_other _ _ _ _ hgg).trans hc11
          refine wpList_store_row rfl 41 (.tmp 11) (.tmp 74) rfl g11 (outC Ab zs.length cb wh ev old) rfl rfl 41 _ hc11' soInfo rfl (out_one _ _ _ _ _ _) ?_
          refine wpList_val rfl (.int .i64 er) (fun W => by simp [execOp, Act.put, Act.eval, go_sem]) ?_
          simp only [Act.put, List.setIfInBounds_toArray, List.set_cons_succ, List.set_cons_zero]
          refine ⟨rfl, ?_⟩
          simp only [Exit.then]
          have hof : Off (fun q => q = g10 ∨ q = g11) V ((V.setRow g10 #[.int .i64 (r : Int), .slice A3 n3 cp3]).setRow g11 (outC Ab zs.length cb wh ev old)) := ((off_tbox V g10 _).mono (S' := fun q => q = g10 ∨ q = g11) fun _ _ h => .inl h).trans (Off.setRow (S := fun q => q = g11) (Off.refl _ _) rfl _) fun _ _ h => .inr h
          have hsm : Sml V (fun q => q = g10 ∨ q = g11) := by
            rintro q cs t fz hq (rfl | rfl)
            · exact sml_tbox hc10 q cs t fz hq rfl
            · rw [hc11] at hq
              obtain ⟨rfl, rfl, rfl⟩ : outC none 0 0 false false 0 = cs ∧ 41 = t ∧ (0, 0) = fz := by simpa using hq
              exact ⟨by decide, fun j z h => (by rcases j with _ | _ | _ | _ | j <;> simp [outC] at h), by decide⟩
          have hc10f : ((V.setRow g10 #[.int .i64 (r : Int), .slice A3 n3 cp3]).setRow g11 (outC Ab zs.length cb wh ev old)).heap[g10]? = some (.cells #[.int .i64 (r : Int), .slice A3 n3 cp3] 30 (0, 0)) := (setRow_other _ _ _ _ (Ne.symm hgg)).trans (setRow_heap V g10 _ _ _ _ hc10)
          have hc11f : ((V.setRow g10 #[.int .i64 (r : Int), .slice A3 n3 cp3]).setRow g11 (outC Ab zs.length cb wh ev old)).heap[g11]? = some (.cells (outC Ab zs.length cb wh ev old) 41 (0, 0)) := setRow_heap _ g11 _ _ _ _ hc11'
          have hdf := hd3.sml hof hsm
          have hnf := nums_sml hnb hof rfl hsm
          have hvf : Below W2.heap.size W2 _ := hV.trans (hof.below (fun q hq => by rcases hq with rfl | rfl <;> assumption) hV.size)
          obtain ⟨Wf, hWf⟩ : ∃ Wf, (V.setRow g10 #[.int .i64 (r : Int), .slice A3 n3 cp3]).setRow g11 (outC Ab zs.length cb wh ev old) = Wf := ⟨_, rfl⟩
          rw [hWf] at hof hc10f hc11f hdf hnf hvf
          have hTf := HT2.out.later hvf
          have hxff := row_keep HXF.out hvf
          have hbwf := hTf.below
          have KP := tput_any hTf.tbl ⟨hv, hk, hs, hi, hc, ha, hcp, hz⟩ (hFA.out Wf hbwf)
          obtain ⟨d0, d1, d2, d3, d4, d5⟩ := fr_block hxff
          unfold frV at KP
          simp only [frC] at KP
          have HWF := Lib.hid hWf
          have HC10 := Lib.hid hc10f
          have HC11 := Lib.hid hc11f
          have HDF := Lib.hid hdf
          have HNF := Lib.hid hnf
          have HTF := Lib.hid hTf
          have HXFF := Lib.hid hxff
          have HOWN := Lib.hid HT2.out.tbl.own_lt
          have HTYS := Lib.hid hTf.tbl.tys
          have HNEW := Lib.hid hnew
          have HSR3 := Lib.hid hsr3
          have HT3 := Lib.hid hT3
          have HLT := Lib.hid hlT
          have HPR := Lib.hid hR'
          have HR0 := Lib.hid hR
          have hg10f : g10 < Wf.heap.size := (Array.getElem?_eq_some_iff.1 hc10f).1
          have hg11f : g11 < Wf.heap.size := (Array.getElem?_eq_some_iff.1 hc11f).1
          clear hWf hof hc10f hc11f hdf hnf hTf hxff hbwf hsm hV hvf hc10 hc11 hc11' hd3 hnb hnew hsr3 hT3 hlT hR hR' LM LF KO KR e10 e11 e73 e74
          rw [HWF.out]
          go_wp2_with fail
          refine (KP.mono fun _ _ h => h.of HPR.out).mono ?_
          rintro e W3 ⟨A5, c5, rfl, hc5, hnum5, hto5, htb5⟩
          simp only at hc5 hnum5 htb5
          simp only []
          obtain ⟨m5, A6, n6, cp6, X6, hT5, hX6, hsub5⟩ := htb5.exact
          have hbw3 := HTF.out.below.trans (hto5.below HTF.out.low HTF.out.below.size)
          have hkeep : ∀ (q : Nat) (cs : Array Value) (t : TypeId), Wf.heap[q]? = some (.cells cs t (0, 0)) → t ≠ 74 → t ≠ 31 → W3.heap[q]? = some (.cells cs t (0, 0)) := fun q cs t h h1 h2 =>
            (TOff.keep hto5 (Array.getElem?_eq_some_iff.1 h).1 (HTYS.out.not h h1 h2)).trans h
          have hdoc3 := HDF.out.toff HSR3.out hbw3 hto5 HTYS.out
          have hx10 := hkeep _ _ _ HC10.out (by decide) (by decide)
          have hx11 := hkeep _ _ _ HC11.out (by decide) (by decide)
          have hxbm := hkeep _ _ _ HTF.out.box (by decide) (by decide)
          have hnB3 : Nums .u8 W3 W3.heap.size Ab zs := (HNF.out.off hto5 (fun _ q hq hs => by
            obtain ⟨_, _, e⟩ := hq
            have h1 := HOWN.out q hs.1
            have h2 := HNEW.out _ e
            simp only at h2
            omega)).mono hto5.size
          have hnA3 : Nums .u8 W3 W3.heap.size A5 zs := hnum5.nums fun q hq => hq.2
          have hlow : ∀ q, Own b m5 A6 n6 cp6 X6 q → w.heap.size ≤ q := fun q hq => by
            rcases hsub5 q hq with h | h
            · exact HTF.out.low q h
            · have := HTF.out.below.size
              omega
          have hal := (Below.refl W3.heap.size W3).alloc (Nat.le_refl _) (.cells (outC A5 zs.length c5 wh ev old) 48)
          have hx13 := World.alloc_heap_new W3 (.cells (outC A5 zs.length c5 wh ev old) 48)
          obtain ⟨W4, hW4⟩ : ∃ W4, W3.alloc (.cells (outC A5 zs.length c5 wh ev old) 48) = W4 := ⟨_, rfl⟩
          rw [hW4] at hal hx13
          have hW4' : W3.alloc (.cells #[.slice A5 zs.length c5, .bool wh, .bool ev, .int .u32 old] 48) = W4 := hW4
          have hbm4 := row_keep hxbm hal
          have hbb : W3.heap.size ≠ bm := fun e => by
            have := (Array.getElem?_eq_some_iff.1 hxbm).1
            omega
          have hgb : g11 ≠ bm := fun e => by
            rw [e, hxbm] at hx11
            injection hx11 with h1
            injection h1 with _ h1 _
            exact absurd h1 (by decide)
          have hx10' := row_keep hx10 hal
          obtain ⟨W5, hW5⟩ : ∃ W5, W4.setRow bm #[.int .i64 (r : Int), .slice A3 n3 cp3] = W5 := ⟨_, rfl⟩
          have hx13' : (W4.setRow bm #[.int .i64 (r : Int), .slice A3 n3 cp3]).heap[W3.heap.size]? = some (.cells (outC A5 zs.length c5 wh ev old) 48 (0, 0)) := (setRow_other _ _ _ _ hbb).trans hx13
          have hx11' : (W4.setRow bm #[.int .i64 (r : Int), .slice A3 n3 cp3]).heap[g11]? = some (.cells (outC Ab zs.length cb wh ev old) 41 (0, 0)) := (setRow_other _ _ _ _ hgb).trans (row_keep hx11 hal)
          obtain ⟨p0, p1, p2, p3⟩ := out_block hx13'
          obtain ⟨q0, q1, q2, q3⟩ := out_block hx11'
          obtain ⟨y0, y1⟩ := doc_cells hx10'
          have hsm4 := sml_tbox hbm4
          have ho5 := off_tbox W4 bm #[.int .i64 (r : Int), .slice A3 n3 cp3]
          have HZ5 : Hid (Tw w b r bm m5 A6 n6 cp6 X6 A3 n3 cp3 L3 W5) := Lib.hid (by
            rw [← hW5]
            exact ⟨(hT5.below hal).tbox hbm4 _, setRow_heap _ _ _ _ _ _ hbm4, (hdoc3.below hal).sml ho5 hsm4, by rw [← HT3.out, hX6]; exact HLT.out, HSR3.out, hlow, hwbm, (hbw3.trans (hal.mono hbw3.size)).trans (ho5.below (B := w.heap.size) (fun q hq => by rw [hq]; exact hwbm) (Nat.le_trans hbw3.size hal.size))⟩)
          have KQ := touts_any A5 Ab zs.length c5 cb wh ev old zs W5 rfl (by omega) (by rw [← hW5]; exact nums_sml ((hnA3.below hal).mono hal.size) ho5 rfl hsm4) (by rw [← hW5]; exact nums_sml ((hnB3.below hal).mono hal.size) ho5 rfl hsm4)
          unfold outV at KQ
          simp only [outC] at KQ
          have HW4 := Lib.hid hW4'
          rw [← hW4'] at y0 y1 hbm4 p0 p1 p2 p3 q0 q1 q2 q3
          have HW5 := Lib.hid hW5
          clear hW4 hW4' hW5 hal hx13 hx13' hx11' hx10' hx10 hx11 hxbm hkeep hnB3 hnA3 hlow hT5 hX6 hsub5 hdoc3 hbw3 hnum5 hto5 htb5 hsm4 ho5 KP d0 d1 d2 d3 d4 d5 hbb hgb hc5
          unfold outV
          simp only [outC]
          generalize zs.length = zl at *
          go_wp2_with (refine wpList_store_row rfl 30 (.tmp 7) (.tmp 82) rfl bm #[.int .i64 (r : Int), .slice A3 n3 cp3] rfl rfl 30 _ hbm4 stInfo rfl (by simp [Value.oneCell']) ?_)
          rw [HW4.out, HW5.out]
          refine KQ.mono ?_
          rintro e W6 ⟨rfl, hb6⟩
          have HZ := Lib.hid (HZ5.out.later hb6)
          clear hb6 KQ HZ5 p0 p1 p2 p3 q0 q1 q2 q3 y0 y1 hbm4 HT2 HXF HW2 HBF HTF HXFF HC10 HC11 HDF HNF HOWN HTYS HNEW HSR3 HT3 HLT HPR HR0 HWF HW4 HW5 hFA
          have KAz := HZ.out.alike
          obtain ⟨z0, z1⟩ := doc_cells HZ.out.box
          unfold docV at KAz
          go_wp2_with fail
          refine KAz.mono ?_
          rintro e Vz ⟨rfl, hz2⟩
          have HZ2 := Lib.hid hz2
          clear hz2 HZ KAz z0 z1
          go_wp2
          go_roundw
          case rel => exact ⟨j + 1, _, _, _, _, _, _, _, _, _, _, by omega, by omega, rfl, by go_num, HZ2⟩
          case measure => simp [intOf]; omega
        · by_cases hk1 : kk = 1
          · have hk0' : (kk == 0) = false := by simpa using hk0
            have hk1' : (kk == 1) = true := by simpa using hk1
            clear hk0 hk1
            obtain ⟨hnd, hnn, hXs⟩ := HT2.out.nodup
            subst hnn
            have hless := drop_less (z := hs) hXs
            rw [HT2.out.doc.len] at hless
            have hzb : 0 ≤ hs ∧ hs ≤ 4294967295 := ⟨hfat.out.s0, hfat.out.s1⟩
            have KDR := ddrop_any HT2.out.doc r hs
            obtain ⟨d0, d1⟩ := doc_cells HT2.out.box
            obtain ⟨e0, e1, e2, e3, e4, e5⟩ := fr_block HXF.out
            unfold docV at KDR
            rw [← HW2.out, ← HBF.out] at e2
            rw [← HW2.out] at d0 d1
            clear e0 e1 e3 e4 e5 hnd
            have hnc2 : n2 ≤ 16 := by have := HT2.out.tbl.few; have := HT2.out.tbl.room; omega
            go_wp2_with fail
            rw [HW2.out, HBF.out]
            refine KDR.mono ?_
            rintro e W3 ⟨hb3, A3, cp3, rfl, hd3⟩
            obtain ⟨L3, hL3⟩ : ∃ L3, (L.filter fun d => d.s != hs) = L3 := ⟨_, rfl⟩
            obtain ⟨dv, hdv⟩ : ∃ dv, (Tb.find (X.map Sx.ms) hs).isSome = dv := ⟨_, rfl⟩
            have hlk3 : Tb.Likes (L3.map Ds.ms) (Tb.drop (X.map Sx.ms) hs) := by
              have := HT2.out.like.drop hs
              rwa [filter_ds, hL3] at this
            have hsr3 : SrcL (fun g => g.At w w.heap.size) L3 := fun d hd => HT2.out.src d (by rw [← hL3] at hd; exact (List.mem_filter.1 hd).1)
            rw [hL3] at hd3 hless ⊢
            rw [hdv] at hless
            obtain ⟨n3, hn3⟩ : ∃ n3, L3.length = n3 := ⟨_, rfl⟩
            rw [hn3] at hd3 hless ⊢
            have hcmp : decide (n3 < n2) = dv := by
              rcases hless with ⟨rfl, h⟩ | ⟨rfl, h⟩
              · simpa using h
              · simp [h]
            have hT3 := HT2.out.later hb3
            have hxbm3 := hT3.box
            have hxf3 := row_keep HXF.out hb3
            have hbfm : bf ≠ bm := fun e => by
              rw [e, hxbm3] at hxf3
              injection hxf3 with h1
              injection h1 with _ h1 _
              exact absurd h1 (by decide)
            obtain ⟨W4, hW4⟩ : ∃ W4, W3.setRow bm #[.int .i64 (r : Int), .slice A3 n3 cp3] = W4 := ⟨_, rfl⟩
            have ho4 := off_tbox W3 bm #[.int .i64 (r : Int), .slice A3 n3 cp3]
            have hx4 := setRow_heap W3 bm _ #[.int .i64 (r : Int), .slice A3 n3 cp3] _ _ hxbm3
            have hxf4 := (setRow_other W3 bm bf #[.int .i64 (r : Int), .slice A3 n3 cp3] hbfm).trans hxf3
            have hd4 := hd3.sml ho4 (sml_tbox hxbm3)
            have ht4 := hT3.tbl.tbox hxbm3 #[.int .i64 (r : Int), .slice A3 n3 cp3]
            have hbw4 := hT3.below.trans (ho4.below (B := w.heap.size) (fun q hq => by rw [hq]; exact hT3.lowb) hT3.below.size)
            rw [hW4] at ho4 hx4 hxf4 hd4 ht4 hbw4
            have hlow := hT3.low
            have hlowb := hT3.lowb
            have HW4 := Lib.hid hW4
            have HX4 := Lib.hid hx4
            have HXF4 := Lib.hid hxf4
            have HD4 := Lib.hid hd4
            have HT4 := Lib.hid ht4
            have HBW4 := Lib.hid hbw4
            have HLK3 := Lib.hid hlk3
            have HSR3 := Lib.hid hsr3
            have HDV := Lib.hid hdv
            have HLOW := Lib.hid hlow
            have hbml : bm < W4.heap.size := (Array.getElem?_eq_some_iff.1 hx4).1
            have hbfl : bf < W4.heap.size := (Array.getElem?_eq_some_iff.1 hxf4).1
            have HCMP := Lib.hid hcmp
            clear hcmp
            clear hW4 hx4 hxf4 hd4 ht4 hbw4 hlk3 hsr3 hdv hlow ho4 hT3 hxf3 hbfm hd3 hb3 KDR hless hL3 hn3 hXs d0 d1 e2
            unfold docV
            go_wp2_with (refine wpList_store_row rfl 30 (.tmp 7) (.tmp 101) rfl bm #[.int .i64 (r : Int), .slice A3 n3 cp3] rfl rfl 30 _ hxbm3 stInfo rfl (by simp [Value.oneCell']) ?_)
            rw [HW4.out]
            simp only [Act.put]
            have lI : ∀ V, (V.heap[bm]? = some (.cells #[.int .i64 (r : Int), .slice A3 n3 cp3] 30 (0, 0)) ∧ V.heap[bf]? = some (.cells (frC hv hk hs hi hc (.slice ha hz.length hcp)) 36 (0, 0))) → (Instr.loadAt 28 (.pointer (some ⟨bm, 1, none⟩))).run Try.prog V = .ok (.slice A3 n3 cp3) V := fun V hV => by
              obtain ⟨d0, d1⟩ := doc_cells hV.1
              simp [Instr.loadAt, go_sem, d1]
            have lF : ∀ V, (V.heap[bm]? = some (.cells #[.int .i64 (r : Int), .slice A3 n3 cp3] 30 (0, 0)) ∧ V.heap[bf]? = some (.cells (frC hv hk hs hi hc (.slice ha hz.length hcp)) 36 (0, 0))) → (Instr.loadAt 31 (.pointer (some ⟨bf, 2, none⟩))).run Try.prog V = .ok (.int .u32 hs) V := fun V hV => by
              obtain ⟨d0, d1, d2, d3, d4, d5⟩ := fr_block hV.2
              simp [Instr.loadAt, go_sem, d2]
            refine wp_region_order4 (0 :: 1 :: 2 :: 3 :: 5 :: 6 :: 7 :: 8 :: 9 :: 4 :: 10 :: []) (fun V => V.heap[bm]? = some (.cells #[.int .i64 (r : Int), .slice A3 n3 cp3] 30 (0, 0)) ∧ V.heap[bf]? = some (.cells (frC hv hk hs hi hc (.slice ha hz.length hcp)) 36 (0, 0))) (C := fun W => Below W4.heap.size W4 W) (by kernel_rfl) (by kernel_rfl) (Below.refl _ _).drew (fun V hV => ⟨row_keep HX4.out hV, row_keep HXF4.out hV⟩) ?_
            repeat (refine wpO4_pure rfl rfl ?_; go_big_quiet_step (fail); refine wpQuiet_nil ?_)
            refine wpO4_load (ad := ⟨bf, 2, none⟩) (.int .u32 hs) rfl rfl rfl (by rfl) lF ?_
            simp only [Act.put, List.setIfInBounds_toArray, List.set_cons_succ, List.set_cons_zero]
            repeat (refine wpO4_pure rfl rfl ?_; go_big_quiet_step (fail); refine wpQuiet_nil ?_)
            refine wpO4_load (ad := ⟨bm, 1, none⟩) (.slice A3 n3 cp3) rfl rfl rfl (by rfl) lI ?_
            simp only [Act.put, List.setIfInBounds_toArray, List.set_cons_succ, List.set_cons_zero]
            repeat (refine wpO4_pure rfl rfl ?_; go_big_quiet_step (fail); refine wpQuiet_nil ?_)
            refine wpO4_call (fun v => v = .bool dv) (fun _ W => (∃ m5 A6 n6 cp6 X6, Tw w b r bm m5 A6 n6 cp6 X6 A3 n3 cp3 L3 W) ∧ W.heap[bf]? = some (.cells (frC hv hk hs hi hc (.slice ha hz.length hcp)) 36 (0, 0))) (f := 15) (args := #[.pointer (some ⟨b, 0, none⟩), .int .u32 hs]) rfl rfl rfl (fun _ W hW => ?_) (fun x => by first | rfl | (simp [go_sem]; done)) (fun V hV => ?_) ?_
            · obtain ⟨⟨_, _, _, _, _, h⟩, h2⟩ := hW
              exact ⟨h.box, h2⟩
            · refine (tdrop_law (HT4.out.below hV) (row_keep HX4.out hV) (HD4.out.below hV) HLK3.out HSR3.out HLOW.out hlowb (HBW4.out.trans (hV.mono HBW4.out.size)) hzb).mono ?_
              rintro e w' ⟨he, hT, hk⟩
              exact ⟨_, he, by rw [HDV.out], hT, hk _ _ _ (row_keep HXF4.out hV) (by decide) (by decide)⟩
            rintro v rfl
            simp only [Act.put, List.setIfInBounds_toArray, List.set_cons_succ, List.set_cons_zero]
            repeat (refine wpO4_pure rfl rfl ?_; go_big_quiet_step (fail); refine wpQuiet_nil ?_)
            rintro V ⟨⟨m5, A6, n6, cp6, X6, hT5⟩, _⟩
            have HZ := Lib.hid hT5
            clear hT5 lI lF HX4 HXF4 HD4 HT4 HBW4 HLK3 HSR3 HDV HLOW HW4 hxbm3 HT2 HXF HW2 HBF
            rw [HCMP.out]
            simp only [beq_self_eq_true, Bool.not_true]
            clear HCMP
            have KAz := HZ.out.alike
            obtain ⟨z0, z1⟩ := doc_cells HZ.out.box
            unfold docV at KAz
            go_wp2_with fail
            refine KAz.mono ?_
            rintro e Vz ⟨rfl, hz2⟩
            have HZ2 := Lib.hid hz2
            clear hz2 HZ KAz z0 z1
            go_wp2
            go_roundw
            case rel => exact ⟨j + 1, _, _, _, _, _, _, _, _, _, _, by omega, by omega, rfl, by go_num, HZ2⟩
            case measure => simp [intOf]; omega
          · by_cases hk2 : kk = 2
            · have hk0' : (kk == 0) = false := by simpa using hk0
              have hk1' : (kk == 1) = false := by simpa using hk1
              have hk2' : (kk == 2) = true := by simpa using hk2
              clear hk0 hk1 hk2
              have hzb : 0 ≤ hs ∧ hs ≤ 4294967295 := ⟨hfat.out.s0, hfat.out.s1⟩
              have KCP := tcopy_any HT2.out.tbl
              go_wp2_with fail
              rw [HW2.out, HBF.out]
              refine KCP.mono ?_
              rintro e W3 ⟨c, m3, A3, cp3, X3, rfl, hTc, hlkc, hb3⟩
              have hT3 := HT2.out.later hb3
              have KA := talike_any hTc hT3.doc (hT3.like.trans hlkc)
              obtain ⟨d0, d1⟩ := doc_cells hT3.box
              have hxf3 := row_keep HXF.out hb3
              have HT3 := Lib.hid hT3
              have HTC := Lib.hid hTc
              have HXF3 := Lib.hid hxf3
              have HLKC := Lib.hid hlkc
              have hsz23 := hb3.size
              have HOWN := Lib.hid HT2.out.tbl.own_lt
              unfold docV at KA
              clear hT3 hTc hxf3 hlkc KCP hb3
              go_wp2_with fail
              refine KA.mono ?_
              rintro e W4 ⟨rfl, hb4⟩
              have hT4 := HT3.out.later hb4
              have hxf4 := row_keep HXF3.out hb4
              have hTc4 := HTC.out.below hb4
              have hcs := HTC.out.own_sub
              have hcl := HTC.out.own_lt
              have hsz34 := hb4.size
              have KP := tput_any hT4.tbl ⟨hv, hk, hs, hi, hc, ha, hcp, hz⟩ ((hfat.out.below hT4.below).mono hT4.below.size)
              obtain ⟨e0, e1, e2, e3, e4, e5⟩ := fr_block hxf4
              unfold frV at KP
              simp only [frC] at KP
              have HT4 := Lib.hid hT4
              have HTC4 := Lib.hid hTc4
              have HXF4 := Lib.hid hxf4
              have HCS := Lib.hid hcs
              have HCL := Lib.hid hcl
              clear hT4 hTc4 hxf4 hcs hcl hb4 KA d0 d1
              go_wp2_with fail
              refine KP.mono ?_
              rintro e W5 ⟨A5, c5, rfl, _, _, hto5, htb5⟩
              obtain ⟨m5, A6, n6, cp6, X6, hT5, _, hsub5⟩ := htb5.exact
              have hsz45 := hto5.size
              have hbw5 := HT4.out.below.trans (hto5.below HT4.out.low HT4.out.below.size)
              have hty4 := HT4.out.tbl.tys
              have hkeep : ∀ (q : Nat) (cs : Array Value) (t : TypeId), W4.heap[q]? = some (.cells cs t (0, 0)) → t ≠ 74 → t ≠ 31 → W5.heap[q]? = some (.cells cs t (0, 0)) := fun q cs t h h1 h2 =>
                (TOff.keep hto5 (Array.getElem?_eq_some_iff.1 h).1 (hty4.not h h1 h2)).trans h
              have hdoc5 := HT4.out.doc.toff HT4.out.src hbw5 hto5 hty4
              have hbox5 := hkeep _ _ _ HT4.out.box (by decide) (by decide)
              have hxf5 := hkeep _ _ _ HXF4.out (by decide) (by decide)
              have hc5 : TblAt W5 (Own c m3 A3 n cp3 X3) c r m3 A3 n cp3 X3 := HTC4.out.exact.toff hto5 (fun q h1 h2 => by
                have h3 := HCS.out q h1
                have h4 := HOWN.out q h2
                omega)
              have KD := tdrop_any hT5 hzb
              obtain ⟨e0, e1, e2, e3, e4, e5⟩ := fr_block hxf5
              have HDOC5 := Lib.hid hdoc5
              have HBOX5 := Lib.hid hbox5
              have HC5 := Lib.hid hc5
              have HT5 := Lib.hid hT5
              have HSUB5 := Lib.hid hsub5
              have HBW5 := Lib.hid hbw5
              unfold outV
              simp only [outC]
              clear hdoc5 hbox5 hxf5 hc5 hT5 hsub5 hbw5 hkeep hty4 hto5 htb5 KP
              go_wp2_with fail
              refine KD.mono ?_
              rintro e W6 h6
              have hfin : ∃ v, e = .returned (.bool v) ∧ Tw w c r bm m3 A3 n cp3 X3 A2 n2 cp2 L W6 := by
                have hlk6 := HT4.out.like.trans HLKC.out
                have hlow : ∀ q, Own c m3 A3 n cp3 X3 q → w.heap.size ≤ q := fun q hq => by
                  have h1 := HCS.out q hq
                  have := HT2.out.below.size
                  omega
                rcases h6 with ⟨_, rfl, rfl⟩ | ⟨_, rfl, hto, ht'⟩
                · exact ⟨_, rfl, HC5.out, HBOX5.out, HDOC5.out, hlk6, HT4.out.src, hlow, HT4.out.lowb, HBW5.out⟩
                · have hsub : ∀ q, (q = b ∨ q = m5 ∨ (Value.slice A6 n6 cp6).ownBlock = some q) → Own b m5 A6 n6 cp6 X6 q := fun q h => by
                    rcases h with h | h | h
                    · exact .inl h
                    · exact .inr (.inl h)
                    · exact .inr (.inr (.inl h))
                  have hty := tys_sub HT5.out.tys hsub
                  have hbw := HBW5.out.trans (hto.below (fun q h => by
                    rcases HSUB5.out q (hsub q h) with h1 | h1
                    · exact HT4.out.low q h1
                    · have := HT4.out.below.size
                      omega) HBW5.out.size)
                  refine ⟨_, rfl, HC5.out.toff hto (fun q h1 h2 => ?_), (TOff.keep hto (Array.getElem?_eq_some_iff.1 HBOX5.out).1 (hty.not HBOX5.out (by decide) (by decide))).trans HBOX5.out, HDOC5.out.toff HT4.out.src hbw hto hty, hlk6, HT4.out.src, hlow, HT4.out.lowb, hbw⟩
                  have h3 := HCS.out q h1
                  have h4 := HCL.out q h1
                  rcases HSUB5.out q (hsub q h2) with h5 | h5
                  · have := HOWN.out q h5
                    omega
                  · omega
              obtain ⟨v, rfl, hZ⟩ := hfin
              have HZ := Lib.hid hZ
              clear hZ h6 HDOC5 HBOX5 HC5 HT5 HSUB5 HBW5 HT4 HTC4 HXF4 HCS HCL HT3 HTC HXF3 HLKC HOWN HT2 HXF HW2 HBF KD e0 e1 e2 e3 e4 e5
              have KAz := HZ.out.alike
              obtain ⟨z0, z1⟩ := doc_cells HZ.out.box
              unfold docV at KAz
              go_wp2_with fail
              refine KAz.mono ?_
              rintro e Vz ⟨rfl, hz2⟩
              have HZ2 := Lib.hid hz2
              clear hz2 HZ KAz z0 z1
              go_wp2
              go_roundw
              case rel => exact ⟨j + 1, _, _, _, _, _, _, _, _, _, _, by omega, by omega, rfl, by go_num, HZ2⟩
              case measure => simp [intOf]; omega
            · have hk0' : (kk == 0) = false := by simpa using hk0
              have hk1' : (kk == 1) = false := by simpa using hk1
              have hk2' : (kk == 2) = false := by simpa using hk2
              clear hk0 hk1 hk2
              have HZ : Hid (Tw w b r bm m A n cp X A2 n2 cp2 L (W1.alloc (.cells #[.int .i64 hv, .int .i64 hk, .int .u32 hs, .int .i64 hi, .int .i64 hc, .slice ha hz.length hcp] 36))) := Lib.hid (by rw [HW2.out]; exact HT2.out)
              clear HT2 HXF HW2 HBF
              have KAz := HZ.out.alike
              obtain ⟨z0, z1⟩ := doc_cells HZ.out.box
              unfold docV at KAz
              go_wp2_with fail
              refine KAz.mono ?_
              rintro e Vz ⟨rfl, hz2⟩
              have HZ2 := Lib.hid hz2
              clear hz2 HZ KAz z0 z1
              go_wp2
              go_roundw
              case rel => exact ⟨j + 1, _, _, _, _, _, _, _, _, _, _, by omega, by omega, rfl, by go_num, HZ2⟩
              case measure => simp [intOf]; omega
      · have hj1' : (j : Int) < (N : Int) := by omega
        have hj2' : ¬ (j : Int) < 60 := by omega
        clear hj1 hj2
        go_wp2_with fail
        refine (HKN.out wr).mono ?_
        rintro e wz ⟨rfl, hbz⟩
        have HBZ := Lib.hid (HT.out.below.trans (hbz.mono HT.out.below.size))
        clear hbz
        go_wp2
        go_ret
        exact ⟨rfl, HBZ.out⟩
    · have hj1' : ¬ (j : Int) < (N : Int) := by omega
      clear hj1
      go_wp2_with fail
      refine (HKN.out wr).mono ?_
      rintro e wz ⟨rfl, hbz⟩
      have HBZ := Lib.hid (HT.out.below.trans (hbz.mono HT.out.below.size))
      clear hbz
      go_wp2
      go_ret
      exact ⟨rfl, HBZ.out⟩
end Go.Proofs.Ytloncplpjdekoaa

namespace Go.Proofs.Ytloncplpjdekoaa.tablePlays
open Go.ChangeShapes Go.WideShapes Go.ChangeAt Go.RowKit
open Go.ChangeMaps (open_string shut_string)
set_option linter.unusedVariables false

theorem own : ownKnob Try.prog.godebug = none := by kernel_rfl
theorem laidOut : laidOutB Try.prog = true := by kernel_rfl

set_option maxRecDepth 100000 in
theorem lifted (os : Os) (started : os.Started) (H : Type) (enc : TypeId × Value → H) :
    ReturnsInHanded {} Try.checked os 3 .any (Rows.tablePlaysSpec.pre6 enc Try.prog Try.f3 Rows.tablePlaysRow.domain false) (Rows.tablePlaysSpec.post enc Try.prog Try.f3 false true false false) := by
  refine returnsInHanded_of_change (C := Try.checked) own started (by kernel_rfl) Try.func3
    (ChangeSpec.witness6 (enc := enc) (C := Try.checked) false ⟨#[], #[.int .i64 0, .slice none 0 0], []⟩ 8 (by kernel_rfl) (by kernel_rfl) (by kernel_rfl) (by kernel_rfl)) ?_
  intro W base args ds gs before hval0 hW hcnd _
  have hval : ∀ (j : Nat) t v, Try.f3.params[j]? = some t → args[j]? = some v → Value.okWide Try.prog W .any base t v := hval0
  have hW' := hW
  obtain ⟨p, q, hA0, hV, rfl, hfz, hnd⟩ := hW
  have hA : DataW.TrodAll enc Try.prog W 0 (fun _ => true) true Try.f3.params.toList args.toList ds p := hA0
  rw [Try.params3] at hA hval
  obtain ⟨v0, vs0, d0, ds0, p0, q0, hargs, rfl, rfl, h0, r0⟩ := trodAll_cons hA
  obtain ⟨v1, vs1, d1, ds1, p1, q1, rfl, rfl, rfl, h1, r1⟩ := trodAll_cons r0
  obtain ⟨rfl, rfl, rfl⟩ := trodAll_nil r1
  obtain rfl : args = #[v0, v1] := by cases args; simp_all
  obtain ⟨rfl, rfl⟩ := trodVars_none hV
  obtain ⟨a0, rfl, rfl, rfl, w0⟩ := open_int Try.underlying3 (hval 0 3 v0 rfl rfl) h0
  obtain ⟨a1, len1, cap1, rfl⟩ := okWide_slice Try.underlying22 (hval 1 22 v1 rfl rfl)
  have k1 := h1
  have lt1 : ∀ x ∈ p1, x.block < W.heap.size := by obtain ⟨m, hm⟩ := k1; exact DataW.trod_lt m _ _ _ hm
  obtain ⟨e1, hd1, hm1, w1⟩ : ∃ ds, ds.length = len1 ∧ len1 ≤ 9223372036854775807 ∧ AcsAt W a1 ds := by
    obtain ⟨fuel, hf⟩ := h1
    exact acs_of hf
  clear hA0 hval0
  refine (tplays_go a0 a1 len1 cap1 e1 W hd1 w1).mono fun e W' ⟨he, bel⟩ => ?_
  subst he
  exact ⟨_, rfl, _, _, _, [], _, [], hW', trodAll_mk1 (shut_bool Try.underlying4 _), (trodAll_cons_mk (shut_int Try.underlying3 w0) (trodAll_cons_mk (Below.trod laidOut (by kernel_rfl) (of_decide_eq_true (by kernel_rfl)) k1 bel lt1) trodAll_mk0)), rfl, bel.frame _, fun h => by cases h⟩

theorem over : Rows.tablePlaysRow.holds Try.pinned (OpenSpec.ofChange Rows.tablePlaysSpec) :=
  OpenClaim.holds_of_wide 3 Try.f3 rfl rfl rfl rfl rfl rfl rfl ⟨rfl, rfl, rfl, rfl, rfl⟩ rfl rfl rfl rfl rfl (by kernel_rfl) Try.func3 (by kernel_rfl)
    (of_decide_eq_true (by kernel_rfl)) (by unfold Func.isWrapper; first | (rw [if_pos (by decide +kernel)]; kernel_rfl) | (rw [if_neg (by decide +kernel)]; exact ⟨rfl, rfl⟩))
    (fun os started H enc _ => lifted os started H enc)

theorem proved : Rows.TablePlaysSaid := over
#print axioms proved
end Go.Proofs.Ytloncplpjdekoaa.tablePlays
