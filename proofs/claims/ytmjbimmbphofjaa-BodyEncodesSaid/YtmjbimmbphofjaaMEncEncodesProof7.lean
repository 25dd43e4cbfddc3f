/-
  The law BodyEncodes answers true of every message and version.
-/
import Derived.Test.YtmjbimmbphofjaaRows
import Derived.Below
import Derived.WalkKit
import Derived.ProofKit
import Derived.OpenShut
import Derived.ShutString
import Derived.ChangeOld
import Derived.Test.YtmjbimmbphofjaaMEncEncodesProof6
namespace Go.Proofs.Ytmjbimmbphofjaa
open Go.RowKit
/-- nothing but the way through -/
def Qn (Q : Exit → Act → World → Prop) : Exit → Act → World → Prop := fun e a w => e = .normal ∧ Q .normal a w
theorem upon_imp {P : Program} {o : Oper} {a : Act} {K K' : Act → World → Prop} {Q Q' : Exit → Act → World → Prop} (hK : ∀ a w, K a w → K' a w) (hQ : ∀ e a w, Q e a w → Q' e a w) {r : Result Next} (h : o.upon P a K Q r) : o.upon P a K' Q' r := by
  cases r with
  | ok n w' =>
    cases n <;> simp only [Oper.upon] at h ⊢
    case value u => exact hK _ _ h
    case skip => exact hK _ _ h
    case defer d => exact hK _ _ h
    case enter f args =>
      refine Calls.mono h fun e w'' he => ?_
      cases e with
      | returned u => exact hK _ _ he
      | panicked c => exact hQ _ _ _ he
      | outgrown => obtain ⟨a, w, h⟩ := he; exact ⟨a, w, hQ _ _ _ h⟩
    case row row args => exact Rows.mono h fun u w'' he => hK _ _ he
  | halt x w' =>
    cases x <;> simp only [Oper.upon] at h ⊢
    case panic u => exact hQ _ _ _ h
theorem wpAny_imp {P : Program} {md : Region.Mode} {ops : Array Oper} {Q Q' : Exit → Act → World → Prop} (hQ : ∀ e a w, Q e a w → Q' e a w) : ∀ (fuel : Nat) (listed : Array Bool) (a : Act) (w : World), wpAny P md ops Q fuel listed a w → wpAny P md ops Q' fuel listed a w
  | 0, _, _, _, h => ⟨h.1, hQ _ _ _ h.2⟩
  | fuel + 1, listed, a, w, h => ⟨fun h0 => hQ _ _ _ (h.1 h0), fun i hi => by
      have h1 := h.2 i hi
      unfold Go.wpOp at *
      cases ho : ops[i]? with
      | none => rw [ho] at h1; exact wpAny_imp hQ fuel _ _ _ h1
      | some o =>
        rw [ho] at h1
        simp only at h1 ⊢
        split
        · rename_i hw
          rw [if_pos hw] at h1
          rcases h1 with h1 | ⟨h1, a', w', h2⟩
          · exact .inl (upon_imp (fun a w h => wpAny_imp hQ fuel _ _ _ h) hQ h1)
          · exact .inr ⟨h1, a', w', hQ _ _ _ h2⟩
        · rename_i hw
          rw [if_neg hw] at h1
          exact wpAny_imp hQ fuel _ _ _ h1⟩
/-- a move, or an extract, that nothing guards -/
def lateB (o : Oper) : Bool := (match o.op with | .move _ => true | .extract _ _ => true | _ => false) && o.guard.isNone
theorem late_run {o : Oper} (hl : lateB o = true) (ρ : Operand → Value) (P : Program) : (∃ v, ∀ W, (execOp ρ o).run P W = .ok (.value v) W) ∨ ∀ W, ∃ x W', (execOp ρ o).run P W = .halt x W' := by
  obtain ⟨dst, op, type, pos, after, guard⟩ := o
  unfold lateB at hl
  cases op <;> simp only [Bool.false_and, Bool.true_and, Bool.false_eq_true] at hl
  case move x =>
    refine .inl ⟨ρ x, fun W => ?_⟩
    simp [execOp, go_sem]
  case extract t k =>
    simp only [execOp, Instr.extract]
    cases ht : ρ t with
    | tuple vs =>
      cases hk : vs[k]? with
      | none => exact .inr fun W => by simp [hk, go_sem]
      | some u => exact .inl ⟨u, fun W => by simp [hk, go_sem]⟩
    | _ => exact .inr fun W => by simp [go_sem]
theorem qn_not {Q : Exit → Act → World → Prop} {e : Exit} {a : Act} {w : World} (h : Qn Q e a w) (he : e ≠ .normal) : False := he h.1
section
variable {P : Program} {l : List Oper} {vs : List Value} {fs : List Tmp} {FS : Tmp → Value → World → Prop} {I : World → Prop} {a0 : Act}
theorem any_of_FTL {N n fu : Nat} {late : Nat → Bool} {Q' : Exit → Act → World → Prop} (hR : RG .any l.toArray N) (hN : N ≤ a0.tmps.size) (hlen : vs.length = l.length) (hI : Closed I) (hF : ∀ s x w w', FS s x w → Below w.heap.size w w' → FS s x w')
    (hob : ∀ (j : Nat) o v, j < n → l[j]? = some o → vs[j]? = some v → Ob P l.toArray I fs FS o v (lex l vs a0 j)) (hn : n < l.length)
    (hreach : ∀ t j, n ≤ t → t < l.length → j < n → late j = false → reachB .any l.toArray fu t j = true) (hlate : ∀ j o, late j = true → l[j]? = some o → lateB o = true)
    (hQ : ∀ (listed : Array Bool) b w, (∀ j, j < n → listed.getD j true = true) → (∀ t, n ≤ t → t < l.length → listed.getD t true = false) → Inv l vs fs FS I a0 listed b w → wpAny P .any l.toArray (Qn Q') (l.length - n) listed b w) :
    ∀ (f : Nat) (listed : Array Bool) (b : Act) (w : World), (listed.toList.take n).count false = f → (∀ t, n ≤ t → t < l.length → listed.getD t true = false) → Inv l vs fs FS I a0 listed b w → wpAny P .any l.toArray (Qn Q') (f + (l.length - n)) listed b w
  | 0, listed, b, w, hcn, hh, h => by
    rw [Nat.zero_add]
    exact hQ listed b w (fun j hj => count_take_zero hcn j hj) hh h
  | f + 1, listed, b, w, hcn, hh, h => by
    obtain ⟨i0, hi0, hu0⟩ := count_take_pos hcn
    rw [show f + 1 + (l.length - n) = (f + (l.length - n)) + 1 by omega]
    by_cases hall : ∀ j, j < n → late j = false → listed.getD j true = true
    · -- only moves and extracts are left ahead of the tail: the first of them comes first
      obtain ⟨i, hin, hun, hmin⟩ : ∃ i, i < n ∧ listed.getD i true = false ∧ ∀ j, j < i → listed.getD j true = true := by
        have key : ∀ m, m ≤ n → (∀ j, j < m → listed.getD j true = true) ∨ ∃ i, i < m ∧ listed.getD i true = false ∧ ∀ j, j < i → listed.getD j true = true := by
          intro m
          induction m with
          | zero => exact fun _ => .inl fun j hj => absurd hj (Nat.not_lt_zero _)
          | succ m ih =>
            intro hm
            rcases ih (by omega) with h1 | ⟨i, h1, h2, h3⟩
            · cases hc : listed.getD m true with
              | true =>
                refine .inl fun j hj => ?_
                rcases Nat.lt_or_ge j m with h4 | h4
                · exact h1 j h4
                · obtain rfl : j = m := by omega
                  exact hc
              | false => exact .inr ⟨m, by omega, hc, h1⟩
            · exact .inr ⟨i, by omega, h2, h3⟩
        rcases key n (Nat.le_refl _) with h1 | ⟨i, h1, h2, h3⟩
        · rw [h1 i0 hi0] at hu0; cases hu0
        · exact ⟨i, h1, h2, h3⟩
      have hil : i < l.length := by omega
      obtain ⟨o, ho2⟩ : ∃ o, l[i]? = some o := ⟨_, List.getElem?_eq_getElem hil⟩
      have ho : l.toArray[i]? = some o := by simpa using ho2
      have hla : late i = true := by
        cases hc : late i with
        | true => rfl
        | false => rw [hall i hin hc] at hun; cases hun
      have hlo := hlate i o hla ho2
      obtain ⟨v, hv⟩ : ∃ v, vs[i]? = some v := ⟨_, List.getElem?_eq_getElem (by rw [hlen]; exact hil)⟩
      have hp : ∀ e ∈ o.after, Region.binds .any e = true → listed.getD e.on true = true := fun e he hb => hmin _ (hR.back i o ho e he hb)
      have hls := h.lsize
      have hr : i ∈ Region.ready .any l.toArray listed := mem_ready.2 ⟨hun, o, ho, fun e he hb => by
        have h1 := hp e he hb
        have h2 := hR.back i o ho e he hb
        rw [Array.getD_eq_getD_getElem?] at h1 ⊢
        rw [Array.getElem?_eq_getElem (by omega)] at h1 ⊢
        exact h1⟩
      have hw : Region.wanted o (yielded l.toArray b.tmps) = true := by
        unfold lateB at hlo
        rw [Bool.and_eq_true] at hlo
        unfold Region.wanted
        rw [Option.isNone_iff_eq_none.1 hlo.2]
      have hop := op_of_F (Q' := Qn Q') (K := fun a' w' => w' = w → ∀ d, o.dst = some d → (d ∈ fs → ∃ x, a'.tmps[d]? = some x ∧ FS d x w) ∧ (d ∉ fs → a'.tmps[d]? = vs[i]?)) hR hN hlen h ho2 hun hp hv (hob i o v hin ho2 hv) (fun u w' _ hu e d hd => by
        subst e
        have hlt : d < b.tmps.size := by
          rw [h.size]
          exact Nat.lt_of_lt_of_le (hR.small i o d ho hd) hN
        rw [hd]
        exact ⟨fun hf => ⟨u, put_same u hlt, (hu d hd).1 hf⟩, fun hf => (put_same u hlt).trans ((hu d hd).2 hf).symm⟩)
      unfold Go.wpOp at hop
      simp only [ho] at hop
      rw [if_pos hw] at hop
      obtain ⟨u, hval⟩ : ∃ u, ∀ W, (execOp b.eval o).run P W = .ok (.value u) W := by
        rcases late_run hlo b.eval P with h1 | h1
        · exact h1
        · obtain ⟨x, W', h2⟩ := h1 w
          rcases hop with hop | ⟨_, a', w', hq⟩
          · unfold Oper.wp at hop
            rw [h2] at hop
            cases x <;> simp only [Oper.upon] at hop
            exact (qn_not hop (by simp)).elim
          · exact (qn_not hq (by simp)).elim
      have hu : ∀ d, o.dst = some d → (d ∈ fs → FS d u w) ∧ (d ∉ fs → vs[i]? = some u) := by
        rcases hop with hop | ⟨_, a', w', hq⟩
        · unfold Oper.wp at hop
          rw [hval w] at hop
          simp only [Oper.upon] at hop
          intro d hd
          have hlt : d < b.tmps.size := by
            rw [h.size]
            exact Nat.lt_of_lt_of_le (hR.small i o d ho hd) hN
          obtain ⟨h1, h2⟩ := hop trivial d hd
          rw [hd, put_same u hlt] at h1 h2
          refine ⟨fun hf => ?_, fun hf => (h2 hf).symm⟩
          obtain ⟨x, hx, hfx⟩ := h1 hf
          rw [Option.some.inj hx]; exact hfx
        · exact (qn_not hq (by simp)).elim
      refine wpAny_first (v := u) ho hR.sel (fun c a w hq => (qn_not hq (by simp)).elim) _ listed b w (fun j oj hj hji hunj hno => ?_) hr (.inl ⟨hw, hval⟩) ?_
      · -- apart
        have hnj : ∀ e ∈ o.after, Region.binds .any e = true → e.on ≠ j := fun e he hb heq => by
          rw [← heq, hp e he hb] at hunj; cases hunj
        have h1 : ∀ d, o.dst = some d → d ∉ oj.looksAt l.toArray := fun d hd hdl => by
          rcases hR.look j i oj o d hj ho hd hdl with ⟨_, e, he, hb, heq⟩ | ⟨_, e, he, hb, heq⟩
          · exact hno e he hb heq
          · exact hnj e he hb heq
        have h2 : ∀ d, o.dst = some d → oj.dst ≠ some d := fun d hd => hR.once j i oj o d hj ho hd hji
        have h3 : ∀ d, oj.dst = some d → d ∉ o.looksAt l.toArray := fun d hd hdl => by
          rcases hR.look i j o oj d ho hj hd hdl with ⟨_, e, he, hb, heq⟩ | ⟨_, e, he, hb, heq⟩
          · exact hnj e he hb heq
          · exact hno e he hb heq
        unfold Oper.apart
        rw [Bool.and_eq_true]
        constructor
        · cases hd : o.dst with
          | none => rfl
          | some d => simpa using ⟨h1 d hd, h2 d hd⟩
        · cases hd : oj.dst with
          | none => rfl
          | some d => simpa using h3 d hd
      · have hcnt := count_take hin hun
        exact any_of_FTL hR hN hlen hI hF hob hn hreach hlate hQ f _ _ w (by omega) (fun t h1 h2 => by rw [getD_set_far _ (by omega)]; exact hh t h1 h2) (h.next hR hN hI hF ho2 hp (Below.refl _ _) hu)
    · obtain ⟨j0, hj0, hl0, hu1⟩ : ∃ j, j < n ∧ late j = false ∧ listed.getD j true = false := by
        simp only [Classical.not_forall] at hall
        obtain ⟨j, h1, h2, h3⟩ := hall
        exact ⟨j, h1, h2, by simpa using h3⟩
      refine ⟨fun h0 => ?_, fun i hi => ?_⟩
      · have hall := ready_all hR h.lsize h0
        rw [hall i0] at hu0
        cases hu0
      obtain ⟨hun, o, ho, hall⟩ := mem_ready.1 hi
      have ho2 : l[i]? = some o := by simpa using ho
      have hp : ∀ e ∈ o.after, Region.binds .any e = true → listed.getD e.on true = true := fun e he hb => by
        have h1 := hall e he hb
        rw [Array.getD_eq_getD_getElem?] at h1 ⊢
        cases hx : listed[e.on]? with
        | none => rfl
        | some y => rw [hx] at h1; simpa using h1
      have hin : i < n := by
        rcases Nat.lt_or_ge i n with h1 | h1
        · exact h1
        · have h2 := reach_ready h ho2 hp fu j0 (hreach i j0 h1 (List.getElem?_eq_some_iff.1 ho2).1 hj0 hl0)
          rw [h2] at hu1; cases hu1
      obtain ⟨v, hv⟩ : ∃ v, vs[i]? = some v := ⟨_, List.getElem?_eq_getElem (by rw [hlen]; exact (List.getElem?_eq_some_iff.1 ho2).1)⟩
      have hcnt := count_take hin hun
      exact op_of_F hR hN hlen h ho2 hun hp hv (hob i o v hin ho2 hv) fun u w' hb hu =>
        any_of_FTL hR hN hlen hI hF hob hn hreach hlate hQ f _ _ w' (by omega) (fun t h1 h2 => by rw [getD_set_far _ (by omega)]; exact hh t h1 h2) (h.next hR hN hI hF ho2 hp hb hu)
/-- ONE WALK IN THE TEXT's ORDER SERVES EVERY ORDER; the tail, behind place n, as it stands; lates: moves and extracts that the tail need not wait for -/
theorem wp_region_FTL {id : Nat} {Q : Exit → Act → World → Prop} {a : Act} {w : World} {l : List Oper} (N n fu : Nat) (lates : List Nat) (fs : List Tmp) (FS : Tmp → Value → World → Prop) (I : World → Prop) (hm : P.follows .mixedOrders = true) (hB : rgB .any l.toArray N = true)
    (hn : decide (n < l.length) = true) (hre : ((List.range (l.length - n)).all fun t => (List.range n).all fun j => lates.contains j || reachB .any l.toArray fu (n + t) j) = true) (hla : (lates.all fun j => ((l[j]?).map lateB).getD false) = true)
    (hq : Region.seqB .any l.toArray (l.length - n) n (List.replicate n true ++ List.replicate (l.length - n) false).toArray = true)
    (hfs : (fs.all fun s => (l.take n).any fun o => o.dst == some s) = true) (hN : N ≤ a.tmps.size) (hI : Closed I) (hF : ∀ s x w w', FS s x w → Below w.heap.size w w' → FS s x w') (hC : I w.drew)
    (h : wpF P l.toArray I fs FS (fun a' => ∀ xs w', I w' → (∀ s ∈ fs, FS s (xs s) w') → wpList P l.toArray (Qn Q) (l.drop n) (fill fs xs a') w') (l.take n) a) : (Code.region id l.toArray true).wp P Q a w := by
  have hR := rgB_spec hB
  have hn' : n < l.length := by simpa using hn
  obtain ⟨vs0, hlen0, hob0, hE0⟩ := wpF_vals (l.take n) a h
  have htl : (l.take n).length = n := by rw [List.length_take]; omega
  rw [htl] at hlen0 hE0
  obtain ⟨vs, hvs⟩ : ∃ vs, vs0 ++ List.replicate (l.length - n) undef = vs := ⟨_, rfl⟩
  have hlen : vs.length = l.length := by rw [← hvs, List.length_append, List.length_replicate]; omega
  have hlex : ∀ j, j ≤ n → lex (l.take n) vs0 a j = lex l vs a j := fun j hj => by rw [← hvs]; exact lex_take l vs0 _ a n j hj (by rw [hlen0, htl])
  have hob : ∀ (j : Nat) o v, j < n → l[j]? = some o → vs[j]? = some v → Ob P l.toArray I fs FS o v (lex l vs a j) := fun j o v hj ho hv => by
    rw [← hlex j (by omega)]
    refine hob0 j o v (by rw [List.getElem?_take, if_pos hj]; exact ho) ?_
    rw [← hvs, List.getElem?_append_left (by omega)] at hv
    exact hv
  rw [hlex n (Nat.le_refl _)] at hE0
  refine wp_region_any hm (wpAny_imp (Q := Qn Q) (fun e a w h => ?_) _ _ _ _ ?_)
  · obtain ⟨rfl, h⟩ := h
    exact h
  have hre' : ∀ t j, n ≤ t → t < l.length → j < n → lates.contains j = false → reachB .any l.toArray fu t j = true := fun t j h1 h2 h3 h4 => by
    rw [List.all_eq_true] at hre
    have h5 := hre (t - n) (List.mem_range.2 (by omega))
    rw [List.all_eq_true] at h5
    have h6 := h5 j (List.mem_range.2 h3)
    rw [h4, Bool.false_or, show n + (t - n) = t by omega] at h6
    exact h6
  have hla' : ∀ j o, lates.contains j = true → l[j]? = some o → lateB o = true := fun j o h1 h2 => by
    rw [List.all_eq_true] at hla
    have h3 := hla j (by simpa using h1)
    rw [h2] at h3
    exact h3
  have key := any_of_FTL (Q' := Q) (late := fun j => lates.contains j) (fu := fu) (l := l) (vs := vs) (fs := fs) (FS := FS) (I := I) (a0 := a) (n := n) hR hN hlen hI hF hob hn' hre' hla' ?_ n (Array.replicate l.toArray.size false) a w.drew (by
      simp only [List.size_toArray, Array.toList_replicate, List.take_replicate, List.count_replicate_self]; omega) (fun t _ ht => getD_in (by simpa using ht) (getD_replicate_false _ _)) ?_
  · rw [show n + (l.length - n) = l.toArray.size by simp; omega] at key
    exact key
  · intro listed b W hall hno hinv
    have hw : ∀ s ∈ fs, ∃ x, b.tmps[s]? = some x ∧ FS s x W := fun s hs => by
      rw [List.all_eq_true] at hfs
      have h1 := hfs s hs
      rw [List.any_eq_true] at h1
      obtain ⟨o, ho, hd⟩ := h1
      obtain ⟨j, hj, rfl⟩ := List.getElem_of_mem ho
      have hj1 : j < n := by rw [List.length_take] at hj; omega
      have hj2 : j < l.length := by omega
      have hd' : (l[j]).dst = some s := by simpa using hd
      obtain ⟨v, hv⟩ : ∃ v, vs[j]? = some v := ⟨_, List.getElem?_eq_getElem (by rw [hlen]; exact hj2)⟩
      exact (hinv.ins j l[j] s v (List.getElem?_eq_getElem hj2) (hall j hj1) hd' hv).1 hs
    have hb : b = fill fs (fun s => b.tmps.getD s undef) (lex l vs a n) := by
      have ht : b.tmps = (fill fs (fun s => b.tmps.getD s undef) (lex l vs a n)).tmps := by
        apply Array.ext_getElem?
        intro d
        by_cases hd : d ∈ fs
        · obtain ⟨x, hx, _⟩ := hw d hd
          have hlt : d < (lex l vs a n).tmps.size := by
            rw [(lex_size l vs a n).1, ← hinv.size]
            exact (Array.getElem?_eq_some_iff.1 hx).1
          rw [fill_in fs _ _ d hd hlt, hx]
          simp [hx]
        · rw [fill_out fs _ _ d hd]
          by_cases hwr : ∃ (j : Nat) (oj : Oper), j < n ∧ l[j]? = some oj ∧ oj.dst = some d
          · obtain ⟨j, oj, hjn, hj, hdj⟩ := hwr
            obtain ⟨v, hv⟩ : ∃ v, vs[j]? = some v := ⟨_, List.getElem?_eq_getElem (by rw [hlen]; exact (List.getElem?_eq_some_iff.1 hj).1)⟩
            have hj' : l.toArray[j]? = some oj := by simpa using hj
            rw [(hinv.ins j oj d v hj (hall j hjn) hdj hv).2 hd]
            exact (lex_in l vs a n j oj d v hj hjn hv hdj (Nat.lt_of_lt_of_le (hR.small _ _ _ hj' hdj) hN) fun i oi hi _ hne => hR.once i j oi oj d (by simpa using hi) hj' hdj hne).symm
          · rw [lex_out l vs a n d fun i oi hi hin hdi => hwr ⟨i, oi, hin, hi, hdi⟩]
            refine hinv.out d fun i oi hi hli hdi => hwr ⟨i, oi, ?_, hi, hdi⟩
            rcases Nat.lt_or_ge i n with h1 | h1
            · exact h1
            · rw [hno i h1 (List.getElem?_eq_some_iff.1 hi).1] at hli; cases hli
      have hd : b.defers = (fill fs (fun s => b.tmps.getD s undef) (lex l vs a n)).defers := by
        rw [(fill_size ..).2, (lex_size ..).2]
        exact hinv.defers
      cases b
      simp only at ht hd
      rw [Act.mk.injEq]
      exact ⟨ht, hd⟩
    have hL : listed = (List.replicate n true ++ List.replicate (l.length - n) false).toArray := by
      apply Array.ext
      · simp [hinv.lsize]; omega
      · intro j h1 h2
        have hj : j < l.length := by rw [← hinv.lsize]; exact h1
        by_cases hjn : j < n
        · have h3 := hall j hjn
          rw [Array.getD_eq_getD_getElem?, Array.getElem?_eq_getElem h1] at h3
          simp only [List.getElem_toArray]
          rw [List.getElem_append_left (by simpa using hjn)]
          simpa using h3
        · have h3 := hno j (by omega) hj
          rw [Array.getD_eq_getD_getElem?, Array.getElem?_eq_getElem h1] at h3
          simp only [List.getElem_toArray]
          rw [List.getElem_append_right (by simpa using Nat.le_of_not_lt hjn)]
          simpa using h3
    have hE := hE0 (fun s => b.tmps.getD s undef) W hinv.cls fun s hs => by
      obtain ⟨x, hx, hf⟩ := hw s hs
      simpa [hx] using hf
    rw [← hb] at hE
    have := wpAny_of_seq (md := .any) (Q' := Qn Q) (l.drop n) n listed b W (fun j => by simp [List.getElem?_drop]) (by rw [List.length_drop, hL]; exact hq) hE
    rwa [List.length_drop] at this
  · refine ⟨hC, rfl, rfl, fun _ _ => rfl, fun j o d v hj hlj => ?_, fun j o hj hlj => ?_, by simp⟩
    all_goals
      have hlt := (List.getElem?_eq_some_iff.1 hj).1
      rw [Array.getD_eq_getD_getElem?] at hlj
      simp [hlt] at hlj
end
end Go.Proofs.Ytmjbimmbphofjaa

namespace Go.Proofs.Ytmjbimmbphofjaa
open Go.RowKit Go.Shelf
set_option maxRecDepth 100000
attribute [local go_sem] Oper.semAt_some

section
variable {F : Fence} {nF : Nat} {P : Program} {w : World} {ops : Array Oper} {rest : List Oper} {o : Oper} {a : Act} {Q : Exit → Act → World → Prop}
/-- a guarded load inside a fence -/
theorem wpListIn_load_rung (hwt : Region.wanted o (yielded ops a.tmps) = true) (t : TypeId) (x : Operand) (hop : o.op = .load t x) (ad : Option Addr) (hx : a.eval x = .pointer ad) (v : Value) (hr : (Instr.loadAt t (.pointer ad)).run P w = .ok v w)
    (hK : wpListIn F nF P ops Q rest (a.put o.dst v) w) : wpListIn F nF P ops Q (o :: rest) a w := by
  simp only [wpListIn, hwt, if_true]
  unfold Oper.wpIn
  refine ⟨?_, ?_⟩
  · simp [Oper.about, hop]
  · rw [Oper.semAt_plain F _ _ (by rw [hop]; intro c hc'; cases hc')]
    simp [execOp, hop, hx, hr, Result.andThen]
    exact hK
end
/-- cells from lo on are as they were -/
structure KeU (lo : Nat) (A B : World) : Prop where
  size : A.heap.size ≤ B.heap.size
  same : ∀ (q : Nat) (cs : Array Value) (t : TypeId), lo ≤ q → A.heap[q]? = some (.cells cs t (0, 0)) → B.heap[q]? = some (.cells cs t (0, 0))
theorem KeU.trans {lo : Nat} {A B C : World} (h : KeU lo A B) (k : KeU lo B C) : KeU lo A C := ⟨Nat.le_trans h.size k.size, fun q cs t hq hA => k.same q cs t hq (h.same q cs t hq hA)⟩
theorem KeU.putObj {lo l : Nat} {A : World} {o o' : Obj} (ho : A.heap[l]? = some o) (hc : o.isCells = false) : KeU lo A (A.putObj l o') := ⟨by simp [World.putObj], fun q cs t _ hA => (World.putObj_heap_other (fun e => by
  subst e
  rw [ho] at hA
  injection hA with hA
  subst hA
  cases hc)).trans hA⟩
theorem KeU.off {S : Nat → Prop} {lo : Nat} {A B : World} (ho : Off S A B) (hS : ∀ k, lo ≤ k → ¬ S k) : KeU lo A B := ⟨ho.size, fun q _ _ hq hA => (ho.block q (Array.getElem?_eq_some_iff.1 hA).1 (hS q hq)).trans hA⟩
theorem KeepsFrom.of_off {S : Nat → Prop} {lo : Nat} {A B : World} (ho : Off S A B) (hS : ∀ k, lo ≤ k → ¬ S k) : KeepsFrom lo A B := ⟨ho.size, fun q _ hq hA _ => (ho.block q (Array.getElem?_eq_some_iff.1 hA).1 (hS q hq)).trans hA⟩
/-- a row of bytes lies in no box of a number or a flag -/
theorem bytes_box {V : World} {B g : Nat} {A : Option Addr} {zs : List Int} {t : TypeId} {u : Value} (h : Nums .u8 V B A zs) (hz : zs ≠ []) (hg : blockOf A g) (hb : Boxed V g t u) (hu : ∀ c, u ≠ .int .u8 c) : False := by
  obtain ⟨b, off, e, _, hc⟩ := h hz
  obtain ⟨z, r, rfl⟩ : ∃ z r, zs = z :: r := by
    cases zs with
    | nil => exact absurd rfl hz
    | cons z r => exact ⟨z, r, rfl⟩
  obtain ⟨o, s, e'⟩ := hg
  rw [e] at e'
  injection e' with e'
  injection e' with e1 e2 e3
  subst e1
  have h0 := hc 0 z rfl
  simp only [World.cell?, show V.heap[b]? = _ from hb] at h0
  rcases Nat.eq_zero_or_pos (off + 0) with ho | ho
  · rw [ho] at h0
    exact hu z (by simpa using h0)
  · obtain ⟨k, hk⟩ : ∃ k, off + 0 = k + 1 := ⟨off + 0 - 1, by omega⟩
    rw [hk] at h0
    simp at h0
theorem benc_bwr (M : Mg) (v : Int) : (bwr M v = 0 ∧ (v = 1 ∨ v = 2) ∧ mck M = 0 ∧ benc M v = (body M v, 0) ∧ (body M v).length ≤ 192) ∨ (bwr M v ≠ 0 ∧ benc M v = ([], bwr M v)) := by
  unfold benc bwr
  by_cases h : v ≠ 1 ∧ v ≠ 2
  · rw [if_pos h, if_pos h]
    exact .inr ⟨by decide, rfl⟩
  · rw [if_neg h, if_neg h]
    by_cases hm : mck M = 0
    · rw [if_neg (by simp [hm])]
      have hv : v = 1 ∨ v = 2 := by omega
      exact .inl ⟨hm, hv, hm, by first | rfl | simp [hm], body_len hv hm⟩
    · rw [if_pos hm]
      exact .inr ⟨hm, rfl⟩
/-- what one made is the same as what another one made -/
theorem same_made {w W : World} {L : List Int} {A : Option Addr} {n c : Nat} {x : Value} (hn : L.length = n) (hl : n ≤ 1000000) (h : Nums .u8 W W.heap.size A L) (hx : Made w W L x) :
    Calls Try.prog 11 #[.slice A n c, x] W fun e w' => e = .returned (.bool true) ∧ Below W.heap.size W w' := by
  obtain ⟨A2, c2, rfl, _, h2⟩ := hx.slice
  subst hn
  refine (same_len W.heap.size A A2 L.length L.length c c2 L L W rfl rfl rfl (by omega) h h2).mono fun e w' h => ?_
  obtain ⟨h1, j, h2⟩ := h
  exact ⟨h1, by rw [h2]; exact below_drewN (Below.refl _ _) j⟩
/-- what region 3's operations hand each other -/
def F3e (A : Mg) (w4 : World) (L : List Int) (E : Int) (s : Tmp) (x : Value) (W : World) : Prop :=
  match s with
  | 27 => FMs A x W
  | 29 => ∃ y, x = .tuple #[y, .int .i64 E] ∧ Made w4 W L y
  | 25 => ∃ y, x = .tuple #[y, .int .i64 E] ∧ Made w4 W L y
  | 30 => Made w4 W L x
  | 7 => Made w4 W L x
  | _ => ∃ g, x = .pointer (some ⟨g, 0, none⟩) ∧ w4.heap.size ≤ g ∧ W.heap[g]? = some (.cells #[.int .i64 0] 3 (0, 0))
theorem F3e.later {A : Mg} {w4 : World} {L : List Int} {E : Int} {s : Tmp} {x : Value} {W W' : World} (h : F3e A w4 L E s x W) (hb : Below W.heap.size W W') : F3e A w4 L E s x W' := by
  unfold F3e at *
  split at h
  · exact h.later hb
  · obtain ⟨y, e, h⟩ := h; exact ⟨y, e, h.later hb⟩
  · obtain ⟨y, e, h⟩ := h; exact ⟨y, e, h.later hb⟩
  · exact h.later hb
  · exact h.later hb
  · obtain ⟨g, e, hg, h⟩ := h; exact ⟨g, e, hg, (hb.block _ (Array.getElem?_eq_some_iff.1 h).1).trans h⟩
/-- .. those of region 16 -/
def F16 (A : Mg) (w4 : World) (L : List Int) (s : Tmp) (x : Value) (W : World) : Prop :=
  match s with
  | 103 => FMs A x W
  | _ => Made w4 W L x
theorem F16.later {A : Mg} {w4 : World} {L : List Int} {s : Tmp} {x : Value} {W W' : World} (h : F16 A w4 L s x W) (hb : Below W.heap.size W W') : F16 A w4 L s x W' := by
  unfold F16 at *
  split at h
  · exact h.later hb
  · exact h.later hb
/-- .. those of region 24 -/
def F24 (A G : Mg) (s : Tmp) (x : Value) (W : World) : Prop :=
  match s with
  | 162 => FMs G x W
  | 164 => FMs A x W
  | 166 => FMs G x W
  | _ => x = .bool true
theorem F24.later {A G : Mg} {s : Tmp} {x : Value} {W W' : World} (h : F24 A G s x W) (hb : Below W.heap.size W W') : F24 A G s x W' := by
  unfold F24 at *
  split at h
  · exact h.later hb
  · exact h.later hb
  · exact h.later hb
  · exact h
theorem Fo.lower {ti tb : TypeId} {Bi Bo p : Nat} {w8 V V' : World} (h : Fo ti tb Bi Bo w8 p V) (hi : Bi < w8.heap.size) (ho : Bo < w8.heap.size) (hb : Below w8.heap.size V V') : Fo ti tb Bi Bo w8 p V' := ⟨(hb.block _ hi).trans h.num, (hb.block _ ho).trans h.ok, off_below h.off hb⟩
theorem bparts_nil1 (w : World) : (binOp .eql 43 (.func (.func 30) #[] #[]) .nilFunc).run Try.prog w = .ok (.bool false) w := by kernel_rfl
theorem bparts_nil2 (p q : Nat) (w : World) : (binOp .eql 43 (.func (.func 32) #[] #[.pointer (some ⟨p, 0, none⟩), .pointer (some ⟨q, 0, none⟩)]) .nilFunc).run Try.prog w = .ok (.bool false) w := by kernel_rfl
end Go.Proofs.Ytmjbimmbphofjaa

namespace Go.Proofs.Ytmjbimmbphofjaa
open Go.RowKit Go.Shelf
set_option maxRecDepth 100000
attribute [local go_sem] Oper.semAt_some

set_option maxHeartbeats 32000000 in
theorem encodes_go (X : Mg) (P Q : Value) (v : Int) (w : World) (h1 : MAt w w.heap.size X P Q) : Calls Try.prog 3 #[mV X P Q, .int .i64 v] w fun e w' => e = .returned (.bool true) ∧ Below w.heap.size w w' := by
  obtain ⟨w1, hw1⟩ : ∃ w1, (w.alloc (.cells (mC X P Q) 26)).alloc (.cells #[.int .i64 v] 3) = w1 := ⟨_, rfl⟩
  have hb1 : Below w.heap.size w w1 := by rw [← hw1]; exact ((Below.refl _ w).alloc (Nat.le_refl _) _).alloc (by simp) _
  have q0 : w1.heap[w.heap.size]? = some (.cells (mC X P Q) 26 (0, 0)) := by rw [← hw1, Below.heap_alloc _ _ _ (by simp)]; exact World.alloc_heap_new _ _
  have q1 : w1.heap[w.heap.size + 1]? = some (.cells #[.int .i64 v] 3 (0, 0)) := by
    have := World.alloc_heap_new (w.alloc (.cells (mC X P Q) 26)) (.cells #[.int .i64 v] 3)
    rw [World.size_alloc] at this
    rw [← hw1]; exact this
  have KX := Lib.hid (cut_F hb1.size (h1.below hb1))
  have HW1 := Lib.hid hw1
  have HB1 := Lib.hid hb1
  have HQ := Lib.hid q0
  have HQ1 := Lib.hid q1
  clear hw1 hb1 q0 q1 h1
  unfold mV
  refine (callsIn_wide (n := 9)).1 ?_
  refine callsIn_of_wp_marks Try.func3 rfl trivial ?_ rfl
  simp only [Try.ntmps3, List.size_toArray, List.length_cons, List.length_nil, Nat.reduceAdd, Nat.reduceSub, Array.replicate_succ, Array.replicate_zero, List.push_toArray, List.append_toArray, List.nil_append, List.cons_append]
  gi_wp2_with (rw [HW1.out]; refine wpListIn_load_run rfl 26 (.tmp 2) rfl (some ⟨w.heap.size, 0, none⟩) rfl (.agg (mC X P Q)) (mg_read HQ.out) ?_)
  refine ⟨trivial, (callsIn_wide.2 KX.out).mono ?_⟩
  rintro e w2 ⟨_, rfl, ⟨A, P, C, hsA, rfl, hA⟩, hb2⟩
  have r0 := (hb2.block _ (Array.getElem?_eq_some_iff.1 HQ.out).1).trans HQ.out
  have r1 := (hb2.block _ (Array.getElem?_eq_some_iff.1 HQ1.out).1).trans HQ1.out
  obtain ⟨w3, hw3⟩ : ∃ w3, w2.setRow w.heap.size (mC A P C) = w3 := ⟨_, rfl⟩
  have hst := mg_store w2 w.heap.size _ (mC A P C) r0 rfl rfl (mg_oneV hA)
  rw [hw3] at hst
  have HST := Lib.hid hst
  have q3 : w3.heap[w.heap.size]? = some (.cells (mC A P C) 26 (0, 0)) := by rw [← hw3]; exact setRow_heap w2 _ _ _ _ _ r0
  have v3 : w3.heap[w.heap.size + 1]? = some (.cells #[.int .i64 v] 3 (0, 0)) := by rw [← hw3]; exact (setRow_other _ _ _ _ (by omega)).trans r1
  have hs1 := HB1.out.size
  have hs2 := hb2.size
  have hoff := Off.setRow (S := fun k => w.heap.size ≤ k) (Off.refl _ w2) (Nat.le_refl w.heap.size) (mC A P C)
  have hb23 : Below w.heap.size w2 w3 := by rw [← hw3]; exact hoff.below (B := w.heap.size) (fun k hk => by omega) (by omega)
  have HB3 := Lib.hid (HB1.out.trans ((hb2.mono hs1).trans hb23))
  have hmA := hA.below hb23
  have hlt := (Array.getElem?_eq_some_iff.1 q3).1
  have hlt1 := (Array.getElem?_eq_some_iff.1 v3).1
  have hs3 := HB3.out.size
  have LM : Hid (∀ W, Below w3.heap.size w3 W → (Instr.loadAt 26 (.pointer (some ⟨w.heap.size, 0, none⟩))).run Try.prog W = .ok (.agg (mC A P C)) W) := Lib.hid fun W hW => mg_read ((hW.block _ hlt).trans q3)
  have K0 : Hid (∀ W, Below w3.heap.size w3 W → W.cell? ⟨w.heap.size, 0, none⟩ = some (.int .i64 A.k)) := Lib.hid fun W hW => row_cell ((hW.block _ hlt).trans q3) 0 _ rfl
  have KV : Hid (∀ W, Below w3.heap.size w3 W → W.cell? ⟨w.heap.size + 1, 0, none⟩ = some (.int .i64 v)) := Lib.hid fun W hW => row_cell ((hW.block _ hlt1).trans v3) 0 _ rfl
  have FM : Hid (∀ W, Below w3.heap.size w3 W → MAt W W.heap.size A P C) := Lib.hid fun W hW => (hmA.below (hW.mono hs3)).mono (Nat.le_trans hs3 hW.size)
  have HSA := Lib.hid hsA
  have KE : Hid (∀ W, Below w3.heap.size w3 W → Calls Try.prog 8 #[.agg (mC A P C), .int .i64 v] W fun e w' => EncR W (benc A v) e w') := Lib.hid fun W hW => bencode_any A P C v W HSA.out (FM.out W hW)
  have HR := Lib.hid (benc_bwr A v)
  obtain ⟨⟨L, E⟩, hr⟩ : ∃ r, benc A v = r := ⟨_, rfl⟩
  rw [hr] at KE HR
  have KR : Hid (∀ W P2 C2, MAt W W.heap.size A P2 C2 → Calls Try.prog 9 #[.agg (mC A P2 C2), .int .i64 v] W fun e w' => EncR W (L, E) e w') := Lib.hid fun W P2 C2 h => by
    have := rencode_any A P2 C2 v W HSA.out h
    rwa [hr] at this
  have KZ : Hid (∀ W, Below w3.heap.size w3 W → Calls Try.prog 12 #[.agg (mC A P C), .int .i64 v] W fun e w' => e = .returned (.int .i64 (L.length : Int)) ∧ Below W.heap.size W w') := Lib.hid fun W hW => by
    have := bsize_any A P C v W HSA.out (FM.out W hW)
    rwa [hr] at this
  have v30 := KV.out w3 (Below.refl _ _)
  have hL192 : L.length ≤ 192 := by
    rcases HR.out with ⟨-, -, -, h, h2⟩ | ⟨-, h⟩
    · injection h with h _; rw [h]; exact h2
    · injection h with h _; rw [h]; simp
  clear hw3 hst hb23 hoff q3 v3 r0 r1 hA hmA hb2 hs1 hs2 KX HQ HQ1 HW1 HB1 hsA hr
  unfold mV
  gi_wp2_with (first | refine wpListIn_store_run rfl 26 (.tmp 2) (.tmp 18) rfl (some ⟨w.heap.size, 0, none⟩) rfl (.agg (mC A P C)) rfl HST.out ?_ | refine wpListIn_load_run rfl 26 (.tmp 2) rfl (some ⟨w.heap.size, 0, none⟩) rfl (.agg (mC A P C)) (LM.out w3 (Below.refl _ _)) ?_)
  refine ⟨trivial, (callsIn_wide.2 (KE.out w3 (Below.refl _ _))).mono ?_⟩
  rintro e w4 ⟨x4, rfl, hm4⟩
  obtain ⟨A4, c4, rfl, hc4, hn4⟩ := hm4.slice
  have HB34 := Lib.hid hm4.2
  have HN4 := Lib.hid hn4
  have hs34 := hm4.2.size
  have l4 : ∀ W, Below w4.heap.size w4 W → (Instr.loadAt 26 (.pointer (some ⟨w.heap.size, 0, none⟩))).run Try.prog W = .ok (.agg (mC A P C)) W := fun W hW => LM.out W (HB34.out.trans (hW.mono hs34))
  have lv4 : ∀ W, Below w4.heap.size w4 W → (Instr.loadAt 3 (.pointer (some ⟨w.heap.size + 1, 0, none⟩))).run Try.prog W = .ok (.int .i64 v) W := fun W hW => by
    have := KV.out W (HB34.out.trans (hW.mono hs34))
    simp [Instr.loadAt, go_sem, this]
  clear hm4 hn4 KE v30 HST
  gi_wp2_with fail
  refine wpIn_wide.2 ?_
  refine wp_region_FTL 169 9 12 [] [27, 29, 25, 30, 8, 7] (F3e A w4 L E) (fun V => Below w4.heap.size w4 V) (by kernel_rfl) (by kernel_rfl) (by rfl) (by kernel_rfl) (by kernel_rfl) (by kernel_rfl) (by rfl) (by simp) (fun W W' h hb => h.trans (hb.mono h.size)) (fun q x W W' h hb => h.later hb) (Below.refl _ _).drew ?_
  simp only [List.take_succ_cons, List.take_zero, List.drop_succ_cons, List.drop_zero]
  refine wpF_load (ad := ⟨w.heap.size, 0, none⟩) (.agg (mC A P C)) rfl (by rfl) (by rfl) (by rfl) l4 ?_
  simp only [Act.put, List.setIfInBounds_toArray, List.set_cons_succ, List.set_cons_zero]
  refine wpF_callsrc 27 (f := 10) (args := #[.agg (mC A P C)]) (by simp) rfl rfl rfl (fun x => by first | rfl | (simp [go_sem]; done)) (fun W hW => of_F HSA.out ⟨P, C, rfl, FM.out W (HB34.out.trans (hW.mono hs34))⟩) ?_
  simp only [Act.put, List.setIfInBounds_toArray, List.set_cons_succ, List.set_cons_zero]
  refine wpF_load (ad := ⟨w.heap.size + 1, 0, none⟩) (.int .i64 v) rfl (by rfl) (by rfl) (by rfl) lv4 ?_
  simp only [Act.put, List.setIfInBounds_toArray, List.set_cons_succ, List.set_cons_zero]
  refine wpF_mixcall 29 [27] (f := 9) (fun xs => #[xs 27, .int .i64 v]) (by simp) rfl (by kernel_rfl) (by kernel_rfl) (fun xs => by rfl) (fun xs W => by first | rfl | (simp [fill, Act.put, Act.eval, go_sem]; done)) (fun xs V hV hx => ?_) ?_
  · obtain ⟨P2, C2, e27, hm⟩ := (show FMs A (xs 27) V from hx 27 (by simp))
    rw [e27]
    refine (KR.out V P2 C2 hm).mono fun e w' h => ?_
    obtain ⟨y, e, hmd⟩ := h
    exact ⟨_, e, ⟨y, rfl, hmd.since hV⟩, hmd.2⟩
  simp only [Act.put, List.setIfInBounds_toArray, List.set_cons_succ, List.set_cons_zero]
  refine wpF_mix 25 [29] (by simp) rfl (by kernel_rfl) (by kernel_rfl) (fun xs => by rfl) (fun xs V hV hx => ⟨xs 29, V, by simp [execOp, fill, Act.put, Act.eval, go_sem], hx 29 (by simp), Below.refl _ _⟩) ?_
  simp only [Act.put, List.setIfInBounds_toArray, List.set_cons_succ, List.set_cons_zero]
  refine wpF_mix 30 [25] (by simp) rfl (by kernel_rfl) (by kernel_rfl) (fun xs => by rfl) (fun xs V hV hx => ?_) ?_
  · obtain ⟨y, e, h⟩ := (show ∃ y, xs 25 = .tuple #[y, .int .i64 E] ∧ Made w4 V L y from hx 25 (by simp))
    exact ⟨y, V, by simp [execOp, fill, Act.put, Act.eval, e, go_sem], h, Below.refl _ _⟩
  simp only [Act.put, List.setIfInBounds_toArray, List.set_cons_succ, List.set_cons_zero]
  refine wpF_useval 25 4 (.int .i64 E) (by simp) (by rfl) (by kernel_rfl) (by kernel_rfl) (by rfl) (fun x => by rfl) (fun x V hV hx => ?_) ?_
  · obtain ⟨y, e, h⟩ := (show ∃ y, x = .tuple #[y, .int .i64 E] ∧ Made w4 V L y from hx)
    simp [execOp, Act.put, Act.eval, e, go_sem]
  simp only [Act.put, List.setIfInBounds_toArray, List.set_cons_succ, List.set_cons_zero]
  refine wpF_src 8 (by simp) rfl (by kernel_rfl) (by kernel_rfl) (fun V hV => ⟨.pointer (some ⟨V.heap.size, 0, none⟩), V.alloc (.cells #[.int .i64 0] 3), ?_, ⟨_, rfl, hV.size, World.alloc_heap_new _ _⟩, (Below.refl _ _).alloc (Nat.le_refl _) _⟩) ?_
  · have hzz : (zeroValue 3).run Try.prog V = .ok (.int .i64 0) V := by kernel_rfl
    simp [execOp, go_sem, hzz]
    try rfl
  simp only [Act.put, List.setIfInBounds_toArray, List.set_cons_succ, List.set_cons_zero]
  refine wpF_mix 7 [30] (by simp) rfl (by kernel_rfl) (by kernel_rfl) (fun xs => by rfl) (fun xs V hV hx => ⟨xs 30, V, by simp [execOp, fill, Act.put, Act.eval, go_sem], hx 30 (by simp), Below.refl _ _⟩) ?_
  simp only [Act.put, List.setIfInBounds_toArray, List.set_cons_succ, List.set_cons_zero]
  intro xs w5 hV hx
  obtain ⟨g8, e8, hg8, hc8⟩ := (show ∃ g, xs 8 = .pointer (some ⟨g, 0, none⟩) ∧ w4.heap.size ≤ g ∧ w5.heap[g]? = some (.cells #[.int .i64 0] 3 (0, 0)) from hx 8 (by simp))
  have hm30 := (show Made w4 w5 L (xs 7) from hx 7 (by simp))
  obtain ⟨A5, c5, e30, hc5, hn5⟩ := hm30.slice
  simp only [fill, Act.put, List.setIfInBounds_toArray, List.set_cons_succ, List.set_cons_zero]
  rw [e8, e30]
  rw [e30] at hm30
  generalize xs 30 = x30
  generalize xs 27 = x27
  generalize xs 29 = x29
  generalize xs 25 = x25
  have hbx8 : Boxed w5 g8 3 (.int .i64 0) := hc8
  obtain ⟨w6, hw6⟩ : ∃ w6, w5.setCell ⟨g8, 0, none⟩ (.int .i64 E) = w6 := ⟨_, rfl⟩
  have q6 : Boxed w6 g8 3 (.int .i64 E) := by rw [← hw6]; exact hbx8.set _
  have hst8 : (Instr.storeAt 3 (.pointer (some ⟨g8, 0, none⟩)) (.int .i64 E)).run Try.prog w5 = .ok () w6 := by
    have k1 := hbx8.cell
    have k2 := hbx8.frozen
    rw [← hw6]
    simp [Instr.storeAt, go_sem, k1, k2]
  have ho8 : Off (fun k => k = g8) w5 w6 := by rw [← hw6]; exact Off.setCell (S := fun k => k = g8) (p := ⟨g8, 0, none⟩) (Off.refl _ w5) rfl _
  have hb46 : Below w4.heap.size w4 w6 := hV.trans (ho8.below (B := w4.heap.size) (fun k hk => by omega) hV.size)
  have hn6 : Nums .u8 w6 w6.heap.size A5 L := (hn5.off ho8 fun hz g hg e => bytes_box hn5 hz (e ▸ hg) hbx8 (fun c e => by cases e)).mono ho8.size
  have HST8 := Lib.hid hst8
  have HQ6 := Lib.hid q6
  have HN6 := Lib.hid hn6
  have HB46 := Lib.hid hb46
  have HB36 := Lib.hid (HB34.out.trans (hb46.mono hs34))
  have hg8lt := q6.lt
  clear hx e8 e30 hm30 hn5 hw6 hst8 ho8 hV hb46 q6 hn6 hbx8 hc8 l4 lv4 KR
  refine wpList_store_run rfl 3 (.tmp 8) (.tmp 31) rfl (some ⟨g8, 0, none⟩) rfl (.int .i64 E) rfl HST8.out ?_
  simp only [Act.put]
  refine ⟨rfl, ?_⟩
  simp only [Exit.then]
  obtain ⟨n, hn⟩ : ∃ n, L.length = n := ⟨_, rfl⟩
  rw [hn] at hL192 hc4 hc5 KZ ⊢
  have HSM : Hid (Calls Try.prog 11 #[.slice A4 n c4, .slice A5 n c5] w6 fun e w' => e = .returned (.bool true) ∧ Below w6.heap.size w6 w') := Lib.hid ((same_len w6.heap.size A4 A5 n n c4 c5 L L w6 rfl hn hn (by omega) ((HN4.out.below HB46.out).mono HB46.out.size) HN6.out).mono fun e w' h => by
    obtain ⟨h1, j, h2⟩ := h
    exact ⟨h1, by rw [h2]; exact below_drewN (Below.refl _ _) j⟩)
  have k8 := HQ6.out.cell
  have h192 : (n : Int) ≤ 192 := by omega
  have HLN := Lib.hid hn
  clear hn HN6
  gi_wp2_with fail
  refine ⟨trivial, (callsIn_wide.2 HSM.out).mono ?_⟩
  rintro e w7 ⟨rfl, hb7⟩
  have HB37 := Lib.hid (HB36.out.trans (hb7.mono HB36.out.size))
  have HB67 := Lib.hid hb7
  have l7 := LM.out w7 HB37.out
  have k7 := KV.out w7 HB37.out
  clear hb7 k8 HSM
  gi_wp2_with (refine wpListIn_load_rung (by rfl) 26 (.tmp 2) rfl (some ⟨w.heap.size, 0, none⟩) rfl (.agg (mC A P C)) l7 ?_)
  refine ⟨trivial, (callsIn_wide.2 (KZ.out w7 HB37.out)).mono ?_⟩
  rintro e w8 ⟨rfl, hb8⟩
  have HB38 := Lib.hid (HB37.out.trans (hb8.mono HB37.out.size))
  have HB68 := Lib.hid (HB67.out.trans (hb8.mono HB67.out.size))
  have k9 := K0.out w8 HB38.out
  clear hb8 k7 l7 KZ HB37 HB67
  gi_wp2_with fail
  refine ⟨trivial, (callsIn_wide.2 (rall_any A.k w8)).mono ?_⟩
  rintro e w9 ⟨A9, c9, rfl, hc9, hF9, hb9⟩
  have HB39 := Lib.hid (HB38.out.trans (hb9.mono HB38.out.size))
  have HB69 := Lib.hid (HB68.out.trans (hb9.mono HB68.out.size))
  have HF9 := Lib.hid hF9
  have hN6 : (FD A.k).length ≤ 6 := by unfold FD; rw [pls_len]; exact raw_few A.k
  obtain ⟨N, hN⟩ : ∃ N, (FD A.k).length = N := ⟨_, rfl⟩
  rw [hN] at hc9 hN6 ⊢
  have HNN := Lib.hid hN
  obtain ⟨B9, hB9⟩ : ∃ B9, w9.heap.size = B9 := ⟨_, rfl⟩
  obtain ⟨wE, hwE⟩ : ∃ wE, ((w9.alloc (.cells #[.slice A9 N c9] 40)).alloc (.cells #[.int .i64 0] 3)).alloc (.cells #[.bool true] 4) = wE := ⟨_, rfl⟩
  have hb9E : Below B9 w9 wE := by rw [← hwE, ← hB9]; exact (((Below.refl _ w9).alloc (Nat.le_refl _) _).alloc (by simp) _).alloc (by simp only [World.size_alloc]; omega) _
  have b9E : Boxed wE B9 40 (.slice A9 N c9) := by rw [← hwE, ← hB9]; exact (Below.heap_alloc _ _ _ (by simp; omega)).trans ((Below.heap_alloc _ _ _ (by simp)).trans (World.alloc_heap_new _ _))
  have bIE : Boxed wE (B9 + 1) 3 (.int .i64 0) := by
    have := World.alloc_heap_new (w9.alloc (.cells #[.slice A9 N c9] 40)) (.cells #[.int .i64 0] 3)
    rw [World.size_alloc] at this
    rw [← hwE, ← hB9]; exact (Below.heap_alloc _ _ _ (by simp)).trans this
  have bOE : Boxed wE (B9 + 1 + 1) 4 (.bool true) := by
    have := World.alloc_heap_new ((w9.alloc (.cells #[.slice A9 N c9] 40)).alloc (.cells #[.int .i64 0] 3)) (.cells #[.bool true] 4)
    rw [World.size_alloc, World.size_alloc] at this
    rw [← hwE, ← hB9]; exact this
  have hsE : wE.heap.size = B9 + 3 := by rw [← hwE, ← hB9]; simp
  have h69s := HB69.out.size
  have h39s := HB39.out.size
  rw [hB9] at h69s h39s
  have HWE := Lib.hid hwE
  have HB3E := Lib.hid (HB39.out.trans (hb9E.mono (by omega)))
  have HB6E := Lib.hid (HB69.out.trans (hb9E.mono (by omega)))
  have HB9E := Lib.hid hb9E
  have hsB := HB9E.out
  have lE := LM.out wE HB3E.out
  have kE := KV.out wE HB3E.out
  clear hwE hb9E hF9 hb9 k9 hN HB38 HB68
  gi_wp2_with (rw [HWE.out]; refine wpListIn_load_run rfl 26 (.tmp 2) rfl (some ⟨w.heap.size, 0, none⟩) rfl (.agg (mC A P C)) lE ?_)
  rcases HR.out with ⟨hE, hv, hmk, hbe, -⟩ | ⟨hE, hbe⟩
  · obtain rfl : E = 0 := by injection hbe
    have hLb : L = body A v := by injection hbe
    have KP := Lib.hid (bparts_yes A P C v wE HSA.out (FM.out wE HB3E.out) hE)
    unfold mV at KP
    have kn := bparts_nil2
    have HFE := Lib.hid (show ∀ f ∈ FDv A.k v, FdX f ∧ fE A f = 0 from fun f hf => ⟨FD_fdx A.k f (FDv_sub hf), ((mck_zero A).1 hmk).2.1 f (FDv_sub hf)⟩)
    have HPL := Lib.hid (show ∀ j f, (FDv A.k v)[j]? = some f → (mpart A f).length ≤ 192 from fun j f hf => by
      have h1 := parts_sub A (FDv A.k v) (j + 1)
      rw [part_take hf, List.length_append] at h1
      have h2 : (((FDv A.k v).map (mpart A)).flatten).length ≤ 192 := body_len hv hmk
      omega)
    have KD : Hid (∀ W, Below w4.heap.size w4 W → Calls Try.prog 17 #[.int .i64 A.k, .int .i64 v, .slice A4 n c4] W fun e w' => DecR W (0, mproj A v) e w') := Lib.hid fun W hW => by
      have := bdecode_any A.k v A4 n c4 L W HLN.out (by omega) (by rw [hLb]; exact body_byte A v) ((HN4.out.below hW).mono hW.size)
      rwa [hLb, bdec_body hv hmk] at this
    have HHV := Lib.hid (And.intro hv hmk)
    have HB4E := Lib.hid (HB46.out.trans (HB6E.out.mono HB46.out.size))
    have HFV : Hid (FDv A.k v = (FD A.k).filter fun f => decide (f.si ≤ v)) := rfl
    obtain ⟨LF, hLF⟩ : ∃ LF, FD A.k = LF := ⟨_, rfl⟩
    rw [hLF] at HF9 HNN HFV
    clear hE hbe lE kE hLb hLF hv hmk
    refine ⟨trivial, (callsIn_wide.2 KP.out).mono ?_⟩
    rintro e wF ⟨b, d, P', C', rfl, hb, hd, mF, vF, hO, hbF⟩
    rw [hsE] at hb hd hO
    have bI := (hbF.block _ bIE.lt).trans bIE
    have bO := (hbF.block _ bOE.lt).trans bOE
    have b9 := (hbF.block _ b9E.lt).trans b9E
    have HB3F := Lib.hid (HB3E.out.trans (hbF.mono HB3E.out.size))
    have HB4F := Lib.hid (HB4E.out.trans (hbF.mono HB4E.out.size))
    have HB6F := Lib.hid (HB6E.out.trans (hbF.mono HB6E.out.size))
    have HB9F : Hid (Below B9 w9 wF) := Lib.hid (HB9E.out.trans (hbF.mono (by omega)))
    have hsF := hbF.size
    rw [hsE] at hsF
    have HI := Lib.hid (show Fo 3 4 (B9 + 1) (B9 + 1 + 1) wF 0 wF from ⟨bI, bO, Off.refl _ _⟩)
    have H9 := Lib.hid b9
    have HMF := Lib.hid mF
    have HVF := Lib.hid vF
    have HO := Lib.hid hO
    have hbl := (Array.getElem?_eq_some_iff.1 mF).1
    have hdl := (Array.getElem?_eq_some_iff.1 vF).1
    clear hbF bI bO b9 mF vF hO KP HB4E
    gi_wp2_with fail
    refine range_stops rfl (by omega) (gf := 32) (lb := #[.pointer (some ⟨b, 0, none⟩), .pointer (some ⟨d, 0, none⟩)]) rfl trivial (enters_of Try.func32 (by kernel_rfl) rfl)
      (fun x : Fd × Option Addr × Nat => #[.string x.1.nm, .slice x.2.1 (mpart A x.1).length x.2.2]) (fun _ => rfl)
      (fun j x V => (FDv A.k v)[j]? = some x.1 ∧ (mpart A x.1).length ≤ x.2.2 ∧ Nums .u8 V V.heap.size x.2.1 (mpart A x.1) ∧ ∃ p : Nat, p ≤ N ∧ ((LF.take p).filter fun f => decide (f.si ≤ v)).length = j ∧ Fo 3 4 (B9 + 1) (B9 + 1 + 1) wF p V)
      (fun j V => ∃ p : Nat, p ≤ N ∧ ((LF.take p).filter fun f => decide (f.si ≤ v)).length = j ∧ Fo 3 4 (B9 + 1) (B9 + 1 + 1) wF p V) (fun _ _ => False) (KeU wF.heap.size) (FDv A.k v).length
      (fun j x V l o o' h hl ho hc' => by
        obtain ⟨h1, h2, h3, p, h4, h5, h6⟩ := h
        exact ⟨h1, h2, by rw [show (V.putObj l o').heap.size = V.heap.size by simp [World.putObj]]; exact h3.putObj ho hc' o', p, h4, h5, h6.putObj hl ho hc'⟩)
      (fun j V l o o' h hl ho hc' => by
        obtain ⟨p, h4, h5, h6⟩ := h
        exact ⟨p, h4, h5, h6.putObj hl ho hc'⟩)
      (fun _ _ _ _ _ h => h.elim)
      (fun _ _ _ h k => h.trans k) (fun V l o o' hl ho hc' => KeU.putObj ho hc')
      (fun o => ⟨0, by omega, by simp, HI.out.later (((Below.refl wF.heap.size wF).alloc (Nat.le_refl _) _).alloc (by simp) _)⟩) ?a1 ?assign ?body ?iter ?done ?stop
    case assign =>
      intro l' x V K hK
      gi_wp2
      exact hK
    case body =>
      rintro l' j ⟨f, xa, xc⟩ V hl' ⟨hf, hc, hnx, p, hp, hpj, hFo⟩ hj
      simp only at hf hc hnx
      have hfS := hf
      rw [HFV.out] at hfS
      have hpn := sel_lt hpj hfS
      rw [HNN.out] at hpn
      have hfx := HFE.out f (List.mem_of_getElem? hf)
      have hpl := HPL.out j f hf
      have hnbox : mpart A f ≠ [] → ∀ g, blockOf xa g → ¬ (g = B9 + 1 ∨ g = B9 + 1 + 1) := fun hz g hg e => by
        rcases e with rfl | rfl
        · exact bytes_box hnx hz hg hFo.num (fun c e => by cases e)
        · exact bytes_box hnx hz hg hFo.ok (fun c e => by cases e)
      have HJ := Lib.hid hfS
      have HP := Lib.hid hpj
      have HFo := Lib.hid hFo
      have HNX := Lib.hid (And.intro hnx hnbox)
      have HFX := Lib.hid hfx
      clear hf hfS hpj hFo hnx hnbox hfx HI
      gi_wp2_with fail
      gi_loopw [] (fun wr => ∃ d' : Nat, d' < N ∧ Hid (((LF.take d').filter fun f => decide (f.si ≤ v)).length = j) ∧ Hid (Fo 3 4 (B9 + 1) (B9 + 1 + 1) wF d' wr) ∧ Hid (Off (fun q => q = B9 + 1 ∨ q = B9 + 1 + 1) V wr)) (fun wr => N - boxN (B9 + 1) wr)
      case atStart => exact ⟨p, hpn, HP, HFo, Lib.hid (Off.refl _ _)⟩
      case round =>
        obtain ⟨d', hd', HPd, HFd, HOd⟩ := hrel
        obtain ⟨gd, hgd⟩ : ∃ gd, LF[d']? = some gd := ⟨_, List.getElem?_eq_getElem (by rw [HNN.out]; exact hd')⟩
        have h9r : Below B9 w9 wr := HB9F.out.trans (HFd.out.off.below (fun k hk => by omega) (by omega))
        obtain ⟨g3, rfl, _, hg3, e0, e1, e2, e3, e4, e5, e6⟩ := (HF9.out.below (by rw [hB9]; exact h9r)).seven hgd
        have H3r := Lib.hid (HB39.out.trans (h9r.mono h39s))
        have h6r := HB69.out.trans (h9r.mono h69s)
        have hI := HFd.out.num
        have hOk := HFd.out.ok
        have h9 := (show Boxed wr B9 40 (.slice (some ⟨g3, 0, none⟩) N c9) from (HFd.out.off.block _ (by omega) (by omega)).trans H9.out)
        have h8 := (show Boxed wr g8 3 (.int .i64 0) from (h6r.block _ hg8lt).trans HQ6.out)
        have LI : ∀ V', Below wr.heap.size wr V' → (Instr.loadAt 3 (.pointer (some ⟨B9 + 1, 0, none⟩))).run Try.prog V' = .ok (.int .i64 (d' : Int)) V' := fun V' hV => by
          have := (show Boxed V' (B9 + 1) 3 (.int .i64 (d' : Int)) from (hV.block _ hI.lt).trans hI).cell
          simp [Instr.loadAt, go_sem, this]
        have LO : ∀ V', Below wr.heap.size wr V' → (Instr.loadAt 4 (.pointer (some ⟨B9 + 1 + 1, 0, none⟩))).run Try.prog V' = .ok (.bool true) V' := fun V' hV => by
          have := (show Boxed V' (B9 + 1 + 1) 4 (.bool true) from (hV.block _ hOk.lt).trans hOk).cell
          simp [Instr.loadAt, go_sem, this]
        have LS : ∀ V', Below wr.heap.size wr V' → (Instr.loadAt 40 (.pointer (some ⟨B9, 0, none⟩))).run Try.prog V' = .ok (.slice (some ⟨g3, 0, none⟩) N c9) V' := fun V' hV => by
          have := (show Boxed V' B9 40 (.slice (some ⟨g3, 0, none⟩) N c9) from (hV.block _ h9.lt).trans h9).cell
          simp [Instr.loadAt, go_sem, this]
        have LW : ∀ V', Below wr.heap.size wr V' → (Instr.loadAt 3 (.pointer (some ⟨g8, 0, none⟩))).run Try.prog V' = .ok (.int .i64 0) V' := fun V' hV => by
          have := (show Boxed V' g8 3 (.int .i64 0) from (hV.block _ h8.lt).trans h8).cell
          simp [Instr.loadAt, go_sem, this]
        have LV : ∀ V', Below wr.heap.size wr V' → (Instr.loadAt 3 (.pointer (some ⟨w.heap.size + 1, 0, none⟩))).run Try.prog V' = .ok (.int .i64 v) V' := fun V' hV => by
          have := KV.out V' (H3r.out.trans (hV.mono H3r.out.size))
          simp [Instr.loadAt, go_sem, this]
        have LMr : ∀ V', Below wr.heap.size wr V' → (Instr.loadAt 26 (.pointer (some ⟨w.heap.size, 0, none⟩))).run Try.prog V' = .ok (.agg (mC A P C)) V' := fun V' hV => LM.out V' (H3r.out.trans (hV.mono H3r.out.size))
        have Lsi : ∀ V', Below wr.heap.size wr V' → (Instr.loadAt 3 (.pointer (some ⟨g3, d' * 7 + 5, none⟩))).run Try.prog V' = .ok (.int .i64 gd.si) V' := fun V' hV => by
          have := (hV.cell (p := ⟨g3, d' * 7 + 5, none⟩) hg3).trans e5
          simp [Instr.loadAt, go_sem, this]
        have Lnm : ∀ V', Below wr.heap.size wr V' → (Instr.loadAt 9 (.pointer (some ⟨g3, d' * 7, none⟩))).run Try.prog V' = .ok (.string gd.nm) V' := fun V' hV => by
          have := (hV.cell (p := ⟨g3, d' * 7, none⟩) hg3).trans e0
          simp [Instr.loadAt, go_sem, this]
        have LG : ∀ V', Below wr.heap.size wr V' → (Instr.loadAt 46 (.pointer (some ⟨g3, d' * 7, none⟩))).run Try.prog V' = .ok (.agg #[.string gd.nm, .int .i64 gd.so, .int .i64 gd.pl, .int .i64 gd.le, .int .i64 gd.mo, .int .i64 gd.si, .int .i64 gd.ab]) V' := fun V' hV => by
          have t0 := (hV.cell (p := ⟨g3, d' * 7, none⟩) hg3).trans e0
          have t1 := (hV.cell (p := ⟨g3, d' * 7 + 1, none⟩) hg3).trans e1
          have t2 := (hV.cell (p := ⟨g3, d' * 7 + 2, none⟩) hg3).trans e2
          have t3 := (hV.cell (p := ⟨g3, d' * 7 + 3, none⟩) hg3).trans e3
          have t4 := (hV.cell (p := ⟨g3, d' * 7 + 4, none⟩) hg3).trans e4
          have t5 := (hV.cell (p := ⟨g3, d' * 7 + 5, none⟩) hg3).trans e5
          have t6 := (hV.cell (p := ⟨g3, d' * 7 + 6, none⟩) hg3).trans e6
          simp [Instr.loadAt, go_sem, t0, t1, t2, t3, t4, t5, t6]
        have hft := filter_take (p := fun f => decide (f.si ≤ v)) hgd
        rw [HPd.out] at hft
        have hdn : (d' : Int) < (N : Int) := by omega
        have hnc : (N : Int) ≤ (c9 : Int) := by omega
        by_cases hS : gd.si ≤ v
        · obtain rfl : gd = f := sel_hit hgd (by simpa using hS) HPd.out HJ.out
          rw [if_pos (by simpa using hS)] at hft
          have HT := Lib.hid hft
          have HNr : Hid (Nums .u8 wr wr.heap.size xa (mpart A gd)) := Lib.hid ((HNX.out.1.off HOd.out HNX.out.2).mono HOd.out.size)
          clear hft e0 e1 e2 e3 e4 e5 e6 hgd h9r h6r hI hOk h9 h8
          gi_wp2_with fail
          refine wpIn_region_F 169 [] (fun _ _ _ => True) (fun V' => Below wr.heap.size wr V') (by kernel_rfl) (by kernel_rfl) (by rfl) (by simp) (fun W W' h hb => h.trans (hb.mono h.size)) (fun q x W W' h hb => trivial) (Below.refl _ _).drew (by rfl) ?_
          refine wpF_load (.int .i64 (d' : Int)) rfl (by rfl) (by rfl) (by rfl) LI ?_
          simp only [Act.put, List.setIfInBounds_toArray, List.set_cons_succ, List.set_cons_zero]
          refine wpF_load (.slice (some ⟨g3, 0, none⟩) N c9) rfl (by rfl) (by rfl) (by rfl) LS ?_
          simp only [Act.put, List.setIfInBounds_toArray, List.set_cons_succ, List.set_cons_zero]
          repeat (refine wpF_pure rfl rfl ?_; go_big_quiet_step (fail); refine wpQuiet_nil ?_)
          refine wpF_load (.slice (some ⟨g3, 0, none⟩) N c9) rfl (by rfl) (by rfl) (by rfl) LS ?_
          simp only [Act.put, List.setIfInBounds_toArray, List.set_cons_succ, List.set_cons_zero]
          refine wpF_load (.int .i64 (d' : Int)) rfl (by rfl) (by rfl) (by rfl) LI ?_
          simp only [Act.put, List.setIfInBounds_toArray, List.set_cons_succ, List.set_cons_zero]
          repeat (refine wpF_pure rfl rfl ?_; go_big_quiet_step (fail); refine wpQuiet_nil ?_)
          refine wpF_load (.int .i64 gd.si) rfl (by rfl) (by rfl) (by rfl) Lsi ?_
          simp only [Act.put, List.setIfInBounds_toArray, List.set_cons_succ, List.set_cons_zero]
          refine wpF_load (.int .i64 v) rfl (by rfl) (by rfl) (by rfl) LV ?_
          simp only [Act.put, List.setIfInBounds_toArray, List.set_cons_succ, List.set_cons_zero]
          repeat (refine wpF_pure rfl rfl ?_; go_big_quiet_step (fail); refine wpQuiet_nil ?_)
          intro xs W hW _
          simp only [fill]
          gi_wp2_with fail
          refine wpIn_region_FS 169 31 32 [103, 108] (F16 A wr (mpart A gd)) (fun V' => Below wr.heap.size wr V') (fun _ W W' => W' = W.setCell ⟨B9 + 1 + 1, 0, none⟩ (.bool true)) (by kernel_rfl) (fun ⟨_, _, h⟩ => h) (by kernel_rfl) (by rfl) (by kernel_rfl) (by rfl) (by simp) (fun W W' h hb => h.trans (hb.mono h.size)) (fun _ _ _ _ h hb => h.later hb) hW.drew (by rfl) ?_
          refine wpFS_step (wpF_load (.bool true) rfl (by rfl) (by rfl) (by rfl) LO ?_)
          simp only [wpF, Act.put, List.setIfInBounds_toArray, List.set_cons_succ, List.set_cons_zero]
          repeat (refine wpFS_step (wpF_pure rfl rfl ?_); go_big_quiet_step (fail); refine wpQuiet_nil ?_; simp only [wpF])
          refine wpFS_step (wpF_load (.int .i64 0) rfl (by rfl) (by rfl) (by rfl) LW ?_)
          simp only [wpF, Act.put, List.setIfInBounds_toArray, List.set_cons_succ, List.set_cons_zero]
          repeat (refine wpFS_step (wpF_pure rfl rfl ?_); go_big_quiet_step (fail); refine wpQuiet_nil ?_; simp only [wpF])
          refine wpFS_step (wpF_load (.int .i64 (d' : Int)) rfl (by rfl) (by rfl) (by rfl) LI ?_)
          simp only [wpF, Act.put, List.setIfInBounds_toArray, List.set_cons_succ, List.set_cons_zero]
          refine wpFS_step (wpF_load (.slice (some ⟨g3, 0, none⟩) N c9) rfl (by rfl) (by rfl) (by rfl) LS ?_)
          simp only [wpF, Act.put, List.setIfInBounds_toArray, List.set_cons_succ, List.set_cons_zero]
          repeat (refine wpFS_step (wpF_pure rfl rfl ?_); go_big_quiet_step (fail); refine wpQuiet_nil ?_; simp only [wpF])
          refine wpFS_step (wpF_load (.slice (some ⟨g3, 0, none⟩) N c9) rfl (by rfl) (by rfl) (by rfl) LS ?_)
          simp only [wpF, Act.put, List.setIfInBounds_toArray, List.set_cons_succ, List.set_cons_zero]
          refine wpFS_step (wpF_load (.int .i64 (d' : Int)) rfl (by rfl) (by rfl) (by rfl) LI ?_)
          simp only [wpF, Act.put, List.setIfInBounds_toArray, List.set_cons_succ, List.set_cons_zero]
          repeat (refine wpFS_step (wpF_pure rfl rfl ?_); go_big_quiet_step (fail); refine wpQuiet_nil ?_; simp only [wpF])
          refine wpFS_step (wpF_load (.string gd.nm) rfl (by rfl) (by rfl) (by rfl) Lnm ?_)
          simp only [wpF, Act.put, List.setIfInBounds_toArray, List.set_cons_succ, List.set_cons_zero]
          repeat (refine wpFS_step (wpF_pure rfl rfl ?_); go_big_quiet_step (fail); refine wpQuiet_nil ?_; simp only [wpF])
          refine wpFS_step (wpF_load (.agg (mC A P C)) rfl (by rfl) (by rfl) (by rfl) LMr ?_)
          simp only [wpF, Act.put, List.setIfInBounds_toArray, List.set_cons_succ, List.set_cons_zero]
          refine wpFS_step (wpF_callsrc 103 (f := 10) (args := #[.agg (mC A P C)]) (by simp) rfl rfl rfl (fun x => by first | rfl | (simp [go_sem]; done)) (fun W' hW' => of_F HSA.out ⟨P, C, rfl, FM.out W' (H3r.out.trans (hW'.mono H3r.out.size))⟩) ?_)
          simp only [wpF, Act.put, List.setIfInBounds_toArray, List.set_cons_succ, List.set_cons_zero]
          refine wpFS_step (wpF_load (.slice (some ⟨g3, 0, none⟩) N c9) rfl (by rfl) (by rfl) (by rfl) LS ?_)
          simp only [wpF, Act.put, List.setIfInBounds_toArray, List.set_cons_succ, List.set_cons_zero]
          refine wpFS_step (wpF_load (.int .i64 (d' : Int)) rfl (by rfl) (by rfl) (by rfl) LI ?_)
          simp only [wpF, Act.put, List.setIfInBounds_toArray, List.set_cons_succ, List.set_cons_zero]
          repeat (refine wpFS_step (wpF_pure rfl rfl ?_); go_big_quiet_step (fail); refine wpQuiet_nil ?_; simp only [wpF])
          refine wpFS_step (wpF_load (.agg #[.string gd.nm, .int .i64 gd.so, .int .i64 gd.pl, .int .i64 gd.le, .int .i64 gd.mo, .int .i64 gd.si, .int .i64 gd.ab]) rfl (by rfl) (by rfl) (by rfl) LG ?_)
          simp only [wpF, Act.put, List.setIfInBounds_toArray, List.set_cons_succ, List.set_cons_zero]
          refine wpFS_step (wpF_mixcall 108 [103] (f := 15) (fun xs => #[xs 103, .agg #[.string gd.nm, .int .i64 gd.so, .int .i64 gd.pl, .int .i64 gd.le, .int .i64 gd.mo, .int .i64 gd.si, .int .i64 gd.ab]]) (by simp) rfl (by kernel_rfl) (by kernel_rfl) (fun xs => by rfl) (fun xs W => by first | rfl | (simp [fill, Act.put, Act.eval, go_sem]; done)) (fun xs W' hW' hx => ?_) ?_)
          · obtain ⟨P2, C2, e103, hm⟩ := (show FMs A (xs 103) W' from hx 103 (by simp))
            rw [e103]
            refine (rpart_any A gd P2 C2 W' hm HFX.out.1 HFX.out.2).mono fun e w' h => ?_
            obtain ⟨y, e, hmd⟩ := h
            exact ⟨_, e, hmd.since hW', hmd.2⟩
          simp only [wpF, Act.put, List.setIfInBounds_toArray, List.set_cons_succ, List.set_cons_zero]
          refine wpFS_step (wpF_use 108 28 (f := 11) (fun x => #[.slice xa (mpart A gd).length xc, x]) (.bool true) (by simp) rfl (by kernel_rfl) (by kernel_rfl) (by kernel_rfl) (fun x => by rfl) (fun x W => by first | rfl | (simp [go_sem]; done)) (fun x W' hW' hx => ?_) ?_)
          · exact same_made rfl (by omega) ((HNr.out.below hW').mono hW'.size) (show Made wr W' (mpart A gd) x from hx)
          simp only [wpF, Act.put, List.setIfInBounds_toArray, List.set_cons_succ, List.set_cons_zero]
          repeat (refine wpFS_step (wpF_pure rfl rfl ?_); go_big_quiet_step (fail); refine wpQuiet_nil ?_; simp only [wpF])
          refine wpFS_store rfl rfl rfl ⟨B9 + 1 + 1, 0, none⟩ (fun _ => .bool true) (fun _ => rfl) (fun _ => by rfl) (fun xs W' hW' _ => ?_) ?_
          · have hb := (show Boxed W' (B9 + 1 + 1) 4 (.bool true) from (hW'.block _ HFd.out.ok.lt).trans HFd.out.ok)
            have k1 := hb.cell
            have k2 := hb.frozen
            exact ⟨_, by simp [Instr.storeAt, go_sem, k1, k2], rfl⟩
          simp only [wpFS]
          rintro xs W1 W2 hW1 _ rfl
          simp only [fill, Act.put, List.setIfInBounds_toArray, List.set_cons_succ, List.set_cons_zero]
          generalize xs 103 = x103
          generalize xs 108 = x108
          have hF1 := (HFd.out.later hW1).ok_set (by omega : B9 + 1 ≠ B9 + 1 + 1)
          have k1 := hF1.num.cell
          have k2 := hF1.num.frozen
          have HF2 := Lib.hid (hF1.num_set (by omega : B9 + 1 ≠ B9 + 1 + 1))
          have hoff : Off (fun q => q = B9 + 1 ∨ q = B9 + 1 + 1) V ((W1.setCell ⟨B9 + 1 + 1, 0, none⟩ (.bool true)).setCell ⟨B9 + 1, 0, none⟩ (.int .i64 ((d' : Int) + 1))) :=
            ((off_below HOd.out (hW1.mono HOd.out.size)).setCell (p := ⟨B9 + 1 + 1, 0, none⟩) (.inr rfl) _).setCell (p := ⟨B9 + 1, 0, none⟩) (.inl rfl) _
          have HKF := Lib.hid (And.intro (KeepsFrom.of_off (lo := wF.heap.size) hoff (fun k hk => by omega)) (KeU.off (lo := wF.heap.size) hoff (fun k hk => by omega)))
          clear hF1 hoff hW1 hW LI LO LS LV LW LMr Lsi Lnm LG
          gi_wp2
          exact ⟨HKF.out.1, ⟨d' + 1, by omega, HT.out, HF2.out⟩, HKF.out.2⟩
        · rw [if_neg (by simpa using hS)] at hft
          have HT := Lib.hid hft
          have hdn2 : d' + 1 < N := by
            have := sel_lt (hft.trans (Nat.add_zero j)) HJ.out
            rw [HNN.out] at this
            exact this
          clear hft e0 e1 e2 e3 e4 e5 e6 hgd h9r h6r hI hOk h9 h8
          gi_wp2_with fail
          refine wpIn_region_F 169 [] (fun _ _ _ => True) (fun V' => Below wr.heap.size wr V') (by kernel_rfl) (by kernel_rfl) (by rfl) (by simp) (fun W W' h hb => h.trans (hb.mono h.size)) (fun q x W W' h hb => trivial) (Below.refl _ _).drew (by rfl) ?_
          refine wpF_load (.int .i64 (d' : Int)) rfl (by rfl) (by rfl) (by rfl) LI ?_
          simp only [Act.put, List.setIfInBounds_toArray, List.set_cons_succ, List.set_cons_zero]
          refine wpF_load (.slice (some ⟨g3, 0, none⟩) N c9) rfl (by rfl) (by rfl) (by rfl) LS ?_
          simp only [Act.put, List.setIfInBounds_toArray, List.set_cons_succ, List.set_cons_zero]
          repeat (refine wpF_pure rfl rfl ?_; go_big_quiet_step (fail); refine wpQuiet_nil ?_)
          refine wpF_load (.slice (some ⟨g3, 0, none⟩) N c9) rfl (by rfl) (by rfl) (by rfl) LS ?_
          simp only [Act.put, List.setIfInBounds_toArray, List.set_cons_succ, List.set_cons_zero]
          refine wpF_load (.int .i64 (d' : Int)) rfl (by rfl) (by rfl) (by rfl) LI ?_
          simp only [Act.put, List.setIfInBounds_toArray, List.set_cons_succ, List.set_cons_zero]
          repeat (refine wpF_pure rfl rfl ?_; go_big_quiet_step (fail); refine wpQuiet_nil ?_)
          refine wpF_load (.int .i64 gd.si) rfl (by rfl) (by rfl) (by rfl) Lsi ?_
          simp only [Act.put, List.setIfInBounds_toArray, List.set_cons_succ, List.set_cons_zero]
          refine wpF_load (.int .i64 v) rfl (by rfl) (by rfl) (by rfl) LV ?_
          simp only [Act.put, List.setIfInBounds_toArray, List.set_cons_succ, List.set_cons_zero]
          repeat (refine wpF_pure rfl rfl ?_; go_big_quiet_step (fail); refine wpQuiet_nil ?_)
          intro xs W hW _
          simp only [fill]
          have k0 := HFd.out.later hW
          have k1 := k0.num.cell
          have k2 := k0.num.frozen
          have HF2 := Lib.hid (k0.num_set (by omega : B9 + 1 ≠ B9 + 1 + 1))
          have HO2 := Lib.hid ((off_below HOd.out (hW.mono HOd.out.size)).setCell (p := ⟨B9 + 1, 0, none⟩) (.inl rfl) (.int .i64 ((d' : Int) + 1)))
          clear k0 hW LI LO LS LV LW LMr Lsi Lnm LG
          gi_wp2
          exact ⟨⟨d' + 1, hdn2, Lib.hid (HT.out.trans (Nat.add_zero j)), HF2, HO2⟩, by rw [HF2.out.boxN, HFd.out.boxN]; omega⟩
    case iter =>
      intro Bk2 X2 l2 V hBk2 hBlt2 hX2 hl2 hDV hBV hYV
      exact bparts_in 8 (by omega) 7 l2 b d wF.heap.size A P' C' v HHV.out.1 HHV.out.2 (fun j V => ∃ p : Nat, p ≤ N ∧ ((LF.take p).filter fun f => decide (f.si ≤ v)).length = j ∧ Fo 3 4 (B9 + 1) (B9 + 1 + 1) wF p V) Bk2 X2 (KeU wF.heap.size) hl2
        (fun j A B h hb => by
          obtain ⟨p, h4, h5, h6⟩ := h
          exact ⟨p, h4, h5, h6.lower (by omega) (by omega) hb⟩)
        (fun j V h => by
          obtain ⟨p, h4, h5, h6⟩ := h
          exact ⟨(h6.off.block _ hbl (by omega)).trans HMF.out, (h6.off.block _ hdl (by omega)).trans HVF.out, (HO.out.off h6.off (fun g hg e => by have := (HO.out.p.lt g hg).1; omega) (fun g hg e => by have := (HO.out.c.lt g hg).1; omega)).at⟩)
        hBk2 hBlt2 hX2 (fun V V' k cs t h hk hV => h.same k cs t (by omega) hV)
        (fun j f a c V hD hf hc hn hB => hYV j (f, a, c) V ⟨hf, hc, hn, hD⟩ hB (List.getElem?_eq_some_iff.1 hf).1) V hDV hBV
    case done =>
      rintro D V hD ⟨p, hp, hpj, hFo⟩ hK
      rw [HFV.out] at hpj
      have h6V := HB69.out.trans (Below.mono (HB9F.out.trans (hFo.off.below (B := B9) (fun k hk => by omega) (by omega))) h69s)
      have k8 := (show Boxed V g8 3 (.int .i64 0) from (h6V.block _ hg8lt).trans HQ6.out).cell
      have HP := Lib.hid hpj
      have HFo := Lib.hid hFo
      have HK := Lib.hid hK
      clear hpj hFo hK h6V HI
      gi_wp2_with fail
      clear k8
      gi_loopw [] (fun wr => ∃ d' : Nat, d' ≤ N ∧ Hid (((LF.take d').filter fun f => decide (f.si ≤ v)).length = (LF.filter fun f => decide (f.si ≤ v)).length) ∧ Hid (Fo 3 4 (B9 + 1) (B9 + 1 + 1) wF d' wr) ∧ Hid (wr.heap[D]? = some (.deferred (some [])))) (fun wr => N - boxN (B9 + 1) wr)
      case atStart => exact ⟨p, hp, HP, HFo, HK⟩
      case round =>
        obtain ⟨d', hd', HPd, HFd, HKd⟩ := hrel
        have h9r : Below B9 w9 wr := HB9F.out.trans (HFd.out.off.below (fun k hk => by omega) (by omega))
        have H3r := Lib.hid (HB39.out.trans (h9r.mono h39s))
        have hI := HFd.out.num
        have hOk := HFd.out.ok
        have h9a := (show Boxed wr B9 40 (.slice A9 N c9) from (HFd.out.off.block _ (by omega) (by omega)).trans H9.out)
        have hDlt := (Array.getElem?_eq_some_iff.1 HKd.out).1
        have LI : ∀ V', Below wr.heap.size wr V' → (Instr.loadAt 3 (.pointer (some ⟨B9 + 1, 0, none⟩))).run Try.prog V' = .ok (.int .i64 (d' : Int)) V' := fun V' hV => by
          have := (show Boxed V' (B9 + 1) 3 (.int .i64 (d' : Int)) from (hV.block _ hI.lt).trans hI).cell
          simp [Instr.loadAt, go_sem, this]
        have LO : ∀ V', Below wr.heap.size wr V' → (Instr.loadAt 4 (.pointer (some ⟨B9 + 1 + 1, 0, none⟩))).run Try.prog V' = .ok (.bool true) V' := fun V' hV => by
          have := (show Boxed V' (B9 + 1 + 1) 4 (.bool true) from (hV.block _ hOk.lt).trans hOk).cell
          simp [Instr.loadAt, go_sem, this]
        have c1 := hI.cell
        have c9' := h9a.cell
        rcases Nat.lt_or_ge d' N with hdn0 | hdn0
        · obtain ⟨gd, hgd⟩ : ∃ gd, LF[d']? = some gd := ⟨_, List.getElem?_eq_getElem (by rw [HNN.out]; exact hdn0)⟩
          obtain ⟨g3, rfl, _, hg3, e0, e1, e2, e3, e4, e5, e6⟩ := (HF9.out.below (by rw [hB9]; exact h9r)).seven hgd
          have h9 := h9a
          have LS : ∀ V', Below wr.heap.size wr V' → (Instr.loadAt 40 (.pointer (some ⟨B9, 0, none⟩))).run Try.prog V' = .ok (.slice (some ⟨g3, 0, none⟩) N c9) V' := fun V' hV => by
            have := (show Boxed V' B9 40 (.slice (some ⟨g3, 0, none⟩) N c9) from (hV.block _ h9.lt).trans h9).cell
            simp [Instr.loadAt, go_sem, this]
          have LV : ∀ V', Below wr.heap.size wr V' → (Instr.loadAt 3 (.pointer (some ⟨w.heap.size + 1, 0, none⟩))).run Try.prog V' = .ok (.int .i64 v) V' := fun V' hV => by
            have := KV.out V' (H3r.out.trans (hV.mono H3r.out.size))
            simp [Instr.loadAt, go_sem, this]
          have Lsi : ∀ V', Below wr.heap.size wr V' → (Instr.loadAt 3 (.pointer (some ⟨g3, d' * 7 + 5, none⟩))).run Try.prog V' = .ok (.int .i64 gd.si) V' := fun V' hV => by
            have := (hV.cell (p := ⟨g3, d' * 7 + 5, none⟩) hg3).trans e5
            simp [Instr.loadAt, go_sem, this]
          have hdn : (d' : Int) < (N : Int) := by omega
          have hnc : (N : Int) ≤ (c9 : Int) := by omega
          have hft := filter_take (p := fun f => decide (f.si ≤ v)) hgd
          have hSe := sel_end hgd HPd.out
          rw [if_neg (by rw [hSe]; decide), Nat.add_zero, HPd.out] at hft
          have hSv : v < gd.si := by simpa using hSe
          have HT := Lib.hid hft
          clear hft hSe e0 e1 e2 e3 e4 e5 e6 hgd h9r hI hOk h9 h9a
          gi_wp2_with fail
          refine wpIn_wide.2 ?_
          refine wp_region_FS 169 10 11 [] (fun _ _ _ => True) (fun V' => Below wr.heap.size wr V') (fun _ W W' => W' = W.setCell ⟨B9 + 1 + 1, 0, none⟩ (.bool true)) (by kernel_rfl) (by kernel_rfl) (by rfl) (by kernel_rfl) (by rfl) (by simp) (fun W W' h hb => h.trans (hb.mono h.size)) (fun _ _ _ _ _ _ => trivial) (Below.refl _ _).drew ?_
          refine wpFS_step (wpF_load (.bool true) rfl (by rfl) (by rfl) (by rfl) LO ?_)
          simp only [wpF, Act.put, List.setIfInBounds_toArray, List.set_cons_succ, List.set_cons_zero]
          repeat (refine wpFS_step (wpF_pure rfl rfl ?_); go_big_quiet_step (fail); refine wpQuiet_nil ?_; simp only [wpF])
          refine wpFS_step (wpF_load (.slice (some ⟨g3, 0, none⟩) N c9) rfl (by rfl) (by rfl) (by rfl) LS ?_)
          simp only [wpF, Act.put, List.setIfInBounds_toArray, List.set_cons_succ, List.set_cons_zero]
          refine wpFS_step (wpF_load (.int .i64 (d' : Int)) rfl (by rfl) (by rfl) (by rfl) LI ?_)
          simp only [wpF, Act.put, List.setIfInBounds_toArray, List.set_cons_succ, List.set_cons_zero]
          repeat (refine wpFS_step (wpF_pure rfl rfl ?_); go_big_quiet_step (fail); refine wpQuiet_nil ?_; simp only [wpF])
          refine wpFS_step (wpF_load (.int .i64 gd.si) rfl (by rfl) (by rfl) (by rfl) Lsi ?_)
          simp only [wpF, Act.put, List.setIfInBounds_toArray, List.set_cons_succ, List.set_cons_zero]
          refine wpFS_step (wpF_load (.int .i64 v) rfl (by rfl) (by rfl) (by rfl) LV ?_)
          simp only [wpF, Act.put, List.setIfInBounds_toArray, List.set_cons_succ, List.set_cons_zero]
          repeat (refine wpFS_step (wpF_pure rfl rfl ?_); go_big_quiet_step (fail); refine wpQuiet_nil ?_; simp only [wpF])
          refine wpFS_store rfl rfl rfl ⟨B9 + 1 + 1, 0, none⟩ (fun _ => .bool true) (fun _ => rfl) (fun _ => by rfl) (fun xs W' hW' _ => ?_) ?_
          · have hb := (show Boxed W' (B9 + 1 + 1) 4 (.bool true) from (hW'.block _ HFd.out.ok.lt).trans HFd.out.ok)
            have k1 := hb.cell
            have k2 := hb.frozen
            exact ⟨_, by simp [Instr.storeAt, go_sem, k1, k2], rfl⟩
          simp only [wpFS]
          rintro xs W1 W2 hW1 _ rfl
          simp only [fill]
          have hF1 := (HFd.out.later hW1).ok_set (by omega : B9 + 1 ≠ B9 + 1 + 1)
          have k1 := hF1.num.cell
          have k2 := hF1.num.frozen
          have HF2 := Lib.hid (hF1.num_set (by omega : B9 + 1 ≠ B9 + 1 + 1))
          have HK2 : Hid (((W1.setCell ⟨B9 + 1 + 1, 0, none⟩ (.bool true)).setCell ⟨B9 + 1, 0, none⟩ (.int .i64 ((d' : Int) + 1))).heap[D]? = some (.deferred (some []))) :=
            (Below.heap_setCell _ _ _ _ (by show D ≠ B9 + 1; omega)).trans ((Below.heap_setCell _ _ _ _ (by show D ≠ B9 + 1 + 1; omega)).trans ((hW1.block _ hDlt).trans HKd.out))
          clear hF1 hW1 LI LO LS LV Lsi c1 c9'
          gi_wp2
          exact ⟨⟨d' + 1, by omega, HT, HF2, HK2⟩, by rw [HF2.out.boxN, HFd.out.boxN]; omega⟩
        · obtain rfl : N = d' := by omega
          have k0 := K0.out wr H3r.out
          have kv := KV.out wr H3r.out
          have H4r : Hid (Below w4.heap.size w4 wr) := Lib.hid (HB4F.out.trans (HFd.out.off.below (fun k hk => by have := HB46.out.size; omega) HB4F.out.size))
          have KDr := Lib.hid (KD.out wr H4r.out)
          have hHO := Lib.hid hOk
          have H0r := Lib.hid (HB3.out.trans (H3r.out.mono HB3.out.size))
          clear hI hOk h9a h9r LI LO KD
          gi_wp2_with fail
          refine ⟨trivial, (callsIn_wide.2 KDr.out).mono ?_⟩
          rintro e wG ⟨_, rfl, ⟨Px, Cx, rfl, hmx⟩, hbG⟩
          obtain ⟨wH, hstH, qH, hbH⟩ := new_msg wG hmx
          have HSTH := Lib.hid hstH
          have hbrH := hbG.trans (hbH.mono hbG.size)
          have HXH := Lib.hid (And.intro qH (hmx.later hbH))
          have HBH := Lib.hid hbrH
          clear hstH qH hbG hbH hbrH hmx c1 c9' k0 kv KDr
          simp only
          unfold mV
          gi_wp2_with (refine wpListIn_store_run rfl 26 (.tmp 15) (.tmp 150) rfl (some ⟨wG.heap.size, 0, none⟩) rfl (.agg (mC (mproj A v) Px Cx)) rfl HSTH.out ?_)
          have hsG := mproj_small HSA.out v
          have h3H : Below w3.heap.size w3 wH := H3r.out.trans (HBH.out.mono H3r.out.size)
          have LO2 : ∀ V', Below wH.heap.size wH V' → (Instr.loadAt 4 (.pointer (some ⟨B9 + 1 + 1, 0, none⟩))).run Try.prog V' = .ok (.bool true) V' := fun V' hV => by
            have := (show Boxed V' (B9 + 1 + 1) 4 (.bool true) from (hV.block _ (Nat.lt_of_lt_of_le hHO.out.lt HBH.out.size)).trans ((HBH.out.block _ hHO.out.lt).trans hHO.out)).cell
            simp [Instr.loadAt, go_sem, this]
          have LX : ∀ V', Below wH.heap.size wH V' → (Instr.loadAt 26 (.pointer (some ⟨wG.heap.size, 0, none⟩))).run Try.prog V' = .ok (.agg (mC (mproj A v) Px Cx)) V' := fun V' hV => mg_read ((hV.block _ (Array.getElem?_eq_some_iff.1 HXH.out.1).1).trans HXH.out.1)
          have LM2 : ∀ V', Below wH.heap.size wH V' → (Instr.loadAt 26 (.pointer (some ⟨w.heap.size, 0, none⟩))).run Try.prog V' = .ok (.agg (mC A P C)) V' := fun V' hV => LM.out V' (h3H.trans (hV.mono h3H.size))
          have LV2 : ∀ V', Below wH.heap.size wH V' → (Instr.loadAt 3 (.pointer (some ⟨w.heap.size + 1, 0, none⟩))).run Try.prog V' = .ok (.int .i64 v) V' := fun V' hV => by
            have := KV.out V' (h3H.trans (hV.mono h3H.size))
            simp [Instr.loadAt, go_sem, this]
          have FX : ∀ V', Below wH.heap.size wH V' → FMs (mproj A v) (.agg (mC (mproj A v) Px Cx)) V' := fun V' hV => ⟨Px, Cx, rfl, HXH.out.2.later hV⟩
          have FM2 : ∀ V', Below wH.heap.size wH V' → FMs A (.agg (mC A P C)) V' := fun V' hV => ⟨P, C, rfl, FM.out V' (h3H.trans (hV.mono h3H.size))⟩
          refine wpIn_wide.2 ?_
          refine wp_region_F 169 [162, 164, 166, 167] (F24 A (mproj A v)) (fun V' => Below wH.heap.size wH V') (by kernel_rfl) (by kernel_rfl) (by rfl) (by simp) (fun W W' h hb => h.trans (hb.mono h.size)) (fun q x W W' h hb => h.later hb) (Below.refl _ _).drew ?_
          refine wpF_call (f := 16) (args := #[]) (.bool true) rfl rfl (fun x => by first | rfl | (simp [go_sem]; done)) (fun V' _ => bdknown_any V') ?_
          simp only [Act.put, List.setIfInBounds_toArray, List.set_cons_succ, List.set_cons_zero]
          repeat (refine wpF_pure rfl rfl ?_; go_big_quiet_step (fail); refine wpQuiet_nil ?_)
          refine wpF_load (.bool true) rfl (by rfl) (by rfl) (by rfl) LO2 ?_
          simp only [Act.put, List.setIfInBounds_toArray, List.set_cons_succ, List.set_cons_zero]
          repeat (refine wpF_pure rfl rfl ?_; go_big_quiet_step (fail); refine wpQuiet_nil ?_)
          refine wpF_load (.agg (mC (mproj A v) Px Cx)) rfl (by rfl) (by rfl) (by rfl) LX ?_
          simp only [Act.put, List.setIfInBounds_toArray, List.set_cons_succ, List.set_cons_zero]
          refine wpF_callsrc 162 (f := 10) (args := #[.agg (mC (mproj A v) Px Cx)]) (by simp) rfl rfl rfl (fun x => by first | rfl | (simp [go_sem]; done)) (fun W hW => of_F hsG (FX W hW)) ?_
          simp only [Act.put, List.setIfInBounds_toArray, List.set_cons_succ, List.set_cons_zero]
          refine wpF_load (.agg (mC A P C)) rfl (by rfl) (by rfl) (by rfl) LM2 ?_
          simp only [Act.put, List.setIfInBounds_toArray, List.set_cons_succ, List.set_cons_zero]
          refine wpF_callsrc 164 (f := 10) (args := #[.agg (mC A P C)]) (by simp) rfl rfl rfl (fun x => by first | rfl | (simp [go_sem]; done)) (fun W hW => of_F HSA.out (FM2 W hW)) ?_
          simp only [Act.put, List.setIfInBounds_toArray, List.set_cons_succ, List.set_cons_zero]
          refine wpF_load (.int .i64 v) rfl (by rfl) (by rfl) (by rfl) LV2 ?_
          simp only [Act.put, List.setIfInBounds_toArray, List.set_cons_succ, List.set_cons_zero]
          refine wpF_mixcall 166 [164] (f := 19) (fun xs => #[xs 164, .int .i64 v]) (by simp) rfl (by kernel_rfl) (by kernel_rfl) (fun xs => by rfl) (fun xs W => by first | rfl | (simp [fill, Act.put, Act.eval, go_sem]; done)) (fun xs W hW hx => rproj_F v (show FMs A (xs 164) W from hx 164 (by simp))) ?_
          simp only [Act.put, List.setIfInBounds_toArray, List.set_cons_succ, List.set_cons_zero]
          refine wpF_mixcall 167 [162, 166] (f := 18) (fun xs => #[xs 162, xs 166]) (by simp) rfl (by kernel_rfl) (by kernel_rfl) (fun xs => by rfl) (fun xs W => by first | rfl | (simp [fill, Act.put, Act.eval, go_sem]; done)) (fun xs W hW hx => (rsame_F hsG (show FMs (mproj A v) (xs 162) W from hx 162 (by simp)) (show FMs (mproj A v) (xs 166) W from hx 166 (by simp))).mono fun e w' h => ⟨_, h.1, (by rw [decide_eq_true rfl]; exact rfl), h.2⟩) ?_
          simp only [Act.put, List.setIfInBounds_toArray, List.set_cons_succ, List.set_cons_zero]
          refine wpF_useval 167 15 (.bool true) (by simp) (by rfl) (by kernel_rfl) (by kernel_rfl) (by rfl) (fun x => by rfl) (fun x W hW hx => by rw [show x = .bool true from hx]; first | rfl | (simp [go_sem]; done)) ?_
          simp only [Act.put, List.setIfInBounds_toArray, List.set_cons_succ, List.set_cons_zero]
          repeat (refine wpF_pure rfl rfl ?_; go_big_quiet_step (fail); refine wpQuiet_nil ?_)
          intro xs W hW _
          simp only [fill, Act.put, List.setIfInBounds_toArray, List.set_cons_succ, List.set_cons_zero]
          generalize xs 162 = x162
          generalize xs 164 = x164
          generalize xs 166 = x166
          generalize xs 167 = x167
          have HF := Lib.hid (H0r.out.trans ((HBH.out.trans (hW.mono HBH.out.size)).mono H0r.out.size))
          have HKW := Lib.hid ((hW.block _ (Nat.lt_of_lt_of_le hDlt HBH.out.size)).trans ((HBH.out.block _ hDlt).trans HKd.out))
          have hDw : w.heap.size ≤ D := by omega
          clear hW LO2 LX LM2 LV2 FX FM2 h3H
          gi_wp2
          refine ⟨by simp, .inl ⟨_, _, rfl, run_takeDeferred HKW.out, ?_⟩⟩
          refine ⟨_, results_tmp rfl _ _ _, rfl, HF.out.trans (below_put _ _ (by omega))⟩
    case stop => exact fun _ _ _ _ h => h.elim
  · have hE2 : E = bwr A v := by injection hbe
    have hL0 : L = [] := by injection hbe
    have hE0 : E ≠ 0 := by rw [hE2]; exact hE
    have e1 : (E != 0) = true := by simpa using hE0
    obtain rfl : n = 0 := by rw [← HLN.out, hL0]; rfl
    have KP := Lib.hid (bparts_no A P C v wE HSA.out (FM.out wE HB3E.out) hE)
    unfold mV at KP
    have kn := bparts_nil1
    clear hE hE2 hbe lE kE hL0
    refine ⟨trivial, (callsIn_wide.2 KP.out).mono ?_⟩
    rintro e wF ⟨rfl, hbF⟩
    have bI := (hbF.block _ bIE.lt).trans bIE
    have bO := (hbF.block _ bOE.lt).trans bOE
    have HB3F := Lib.hid (HB3.out.trans ((HB3E.out.trans (hbF.mono HB3E.out.size)).mono HB3.out.size))
    have q8F := (HB6E.out.block _ hg8lt).trans HQ6.out
    have q8F := (hbF.block _ (Array.getElem?_eq_some_iff.1 q8F).1).trans q8F
    have hsF := hbF.size
    rw [hsE] at hsF
    have HI := Lib.hid (show Fo 3 4 (B9 + 1) (B9 + 1 + 1) wF 0 wF from ⟨bI, bO, Off.refl _ _⟩)
    have HQF := Lib.hid q8F
    clear hbF bI bO q8F KP
    gi_wp2_with fail
    refine range_stops rfl (by omega) (gf := 30) (lb := #[]) rfl trivial (enters_of Try.func30 (by kernel_rfl) rfl)
      (fun x : Value × Value => #[x.1, x.2]) (fun _ => rfl)
      (fun _ _ _ => False) (fun _ V => Fo 3 4 (B9 + 1) (B9 + 1 + 1) wF 0 V) (fun _ _ => False) (fun _ _ => True) 0
      (fun _ _ _ _ _ _ h => h.elim) (fun j V l o o' h hl ho hc => h.putObj hl ho hc) (fun _ _ _ _ _ h => h.elim)
      (fun _ _ _ _ _ => trivial) (fun _ _ _ _ _ _ _ => trivial)
      (fun o => HI.out.later (((Below.refl wF.heap.size wF).alloc (Nat.le_refl _) _).alloc (by simp) _)) ?a2 ?assign2 ?body2 ?iter2 ?done2 ?stop2
    case assign2 =>
      intro l' x V K hK
      gi_wp2
      exact hK
    case body2 => exact fun _ _ _ _ _ h => h.elim
    case iter2 =>
      intro Bk2 X2 l2 V hBk2 hBlt2 hX2 hl2 hDV hBV hYV
      exact (bparts_none _ _ V (fun W => W = V) rfl).mono fun e W h => ⟨h.1, .inl (by rw [h.2]; exact ⟨hDV, hBV⟩)⟩
    case done2 =>
      rintro D V hD hFo hK
      have hg8F : g8 < wF.heap.size := (Array.getElem?_eq_some_iff.1 HQF.out).1
      have hb6s := HB6E.out.size
      have k8 := (show Boxed V g8 3 (.int .i64 E) from (hFo.off.block _ hg8F (by omega)).trans HQF.out).cell
      have hsV := hFo.off.size
      have HFo := Lib.hid hFo
      have HK := Lib.hid hK
      clear hFo hK
      gi_wp2_with fail
      refine ⟨trivial, (callsIn_wide.2 (bdknown_any V)).mono ?_⟩
      rintro e V2 ⟨rfl, hbV⟩
      have hF2 := HFo.out.later hbV
      have c1 := hF2.num.cell
      have c2 := hF2.ok.cell
      have HK2 := Lib.hid ((hbV.block _ (Array.getElem?_eq_some_iff.1 HK.out).1).trans HK.out)
      have HF := Lib.hid (HB3F.out.trans (hF2.off.below (B := w.heap.size) (fun k hk => by omega) (by omega)))
      clear hF2 hbV k8
      gi_wp2
      refine ⟨by simp, .inl ⟨_, _, rfl, run_takeDeferred HK2.out, ?_⟩⟩
      refine ⟨_, results_tmp rfl _ _ _, rfl, HF.out.trans (below_put _ _ (by omega))⟩
    case stop2 => exact fun _ _ _ _ h => h.elim
end Go.Proofs.Ytmjbimmbphofjaa

namespace Go.Proofs.Ytmjbimmbphofjaa.bodyEncodes
open Go.ChangeShapes Go.WideShapes Go.ChangeAt Go.RowKit
open Go.ChangeMaps (open_string shut_string)
set_option linter.unusedVariables false

theorem own : ownKnob Try.prog.godebug = none := by kernel_rfl
theorem laidOut : laidOutB Try.prog = true := by kernel_rfl

set_option maxRecDepth 100000 in
theorem lifted (os : Os) (started : os.Started) (H : Type) (enc : TypeId × Value → H) :
    ReturnsInHanded {} Try.checked os 3 .any (Rows.bodyEncodesSpec.pre6 enc Try.prog Try.f3 Rows.bodyEncodesRow.domain false) (Rows.bodyEncodesSpec.post enc Try.prog Try.f3 false true false false) := by
  refine returnsInHanded_of_change (C := Try.checked) own started (by kernel_rfl) Try.func3
    (ChangeSpec.witness6 (enc := enc) (C := Try.checked) false ⟨#[], #[.agg #[.int .i64 0, .int .i64 0, .int .i64 0, .int .i64 0, .int .i64 0, .int .i64 0, .int .i64 0, .slice none 0 0, .slice none 0 0, .string ⟨#[]⟩, .string ⟨#[]⟩], .int .i64 0], []⟩ 8 (by kernel_rfl) (by kernel_rfl) (by kernel_rfl) (by kernel_rfl)) ?_
  intro W base args ds gs before hval0 hW hcnd _
  have hval : ∀ (j : Nat) t v, Try.f3.params[j]? = some t → args[j]? = some v → Value.okWide Try.prog W .any base t v := hval0
  have hW' := hW
  obtain ⟨p, q, hA0, hV, rfl, hfz, hnd⟩ := hW
  have hA : DataW.TrodAll enc Try.prog W 0 (fun _ => true) true Try.f3.params.toList args.toList ds p := hA0
  rw [Try.params3] at hA hval
  obtain ⟨v0, vs0, d0, ds0, p0, q0, hargs, rfl, rfl, h0, r0⟩ := trodAll_cons hA
  obtain ⟨v1, vs1, d1, ds1, p1, q1, rfl, rfl, rfl, h1, r1⟩ := trodAll_cons r0
  obtain ⟨rfl, rfl, rfl⟩ := trodAll_nil r1
  obtain rfl : args = #[v0, v1] := by cases args; simp_all
  obtain ⟨rfl, rfl⟩ := trodVars_none hV
  have k0 := h0
  have lt0 : ∀ x ∈ p0, x.block < W.heap.size := by obtain ⟨m, hm⟩ := k0; exact DataW.trod_lt m _ _ _ hm
  obtain ⟨mM0, mP0, mC0, rfl, y0⟩ := open_msg (hval 0 26 v0 rfl rfl) h0
  obtain ⟨a1, rfl, rfl, rfl, w1⟩ := open_int Try.underlying3 (hval 1 3 v1 rfl rfl) h1
  clear hA0 hval0
  refine (encodes_go mM0 mP0 mC0 a1 W y0).mono fun e W' ⟨he, bel⟩ => ?_
  subst he
  exact ⟨_, rfl, _, _, _, [], _, [], hW', trodAll_mk1 (shut_bool Try.underlying4 _), (trodAll_cons_mk (Below.trod laidOut (by kernel_rfl) (of_decide_eq_true (by kernel_rfl)) k0 bel lt0) (trodAll_cons_mk (shut_int Try.underlying3 w1) trodAll_mk0)), rfl, bel.frame _, fun h => by cases h⟩

theorem over : Rows.bodyEncodesRow.holds Try.pinned (OpenSpec.ofChange Rows.bodyEncodesSpec) :=
  OpenClaim.holds_of_wide 3 Try.f3 rfl rfl rfl rfl rfl rfl rfl ⟨rfl, rfl, rfl, rfl, rfl⟩ rfl rfl rfl rfl rfl (by kernel_rfl) Try.func3 (by kernel_rfl)
    (of_decide_eq_true (by kernel_rfl)) (by unfold Func.isWrapper; first | (rw [if_pos (by decide +kernel)]; kernel_rfl) | (rw [if_neg (by decide +kernel)]; exact ⟨rfl, rfl⟩))
    (fun os started H enc _ => lifted os started H enc)

theorem proved : Rows.BodyEncodesSaid := over
#print axioms proved
end Go.Proofs.Ytmjbimmbphofjaa.bodyEncodes
