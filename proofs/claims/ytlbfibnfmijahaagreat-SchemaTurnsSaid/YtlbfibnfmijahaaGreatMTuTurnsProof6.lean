/-
  A part of the texts of one proof, put together: Q13, BdyH, BdyK, BdyO, BdyZ, BdyQ, BdyU, BdyRr.
-/
import Derived.ArgAppend
import Derived.Deep.Upon
import Derived.Maps.AppendAt
import Derived.Lib.Strings
import Derived.Lib.Slices
import Derived.Lib.Walk
import Derived.Lib.Bytes
import Derived.Laws.EntriesVeiled
import Derived.Test.YtlbfibnfmijahaaGreatMTuTurnsProof5
namespace Go.Proofs.YtlbfibnfmijahaaGreat
open Go.RowKit
section
variable {P : Program} {l : List Oper} {vs : List Value} {fs : List Tmp} {FS : Tmp → Value → World → Prop} {I : World → Prop} {a0 : Act}
def midUpon (S : Value → World → Prop) : Result Next → Prop
  | .ok (.value u) w' => S u w'
  | _ => False
/-- the operation that turns: its value goes to slot m, it looks at sources of fs but m -/
def MidOb (P : Program) (ops : Array Oper) (I : World → Prop) (fs : List Tmp) (FS : Tmp → Value → World → Prop) (m : Tmp) (St : (Tmp → Value) → World → Value → World → Prop) (o : Oper) (a : Act) : Prop :=
  o.dst = some m ∧ m ∉ o.looksAt ops ∧ ∀ xs w, I w → (∀ s ∈ fs, s ≠ m → FS s (xs s) w) → Region.wanted o (yielded ops (fill fs xs a).tmps) = true ∧ midUpon (St xs w) ((execOp (fill fs xs a).eval o).run P w)
/-- the store behind it -/
def EndOb (P : Program) (ops : Array Oper) (I : World → Prop) (fs : List Tmp) (FS : Tmp → Value → World → Prop) (m : Tmp) (St : (Tmp → Value) → World → Value → World → Prop) (Sf : World → Prop) (o : Oper) (a : Act) : Prop :=
  o.dst = none ∧ ∀ xs W w, I W → (∀ s ∈ fs, s ≠ m → FS s (xs s) W) → St xs W (xs m) w → Region.wanted o (yielded ops (fill fs xs a).tmps) = true ∧ stUpon Sf ((execOp (fill fs xs a).eval o).run P w)
theorem any_of_FM {N k k2 f : Nat} {m : Tmp} {late : Nat → Bool} {Q' : Exit → Act → World → Prop} {St : (Tmp → Value) → World → Value → World → Prop} {Sf : World → Prop} (hR : RG .any l.toArray N) (hN : N ≤ a0.tmps.size) (hlen : vs.length = l.length) (hI : Closed I) (hF : ∀ s x w w', FS s x w → Below w.heap.size w w' → FS s x w')
    (hm : m ∈ fs) (hmF : ∀ x w, FS m x w) (hSt : ∀ xs ys W u w, (∀ s ∈ fs, s ≠ m → xs s = ys s) → St xs W u w → St ys W u w)
    (hob : ∀ (j : Nat) o v, l[j]? = some o → vs[j]? = some v → (j < k → Ob P l.toArray I fs FS o v (lex l vs a0 j)) ∧ (j = k → MidOb P l.toArray I fs FS m St o (lex l vs a0 j)) ∧ (j = k2 → EndOb P l.toArray I fs FS m St Sf o (lex l vs a0 j)) ∧ ((k < j ∧ j ≠ k2) ∨ late j = true → PureOb P l.toArray fs o v (lex l vs a0 j)))
    (hk : k < k2) (hk2 : k2 < l.length) (hreach : ∀ j, j < k → late j = false → reachB .any l.toArray f k j = true) (hreach2 : reachB .any l.toArray f k2 k = true) (hfs : ∀ s ∈ fs, s ≠ m → ∃ (j : Nat) (o : Oper), j < k ∧ late j = false ∧ l[j]? = some o ∧ o.dst = some s)
    (hmk : ∃ o, l[k]? = some o ∧ o.dst = some m)
    (hQ : ∀ (listed : Array Bool) b W w (xs : Tmp → Value), (∀ j, listed.getD j true = true) → Inv l vs fs FS I a0 listed b W → (∀ s ∈ fs, b.tmps[s]? = some (xs s)) → Sf w → Q' .normal b w) :
    ∀ (fuel : Nat) (listed : Array Bool) (b : Act) (W w : World), listed.toList.count false ≤ fuel → Inv l vs fs FS I a0 listed b W →
      ((listed.getD k true = false ∧ listed.getD k2 true = false ∧ w = W) ∨ (listed.getD k true = true ∧ ∃ xs, (∀ s ∈ fs, b.tmps[s]? = some (xs s) ∧ (s ≠ m → FS s (xs s) W)) ∧ ((listed.getD k2 true = false ∧ St xs W (xs m) w) ∨ (listed.getD k2 true = true ∧ Sf w)))) → wpAny P .any l.toArray Q' fuel listed b w
  | 0, listed, b, W, w, hc, h, hp => by
    have hall := count_zero (L := listed) (by omega)
    rcases hp with ⟨h0, _⟩ | ⟨_, xs, hx, ⟨h0, _⟩ | ⟨_, hst⟩⟩
    · rw [hall k] at h0; cases h0
    · rw [hall k2] at h0; cases h0
    refine ⟨?_, hQ listed b W w xs hall h (fun s hs => (hx s hs).1) hst⟩
    rw [List.eq_nil_iff_forall_not_mem]
    intro i hi
    have := (mem_ready.1 hi).1
    rw [hall i] at this
    cases this
  | fuel + 1, listed, b, W, w, hc, h, hph => by
    refine ⟨fun h0 => ?_, fun i hi => ?_⟩
    · have hall := ready_all hR h.lsize h0
      rcases hph with ⟨h0, _⟩ | ⟨_, xs, hx, ⟨h0, _⟩ | ⟨_, hst⟩⟩
      · rw [hall k] at h0; cases h0
      · rw [hall k2] at h0; cases h0
      · exact hQ listed b W w xs hall h (fun s hs => (hx s hs).1) hst
    obtain ⟨hun, o, ho, hall⟩ := mem_ready.1 hi
    have ho2 : l[i]? = some o := by simpa using ho
    have hp : ∀ e ∈ o.after, Region.binds .any e = true → listed.getD e.on true = true := fun e he hb => by
      have h1 := hall e he hb
      rw [Array.getD_eq_getD_getElem?] at h1 ⊢
      cases hx : listed[e.on]? with
      | none => rfl
      | some y => rw [hx] at h1; simpa using h1
    obtain ⟨v, hv⟩ : ∃ v, vs[i]? = some v := ⟨_, List.getElem?_eq_getElem (by rw [hlen]; exact (List.getElem?_eq_some_iff.1 ho2).1)⟩
    obtain ⟨q1, q2, q4, q3⟩ := hob i o v ho2 hv
    have hcnt := count_set hun
    have hsel : ∀ cs c, o.op ≠ .select cs c := fun cs c => hR.sel i o cs c ho
    have ag : ∀ d ∈ o.looksAt l.toArray, d ∉ fs → (lex l vs a0 i).tmps[d]? = b.tmps[d]? := fun d hd hf => h.agree hR hN hlen ho2 hun hp hd hf
    -- a pure operation, at whatever time
    have hpure : ∀ (hpu : PureOb P l.toArray fs o v (lex l vs a0 i)) (hne : i ≠ k) (hne2 : i ≠ k2), (∀ b', (b' = b.put o.dst v) → wpAny P .any l.toArray Q' fuel (listed.setIfInBounds i true) b' w) → Go.wpOp P l.toArray Q' i (fun a' w' => wpAny P .any l.toArray Q' fuel (listed.setIfInBounds i true) a' w') b w := fun hpu _ _ kv0 => by
      have kv := kv0 _ rfl
      obtain ⟨h1, h2, h3⟩ := hpu
      have he := exec_agree (ops := l.toArray) hsel fun d hd => ag d hd (h1 d hd)
      have hw := wanted_agree (ops := l.toArray) fun d hd => ag d hd (h1 d hd)
      unfold Go.wpOp
      simp only [ho]
      rcases h3 with ⟨hwt, hval⟩ | ⟨hwf, rfl⟩
      · rw [hw] at hwt
        rw [if_pos hwt]
        left
        have h4 := hval w
        rw [he] at h4
        unfold Oper.wp
        generalize (execOp b.eval o).run P w = r at h4
        cases r with
        | ok n w' =>
          cases n <;> simp only [purUpon] at h4 <;> simp only [Oper.upon]
          case value u => obtain ⟨rfl, rfl⟩ := h4; exact kv
          case skip => obtain ⟨rfl, rfl⟩ := h4; exact kv
        | halt x w' => simp only [purUpon] at h4
      · rw [hw] at hwf
        rw [hwf, if_neg (by simp)]
        exact kv
    rcases hph with ⟨hk0, hk20, rfl⟩ | ⟨hk1, xs, hx, hst⟩
    · by_cases hik : i = k
      · subst hik
        obtain ⟨hdst, hlook, hmid⟩ := q2 rfl
        have got : ∀ s ∈ fs, s ≠ m → ∃ x, b.tmps[s]? = some x ∧ FS s x w ∧ s < (lex l vs a0 i).tmps.size := fun s hs hsm => by
          obtain ⟨j, oj, hji, hlj, hoj, hdj⟩ := hfs s hs hsm
          obtain ⟨vj, hvj⟩ : ∃ v, vs[j]? = some v := ⟨_, List.getElem?_eq_getElem (by rw [hlen]; exact (List.getElem?_eq_some_iff.1 hoj).1)⟩
          obtain ⟨x, hbx, hfx⟩ := (h.ins j oj s vj hoj (reach_ready h ho2 hp f j (hreach j hji hlj)) hdj hvj).1 hs
          exact ⟨x, hbx, hfx, by rw [(lex_size l vs a0 i).1]; exact Nat.lt_of_lt_of_le (hR.small j oj s (by simpa using hoj) hdj) hN⟩
        have hxs : ∀ s ∈ fs, s ≠ m → b.tmps[s]? = some (b.tmps.getD s undef) ∧ FS s (b.tmps.getD s undef) w := fun s hs hsm => by
          obtain ⟨x, hbx, hfx, _⟩ := got s hs hsm
          simpa [hbx] using hfx
        have ag2 : ∀ d ∈ o.looksAt l.toArray, (fill fs (fun s => b.tmps.getD s undef) (lex l vs a0 i)).tmps[d]? = b.tmps[d]? := fun d hd => by
          by_cases hdf : d ∈ fs
          · have hdm : d ≠ m := fun e => hlook (e ▸ hd)
            obtain ⟨x, hbx, _, hlt⟩ := got d hdf hdm
            rw [fill_in fs _ _ d hdf hlt, hbx]
            simp [hbx]
          · rw [fill_out fs _ _ d hdf]
            exact ag d hd hdf
        obtain ⟨hwt, h3⟩ := hmid (fun s => b.tmps.getD s undef) w h.cls fun s hs hsm => (hxs s hs hsm).2
        rw [wanted_agree (ops := l.toArray) ag2] at hwt
        rw [exec_agree (ops := l.toArray) hsel ag2] at h3
        have hmlt : m < b.tmps.size := by rw [h.size]; exact Nat.lt_of_lt_of_le (hR.small i o m ho hdst) hN
        have hin : ∀ u, Inv l vs fs FS I a0 (listed.setIfInBounds i true) (b.put o.dst u) w := fun u => h.next hR hN hI hF ho2 hp (Below.refl _ _) fun d hd => by
          rw [hdst] at hd
          obtain rfl := Option.some.inj hd
          exact ⟨fun _ => hmF _ _, fun hnf => absurd hm hnf⟩
        have kk : ∀ u w', St (fun s => b.tmps.getD s undef) w u w' → wpAny P .any l.toArray Q' fuel (listed.setIfInBounds i true) (b.put o.dst u) w' := fun u w' hs => by
          obtain ⟨ys, hy1, hy2⟩ : ∃ ys : Tmp → Value, ys m = u ∧ ∀ s, s ≠ m → ys s = b.tmps.getD s undef := ⟨fun s => if s = m then u else b.tmps.getD s undef, if_pos rfl, fun s h => if_neg h⟩
          refine any_of_FM hR hN hlen hI hF hm hmF hSt hob hk hk2 hreach hreach2 hfs hmk hQ fuel _ _ w w' (by omega) (hin u) (.inr ⟨getD_set_same _ _, ys, fun s hs => ?_, .inl ⟨by rw [getD_set_far _ (by omega)]; exact hk20, ?_⟩⟩)
          · rw [hdst]
            by_cases hsm : s = m
            · subst hsm
              rw [hy1]
              exact ⟨put_same u hmlt, fun hne => absurd rfl hne⟩
            · rw [hy2 s hsm]
              exact ⟨by rw [put_other u (fun e => hsm (Option.some.inj e).symm)]; exact (hxs s hs hsm).1, fun _ => (hxs s hs hsm).2⟩
          · rw [hy1]
            exact hSt _ _ _ _ _ (fun s _ hsm => (hy2 s hsm).symm) hs
        unfold Go.wpOp
        simp only [ho]
        rw [if_pos hwt]
        left
        unfold Oper.wp
        generalize (execOp b.eval o).run P w = r at h3
        cases r with
        | ok n w' =>
          cases n <;> simp only [midUpon] at h3 <;> simp only [Oper.upon]
          case value u => exact kk _ _ h3
        | halt x w' => simp only [midUpon] at h3
      · have hik2 : i ≠ k2 := fun e => by
          subst e
          have := reach_ready h ho2 hp f k hreach2
          rw [hk0] at this; cases this
        have hob' : Ob P l.toArray I fs FS o v (lex l vs a0 i) := by
          rcases Nat.lt_or_gt_of_ne hik with hlt | hgt
          · exact q1 hlt
          · exact (q3 (.inl ⟨hgt, hik2⟩)).ob
        exact op_of_F hR hN hlen h ho2 hun hp hv hob' fun u w' hb hu =>
          any_of_FM hR hN hlen hI hF hm hmF hSt hob hk hk2 hreach hreach2 hfs hmk hQ fuel _ _ w' w' (by omega) (h.next hR hN hI hF ho2 hp hb hu) (.inl ⟨by rw [getD_set_far _ hik]; exact hk0, by rw [getD_set_far _ hik2]; exact hk20, rfl⟩)
    · by_cases hik2 : i = k2
      · subst hik2
        obtain ⟨hdst, hstore⟩ := q4 rfl
        have hst := (hst.resolve_right fun h0 => by rw [hun] at h0; cases h0.1).2
        have hlt : ∀ s ∈ fs, s < (lex l vs a0 i).tmps.size := fun s hs => by
          rw [(lex_size l vs a0 i).1, ← h.size]
          exact (Array.getElem?_eq_some_iff.1 (hx s hs).1).1
        have ag2 : ∀ d ∈ o.looksAt l.toArray, (fill fs xs (lex l vs a0 i)).tmps[d]? = b.tmps[d]? := fun d hd => by
          by_cases hdf : d ∈ fs
          · rw [fill_in fs _ _ d hdf (hlt d hdf), (hx d hdf).1]
          · rw [fill_out fs _ _ d hdf]
            exact ag d hd hdf
        obtain ⟨hwt, h3⟩ := hstore xs W w h.cls (fun s hs hsm => (hx s hs).2 hsm) hst
        rw [wanted_agree (ops := l.toArray) ag2] at hwt
        rw [exec_agree (ops := l.toArray) hsel ag2] at h3
        have hput : ∀ u, b.put o.dst u = b := fun u => by rw [hdst]; rfl
        have hin : ∀ u, Inv l vs fs FS I a0 (listed.setIfInBounds i true) (b.put o.dst u) W := fun u => h.next hR hN hI hF ho2 hp (Below.refl _ _) fun d hd => by rw [hdst] at hd; cases hd
        have kk : ∀ u w', Sf w' → wpAny P .any l.toArray Q' fuel (listed.setIfInBounds i true) (b.put o.dst u) w' := fun u w' hs =>
          any_of_FM hR hN hlen hI hF hm hmF hSt hob hk hk2 hreach hreach2 hfs hmk hQ fuel _ _ W w' (by omega) (hin u) (.inr ⟨getD_set_up _ hk1, xs, by rw [hput u]; exact hx, .inr ⟨getD_set_same _ _, hs⟩⟩)
        unfold Go.wpOp
        simp only [ho]
        rw [if_pos hwt]
        left
        unfold Oper.wp
        generalize (execOp b.eval o).run P w = r at h3
        cases r with
        | ok n w' =>
          cases n <;> simp only [stUpon] at h3 <;> simp only [Oper.upon]
          case value u => exact kk _ _ h3
          case skip => exact kk _ _ h3
        | halt x w' => simp only [stUpon] at h3
      · have hik : i ≠ k := fun e => by subst e; rw [hun] at hk1; cases hk1
        have hpu : PureOb P l.toArray fs o v (lex l vs a0 i) := q3 (by
          rcases Nat.lt_or_gt_of_ne hik with hlt | hgt
          · cases hla : late i with
            | true => exact .inr rfl
            | false => rw [reach_listed h f k i hk1 (hreach i hlt hla)] at hun; cases hun
          · exact .inl ⟨hgt, hik2⟩)
        have h2 := hpu.2.1
        exact hpure hpu hik hik2 fun b' hb' => by
          subst hb'
          exact any_of_FM hR hN hlen hI hF hm hmF hSt hob hk hk2 hreach hreach2 hfs hmk hQ fuel _ _ W w (by omega) (h.next hR hN hI hF ho2 hp (Below.refl _ _) fun d hd => ⟨fun hf => absurd hf (h2 d hd), fun _ => hv⟩)
            (.inr ⟨getD_set_up _ hk1, xs, fun s hs => ⟨by rw [put_other v (fun e => h2 s e hs)]; exact (hx s hs).1, (hx s hs).2⟩, hst.imp (fun h => ⟨by rw [getD_set_far _ hik2]; exact h.1, h.2⟩) fun h => ⟨getD_set_up _ h.1, h.2⟩⟩)

/-- the walk behind that operation: what looks at no memory, and the store -/
def wpFMe (P : Program) (ops : Array Oper) (I : World → Prop) (fs : List Tmp) (FS : Tmp → Value → World → Prop) (m : Tmp) (St : (Tmp → Value) → World → Value → World → Prop) (Sf : World → Prop) (E : Act → Prop) : List Oper → Act → Prop
  | [], _ => False
  | [o], a => EndOb P ops I fs FS m St Sf o a ∧ E a
  | o :: o2 :: r, a => ∃ v, PureOb P ops fs o v a ∧ wpFMe P ops I fs FS m St Sf E (o2 :: r) (a.put o.dst v)
/-- the walk in the text's order: so many operations, the one that turns, the rest -/
def wpFM (P : Program) (ops : Array Oper) (I : World → Prop) (fs : List Tmp) (FS : Tmp → Value → World → Prop) (m : Tmp) (St : (Tmp → Value) → World → Value → World → Prop) (Sf : World → Prop) (E : Act → Prop) : Nat → List Oper → Act → Prop
  | _, [], _ => False
  | 0, o :: r, a => MidOb P ops I fs FS m St o a ∧ wpFMe P ops I fs FS m St Sf E r (a.put o.dst undef)
  | c + 1, o :: r, a => ∃ v, Ob P ops I fs FS o v a ∧ wpFM P ops I fs FS m St Sf E c r (a.put o.dst v)
section
variable {ops : Array Oper} {m : Tmp} {St : (Tmp → Value) → World → Value → World → Prop} {Sf : World → Prop} {E : Act → Prop}
theorem wpFMe_vals : ∀ (l : List Oper) (a : Act), wpFMe P ops I fs FS m St Sf E l a → l ≠ [] ∧ ∃ vs : List Value, vs.length = l.length ∧
    (∀ (j : Nat) o v, l[j]? = some o → vs[j]? = some v → (j + 1 = l.length → EndOb P ops I fs FS m St Sf o (lex l vs a j)) ∧ (j + 1 ≠ l.length → PureOb P ops fs o v (lex l vs a j))) ∧ E (lex l vs a l.length)
  | [], _, h => h.elim
  | [o], a, ⟨hob, hE⟩ => by
    have hput : a.put o.dst undef = a := by rw [hob.1]; rfl
    refine ⟨by simp, [undef], rfl, fun j o' v' ho hv => ?_, ?_⟩
    · cases j with
      | zero =>
        simp only [List.getElem?_cons_zero, Option.some.injEq] at ho
        subst ho
        exact ⟨fun _ => hob, fun h => absurd rfl h⟩
      | succ j => simp at ho
    · show E (a.put o.dst undef)
      rw [hput]
      exact hE
  | o :: o2 :: r, a, ⟨v, hob, hr⟩ => by
    obtain ⟨_, vs, h1, h2, h3⟩ := wpFMe_vals (o2 :: r) _ hr
    refine ⟨by simp, v :: vs, by simp [h1], fun j o' v' ho hv => ?_, h3⟩
    cases j with
    | zero =>
      simp only [List.getElem?_cons_zero, Option.some.injEq] at ho hv
      subst ho hv
      exact ⟨fun h => by simp at h, fun _ => hob⟩
    | succ j =>
      simp only [List.getElem?_cons_succ] at ho hv
      obtain ⟨q1, q2⟩ := h2 j o' v' ho hv
      exact ⟨fun h => q1 (by simp at h ⊢; omega), fun h => q2 (by simp at h ⊢; omega)⟩
theorem wpFM_vals : ∀ (k : Nat) (l : List Oper) (a : Act), wpFM P ops I fs FS m St Sf E k l a → k + 1 < l.length ∧ (∃ o, l[k]? = some o ∧ o.dst = some m) ∧ ∃ vs : List Value, vs.length = l.length ∧
    (∀ (j : Nat) o v, l[j]? = some o → vs[j]? = some v → (j < k → Ob P ops I fs FS o v (lex l vs a j)) ∧ (j = k → MidOb P ops I fs FS m St o (lex l vs a j)) ∧ (j + 1 = l.length → EndOb P ops I fs FS m St Sf o (lex l vs a j)) ∧ (k < j → j + 1 ≠ l.length → PureOb P ops fs o v (lex l vs a j))) ∧ E (lex l vs a l.length)
  | 0, [], _, h => h.elim
  | _ + 1, [], _, h => h.elim
  | 0, o :: r, a, ⟨hob, hr⟩ => by
    obtain ⟨h0, vs, h1, h2, h3⟩ := wpFMe_vals r _ hr
    have hpos : 0 < r.length := List.length_pos_iff.2 h0
    refine ⟨by simp; omega, ⟨o, rfl, hob.1⟩, undef :: vs, by simp [h1], fun j o' v' ho hv => ?_, h3⟩
    cases j with
    | zero =>
      simp only [List.getElem?_cons_zero, Option.some.injEq] at ho hv
      subst ho hv
      exact ⟨by omega, fun _ => hob, fun h => by rw [List.length_cons] at h; omega, by omega⟩
    | succ j =>
      simp only [List.getElem?_cons_succ] at ho hv
      obtain ⟨q1, q2⟩ := h2 j o' v' ho hv
      exact ⟨by omega, by omega, fun h => q1 (by simp at h ⊢; omega), fun _ h => q2 (by simp at h ⊢; omega)⟩
  | k + 1, o :: r, a, ⟨v, hob, hr⟩ => by
    obtain ⟨h0, hm, vs, h1, h2, h3⟩ := wpFM_vals k r _ hr
    refine ⟨by simp; omega, hm, v :: vs, by simp [h1], fun j o' v' ho hv => ?_, h3⟩
    cases j with
    | zero =>
      simp only [List.getElem?_cons_zero, Option.some.injEq] at ho hv
      subst ho hv
      exact ⟨fun _ => hob, by omega, fun h => by rw [List.length_cons] at h; omega, by omega⟩
    | succ j =>
      simp only [List.getElem?_cons_succ] at ho hv
      obtain ⟨q1, q2, q3, q4⟩ := h2 j o' v' ho hv
      exact ⟨fun h => q1 (by omega), fun h => q2 (by omega), fun h => q3 (by simp at h ⊢; omega), fun h h' => q4 (by omega) (by simp at h' ⊢; omega)⟩
end
/-- ONE WALK IN THE TEXT's ORDER SERVES EVERY ORDER: the operation that turns at place k, its value in slot m, the store last -/
theorem wp_region_FM {id : Nat} {Q : Exit → Act → World → Prop} {a : Act} {w : World} {l : List Oper} (N k f : Nat) (m : Tmp) (fs : List Tmp) (FS : Tmp → Value → World → Prop) (I : World → Prop) (St : (Tmp → Value) → World → Value → World → Prop) (Sf : World → Prop) (hmo : P.follows .mixedOrders = true) (hB : rgB .any l.toArray N = true)
    (hreach : ((List.range k).all fun j => reachB .any l.toArray f k j) = true) (hreach2 : reachB .any l.toArray f (l.length - 1) k = true) (hfs : (fs.all fun s => s == m || (l.take k).any fun o => o.dst == some s) = true) (hm : m ∈ fs) (hN : N ≤ a.tmps.size) (hI : Closed I) (hF : ∀ s x w w', FS s x w → Below w.heap.size w w' → FS s x w')
    (hmF : ∀ x w, FS m x w) (hSt : ∀ xs ys W u w, (∀ s ∈ fs, s ≠ m → xs s = ys s) → St xs W u w → St ys W u w) (hC : I w.drew)
    (h : wpFM P l.toArray I fs FS m St Sf (fun a' => ∀ xs w', Sf w' → Q .normal (fill fs xs a') w') k l a) : (Code.region id l.toArray true).wp P Q a w := by
  have hR := rgB_spec hB
  obtain ⟨hkl, hmk, vs, hlen, hob, hE⟩ := wpFM_vals k l a h
  have hfs' : ∀ s ∈ fs, s ≠ m → ∃ (j : Nat) (o : Oper), j < k ∧ (fun _ : Nat => false) j = false ∧ l[j]? = some o ∧ o.dst = some s := fun s hs hsm => by
    rw [List.all_eq_true] at hfs
    have h1 := hfs s hs
    rw [Bool.or_eq_true] at h1
    have h2 := h1.resolve_left (by simpa using hsm)
    rw [List.any_eq_true] at h2
    obtain ⟨o, ho, hd⟩ := h2
    obtain ⟨j, hj, rfl⟩ := List.getElem_of_mem ho
    have hj1 : j < k := by rw [List.length_take] at hj; omega
    have hj2 : j < l.length := by rw [List.length_take] at hj; omega
    exact ⟨j, l[j], hj1, rfl, List.getElem?_eq_getElem hj2, by simpa using hd⟩
  refine wp_region_any hmo ?_
  refine any_of_FM (l := l) (vs := vs) (fs := fs) (FS := FS) (I := I) (a0 := a) (St := St) (Sf := Sf) (k := k) (k2 := l.length - 1) (f := f) (m := m) (late := fun _ => false) hR hN hlen hI hF hm hmF hSt (fun j o v h1 h2 => ?_) (by omega) (by omega) (fun j hj _ => by rw [List.all_eq_true] at hreach; exact hreach j (List.mem_range.2 hj)) hreach2 hfs' hmk ?_ _ _ _ w.drew _ ?_ ?_ ?_
  · obtain ⟨q1, q2, q3, q4⟩ := hob j o v h1 h2
    exact ⟨q1, q2, fun h => q3 (by omega), fun h => h.elim (fun h => q4 h.1 (by omega)) fun h => absurd h Bool.false_ne_true⟩
  · intro listed b W w' xs hall hinv hx hst
    have hb : b = fill fs xs (lex l vs a l.length) := by
      have ht : b.tmps = (fill fs xs (lex l vs a l.length)).tmps := by
        apply Array.ext_getElem?
        intro d
        by_cases hd : d ∈ fs
        · have hlt : d < (lex l vs a l.length).tmps.size := by
            rw [(lex_size l vs a l.length).1, ← hinv.size]
            exact (Array.getElem?_eq_some_iff.1 (hx d hd)).1
          rw [fill_in fs _ _ d hd hlt, hx d hd]
        · rw [fill_out fs _ _ d hd]
          by_cases hwr : ∃ (j : Nat) (oj : Oper), l[j]? = some oj ∧ oj.dst = some d
          · obtain ⟨j, oj, hj, hdj⟩ := hwr
            obtain ⟨v, hv⟩ : ∃ v, vs[j]? = some v := ⟨_, List.getElem?_eq_getElem (by rw [hlen]; exact (List.getElem?_eq_some_iff.1 hj).1)⟩
            have hj' : l.toArray[j]? = some oj := by simpa using hj
            rw [(hinv.ins j oj d v hj (hall j) hdj hv).2 hd]
            exact (lex_in l vs a l.length j oj d v hj (List.getElem?_eq_some_iff.1 hj).1 hv hdj (Nat.lt_of_lt_of_le (hR.small _ _ _ hj' hdj) hN) fun i oi hi _ hne => hR.once i j oi oj d (by simpa using hi) hj' hdj hne).symm
          · rw [lex_out l vs a l.length d fun i oi hi _ hdi => hwr ⟨i, oi, hi, hdi⟩]
            exact hinv.out d fun i oi hi _ hdi => hwr ⟨i, oi, hi, hdi⟩
      have hd : b.defers = (fill fs xs (lex l vs a l.length)).defers := by
        rw [(fill_size ..).2, (lex_size ..).2]
        exact hinv.defers
      cases b
      simp only at ht hd
      rw [Act.mk.injEq]
      exact ⟨ht, hd⟩
    rw [hb]
    exact hE xs w' hst
  · simp
  · refine ⟨hC, rfl, rfl, fun _ _ => rfl, fun j o d v hj hlj => ?_, fun j o hj hlj => ?_, by simp⟩
    all_goals
      have hlt := (List.getElem?_eq_some_iff.1 hj).1
      rw [Array.getD_eq_getD_getElem?] at hlj
      simp [hlt] at hlj
  · refine .inl ⟨?_, ?_, rfl⟩
    all_goals
      have h1 : k < l.length := by omega
      have h2 : l.length - 1 < l.length := by omega
      rw [Array.getD_eq_getD_getElem?]
      simp [h1, h2]

/-! ### its steps -/
section
variable {m : Tmp} {St : (Tmp → Value) → World → Value → World → Prop} {Sf : World → Prop} {E : Act → Prop} {o : Oper} {rest : List Oper} {a : Act}
/-- any of XQ6's steps -/
theorem wpFM_step {k : Nat} (h : wpF P l.toArray I fs FS (fun a' => wpFM P l.toArray I fs FS m St Sf E k rest a') [o] a) : wpFM P l.toArray I fs FS m St Sf E (k + 1) (o :: rest) a := by
  obtain ⟨v, hob, hr⟩ := h
  exact ⟨v, hob, hr⟩
theorem wpFM_mid (hd : o.dst = some m) (hn : decide (m ∈ o.looksAt l.toArray) = false) (hw : ∀ xs, Region.wanted o (yielded l.toArray (fill fs xs a).tmps) = true)
    (hrun : ∀ xs w, I w → (∀ s ∈ fs, s ≠ m → FS s (xs s) w) → ∃ u w', (execOp (fill fs xs a).eval o).run P w = .ok (.value u) w' ∧ St xs w u w') (h : wpFMe P l.toArray I fs FS m St Sf E rest (a.put o.dst undef)) : wpFM P l.toArray I fs FS m St Sf E 0 (o :: rest) a := by
  refine ⟨⟨hd, by simpa using hn, fun xs w hI hs => ⟨hw xs, ?_⟩⟩, h⟩
  obtain ⟨u, w', hr, hst⟩ := hrun xs w hI hs
  rw [hr]
  exact hst
theorem wpFMe_pure {o2 : Oper} (h : wpFS P l.toArray I fs FS (fun _ _ _ => True) (fun a' => wpFMe P l.toArray I fs FS m St Sf E (o2 :: rest) a') none [o] a) : wpFMe P l.toArray I fs FS m St Sf E (o :: o2 :: rest) a := by
  obtain ⟨v, hob, hr⟩ := h
  exact ⟨v, hob, hr⟩
theorem wpFMe_store {t : TypeId} {x y : Operand} (ho : o.op = .store t x y) (hd : o.dst = none) (hg : o.guard = none)
    (hrun : ∀ xs W w, I W → (∀ s ∈ fs, s ≠ m → FS s (xs s) W) → St xs W (xs m) w → ∃ w', (Instr.storeAt t ((fill fs xs a).eval x) ((fill fs xs a).eval y)).run P w = .ok () w' ∧ Sf w') (h : E a) : wpFMe P l.toArray I fs FS m St Sf E [o] a := by
  refine ⟨⟨hd, fun xs W w hI hs hst => ⟨by simp [Region.wanted, hg], ?_⟩⟩, h⟩
  obtain ⟨w', hr, hst⟩ := hrun xs W w hI hs hst
  unfold execOp
  simp only [ho]
  rw [Sem.run_bind, hr]
  exact hst
end
end
end Go.Proofs.YtlbfibnfmijahaaGreat

namespace Go.Proofs.YtlbfibnfmijahaaGreat
open Go.RowKit Go.Shelf
set_option maxRecDepth 100000
attribute [local go_sem] Oper.semAt_some

/-- a message's box, the result's and a box of two numbers; the message's lists lie in none of them -/
structure ThreeM (w : World) (b4 b8 b11 : Nat) (M : Mg) (W : World) (P C : Value) (x y : Int) : Prop where
  t : TwoM w b4 b8 M W P C
  bx : W.heap[b11]? = some (.cells #[.int .i64 x, .int .i64 y] 77 (0, 0))
  hi : w.heap.size ≤ b11 ∧ b11 ≠ b4 ∧ b11 ≠ b8
  p : ∀ a n c, P = .slice a n c → NuX W b11 b11 a (fl2 M.p)
  c : ∀ a n c, C = .slice a n c → NuX W b11 b11 a M.c
section
variable {w W W' : World} {b4 b8 b11 : Nat} {M : Mg} {P C : Value} {x y : Int}
theorem NuX.past {b : Nat} {A : Option Addr} {zs : List Int} {V V' : World} (h : NuX V b4 b8 A zs) (hb : NuX V b b A zs) (ho : Off (fun q => q = b) V V') : NuX V' b4 b8 A zs := fun hn => by
  obtain ⟨g, off, e, h1, h2, hc⟩ := h hn
  obtain ⟨g', off', e', h1', -, -⟩ := hb hn
  rw [e] at e'
  injection e' with e'
  injection e' with e1 e2
  subst e1
  exact ⟨g, off, e, h1, h2, fun j c hj => ho.cell (hc j c hj) h1'⟩
theorem TwoM.past {b : Nat} (h : TwoM w b4 b8 M W P C) (ho : Off (fun q => q = b) W W') (h4 : b4 ≠ b) (h8 : b8 ≠ b) (hb : w.heap.size ≤ b) (hp : ∀ a n c, P = .slice a n c → NuX W b b a (fl2 M.p)) (hc : ∀ a n c, C = .slice a n c → NuX W b b a M.c) : TwoM w b4 b8 M W' P C := by
  obtain ⟨⟨a, c, h1, h2, h3⟩, ⟨a', c', h5, h6, h7⟩⟩ := And.intro h.p h.c
  exact ⟨(ho.block _ (Array.getElem?_eq_some_iff.1 h.m).1 h4).trans h.m, (ho.block _ (Array.getElem?_eq_some_iff.1 h.r).1 h8).trans h.r, ⟨a, c, h1, h2, h3.past (hp _ _ _ h1) ho⟩, ⟨a', c', h5, h6, h7.past (hc _ _ _ h5) ho⟩, h.b.trans (ho.below (B := w.heap.size) (fun q hq => by omega) h.b.size), h.lo⟩
theorem NuX.keep1 {b : Nat} {A : Option Addr} {zs : List Int} {V V' : World} (h : NuX V b b A zs) (ho : Off (fun q => q = b) V V') : NuX V' b b A zs := h.keep (ho.mono fun _ _ h => .inl h)
theorem ThreeM.later (h : ThreeM w b4 b8 b11 M W P C x y) (hb : Below W.heap.size W W') : ThreeM w b4 b8 b11 M W' P C x y :=
  ⟨h.t.later hb, (hb.block _ (Array.getElem?_eq_some_iff.1 h.bx).1).trans h.bx, h.hi, fun a n c e => (h.p a n c e).keep1 (Off.of_below hb), fun a n c e => (h.c a n c e).keep1 (Off.of_below hb)⟩
theorem ThreeM.set (h : ThreeM w b4 b8 b11 M W P C x y) {j : Nat} {z x' y' : Int} (hz : (#[Value.int .i64 x, .int .i64 y] : Array Value).setIfInBounds j (.int .i64 z) = #[.int .i64 x', .int .i64 y']) : ThreeM w b4 b8 b11 M (W.setCell ⟨b11, j, none⟩ (.int .i64 z)) P C x' y' := by
  have ho : Off (fun q => q = b11) W (W.setCell ⟨b11, j, none⟩ (.int .i64 z)) := Off.setCell (S := fun q => q = b11) (p := ⟨b11, j, none⟩) (Off.refl _ W) rfl _
  have hi := h.hi
  exact ⟨h.t.past ho (by omega) (by omega) (by omega) h.p h.c, by rw [setCell_at h.bx, hz], h.hi, fun a n c e => (h.p a n c e).keep1 ho, fun a n c e => (h.c a n c e).keep1 ho⟩
end
theorem rdP_step (m : Nat) (a : Int × Int) (l : List Int) : rdP (m + 1) a l = if (rdX a.1 l).1 ≠ 0 then ((rdX a.1 l).1, 0, [])
    else if (rdX a.2 (l.drop (rdX a.1 l).2.1)).1 ≠ 0 then ((rdX a.2 (l.drop (rdX a.1 l).2.1)).1, 0, [])
    else ((rdP m ((rdX a.1 l).2.2, (rdX a.2 (l.drop (rdX a.1 l).2.1)).2.2) ((l.drop (rdX a.1 l).2.1).drop (rdX a.2 (l.drop (rdX a.1 l).2.1)).2.1)).1, (rdX a.1 l).2.1 + (rdX a.2 (l.drop (rdX a.1 l).2.1)).2.1 + (rdP m ((rdX a.1 l).2.2, (rdX a.2 (l.drop (rdX a.1 l).2.1)).2.2) ((l.drop (rdX a.1 l).2.1).drop (rdX a.2 (l.drop (rdX a.1 l).2.1)).2.1)).2.1, ((rdX a.1 l).2.2, (rdX a.2 (l.drop (rdX a.1 l).2.1)).2.2) :: (rdP m ((rdX a.1 l).2.2, (rdX a.2 (l.drop (rdX a.1 l).2.1)).2.2) ((l.drop (rdX a.1 l).2.1).drop (rdX a.2 (l.drop (rdX a.1 l).2.1)).2.1)).2.2) := rfl
/-- so many of a point's two numbers have been read -/
def PIn (x y : Int) (l : List Int) (k c : Nat) (x' y' : Int) : Prop :=
  (k = 0 → c = 0 ∧ x' = x ∧ y' = y) ∧ (k = 1 → rdX x l = (0, c, x') ∧ y' = y) ∧ (k = 2 → ∃ c1 c2, c = c1 + c2 ∧ rdX x l = (0, c1, x') ∧ rdX y (l.drop c1) = (0, c2, y'))
theorem PIn.err {x y x' y' : Int} {l : List Int} {k c : Nat} (h : PIn x y l k c x' y') (hk : k < 2) {e p : Nat} {v : Int} (hr : rdX (if k = 0 then x' else y') (l.drop c) = (e, p, v)) (he : e ≠ 0) (m : Nat) : rdP (m + 1) (x, y) l = (e, 0, []) := by
  obtain ⟨h0, h1, -⟩ := h
  rw [rdP_step]
  rcases (show k = 0 ∨ k = 1 by omega) with rfl | rfl
  · obtain ⟨rfl, rfl, rfl⟩ := h0 rfl
    rw [if_pos rfl, List.drop_zero] at hr
    rw [hr, if_pos he]
  · obtain ⟨h5, h6⟩ := h1 rfl
    subst h6
    rw [if_neg (by decide)] at hr
    rw [h5, if_neg (by simp)]
    simp only
    rw [hr, if_pos he]
theorem PIn.next {x y x' y' : Int} {l : List Int} {k c : Nat} (h : PIn x y l k c x' y') (hk : k < 2) {p : Nat} {v : Int} (hr : rdX (if k = 0 then x' else y') (l.drop c) = (0, p, v)) : PIn x y l (k + 1) (c + p) (if k = 0 then v else x') (if k = 0 then y' else v) := by
  obtain ⟨h0, h1, -⟩ := h
  rcases (show k = 0 ∨ k = 1 by omega) with rfl | rfl
  · obtain ⟨rfl, rfl, rfl⟩ := h0 rfl
    rw [if_pos rfl, List.drop_zero] at hr
    exact ⟨fun h => absurd h (by decide), fun _ => ⟨by rw [hr]; simp, rfl⟩, fun h => absurd h (by decide)⟩
  · obtain ⟨h5, h6⟩ := h1 rfl
    subst h6
    rw [if_neg (by decide)] at hr
    exact ⟨fun h => absurd h (by decide), fun h => absurd h (by decide), fun _ => ⟨c, p, rfl, h5, hr⟩⟩
theorem PIn.two {x y x' y' : Int} {l : List Int} {c : Nat} (h : PIn x y l 2 c x' y') (m : Nat) : rdP (m + 1) (x, y) l = ((rdP m (x', y') (l.drop c)).1, c + (rdP m (x', y') (l.drop c)).2.1, (x', y') :: (rdP m (x', y') (l.drop c)).2.2) := by
  obtain ⟨c1, c2, rfl, h1, h2⟩ := h.2.2 rfl
  rw [rdP_step]
  simp only
  rw [h1, if_neg (by simp)]
  simp only
  rw [h2, if_neg (by simp)]
  simp only
  rw [List.drop_drop]
/-- other points are stored into the message's box -/
theorem ThreeM.path {w V W : World} {b4 b8 b11 : Nat} {M : Mg} {P C v : Value} {x y : Int} {ps : List (Int × Int)} (h : ThreeM w b4 b8 b11 M V P C x y) (hb : Below V.heap.size V W) (hown : W.ownsRow V.heap.size 77 2 v ps.length ((fl2 ps).map (Value.int .i64))) : ∃ a c, v = .slice a ps.length c ∧ ThreeM w b4 b8 b11 { M with p := ps } (W.setCell ⟨b4, 7, none⟩ v) v C x y := by
  have h4 := (Array.getElem?_eq_some_iff.1 h.t.m).1
  have h8 := (Array.getElem?_eq_some_iff.1 h.t.r).1
  have h11 := (Array.getElem?_eq_some_iff.1 h.bx).1
  have hl := h.later hb
  obtain ⟨a, c, rfl, hc, hn⟩ := NuX.of_own hown (by omega) h4 h8
  obtain ⟨a', c', e', -, hn'⟩ := NuX.of_own hown (by omega) h11 h11
  injection e' with e1 e2 e3
  subst e1
  have hlo := h.t.lo
  have hi := h.hi
  have hoff : Off (fun q => q = b4 ∨ q = b8) W (W.setCell ⟨b4, 7, none⟩ (.slice a ps.length c)) := Off.setCell (S := fun q => q = b4 ∨ q = b8) (p := ⟨b4, 7, none⟩) (Off.refl _ W) (.inl rfl) _
  have hof2 : Off (fun q => q = b4) W (W.setCell ⟨b4, 7, none⟩ (.slice a ps.length c)) := Off.setCell (S := fun q => q = b4) (p := ⟨b4, 7, none⟩) (Off.refl _ W) rfl _
  obtain ⟨ca, cc, h1, h2, h3⟩ := hl.t.c
  have past : ∀ {A : Option Addr} {zs : List Int}, NuX W b11 b11 A zs → NuX W b4 b8 A zs → NuX (W.setCell ⟨b4, 7, none⟩ (.slice a ps.length c)) b11 b11 A zs := fun {A zs} q1 q2 hne => by
    obtain ⟨g, off, e, h1, h2, hc⟩ := q1 hne
    obtain ⟨g', off', e', h1', -, -⟩ := q2 hne
    rw [e] at e'
    injection e' with e'
    injection e' with e1 e2
    subst e1
    exact ⟨g, off, e, h1, h2, fun j c hj => hof2.cell (hc j c hj) h1'⟩
  refine ⟨a, c, rfl, ⟨by rw [setCell_at hl.t.m]; rfl, (hof2.block _ (Array.getElem?_eq_some_iff.1 hl.t.r).1 (by omega)).trans hl.t.r, ⟨a, c, rfl, hc, hn.keep hoff⟩, ⟨ca, cc, h1, h2, h3.keep hoff⟩, ?_, hlo⟩, (hof2.block _ (Array.getElem?_eq_some_iff.1 hl.bx).1 (by omega)).trans hl.bx, h.hi, fun a2 n2 c2 e => by injection e with e1 e2 e3; subst e1; exact past hn' hn, fun a2 n2 c2 e => by rw [h1] at e; injection e with e1 e2 e3; subst e1; exact past (hl.c _ _ _ h1) h3⟩
  exact hl.t.b.trans (hoff.below (B := w.heap.size) (fun q hq => by omega) hl.t.b.size)
theorem exec_appendH {P : Program} {w w' : World} {o : Oper} {b : Act} {v1 v2 v' : Value} (s x : Operand) (t : TypeId) (hop : o.op = Op.call { callee := Callee.builtin Builtin.append, args := #[s, x], argTypes := #[t, t] })
    (hs : b.eval s = v1) (hx : b.eval x = v2) (hrun : (Builtin.append_ #[t, t] o.type #[v1, v2]).run P w = .ok v' w') : (execOp b.eval o).run P w = .ok (.value v') w' := by
  simp [execOp, hop, resolve, invoke, builtin, hs, hx, hrun, Result.andThen]
/-- what the slots of a path's statement hold -/
def FPp (B : Nat) (zs : List Int) (np : Nat) (x y : Int) (q : Tmp) (v : Value) (W : World) : Prop :=
  if q = 66 then ∃ g, v = .slice (some ⟨g, 0, none⟩) 0 0 ∧ W.ownsRow B 77 2 v 0 []
  else if q = 69 then W.ownsRow B 77 2 v np (zs.map (Value.int .i64))
  else if q = 71 then ∃ g, v = .slice (some ⟨g, 0, none⟩) 1 1 ∧ W.heap[g]? = some (.cells #[.int .i64 x, .int .i64 y] 77 (0, 0))
  else True
theorem FPp.later {B : Nat} {zs : List Int} {np : Nat} {x y : Int} {q : Tmp} {v : Value} {W W' : World} (h : FPp B zs np x y q v W) (hb : Below W.heap.size W W') : FPp B zs np x y q v W' := by
  unfold FPp at h ⊢
  split
  · rename_i e
    rw [if_pos e] at h
    obtain ⟨g, e1, h1⟩ := h
    exact ⟨g, e1, own_below7 h1 hb⟩
  · rename_i e
    rw [if_neg e] at h
    split
    · rename_i e
      rw [if_pos e] at h
      exact own_below7 h hb
    · rename_i e
      rw [if_neg e] at h
      split
      · rename_i e
        rw [if_pos e] at h
        obtain ⟨g, e1, h1⟩ := h
        exact ⟨g, e1, (hb.block _ (Array.getElem?_eq_some_iff.1 h1).1).trans h1⟩
      · trivial

/-- other points: no block of S either -/
theorem Shun.path {S : Nat → Prop} {w V W : World} {b4 b8 b11 : Nat} {M : Mg} {P C v : Value} {x y : Int} {ps : List (Int × Int)} (h : Shun S V M P C) (t : ThreeM w b4 b8 b11 M V P C x y) (hS : ∀ x, S x → x < w.heap.size) (hb : Below V.heap.size V W) (hown : W.ownsRow V.heap.size 77 2 v ps.length ((fl2 ps).map (Value.int .i64))) : Shun S (W.setCell ⟨b4, 7, none⟩ v) { M with p := ps } v C := by
  have hoff : Off (fun q => q = b4 ∨ q = b8) W (W.setCell ⟨b4, 7, none⟩ v) := Off.setCell (S := fun q => q = b4 ∨ q = b8) (p := ⟨b4, 7, none⟩) (Off.refl _ W) (.inl rfl) _
  have hbs := t.t.b.size
  have tl := (t.later hb).t
  obtain ⟨ca, cc, e1, -, n1⟩ := tl.c
  obtain ⟨a2, c2, e3, -, n4⟩ := NuX.of_own hown (by omega) (Array.getElem?_eq_some_iff.1 t.t.m).1 (Array.getElem?_eq_some_iff.1 t.t.r).1
  refine ⟨fun z hz => ⟨fun a5 n5 c5 e => ?_, fun a5 n5 c5 e => ?_⟩, fun a5 n5 c5 e => ?_, fun a5 n5 c5 e => ?_⟩
  · have hlt := hS z hz
    obtain ⟨a, c, e4, -, n3⟩ := NuX.of_own hown (by omega) (b4 := z) (b8 := z) (by omega) (by omega)
    rw [e3] at e4
    injection e4 with e4
    subst e4
    rw [e3] at e
    injection e with e
    subst e
    exact n3.aside n4 hoff
  · have := ((h.1 z hz).2 a5 n5 c5 e).keep (Off.of_below hb)
    rw [e1] at e
    injection e with e
    subst e
    exact this.aside n1 hoff
  · have := NoM.of_own hown (by decide) a5 n5 c5 e
    rw [e3] at e
    injection e with e
    subst e
    exact this.aside n4 hoff
  · have := (h.2.2 a5 n5 c5 e).below hb
    rw [e1] at e
    injection e with e
    subst e
    exact this.aside n1 hoff
theorem Shun.set3 {S : Nat → Prop} {w W : World} {b4 b8 b11 : Nat} {M : Mg} {P C : Value} {x y : Int} (h : Shun S W M P C) (t : ThreeM w b4 b8 b11 M W P C x y) (j : Nat) (u : Value) : Shun S (W.setCell ⟨b11, j, none⟩ u) M P C := by
  have hoff : Off (fun q => q = b11 ∨ q = b11) W (W.setCell ⟨b11, j, none⟩ u) := Off.setCell (S := fun q => q = b11 ∨ q = b11) (p := ⟨b11, j, none⟩) (Off.refl _ W) (.inl rfl) _
  exact ⟨fun z hz => ⟨fun a n c e => ((h.1 z hz).1 a n c e).aside (t.p a n c e) hoff, fun a n c e => ((h.1 z hz).2 a n c e).aside (t.c a n c e) hoff⟩, fun a n c e => (h.2.1 a n c e).aside (t.p a n c e) hoff, fun a n c e => (h.2.2 a n c e).aside (t.c a n c e) hoff⟩
set_option maxHeartbeats 8000000 in
theorem rpath18_any (S : Nat → Prop) (M : Mg) (P C : Value) (n : Nat) (A : Option Addr) (len cap : Nat) (l : List Int) (at' : Nat) (w : World) (hlen : l.length = len) (hll : len ≤ 1000000) (hby : Bys l) (hA : Nums .u8 w w.heap.size A l) (hat : at' ≤ len) (hn : n ≤ 40) (hm : M.p.length ≤ 40) (h1 : MAt w w.heap.size M P C) (hS : ∀ x, S x → x < w.heap.size) (hsh : Shun S w M P C) :
    Calls Tryz.prog 91 #[mV M P C, .int .i64 (n : Int), .slice A len cap, .int .i64 (at' : Int)] w fun e w' => RdS S w ((rdP n (0, 0) (l.drop at')).1, (rdP n (0, 0) (l.drop at')).2.1, { M with p := M.p ++ (rdP n (0, 0) (l.drop at')).2.2 }) at' e w' := by
  obtain ⟨w2, hw2⟩ : ∃ w2, (w.alloc (.cells (mC M P C) 38)).alloc (.cells #[.int .i64 0, .int .i64 0, .int .i64 0, .int .i64 0, .int .i64 0, .int .i64 0, .int .i64 0, .slice none 0 0, .slice none 0 0, .string ⟨#[]⟩, .string ⟨#[]⟩] 38) = w2 := ⟨_, rfl⟩
  have hT : TwoM w w.heap.size (w.heap.size + 1) M w2 P C := by rw [← hw2]; exact TwoM.start h1
  have hs2 : w2.heap.size = w.heap.size + 2 := by rw [← hw2]; simp
  have HW2 := Lib.hid hw2
  have HT := Lib.hid hT
  have HA := Lib.hid hA
  have HLEN := Lib.hid hlen
  have HBY := Lib.hid hby
  have KG : Hid (∀ (q : Nat) W, q ≤ len → Below w.heap.size w W → Calls Tryz.prog 88 #[.slice A len cap, .int .i64 (q : Int)] W fun e w' => RGetR (q : Int) (Vi.get (l.drop q)) e ∧ W = w') := Lib.hid fun q W hq hW => by
    have := rget_len w.heap.size A len cap l (q : Int) W hlen (by omega) (by omega) (by omega) hby (hA.below hW)
    rwa [Int.toNat_natCast] at this
  obtain ⟨R, hR⟩ : ∃ R, rdP n (0, 0) (l.drop at') = R := ⟨_, rfl⟩
  rw [hR]
  have HR := Lib.hid hR
  have hT3 : ThreeM w w.heap.size (w.heap.size + 1) (w.heap.size + 1 + 1) { M with p := M.p ++ [] } (w2.alloc (.cells #[.int .i64 0, .int .i64 0] 77)) P C 0 0 := by
    have hb3 : Below w2.heap.size w2 (w2.alloc (.cells #[.int .i64 0, .int .i64 0] 77)) := (Below.refl _ w2).alloc (Nat.le_refl _) _
    obtain ⟨⟨pa, pc, e1, -, e2⟩, ⟨ca, cc, e3, -, e4⟩⟩ := h1
    have hb : Below w.heap.size w (w2.alloc (.cells #[.int .i64 0, .int .i64 0] 77)) := hT.b.trans (hb3.mono hT.b.size)
    have e2' := e2.below hb
    have e4' := e4.below hb
    have := World.alloc_heap_new w2 (.cells #[.int .i64 0, .int .i64 0] 77)
    rw [hs2] at this
    rw [List.append_nil]
    exact ⟨hT.later hb3, this, ⟨by omega, by omega, by omega⟩, fun a n c e => by rw [e1] at e; injection e with e; subst e; exact NuX.of e2' (by omega) (by omega), fun a n c e => by rw [e3] at e; injection e with e; subst e; exact NuX.of e4' (by omega) (by omega)⟩
  have HT3 := Lib.hid hT3
  have HSB : Hid (Shun S (w2.alloc (.cells #[.int .i64 0, .int .i64 0] 77)) { M with p := M.p ++ [] } P C) := Lib.hid (by rw [List.append_nil]; exact hsh.later hT3.t.b)
  clear hsh
  clear hT3 hw2 hT hA hlen hby h1 hR
  unfold mV
  go_enter Tryz.func91, Tryz.ntmps91
  go_wp2_with fail
  rw [HW2.out]
  go_loopw [3, 12, 13, 14, 15, 16, 17] (fun sa si _ _ _ _ _ wr => ∃ (j u : Nat) (x y : Int) (L : List (Int × Int)) (Pj : Value), j ≤ n ∧ sa = .int .i64 ((at' + u : Nat) : Int) ∧ si = .int .i64 (j : Int) ∧ at' + u ≤ len ∧ (-1000000 ≤ x ∧ x ≤ 1000000) ∧ (-1000000 ≤ y ∧ y ≤ 1000000) ∧ L.length = j ∧
    Hid (R = ((rdP (n - j) (x, y) (l.drop (at' + u))).1, u + (rdP (n - j) (x, y) (l.drop (at' + u))).2.1, L ++ (rdP (n - j) (x, y) (l.drop (at' + u))).2.2)) ∧ Hid (ThreeM w w.heap.size (w.heap.size + 1) (w.heap.size + 1 + 1) { M with p := M.p ++ L } wr Pj C x y) ∧ Hid (Shun S wr { M with p := M.p ++ L } Pj C)) (fun _ si _ _ _ _ _ _ => n - (intOf si).toNat)
  case atStart => exact ⟨0, 0, 0, 0, [], P, by omega, rfl, rfl, by omega, by omega, by omega, rfl, by rw [Nat.add_zero, Nat.sub_zero, HR.out]; exact Lib.hid (by simp), HT3, HSB⟩
  case round =>
    obtain ⟨j, u, x, y, L, Pj, hj, rfl, rfl, hu, hx, hy, hL, HE, HM, HSH⟩ := hrel
    rcases Nat.lt_or_ge j n with hlt | hge
    · have hj2 : (j : Int) < (n : Int) := by omega
      obtain ⟨q, hq⟩ : ∃ q, at' + u = q := ⟨_, rfl⟩
      rw [hq] at hu HE ⊢
      go_wp2_with fail
      go_loopw [3, 13, 14, 15, 16, 17] (fun sa sk _ _ _ _ wv => ∃ (k c : Nat) (x' y' : Int), k ≤ 2 ∧ sk = .int .i64 (k : Int) ∧ sa = .int .i64 ((q + c : Nat) : Int) ∧ q + c ≤ len ∧ (-1000000 ≤ x' ∧ x' ≤ 1000000) ∧ (-1000000 ≤ y' ∧ y' ≤ 1000000) ∧ Hid (PIn x y (l.drop q) k c x' y') ∧ Hid (ThreeM w w.heap.size (w.heap.size + 1) (w.heap.size + 1 + 1) { M with p := M.p ++ L } wv Pj C x' y') ∧ Hid (Shun S wv { M with p := M.p ++ L } Pj C)) (fun _ sk _ _ _ _ _ => 2 - (intOf sk).toNat)
      case atStart => exact ⟨0, 0, x, y, by omega, rfl, rfl, by omega, hx, hy, Lib.hid ⟨fun _ => ⟨rfl, rfl, rfl⟩, fun h => absurd h (by decide), fun h => absurd h (by decide)⟩, HM, HSH⟩
      case round =>
        obtain ⟨k, c, x', y', hk, rfl, rfl, hc, hx', hy', HPI, HV, HSI⟩ := hrel
        obtain ⟨qc, hqc⟩ : ∃ qc, q + c = qc := ⟨_, rfl⟩
        rw [hqc] at hc ⊢
        rcases Nat.lt_or_ge k 2 with hk2 | hk2
        · have hk3 : (k : Int) < 2 := by omega
          obtain ⟨v, hv⟩ : ∃ v, (if k = 0 then x' else y') = v := ⟨_, rfl⟩
          have hvb : -1000000 ≤ v ∧ v ≤ 1000000 := by rw [← hv]; split <;> omega
          have K := KG.out qc wr hc HV.out.t.b
          have hle := Vi.get_le (l.drop qc)
          obtain ⟨rx, hrx⟩ : ∃ rx, rdX v (l.drop qc) = rx := ⟨_, rfl⟩
          have hrd := hrx
          unfold rdX at hrd
          obtain ⟨⟨z, kk, er⟩, hg⟩ : ∃ g, Vi.get (l.drop qc) = g := ⟨_, rfl⟩
          rw [hg] at K hle hrd
          simp only at hle hrd
          unfold RGetR at K
          simp only at K
          rw [List.length_drop, HLEN.out] at hle
          have HRD := Lib.hid hrd
          have HRX := Lib.hid (show rdX (if k = 0 then x' else y') ((l.drop q).drop c) = rx by rw [hv, List.drop_drop, hqc]; exact hrx)
          have HVV := Lib.hid hv
          have e11 : wr.cell? ⟨w.heap.size + 1 + 1, k, none⟩ = some (.int .i64 v) := by
            rw [← hv]
            rcases (show k = 0 ∨ k = 1 by omega) with rfl | rfl
            · exact row_cell HV.out.bx 0 _ rfl
            · exact row_cell HV.out.bx 1 _ rfl
          have HE11 := Lib.hid e11
          have K := Lib.hid K
          clear hrd hg hrx hv e11
          go_wp2_with fail
          refine K.out.mono ?_
          rintro e w3 ⟨rfl, rfl⟩
          clear K
          by_cases her : er = 0
          · subst her
            have hrd := HRD.out
            simp only [ne_eq, not_true_eq_false, if_false] at hrd
            have KZ := Lib.hid (rzag_any (z : Int) wr (by omega) (by omega))
            clear HRD
            go_wp2_with fail
            refine KZ.out.mono ?_
            rintro e w3 ⟨rfl, rfl⟩
            clear KZ
            obtain ⟨d, hd⟩ : ∃ d, zagZ (z : Int) = d := ⟨_, rfl⟩
            rw [hd] at hrd ⊢
            have hdb : -9223372036854775808 ≤ d ∧ d ≤ 9223372036854775807 := by
              rw [← hd]
              unfold zagZ
              split <;> omega
            clear hd
            by_cases hf : v + d < -1000000 ∨ 1000000 < v + d
            · rw [if_pos hf] at hrd
              have HR5 := Lib.hid hrd.symm
              clear hrd
              by_cases hd1 : d < -2000000
              · obtain ⟨W', hst, hres, hmat, hbel, hshu⟩ := HV.out.t.retS HSI.out
                have HLD := Lib.hid (mr_look HV.out.t.m)
                have HST := Lib.hid hst
                have HFI := Lib.hid (And.intro hmat (And.intro hbel hshu))
                have HRS := Lib.hid hres
                clear hst hres hmat hbel hshu
                go_wp2_with (first | refine wpList_load_run rfl 38 (.tmp 4) rfl (some ⟨w.heap.size, 0, none⟩) rfl (.agg (mC { M with p := M.p ++ L } Pj C)) HLD.out ?_ | refine wpList_store_run rfl 38 (.tmp 8) (.tmp 56) rfl (some ⟨w.heap.size + 1, 0, none⟩) rfl (.agg (mC { M with p := M.p ++ L } Pj C)) rfl HST.out ?_)
                obtain ⟨y0, y1, y2, y3, y4, y5, y6, y7, y8, y9, y10⟩ := mg_block HRS.out
                refine bodyPost_ret (v := .tuple #[.agg (mC { M with p := M.p ++ L } Pj C), .int .i64 ((qc : Int)), .int .i64 (5)]) (by simp [results, Tryz.results91, go_sem, y0, y1, y2, y3, y4, y5, y6, y7, y8, y9, y10, mC]) rfl ?_
                have hE := HE.out
                have hp := HPI.out.err hk2 (HRX.out.trans HR5.out) (by decide) (n - j - 1)
                rw [show n - j - 1 + 1 = n - j by omega] at hp
                rw [hp] at hE
                rw [hE]
                exact ⟨_, Pj, C, _, rfl, HFI.out.1, HFI.out.2.1, HFI.out.2.2, fun h => by simp at h⟩
              · by_cases hd2 : 2000000 < d
                · obtain ⟨W', hst, hres, hmat, hbel, hshu⟩ := HV.out.t.retS HSI.out
                  have HLD := Lib.hid (mr_look HV.out.t.m)
                  have HST := Lib.hid hst
                  have HFI := Lib.hid (And.intro hmat (And.intro hbel hshu))
                  have HRS := Lib.hid hres
                  clear hst hres hmat hbel hshu
                  go_wp2_with (first | refine wpList_load_run rfl 38 (.tmp 4) rfl (some ⟨w.heap.size, 0, none⟩) rfl (.agg (mC { M with p := M.p ++ L } Pj C)) HLD.out ?_ | refine wpList_store_run rfl 38 (.tmp 8) (.tmp 56) rfl (some ⟨w.heap.size + 1, 0, none⟩) rfl (.agg (mC { M with p := M.p ++ L } Pj C)) rfl HST.out ?_)
                  obtain ⟨y0, y1, y2, y3, y4, y5, y6, y7, y8, y9, y10⟩ := mg_block HRS.out
                  refine bodyPost_ret (v := .tuple #[.agg (mC { M with p := M.p ++ L } Pj C), .int .i64 ((qc : Int)), .int .i64 (5)]) (by simp [results, Tryz.results91, go_sem, y0, y1, y2, y3, y4, y5, y6, y7, y8, y9, y10, mC]) rfl ?_
                  have hE := HE.out
                  have hp := HPI.out.err hk2 (HRX.out.trans HR5.out) (by decide) (n - j - 1)
                  rw [show n - j - 1 + 1 = n - j by omega] at hp
                  rw [hp] at hE
                  rw [hE]
                  exact ⟨_, Pj, C, _, rfl, HFI.out.1, HFI.out.2.1, HFI.out.2.2, fun h => by simp at h⟩
                · have KF := Lib.hid (rfar_any (v + d) wr)
                  have e11 := HE11.out
                  go_wp2_with fail
                  refine KF.out.mono ?_
                  rintro e w3 ⟨rfl, rfl⟩
                  rw [decide_eq_true hf]
                  clear KF e11
                  obtain ⟨W', hst, hres, hmat, hbel, hshu⟩ := HV.out.t.retS HSI.out
                  have HLD := Lib.hid (mr_look HV.out.t.m)
                  have HST := Lib.hid hst
                  have HFI := Lib.hid (And.intro hmat (And.intro hbel hshu))
                  have HRS := Lib.hid hres
                  clear hst hres hmat hbel hshu
                  go_wp2_with (first | refine wpList_load_run rfl 38 (.tmp 4) rfl (some ⟨w.heap.size, 0, none⟩) rfl (.agg (mC { M with p := M.p ++ L } Pj C)) HLD.out ?_ | refine wpList_store_run rfl 38 (.tmp 8) (.tmp 56) rfl (some ⟨w.heap.size + 1, 0, none⟩) rfl (.agg (mC { M with p := M.p ++ L } Pj C)) rfl HST.out ?_)
                  obtain ⟨y0, y1, y2, y3, y4, y5, y6, y7, y8, y9, y10⟩ := mg_block HRS.out
                  refine bodyPost_ret (v := .tuple #[.agg (mC { M with p := M.p ++ L } Pj C), .int .i64 ((qc : Int)), .int .i64 (5)]) (by simp [results, Tryz.results91, go_sem, y0, y1, y2, y3, y4, y5, y6, y7, y8, y9, y10, mC]) rfl ?_
                  have hE := HE.out
                  have hp := HPI.out.err hk2 (HRX.out.trans HR5.out) (by decide) (n - j - 1)
                  rw [show n - j - 1 + 1 = n - j by omega] at hp
                  rw [hp] at hE
                  rw [hE]
                  exact ⟨_, Pj, C, _, rfl, HFI.out.1, HFI.out.2.1, HFI.out.2.2, fun h => by simp at h⟩
            · rw [if_neg hf] at hrd
              have HR0 := Lib.hid hrd.symm
              have hd1 : ¬ d < -2000000 := by omega
              have hd2 : ¬ 2000000 < d := by omega
              have KF := Lib.hid (rfar_any (v + d) wr)
              have e11 := HE11.out
              have z11 := frozen_of_row wr (w.heap.size + 1 + 1) k _ _ HV.out.bx
              clear hrd
              go_wp2_with fail
              refine KF.out.mono ?_
              rintro e w3 ⟨rfl, rfl⟩
              rw [decide_eq_false hf]
              clear KF
              go_wp2_with fail
              refine ⟨⟨k + 1, c + kk, if k = 0 then v + d else x', if k = 0 then y' else v + d, by omega, by go_num, by congr 1; omega, by omega, by split <;> omega, by split <;> omega, Lib.hid (HPI.out.next hk2 (HRX.out.trans HR0.out)), Lib.hid (HV.out.set ?_), Lib.hid (HSI.out.set3 HV.out _ _)⟩, by simp only [intOf]; omega⟩
              rcases (show k = 0 ∨ k = 1 by omega) with rfl | rfl <;> rfl
          · have her' : ((er : Nat) : Int) ≠ 0 := by omega
            have hrd := HRD.out
            rw [if_pos her] at hrd
            have HR5 := Lib.hid hrd.symm
            clear hrd
            obtain ⟨W', hst, hres, hmat, hbel, hshu⟩ := HV.out.t.retS HSI.out
            have HLD := Lib.hid (mr_look HV.out.t.m)
            have HST := Lib.hid hst
            have HFI := Lib.hid (And.intro hmat (And.intro hbel hshu))
            have HRS := Lib.hid hres
            clear hst hres hmat hbel hshu
            go_wp2_with (first | refine wpList_load_run rfl 38 (.tmp 4) rfl (some ⟨w.heap.size, 0, none⟩) rfl (.agg (mC { M with p := M.p ++ L } Pj C)) HLD.out ?_ | refine wpList_store_run rfl 38 (.tmp 8) (.tmp 37) rfl (some ⟨w.heap.size + 1, 0, none⟩) rfl (.agg (mC { M with p := M.p ++ L } Pj C)) rfl HST.out ?_)
            obtain ⟨y0, y1, y2, y3, y4, y5, y6, y7, y8, y9, y10⟩ := mg_block HRS.out
            refine bodyPost_ret (v := .tuple #[.agg (mC { M with p := M.p ++ L } Pj C), .int .i64 ((qc : Int)), .int .i64 ((er : Int))]) (by simp [results, Tryz.results91, go_sem, y0, y1, y2, y3, y4, y5, y6, y7, y8, y9, y10, mC]) rfl ?_
            have hE := HE.out
            have hp := HPI.out.err hk2 (HRX.out.trans HR5.out) her (n - j - 1)
            rw [show n - j - 1 + 1 = n - j by omega] at hp
            rw [hp] at hE
            rw [hE]
            exact ⟨_, Pj, C, _, rfl, HFI.out.1, HFI.out.2.1, HFI.out.2.2, fun h => absurd h her⟩
        · obtain rfl : k = 2 := by omega
          go_wp2_with fail
          obtain ⟨pa, pc, hpj, hpc, hpn⟩ := HV.out.t.p
          simp only at hpj hpc hpn
          obtain ⟨np, hnp⟩ : ∃ np, (M.p ++ L).length = np := ⟨_, rfl⟩
          rw [hnp] at hpj hpc
          subst hpj
          obtain ⟨ip, hip, hzp, hzp1, hzp2⟩ := info_parts r2Info
          have hnl : (fl2 (M.p ++ L)).length = np * 2 := by rw [fl2_len, hnp]
          have hnb : np ≤ 80 := by rw [← hnp, List.length_append]; omega
          have HNP := Lib.hid hnp
          have HPN := Lib.hid hpn
          clear hpn hnp
          refine wp_region_FM 76 6 20 72 [66, 69, 71, 72] (FPp wr.heap.size (fl2 (M.p ++ L)) np x' y') (fun W => Below wr.heap.size wr W) (fun _ W u w' => w'.ownsRow wr.heap.size 77 2 u (np + 1) ((fl2 (M.p ++ L)).map (Value.int .i64) ++ [.int .i64 x', .int .i64 y']) ∧ Below wr.heap.size wr w') (fun w' => ∃ Pn, ThreeM w w.heap.size (w.heap.size + 1) (w.heap.size + 1 + 1) { M with p := M.p ++ (L ++ [(x', y')]) } w' Pn C x' y' ∧ Shun S w' { M with p := M.p ++ (L ++ [(x', y')]) } Pn C) (by kernel_rfl) (by kernel_rfl) (by kernel_rfl) (by kernel_rfl) (by kernel_rfl) (by simp) (by simp) (fun W W' h hb => h.trans (hb.mono h.size)) (fun q x W W' h hb => h.later hb) (fun _ _ => by unfold FPp; simp) (fun _ _ _ _ _ _ h => h) (Below.refl _ _).drew ?_
          refine wpFM_step (wpF_src 66 (by simp) rfl rfl rfl (fun W hW => ⟨.slice (some ⟨W.heap.size, 0, none⟩) 0 0, W.alloc (.cells #[] 77), by simp [go_sem], ?_, (Below.refl _ _).alloc (Nat.le_refl _) _⟩) ?_)
          · unfold FPp
            rw [if_pos rfl]
            exact ⟨_, rfl, World.ownsRow_made W #[] 0 hW.size (by unfold maxLen; omega) rfl⟩
          simp only [Act.put, List.setIfInBounds_toArray, List.set_cons_succ, List.set_cons_zero]
          refine wpFM_step (wpF_pure rfl rfl ?_); go_big_quiet_step (fail); refine wpQuiet_nil ?_
          refine wpFM_step (wpF_load (.slice pa np pc) rfl (by rfl) (by rfl) (by rfl) (fun W hW => by have e7 := row_cell (HV.out.later hW).t.m 7 (.slice pa np pc) rfl; simp [Instr.loadAt, go_sem, e7]) ?_)
          simp only [Act.put, List.setIfInBounds_toArray, List.set_cons_succ, List.set_cons_zero]
          refine wpFM_step (wpF_mix 69 [66] (by simp) rfl (by kernel_rfl) (by kernel_rfl) (fun xs => by rfl) (fun xs W hW hx => ?_) ?_)
          · have h66 := hx 66 (by simp)
            unfold FPp at h66
            rw [if_pos rfl] at h66
            obtain ⟨g, e66, hg⟩ := h66
            rw [e66] at hg
            by_cases hnil : np = 0
            · subst hnil
              have hz : fl2 (M.p ++ L) = [] := List.eq_nil_of_length_eq_zero (by omega)
              refine ⟨_, W, exec_appendH (v2 := .slice pa 0 pc) (.tmp 66) (.tmp 68) 36 rfl (by simp [fill, Act.put, Act.eval, e66]) (by simp [fill, Act.put, Act.eval]) (run_append_nothing W 36 36 _ 77 ip Tryz.underlying36 hip (some ⟨g, 0, none⟩) 0 0 (Nat.le_refl _) _ ?_), ?_, Below.refl _ _⟩
              · cases pa with
                | none => exact ⟨.inl ⟨77, Tryz.underlying36⟩, fun _ => rfl, run_firstCells_none W ip.size 0 0 pc, run_firstCells_none W.drew ip.size 0 0 pc, by simp, fun _ h => by cases h⟩
                | some ad => exact Src.ofSlice W Tryz.underlying36 ad 0 pc [] (by simp) (by simp) (fun _ h => by cases h)
              · unfold FPp
                rw [if_neg (by decide), if_pos rfl, hz]
                exact hg
            · obtain ⟨b1, o1, rfl, -, -, hcl⟩ := (HPN.out.keep (Off.of_below hW)) (fun h => by rw [h] at hnl; simp at hnl; omega)
              obtain ⟨x9, w9, hrun, hown, hgr⟩ := run_append_arg_grows (P := Tryz.prog) (w := W) 36 36 77 ip _ 2 16 Tryz.underlying36 hip hzp hzp1 hzp2 rfl (by decide)
                ⟨g, 0, none⟩ 0 0 [] (by rfl) (fun j u hj => by simp at hj) ⟨b1, o1, none⟩ np pc ((fl2 (M.p ++ L)).map (Value.int .i64)) (by rw [List.length_map, hnl])
                (fun j u hj => by
                  rw [List.getElem?_map] at hj
                  obtain ⟨y, hy, rfl⟩ := Option.map_eq_some_iff.1 hj
                  rw [Addr.add_lit]
                  exact hcl j y hy) (by omega) (by unfold maxLen; omega) (by omega)
              refine ⟨x9, w9, exec_appendH (.tmp 66) (.tmp 68) 36 rfl (by simp [fill, Act.put, Act.eval, e66]) (by simp [fill, Act.put, Act.eval]) hrun, ?_, ⟨hgr.os, hgr.tape, hgr.output, hgr.size, fun q hq => hgr.block q hq (by simp)⟩⟩
              unfold FPp
              rw [if_neg (by decide), if_pos rfl]
              rw [Nat.zero_add, List.nil_append] at hown
              exact ⟨hown.1, hown.2.imp id fun ⟨g, cap, cur, hv, hg, r⟩ => ⟨g, cap, cur, hv, Nat.le_trans hW.size hg, r⟩⟩
          simp only [Act.put, List.setIfInBounds_toArray, List.set_cons_succ, List.set_cons_zero]
          refine wpFM_step (wpF_load (.agg #[.int .i64 x', .int .i64 y']) rfl (by rfl) (by rfl) (by rfl) (fun W hW => by have e0 := row_cell (HV.out.later hW).bx 0 _ rfl; have e1 := row_cell (HV.out.later hW).bx 1 _ rfl; simp [Instr.loadAt, go_sem, e0, e1]) ?_)
          simp only [Act.put, List.setIfInBounds_toArray, List.set_cons_succ, List.set_cons_zero]
          refine wpFM_step (wpF_src 71 (by simp) rfl rfl rfl (fun W hW => ⟨.slice (some ⟨W.heap.size, 0, none⟩) 1 1, W.alloc (.cells #[.int .i64 x', .int .i64 y'] 77), by simp [go_sem], ?_, (Below.refl _ _).alloc (Nat.le_refl _) _⟩) ?_)
          · unfold FPp
            rw [if_neg (by decide), if_neg (by decide), if_pos rfl]
            exact ⟨_, rfl, World.alloc_heap_new _ _⟩
          simp only [Act.put, List.setIfInBounds_toArray, List.set_cons_succ, List.set_cons_zero]
          refine wpFM_mid rfl (by kernel_rfl) (fun xs => by rfl) (fun xs W hW hx => ?_) ?_
          · have h69 := hx 69 (by simp) (by decide)
            have h71 := hx 71 (by simp) (by decide)
            unfold FPp at h69 h71
            rw [if_neg (by decide), if_pos rfl] at h69
            rw [if_neg (by decide), if_neg (by decide), if_pos rfl] at h71
            obtain ⟨g, e71, hg⟩ := h71
            obtain ⟨x9, w9, hrun, hown, hgr, -, -⟩ := run_append_own_at (P := Tryz.prog) (w := W) wr.heap.size 36 36 77 ip _ 2 16 Tryz.underlying36 hip hzp hzp1 hzp2 rfl (by decide) (xs 69) np _ h69 ⟨g, 0, none⟩ 1 1 [.int .i64 x', .int .i64 y'] (by rfl) (fun j u hj => by rw [Addr.add_lit, Nat.zero_add]; simp [World.cell?, hg, ← hj]) (by simp [Value.oneCell']) (by unfold maxLen; omega) (by omega) hW.size
            refine ⟨x9, w9, exec_appendH (.tmp 69) (.tmp 71) 36 rfl (by simp [fill, Act.put, Act.eval]) (by simp [fill, Act.put, Act.eval, e71]) hrun, hown, ?_⟩
            refine hW.grown hgr hW.size (fun g hk => ?_)
            rcases h69.2 with ⟨e, _⟩ | ⟨g', cap, cur, e, hg', _⟩
            · rw [e] at hk; simp [Value.ownBlock] at hk
            · rw [e] at hk; simp [Value.ownBlock] at hk; omega
          simp only [Act.put, List.setIfInBounds_toArray, List.set_cons_succ, List.set_cons_zero]
          refine wpFMe_pure (wpFS_pure rfl rfl ?_); go_big_quiet_step (fail); refine wpQuiet_nil ?_
          show wpFMe _ _ _ _ _ _ _ _ _ _ _
          refine wpFMe_store (t := 36) (x := .tmp 73) (y := .tmp 72) (by rfl) (by rfl) (by rfl) (fun xs W W9 hW hx hst => ?_) ?_
          · obtain ⟨hown, hb9⟩ := hst
            have hfl : fl2 (M.p ++ (L ++ [(x', y')])) = fl2 (M.p ++ L) ++ [x', y'] := by rw [← List.append_assoc, fl2_app]; rfl
            have hln : (M.p ++ (L ++ [(x', y')])).length = np + 1 := by rw [← List.append_assoc, List.length_append, HNP.out]; rfl
            obtain ⟨a9, c9, e9, hT9⟩ := HV.out.path (W := W9) (v := xs 72) (ps := M.p ++ (L ++ [(x', y')])) hb9 (by rw [hln, hfl, List.map_append]; exact hown)
            have m9 := (HV.out.later hb9).t.m
            have c7 := row_cell m9 7 (.slice pa np pc) rfl
            have z7 := frozen_of_row W9 w.heap.size 7 _ _ m9
            have hs9 := HSI.out.path HV.out hS (W := W9) (v := xs 72) (ps := M.p ++ (L ++ [(x', y')])) hb9 (by rw [hln, hfl, List.map_append]; exact hown)
            refine ⟨_, ?_, ⟨_, hT9, hs9⟩⟩
            simp [fill, Act.put, Act.eval, e9, Instr.storeAt, go_sem, c7, z7]
          intro xs w9 hs9
          obtain ⟨Pn, hT9, hS9⟩ := hs9
          have HS9 := Lib.hid hS9
          clear hS9
          simp only [fill, Act.put, List.setIfInBounds_toArray, List.set_cons_succ, List.set_cons_zero]
          have HT9 := Lib.hid hT9
          clear hT9
          simp only [Exit.inBlock, Exit.then]
          go_wp2_with fail
          have hE := HE.out
          have hp := HPI.out.two (n - j - 1)
          rw [show n - j - 1 + 1 = n - j by omega] at hp
          rw [hp] at hE
          refine ⟨⟨j + 1, u + c, x', y', L ++ [(x', y')], Pn, by omega, by congr 1; omega, by go_num, by omega, by omega, by omega, by simp [hL], ?_, HT9, HS9⟩, by simp only [intOf]; omega⟩
          refine Lib.hid ?_
          rw [hE, List.drop_drop, show q + c = at' + (u + c) by omega, Nat.sub_sub, Nat.add_assoc, List.append_assoc]
          rfl
    · obtain rfl : j = n := by omega
      obtain ⟨W', hst, hres, hmat, hbel, hshu⟩ := HM.out.t.retS HSH.out
      have HLD := Lib.hid (mr_look HM.out.t.m)
      have HST := Lib.hid hst
      have HFI := Lib.hid (And.intro hmat (And.intro hbel hshu))
      have HRS := Lib.hid hres
      clear hst hres hmat hbel hshu
      go_wp2_with (first | refine wpList_load_run rfl 38 (.tmp 4) rfl (some ⟨w.heap.size, 0, none⟩) rfl (.agg (mC { M with p := M.p ++ L } Pj C)) HLD.out ?_ | refine wpList_store_run rfl 38 (.tmp 8) (.tmp 74) rfl (some ⟨w.heap.size + 1, 0, none⟩) rfl (.agg (mC { M with p := M.p ++ L } Pj C)) rfl HST.out ?_)
      obtain ⟨y0, y1, y2, y3, y4, y5, y6, y7, y8, y9, y10⟩ := mg_block HRS.out
      refine bodyPost_ret (v := .tuple #[.agg (mC { M with p := M.p ++ L } Pj C), .int .i64 (((at' + u : Nat) : Int)), .int .i64 (0)]) (by simp [results, Tryz.results91, go_sem, y0, y1, y2, y3, y4, y5, y6, y7, y8, y9, y10, mC]) rfl ?_
      have hE := HE.out
      rw [Nat.sub_self, rdP] at hE
      simp only [Nat.add_zero, List.append_nil] at hE
      rw [hE]
      exact ⟨_, Pj, C, _, rfl, HFI.out.1, HFI.out.2.1, HFI.out.2.2, fun _ => ⟨rfl, rfl⟩⟩
end Go.Proofs.YtlbfibnfmijahaaGreat

namespace Go.Proofs.YtlbfibnfmijahaaGreat
open Go.RowKit Go.Shelf
set_option maxRecDepth 100000
attribute [local go_sem] Oper.semAt_some

/-- while cells are read: the message's box, the lens, the cells' own row, the last cell's box -/
structure CSt (w : World) (lo mb lb ab bm : Nat) (zs : List Int) (N : Mg) (P : Value) (L : List Int) (a : Int) (p e : Nat) (C : Value) (W : World) : Prop where
  m : W.heap[mb]? = some (.cells (mC { N with c := L } P C) 26 (0, 0))
  l : LensAt W lo lb zs p e
  o : W.ownsRow w.heap.size 3 1 C L.length (L.map (Value.int .i64))
  at' : W.heap[ab]? = some (.cells #[.int .i64 a] 3 (0, 0))
  pm : W.heap[bm]? = some (.cells #[.pointer (some ⟨mb, 0, none⟩)] 121 (0, 0))
  off : Off (fun q => q = mb ∨ q = lb ∨ q = ab) w W
  lt : lb < mb ∧ mb < ab ∧ mb < bm ∧ ab < w.heap.size ∧ bm < w.heap.size
section
variable {w W W' : World} {lo mb lb ab bm : Nat} {zs : List Int} {N : Mg} {P C : Value} {L : List Int} {a : Int} {p e p' e' : Nat}
theorem CSt.later (h : CSt w lo mb lb ab bm zs N P L a p e C W) (hb : Below W.heap.size W W') : CSt w lo mb lb ab bm zs N P L a p e C W' :=
  ⟨(hb.block _ (Array.getElem?_eq_some_iff.1 h.m).1).trans h.m, h.l.below hb, own_below7 h.o hb, (hb.block _ (Array.getElem?_eq_some_iff.1 h.at').1).trans h.at', (hb.block _ (Array.getElem?_eq_some_iff.1 h.pm).1).trans h.pm, h.off.trans (Off.of_below (S := fun _ => False) hb) (fun _ _ e => e.elim), h.lt⟩
/-- the lens is turned -/
theorem CSt.turn (h : CSt w lo mb lb ab bm zs N P L a p e C W) (hl : LensAt W' lo lb zs p' e') (ho : Off (fun q => q = lb) W W') : CSt w lo mb lb ab bm zs N P L a p' e' C W' := by
  obtain ⟨h1, h2, h3, h4, h5⟩ := h.lt
  exact ⟨(ho.block _ (Array.getElem?_eq_some_iff.1 h.m).1 (by omega)).trans h.m, hl, own_offM h.o ho (fun g hg e => by have := (h.o.lt g hg).1; omega), (ho.block _ (Array.getElem?_eq_some_iff.1 h.at').1 (by omega)).trans h.at', (ho.block _ (Array.getElem?_eq_some_iff.1 h.pm).1 (by omega)).trans h.pm, h.off.trans ho (fun _ _ e => .inr (.inl e)), h.lt⟩
/-- the last cell is told -/
theorem CSt.set (h : CSt w lo mb lb ab bm zs N P L a p e C W) (y : Int) : CSt w lo mb lb ab bm zs N P L y p e C (W.setCell ⟨ab, 0, none⟩ (.int .i64 y)) := by
  obtain ⟨h1, h2, h3, h4, h5⟩ := h.lt
  have ho : Off (fun q => q = ab) W (W.setCell ⟨ab, 0, none⟩ (.int .i64 y)) := Off.setCell (S := fun q => q = ab) (p := ⟨ab, 0, none⟩) (Off.refl _ W) rfl _
  have hne := row_ne h.pm h.at' (by decide)
  exact ⟨(ho.block _ (Array.getElem?_eq_some_iff.1 h.m).1 (by omega)).trans h.m, h.l.off ho (fun k _ hk => by omega), own_offM h.o ho (fun g hg e => by have := (h.o.lt g hg).1; omega), by rw [setCell_at h.at']; rfl, (ho.block _ (Array.getElem?_eq_some_iff.1 h.pm).1 hne).trans h.pm, h.off.trans ho (fun _ _ e => .inr (.inr e)), h.lt⟩
/-- the cells have grown -/
theorem CSt.grow (h : CSt w lo mb lb ab bm zs N P L a p e C W) {v : Value} {y : Int} (hown : W'.ownsRow w.heap.size 3 1 v (L.length + 1) ((L ++ [y]).map (Value.int .i64))) (hg : W.grownBy W' C.ownBlock) :
    W'.heap[mb]? = some (.cells (mC { N with c := L } P C) 26 (0, 0)) ∧ W'.heap[ab]? = some (.cells #[.int .i64 a] 3 (0, 0)) ∧ CSt w lo mb lb ab bm zs N P (L ++ [y]) a p e v (W'.setCell ⟨mb, 8, none⟩ v) := by
  obtain ⟨h1, h2, h3, h4, h5⟩ := h.lt
  have ho : Off (fun q => C.ownBlock = some q) W W' := ⟨hg.os, hg.tape, hg.output, hg.size, fun k hk hn => hg.block k hk (fun e => hn e.symm)⟩
  have hno : ∀ q, q < w.heap.size → ¬ C.ownBlock = some q := fun q hq e => by have := (h.o.lt q e).1; omega
  have m1 := (ho.block _ (Array.getElem?_eq_some_iff.1 h.m).1 (hno _ (by omega))).trans h.m
  have a1 := (ho.block _ (Array.getElem?_eq_some_iff.1 h.at').1 (hno _ (by omega))).trans h.at'
  have b1 := (ho.block _ (Array.getElem?_eq_some_iff.1 h.pm).1 (hno _ (by omega))).trans h.pm
  have hof : Off (fun q => q = mb) W' (W'.setCell ⟨mb, 8, none⟩ v) := Off.setCell (S := fun q => q = mb) (p := ⟨mb, 8, none⟩) (Off.refl _ W') rfl _
  refine ⟨m1, a1, by rw [setCell_at m1]; rfl, (h.l.off ho (fun k _ hk => hno k (by omega))).off hof (fun k _ hk => by omega), own_offM (by simpa using hown) hof (fun g hg e => by have := (hown.lt g hg).1; omega), (hof.block _ (Array.getElem?_eq_some_iff.1 a1).1 (by omega)).trans a1, (hof.block _ (Array.getElem?_eq_some_iff.1 b1).1 (by omega)).trans b1, (h.off.trans ho (fun j hj e => absurd e (hno j hj))).trans hof (fun _ _ e => .inl e), h.lt⟩
end
set_option maxHeartbeats 8000000 in
theorem cellr_any (w : World) (lo mb lb ab bm : Nat) (zs : List Int) (N : Mg) (P : Value) (L : List Int) (a : Int) (p : Nat) (C : Value) (W : World) (h : CSt w lo mb lb ab bm zs N P L a p 0 C W) (ha0 : -1 ≤ a) (ha1 : a ≤ 65535) (hL : L.length ≤ 40) (hl : zs.length ≤ 1000000) (hz : Bys zs) :
    Calls Tryz.prog 102 #[.pointer (some ⟨lb, 0, none⟩), .pointer (some ⟨ab, 0, none⟩), .pointer (some ⟨bm, 0, none⟩)] W fun r W' =>
      r = .returned (.int .i64 ((rdG a (zs.drop p)).1 : Int)) ∧ Off (fun q => q = mb ∨ q = lb ∨ q = ab) w W' ∧ ((rdG a (zs.drop p)).1 = 0 → ∃ C', CSt w lo mb lb ab bm zs N P (L ++ [(rdG a (zs.drop p)).2.2]) (rdG a (zs.drop p)).2.2 (p + (rdG a (zs.drop p)).2.1) 0 C' W') := by
  obtain ⟨ii, hii, hzi, hzi1, hzi2⟩ := info_parts i64Info
  obtain ⟨X, u, er, hX, x0, x1, hu, hw⟩ := numR_ways (zs.drop p) 65535 (by omega)
  have KS : Hid (∀ V, LensAt V lo lb zs p 0 → Calls Tryz.prog 99 #[.pointer (some ⟨lb, 0, none⟩), .int .u64 65535] V fun r w' => r = .returned (.int .u64 X) ∧ LensAt w' lo lb zs (p + u) er ∧ Off (fun q => q = lb) V w') := Lib.hid fun V hV => by
    have K := lnum_any lo lb zs p 0 V 65535 hV (by omega) hz
    rw [hX] at K
    unfold ReadI at K
    simpa only [ansI, placeOf, errOf, if_true] using K
  obtain ⟨R, hR⟩ : ∃ R, rdG a (zs.drop p) = R := ⟨_, rfl⟩
  rw [hR]
  unfold rdG at hR
  obtain ⟨h1, h2, h3, h4, h5⟩ := h.lt
  have n1 := row_ne h.at' h.pm (by decide)
  have HH := Lib.hid h
  have HR := Lib.hid hR
  have HW := Lib.hid hw
  have hAt := h.at'
  have hlat := (Array.getElem?_eq_some_iff.1 hAt).1
  have lA : ∀ V, Off (fun q => q = lb) W V → (Instr.loadAt 3 (.pointer (some ⟨ab, 0, none⟩))).run Tryz.prog V = .ok (.int .i64 a) V := fun V hV => by
    have k := row_cell ((hV.block _ hlat (by omega)).trans hAt) 0 _ rfl
    simp [Instr.loadAt, go_sem, k]
  clear hR hw hX h hz hAt
  go_enter Tryz.func102, Tryz.ntmps102
  go_wp2_with fail
  refine wp_region_order8 6 (0 :: 1 :: 2 :: 3 :: 4 :: 5 :: []) (fun V => Off (fun q => q = lb) W V) (C := fun V => Below W.heap.size W V) (by kernel_rfl) (by kernel_rfl) (by kernel_rfl) (Below.refl _ _).drew (fun V hV => Off.of_below hV) ?_
  refine wpO4_load (ad := ⟨ab, 0, none⟩) (.int .i64 a) rfl rfl rfl (by rfl) lA ?_
  simp only [Act.put, List.setIfInBounds_toArray, List.set_cons_succ, List.set_cons_zero]
  repeat (refine wpO4_pure rfl rfl ?_; go_big_quiet_step (fail); refine wpQuiet_nil ?_)
  refine wpO4_call (fun v => v = .int .u64 X) (fun _ V => LensAt V lo lb zs (p + u) er ∧ Off (fun q => q = lb) W V) (f := 99) (args := #[.pointer (some ⟨lb, 0, none⟩), .int .u64 65535]) rfl rfl rfl (fun _ V hV => hV.2) (fun x => by first | rfl | (simp [go_sem]; done)) (fun V hV => (KS.out V (HH.out.later hV).l).mono (fun e w' h => ⟨_, h.1, rfl, h.2.1, (Off.of_below (S := fun q => q = lb) hV).trans h.2.2 (fun _ _ h => h)⟩)) ?_
  rintro v rfl
  simp only [Act.put, List.setIfInBounds_toArray, List.set_cons_succ, List.set_cons_zero]
  repeat (refine wpO4_pure rfl rfl ?_; go_big_quiet_step (fail); refine wpQuiet_nil ?_)
  rintro W1 ⟨hl1, ho1⟩
  simp only [List.drop_succ_cons, List.drop_zero]
  have g1 := HH.out.turn hl1 ho1
  have c0 := row_cell g1.at' 0 _ rfl
  have z0 := frozen_of_row W1 ab 0 _ _ g1.at'
  have g2 := g1.set (a + (X + 1))
  obtain ⟨y, hy⟩ : ∃ y, a + (X + 1) = y := ⟨_, rfl⟩
  rw [hy] at g2
  obtain ⟨W2, hW2⟩ : ∃ W2, W1.setCell ⟨ab, 0, none⟩ (.int .i64 y) = W2 := ⟨_, rfl⟩
  rw [hW2] at g2
  have HG2 := Lib.hid g2
  have HW2 := Lib.hid hW2
  have HY := Lib.hid hy
  clear g1 g2 hl1 ho1 lA KS hW2 hy
  go_wp2_with fail
  rw [HY.out, HW2.out]
  have hsw := HG2.out.off.size
  have lM : ∀ V, Below w.heap.size W2 V → (Instr.loadAt 121 (.pointer (some ⟨bm, 0, none⟩))).run Tryz.prog V = .ok (.pointer (some ⟨mb, 0, none⟩)) V := fun V hV => by
    have k := row_cell ((hV.block bm (by omega)).trans HG2.out.pm) 0 _ rfl
    simp [Instr.loadAt, go_sem, k]
  obtain ⟨ca, cc, hCv, hcc, hcn⟩ := nums_of_own HG2.out.o (by decide)
  have lC : ∀ V, Below w.heap.size W2 V → (Instr.loadAt 24 (.pointer (some ⟨mb, 8, none⟩))).run Tryz.prog V = .ok C V := fun V hV => by
    have k := row_cell ((hV.block mb (by omega)).trans HG2.out.m) 8 C rfl
    rw [hCv] at k ⊢
    simp [Instr.loadAt, go_sem, k]
  have lY : ∀ V, Below w.heap.size W2 V → (Instr.loadAt 3 (.pointer (some ⟨ab, 0, none⟩))).run Tryz.prog V = .ok (.int .i64 y) V := fun V hV => by
    have k := row_cell ((hV.block ab (by omega)).trans HG2.out.at') 0 _ rfl
    simp [Instr.loadAt, go_sem, k]
  refine wp_region_order9 8 (0 :: 1 :: 2 :: 3 :: 4 :: 5 :: 6 :: 7 :: []) (fun V => Below w.heap.size W2 V) (C := fun V => Below W2.heap.size W2 V) (by kernel_rfl) (by kernel_rfl) (by kernel_rfl) (Below.refl _ _).drew (fun V hV => hV.mono hsw) ?_
  refine wpO9_load (ad := ⟨bm, 0, none⟩) (.pointer (some ⟨mb, 0, none⟩)) rfl rfl rfl (by rfl) lM ?_
  simp only [Act.put, List.setIfInBounds_toArray, List.set_cons_succ, List.set_cons_zero]
  refine wpO9_load (ad := ⟨bm, 0, none⟩) (.pointer (some ⟨mb, 0, none⟩)) rfl rfl rfl (by rfl) lM ?_
  simp only [Act.put, List.setIfInBounds_toArray, List.set_cons_succ, List.set_cons_zero]
  refine wpO9_nil (ad := ⟨mb, 0, none⟩) rfl rfl rfl (by rfl) ?_
  simp only [Act.put, List.setIfInBounds_toArray, List.set_cons_succ, List.set_cons_zero]
  repeat (refine wpO9_pure rfl rfl ?_; go_big_quiet_step (fail); refine wpQuiet_nil ?_)
  refine wpO9_load (ad := ⟨mb, 8, none⟩) C rfl rfl rfl (by rfl) lC ?_
  simp only [Act.put, List.setIfInBounds_toArray, List.set_cons_succ, List.set_cons_zero]
  refine wpO9_load (ad := ⟨ab, 0, none⟩) (.int .i64 y) rfl rfl rfl (by rfl) lY ?_
  simp only [Act.put, List.setIfInBounds_toArray, List.set_cons_succ, List.set_cons_zero]
  refine wpO9_do (fun x => ∃ g, x = .slice (some ⟨g, 0, none⟩) 1 1) (fun x V => Below W2.heap.size W2 V ∧ ∀ g, x = .slice (some ⟨g, 0, none⟩) 1 1 → V.cell? ⟨g, 0, none⟩ = some (.int .i64 y)) rfl rfl rfl (fun _ V hV => hV.1.mono hsw) (fun V hV => ⟨.slice (some ⟨V.heap.size, 0, none⟩) 1 1, V.alloc (.cells #[.int .i64 y] 3), by simp [go_sem], ⟨_, rfl⟩, hV.alloc hV.size _, fun g hg => by
    injection hg with hg
    injection hg with hg
    injection hg with hg
    subst hg
    exact row_cell (World.alloc_heap_new V (.cells #[.int .i64 y] 3)) 0 _ rfl⟩) ?_
  rintro x ⟨g, rfl⟩
  simp only [Act.put, List.setIfInBounds_toArray, List.set_cons_succ, List.set_cons_zero]
  refine wpO9_do (fun v => ∃ A c, v = .slice A (L.length + 1) c) (fun v V => ∃ V3, Below W2.heap.size W2 V3 ∧ V.ownsRow w.heap.size 3 1 v (L.length + 1) ((L ++ [y]).map (Value.int .i64)) ∧ V3.grownBy V C.ownBlock) rfl rfl rfl (fun v V hV => ?_) (fun V hV => ?_) ?_
  · obtain ⟨V3, hb, -, hg⟩ := hV
    exact (hb.mono hsw).grown hg (Nat.le_trans hsw hb.size) (fun k hk => (HG2.out.o.lt k hk).1)
  · obtain ⟨hb, hc⟩ := hV
    have hc := hc g rfl
    obtain ⟨v', w', hrun, h6, h7, -⟩ := run_append_own (P := Tryz.prog) V w.heap.size 24 24 3 ii (.int .i64 0) 1 8 Tryz.underlying24 hii hzi hzi1 hzi2 rfl (by decide) C L.length (L.map (Value.int .i64)) (own_below7 HG2.out.o hb) ⟨g, 0, none⟩ 1 1 [.int .i64 y] rfl (fun j u hj => by
      rcases j with _ | j
      · simp at hj
        subst hj
        exact hc
      · simp at hj) (fun u hu => by simp at hu; subst hu; rfl) (by unfold maxLen; omega) (by omega) (Nat.le_trans hsw hb.size)
    have h8 : w'.ownsRow w.heap.size 3 1 v' (L.length + 1) ((L ++ [y]).map (Value.int .i64)) := by simpa using h6
    obtain ⟨a7, c7, e7, -, -⟩ := nums_of_own h8 (by decide)
    exact ⟨v', w', exec_appendH (.tmp 15) (.tmp 17) 24 rfl rfl rfl hrun, ⟨a7, c7, e7⟩, V, hb, h8, h7⟩
  rintro v7 ⟨a7, c7, rfl⟩
  simp only [Act.put, List.setIfInBounds_toArray, List.set_cons_succ, List.set_cons_zero]
  rintro w7 ⟨W3, hb3, hown, hgr⟩
  simp only [List.drop_succ_cons, List.drop_zero]
  have HG3 := HG2.out.later hb3
  obtain ⟨m7, a7', g7⟩ := HG3.grow hown hgr
  have k8 := row_cell m7 8 C rfl
  rw [hCv] at k8
  have z8 := frozen_of_row w7 mb 8 _ _ m7
  have k9 := row_cell a7' 0 _ rfl
  have HG7 := Lib.hid g7
  clear hown hgr m7 g7 HG3 lM lC lY hCv hcn HG2 HW2 hb3 a7'
  go_wp2_with fail
  refine (otherwise_any HG7.out.l (decide (65535 < y)) 5).mono ?_
  rintro r w9 ⟨rfl, rfl⟩
  go_wp2
  go_ret
  have hR := HR.out
  have hY := HY.out
  rcases HW.out with ⟨g1, rfl⟩ | ⟨g1, g2, rfl⟩ | ⟨g1, g2, rfl, g3, rfl⟩
  · rw [if_pos g1] at hR
    subst hR
    exact ⟨by simp [oth, g1], HG7.out.off, fun h => absurd h g1⟩
  · rw [if_neg (by simpa using g1), if_pos (by omega)] at hR
    subst hR
    exact ⟨by simp [oth], HG7.out.off, fun h => by simp at h⟩
  · by_cases hlt : 65535 < y
    · rw [if_neg (by simpa using g1), if_pos (by omega)] at hR
      subst hR
      exact ⟨by simp [oth, hlt], HG7.out.off, fun h => by simp at h⟩
    · rw [if_neg (by simpa using g1), if_neg (by omega), show a + 1 + ((Vi.get (zs.drop p)).1 : Int) = y by omega] at hR
      subst hR
      exact ⟨by simp [oth, hlt], HG7.out.off, fun _ => ⟨_, HG7.out⟩⟩
end Go.Proofs.YtlbfibnfmijahaaGreat

namespace Go.Proofs.YtlbfibnfmijahaaGreat
open Go.RowKit Go.Shelf
set_option maxRecDepth 100000
attribute [local go_sem] Oper.semAt_some

/-- while points are read: the message's box, the lens, the points' own row, the last point's box, the step's box -/
structure PSt (w : World) (lo mb lb ab sb bm : Nat) (zs : List Int) (N : Mg) (C : Value) (L : List (Int × Int)) (x y : Int) (p e : Nat) (P : Value) (W : World) : Prop where
  m : W.heap[mb]? = some (.cells (mC { N with p := L } P C) 26 (0, 0))
  l : LensAt W lo lb zs p e
  o : W.ownsRow w.heap.size 76 2 P L.length ((fl2 L).map (Value.int .i64))
  at' : W.heap[ab]? = some (.cells #[.int .i64 x, .int .i64 y] 76 (0, 0))
  st : W.heap[sb]? = some (.cells #[.func (.func 100) #[] #[]] 160 (0, 0))
  pm : W.heap[bm]? = some (.cells #[.pointer (some ⟨mb, 0, none⟩)] 121 (0, 0))
  off : Off (fun q => q = mb ∨ q = lb ∨ q = ab) w W
  lt : lb < mb ∧ mb < ab ∧ mb < bm ∧ mb < sb ∧ ab < w.heap.size ∧ bm < w.heap.size ∧ sb < w.heap.size
section
variable {w W W' : World} {lo mb lb ab sb bm : Nat} {zs : List Int} {N : Mg} {P C : Value} {L : List (Int × Int)} {x y : Int} {p e p' e' : Nat}
theorem PSt.later (h : PSt w lo mb lb ab sb bm zs N C L x y p e P W) (hb : Below W.heap.size W W') : PSt w lo mb lb ab sb bm zs N C L x y p e P W' :=
  ⟨(hb.block _ (Array.getElem?_eq_some_iff.1 h.m).1).trans h.m, h.l.below hb, own_below7 h.o hb, (hb.block _ (Array.getElem?_eq_some_iff.1 h.at').1).trans h.at', (hb.block _ (Array.getElem?_eq_some_iff.1 h.st).1).trans h.st, (hb.block _ (Array.getElem?_eq_some_iff.1 h.pm).1).trans h.pm, h.off.trans (Off.of_below (S := fun _ => False) hb) (fun _ _ e => e.elim), h.lt⟩
/-- the lens is turned -/
theorem PSt.turn (h : PSt w lo mb lb ab sb bm zs N C L x y p e P W) (hl : LensAt W' lo lb zs p' e') (ho : Off (fun q => q = lb) W W') : PSt w lo mb lb ab sb bm zs N C L x y p' e' P W' := by
  obtain ⟨h1, h2, h3, h4, h5, h6, h7⟩ := h.lt
  exact ⟨(ho.block _ (Array.getElem?_eq_some_iff.1 h.m).1 (by omega)).trans h.m, hl, own_offM h.o ho (fun g hg e => by have := (h.o.lt g hg).1; omega), (ho.block _ (Array.getElem?_eq_some_iff.1 h.at').1 (by omega)).trans h.at', (ho.block _ (Array.getElem?_eq_some_iff.1 h.st).1 (by omega)).trans h.st, (ho.block _ (Array.getElem?_eq_some_iff.1 h.pm).1 (by omega)).trans h.pm, h.off.trans ho (fun _ _ e => .inr (.inl e)), h.lt⟩
/-- the last point is told -/
theorem PSt.set (h : PSt w lo mb lb ab sb bm zs N C L x y p e P W) (j : Nat) (u x' y' : Int) (hj : (#[Value.int .i64 x, Value.int .i64 y]).setIfInBounds j (.int .i64 u) = #[Value.int .i64 x', Value.int .i64 y']) : PSt w lo mb lb ab sb bm zs N C L x' y' p e P (W.setCell ⟨ab, j, none⟩ (.int .i64 u)) := by
  obtain ⟨h1, h2, h3, h4, h5, h6, h7⟩ := h.lt
  have ho : Off (fun q => q = ab) W (W.setCell ⟨ab, j, none⟩ (.int .i64 u)) := Off.setCell (S := fun q => q = ab) (p := ⟨ab, j, none⟩) (Off.refl _ W) rfl _
  have hne := row_ne h.pm h.at' (by decide)
  have hne2 := row_ne h.st h.at' (by decide)
  exact ⟨(ho.block _ (Array.getElem?_eq_some_iff.1 h.m).1 (by omega)).trans h.m, h.l.off ho (fun k _ hk => by omega), own_offM h.o ho (fun g hg e => by have := (h.o.lt g hg).1; omega), by rw [setCell_at h.at', hj], (ho.block _ (Array.getElem?_eq_some_iff.1 h.st).1 hne2).trans h.st, (ho.block _ (Array.getElem?_eq_some_iff.1 h.pm).1 hne).trans h.pm, h.off.trans ho (fun _ _ e => .inr (.inr e)), h.lt⟩
/-- the points have grown -/
theorem PSt.grow (h : PSt w lo mb lb ab sb bm zs N C L x y p e P W) {v : Value} {q : Int × Int} (hown : W'.ownsRow w.heap.size 76 2 v (L.length + 1) ((fl2 (L ++ [q])).map (Value.int .i64))) (hg : W.grownBy W' P.ownBlock) :
    W'.heap[mb]? = some (.cells (mC { N with p := L } P C) 26 (0, 0)) ∧ PSt w lo mb lb ab sb bm zs N C (L ++ [q]) x y p e v (W'.setCell ⟨mb, 7, none⟩ v) := by
  obtain ⟨h1, h2, h3, h4, h5, h6, h7⟩ := h.lt
  have ho : Off (fun q => P.ownBlock = some q) W W' := ⟨hg.os, hg.tape, hg.output, hg.size, fun k hk hn => hg.block k hk (fun e => hn e.symm)⟩
  have hno : ∀ q, q < w.heap.size → ¬ P.ownBlock = some q := fun q hq e => by have := (h.o.lt q e).1; omega
  have m1 := (ho.block _ (Array.getElem?_eq_some_iff.1 h.m).1 (hno _ (by omega))).trans h.m
  have a1 := (ho.block _ (Array.getElem?_eq_some_iff.1 h.at').1 (hno _ (by omega))).trans h.at'
  have b1 := (ho.block _ (Array.getElem?_eq_some_iff.1 h.pm).1 (hno _ (by omega))).trans h.pm
  have s1 := (ho.block _ (Array.getElem?_eq_some_iff.1 h.st).1 (hno _ (by omega))).trans h.st
  have hof : Off (fun q => q = mb) W' (W'.setCell ⟨mb, 7, none⟩ v) := Off.setCell (S := fun q => q = mb) (p := ⟨mb, 7, none⟩) (Off.refl _ W') rfl _
  refine ⟨m1, by rw [setCell_at m1]; rfl, (h.l.off ho (fun k _ hk => hno k (by omega))).off hof (fun k _ hk => by omega), own_offM (by simpa using hown) hof (fun g hg e => by have := (hown.lt g hg).1; omega), (hof.block _ (Array.getElem?_eq_some_iff.1 a1).1 (by omega)).trans a1, (hof.block _ (Array.getElem?_eq_some_iff.1 s1).1 (by omega)).trans s1, (hof.block _ (Array.getElem?_eq_some_iff.1 b1).1 (by omega)).trans b1, (h.off.trans ho (fun j hj e => absurd e (hno j hj))).trans hof (fun _ _ e => .inl e), h.lt⟩
end
theorem sigA_ways (l : List Int) (a : Int) (h0 : -1000000 ≤ a) (h1 : a ≤ 1000000) : ∃ (X : Int) (u er : Nat), sigR l (-1000000 - a) (1000000 - a) = (X, u, er) ∧ -1000000 ≤ a + X ∧ a + X ≤ 1000000 ∧ u ≤ l.length ∧ er = (rdX a l).1 ∧ (er = 0 → u = (rdX a l).2.1 ∧ a + X = (rdX a l).2.2) := by
  have hle := Vi.get_le l
  unfold sigR rdX
  by_cases g1 : (Vi.get l).2.2 ≠ 0
  · rw [if_pos g1, if_pos g1]
    exact ⟨0, 0, _, rfl, by omega, by omega, by omega, rfl, fun h => absurd h g1⟩
  · rw [if_neg g1, if_neg g1]
    by_cases g2 : zagZ ((Vi.get l).1 : Int) < -1000000 - a ∨ 1000000 - a < zagZ ((Vi.get l).1 : Int)
    · rw [if_pos g2, if_pos (by omega)]
      exact ⟨0, 0, _, rfl, by omega, by omega, by omega, rfl, fun h => by simp at h⟩
    · rw [if_neg g2, if_neg (by omega)]
      exact ⟨_, _, _, rfl, by omega, by omega, hle.2.2.1, rfl, fun _ => ⟨rfl, rfl⟩⟩
/-- the step -/
theorem pstep_any (lo lb : Nat) (zs : List Int) (p e : Nat) (a : Int) (h0 : -1000000 ≤ a) (h1 : a ≤ 1000000) (X : Int) (u er : Nat) (hX : sigR (zs.drop p) (-1000000 - a) (1000000 - a) = (X, u, er)) (hl : zs.length ≤ 1000000) (hz : Bys zs) (V : World) (h : LensAt V lo lb zs p e) :
    Calls Tryz.prog 100 #[.pointer (some ⟨lb, 0, none⟩), .int .i64 a] V fun r w' => r = .returned (.int .i64 (ansI e X)) ∧ LensAt w' lo lb zs (placeOf p e u) (errOf e er) ∧ Off (fun q => q = lb) V w' := by
  have K := lsig_any lo lb zs p e V (-1000000 - a) (1000000 - a) h (by omega) hz
  rw [hX] at K
  unfold ReadI at K
  simp only at K
  have K := Lib.hid K
  clear hX hz h
  go_enter Tryz.func100, Tryz.ntmps100
  go_wp2_with fail
  refine K.out.mono ?_
  rintro r w1 ⟨rfl, h2, h3⟩
  have H2 := Lib.hid h2
  have H3 := Lib.hid h3
  clear h2 h3 K
  go_wp2
  go_ret
  exact ⟨rfl, H2.out, H3.out⟩
/-- what reading a point answers -/
def rdQ (a : Int × Int) (l : List Int) : Nat × Nat × (Int × Int) :=
  if (rdX a.1 l).1 ≠ 0 then ((rdX a.1 l).1, 0, (0, 0))
  else if (rdX a.2 (l.drop (rdX a.1 l).2.1)).1 ≠ 0 then ((rdX a.2 (l.drop (rdX a.1 l).2.1)).1, 0, (0, 0))
  else (0, (rdX a.1 l).2.1 + (rdX a.2 (l.drop (rdX a.1 l).2.1)).2.1, ((rdX a.1 l).2.2, (rdX a.2 (l.drop (rdX a.1 l).2.1)).2.2))
theorem rdP_q (n : Nat) (a : Int × Int) (l : List Int) : rdP (n + 1) a l = if (rdQ a l).1 ≠ 0 then ((rdQ a l).1, 0, []) else ((rdP n (rdQ a l).2.2 (l.drop (rdQ a l).2.1)).1, (rdQ a l).2.1 + (rdP n (rdQ a l).2.2 (l.drop (rdQ a l).2.1)).2.1, (rdQ a l).2.2 :: (rdP n (rdQ a l).2.2 (l.drop (rdQ a l).2.1)).2.2) := by
  rw [rdP_step]
  unfold rdQ
  by_cases h1 : (rdX a.1 l).1 ≠ 0
  · rw [if_pos h1, if_pos h1, if_pos h1]
  · rw [if_neg h1, if_neg h1]
    by_cases h2 : (rdX a.2 (l.drop (rdX a.1 l).2.1)).1 ≠ 0
    · rw [if_pos h2, if_pos h2, if_pos h2]
    · rw [if_neg h2, if_neg h2, if_neg (by simp), List.drop_drop]
set_option maxHeartbeats 16000000 in
theorem pointr_any (w : World) (lo mb lb ab sb bm : Nat) (zs : List Int) (N : Mg) (C : Value) (L : List (Int × Int)) (x y : Int) (p : Nat) (P : Value) (W : World) (h : PSt w lo mb lb ab sb bm zs N C L x y p 0 P W) (hx : -1000000 ≤ x ∧ x ≤ 1000000) (hy : -1000000 ≤ y ∧ y ≤ 1000000) (hL : L.length ≤ 40) (hl : zs.length ≤ 1000000) (hz : Bys zs) :
    Calls Tryz.prog 101 #[.pointer (some ⟨lb, 0, none⟩), .pointer (some ⟨ab, 0, none⟩), .pointer (some ⟨sb, 0, none⟩), .pointer (some ⟨bm, 0, none⟩)] W fun r W' =>
      r = .returned (.int .i64 ((rdQ (x, y) (zs.drop p)).1 : Int)) ∧ Off (fun q => q = mb ∨ q = lb ∨ q = ab) w W' ∧ ((rdQ (x, y) (zs.drop p)).1 = 0 → ∃ P', PSt w lo mb lb ab sb bm zs N C (L ++ [(rdQ (x, y) (zs.drop p)).2.2]) (rdQ (x, y) (zs.drop p)).2.2.1 (rdQ (x, y) (zs.drop p)).2.2.2 (p + (rdQ (x, y) (zs.drop p)).2.1) 0 P' W') := by
  obtain ⟨ii, hii, hzi, hzi1, hzi2⟩ := info_parts ptInfo
  obtain ⟨X, u, er, hX, x0, x1, hu, e1, e2⟩ := sigA_ways (zs.drop p) x hx.1 hx.2
  obtain ⟨Y, v, es, hY, y0, y1, hv, e3, e4⟩ := sigA_ways (zs.drop (placeOf p er u)) y hy.1 hy.2
  have hxa := hx.1
  have hxb := hx.2
  have hya := hy.1
  have hyb := hy.2
  have KX : Hid (∀ V, LensAt V lo lb zs p 0 → Calls Tryz.prog 100 #[.pointer (some ⟨lb, 0, none⟩), .int .i64 x] V fun r w' => r = .returned (.int .i64 X) ∧ LensAt w' lo lb zs (p + u) er ∧ Off (fun q => q = lb) V w') := Lib.hid fun V hV => by
    have K := pstep_any lo lb zs p 0 x hx.1 hx.2 X u er hX hl hz V hV
    simpa only [ansI, placeOf, errOf, if_true] using K
  have hpu : er ≠ 0 → u = 0 := fun h => by
    have := sigR_err (l := zs.drop p) (m1 := -1000000 - x) (m := 1000000 - x) (by rw [hX]; exact h)
    rw [hX] at this
    exact this.2
  have hpl : placeOf p er u = p + u := by
    unfold placeOf
    split
    · rfl
    · rename_i h
      rw [hpu h, Nat.add_zero]
  rw [hpl] at hY e3 e4
  obtain ⟨Y2, hY2⟩ : ∃ Y2, ansI er Y = Y2 := ⟨_, rfl⟩
  have hy2 : -1000000 ≤ y + Y2 ∧ y + Y2 ≤ 1000000 := by
    rw [← hY2]
    unfold ansI
    split <;> omega
  have hya2 := hy2.1
  have hyb2 := hy2.2
  have KY : Hid (∀ V, LensAt V lo lb zs (p + u) er → Calls Tryz.prog 100 #[.pointer (some ⟨lb, 0, none⟩), .int .i64 y] V fun r w' => r = .returned (.int .i64 Y2) ∧ LensAt w' lo lb zs (placeOf (p + u) er v) (errOf er es) ∧ Off (fun q => q = lb) V w') := Lib.hid fun V hV => by
    have K := pstep_any lo lb zs (p + u) er y hy.1 hy.2 Y v es hY hl hz V hV
    rwa [hY2] at K
  obtain ⟨R, hR⟩ : ∃ R, rdQ (x, y) (zs.drop p) = R := ⟨_, rfl⟩
  rw [hR]
  unfold rdQ at hR
  simp only at hR
  rw [List.drop_drop] at hR
  have HE := Lib.hid (And.intro e1 (And.intro e2 (And.intro e3 e4)))
  obtain ⟨pe, hpe⟩ : ∃ pe, placeOf (p + u) er v = pe := ⟨_, rfl⟩
  obtain ⟨ee, hee⟩ : ∃ ee, errOf er es = ee := ⟨_, rfl⟩
  rw [hpe, hee] at KY
  have HPE := Lib.hid (And.intro hpe (And.intro hee hY2))
  obtain ⟨h1, h2, h3, h4, h5, h6, h7⟩ := h.lt
  have n1 := row_ne h.at' h.pm (by decide)
  have n2 := row_ne h.at' h.st (by decide)
  have HH := Lib.hid h
  have HR := Lib.hid hR
  clear hR hX hY h hz e1 e2 e3 e4 hpe hee hY2 hpl hpu hy2 hx hy
  go_enter Tryz.func101, Tryz.ntmps101
  go_wp2_with fail
  have lA : ∀ V, Off (fun q => q = lb) W V → (Instr.loadAt 3 (.pointer (some ⟨ab, 0, none⟩))).run Tryz.prog V = .ok (.int .i64 x) V := fun V hV => by
    have k := row_cell ((hV.block _ (Array.getElem?_eq_some_iff.1 HH.out.at').1 (by omega)).trans HH.out.at') 0 _ rfl
    simp [Instr.loadAt, go_sem, k]
  have lS : ∀ V, Off (fun q => q = lb) W V → (Instr.loadAt 160 (.pointer (some ⟨sb, 0, none⟩))).run Tryz.prog V = .ok (.func (.func 100) #[] #[]) V := fun V hV => by
    have k := row_cell ((hV.block _ (Array.getElem?_eq_some_iff.1 HH.out.st).1 (by omega)).trans HH.out.st) 0 _ rfl
    simp [Instr.loadAt, go_sem, k]
  refine wp_region_order8 8 (0 :: 1 :: 2 :: 3 :: 4 :: 5 :: 6 :: 7 :: []) (fun V => Off (fun q => q = lb) W V) (C := fun V => Below W.heap.size W V) (by kernel_rfl) (by kernel_rfl) (by kernel_rfl) (Below.refl _ _).drew (fun V hV => Off.of_below hV) ?_
  repeat (refine wpO4_pure rfl rfl ?_; go_big_quiet_step (fail); refine wpQuiet_nil ?_)
  refine wpO4_load (ad := ⟨ab, 0, none⟩) (.int .i64 x) rfl rfl rfl (by rfl) lA ?_
  simp only [Act.put, List.setIfInBounds_toArray, List.set_cons_succ, List.set_cons_zero]
  refine wpO4_load (ad := ⟨sb, 0, none⟩) (.func (.func 100) #[] #[]) rfl rfl rfl (by rfl) lS ?_
  simp only [Act.put, List.setIfInBounds_toArray, List.set_cons_succ, List.set_cons_zero]
  repeat (refine wpO4_pure rfl rfl ?_; go_big_quiet_step (fail); refine wpQuiet_nil ?_)
  refine wpO4_load (ad := ⟨ab, 0, none⟩) (.int .i64 x) rfl rfl rfl (by rfl) lA ?_
  simp only [Act.put, List.setIfInBounds_toArray, List.set_cons_succ, List.set_cons_zero]
  refine wpO4_call (fun v => v = .int .i64 X) (fun _ V => LensAt V lo lb zs (p + u) er ∧ Off (fun q => q = lb) W V) (f := 100) (args := #[.pointer (some ⟨lb, 0, none⟩), .int .i64 x]) rfl rfl rfl (fun _ V hV => hV.2) (fun x => by first | rfl | (simp [go_sem]; done)) (fun V hV => (KX.out V (HH.out.later hV).l).mono (fun e w' h => ⟨_, h.1, rfl, h.2.1, (Off.of_below (S := fun q => q = lb) hV).trans h.2.2 (fun _ _ h => h)⟩)) ?_
  rintro v rfl
  simp only [Act.put, List.setIfInBounds_toArray, List.set_cons_succ, List.set_cons_zero]
  repeat (refine wpO4_pure rfl rfl ?_; go_big_quiet_step (fail); refine wpQuiet_nil ?_)
  rintro W1 ⟨hl1, ho1⟩
  simp only [List.drop_succ_cons, List.drop_zero]
  have g1 := HH.out.turn hl1 ho1
  have c0 := row_cell g1.at' 0 _ rfl
  have z0 := frozen_of_row W1 ab 0 _ _ g1.at'
  obtain ⟨nx, hnx⟩ : ∃ nx, x + X = nx := ⟨_, rfl⟩
  have g2 := g1.set 0 nx nx y rfl
  obtain ⟨W2, hw2⟩ : ∃ W2, W1.setCell ⟨ab, 0, none⟩ (.int .i64 nx) = W2 := ⟨_, rfl⟩
  rw [hw2] at g2
  have HB := Lib.hid g2
  have HWHB := Lib.hid hw2
  have HYHB := Lib.hid hnx
  clear g1 g2 hl1 ho1 lA lS KX hw2 hnx
  go_wp2_with fail
  rw [HYHB.out, HWHB.out]
  clear c0 z0 HWHB
  have lA : ∀ V, Off (fun q => q = lb) W2 V → (Instr.loadAt 3 (.pointer (some ⟨ab, 1, none⟩))).run Tryz.prog V = .ok (.int .i64 y) V := fun V hV => by
    have k := row_cell ((hV.block _ (Array.getElem?_eq_some_iff.1 HB.out.at').1 (by omega)).trans HB.out.at') 1 _ rfl
    simp [Instr.loadAt, go_sem, k]
  have lS : ∀ V, Off (fun q => q = lb) W2 V → (Instr.loadAt 160 (.pointer (some ⟨sb, 0, none⟩))).run Tryz.prog V = .ok (.func (.func 100) #[] #[]) V := fun V hV => by
    have k := row_cell ((hV.block _ (Array.getElem?_eq_some_iff.1 HB.out.st).1 (by omega)).trans HB.out.st) 0 _ rfl
    simp [Instr.loadAt, go_sem, k]
  refine wp_region_order8 8 (0 :: 1 :: 2 :: 3 :: 4 :: 5 :: 6 :: 7 :: []) (fun V => Off (fun q => q = lb) W2 V) (C := fun V => Below W2.heap.size W2 V) (by kernel_rfl) (by kernel_rfl) (by kernel_rfl) (Below.refl _ _).drew (fun V hV => Off.of_below hV) ?_
  repeat (refine wpO4_pure rfl rfl ?_; go_big_quiet_step (fail); refine wpQuiet_nil ?_)
  refine wpO4_load (ad := ⟨ab, 1, none⟩) (.int .i64 y) rfl rfl rfl (by rfl) lA ?_
  simp only [Act.put, List.setIfInBounds_toArray, List.set_cons_succ, List.set_cons_zero]
  refine wpO4_load (ad := ⟨sb, 0, none⟩) (.func (.func 100) #[] #[]) rfl rfl rfl (by rfl) lS ?_
  simp only [Act.put, List.setIfInBounds_toArray, List.set_cons_succ, List.set_cons_zero]
  repeat (refine wpO4_pure rfl rfl ?_; go_big_quiet_step (fail); refine wpQuiet_nil ?_)
  refine wpO4_load (ad := ⟨ab, 1, none⟩) (.int .i64 y) rfl rfl rfl (by rfl) lA ?_
  simp only [Act.put, List.setIfInBounds_toArray, List.set_cons_succ, List.set_cons_zero]
  refine wpO4_call (fun v => v = .int .i64 Y2) (fun _ V => LensAt V lo lb zs pe ee ∧ Off (fun q => q = lb) W2 V) (f := 100) (args := #[.pointer (some ⟨lb, 0, none⟩), .int .i64 y]) rfl rfl rfl (fun _ V hV => hV.2) (fun x => by first | rfl | (simp [go_sem]; done)) (fun V hV => (KY.out V (HB.out.later hV).l).mono (fun e w' h => ⟨_, h.1, rfl, h.2.1, (Off.of_below (S := fun q => q = lb) hV).trans h.2.2 (fun _ _ h => h)⟩)) ?_
  rintro v rfl
  simp only [Act.put, List.setIfInBounds_toArray, List.set_cons_succ, List.set_cons_zero]
  repeat (refine wpO4_pure rfl rfl ?_; go_big_quiet_step (fail); refine wpQuiet_nil ?_)
  rintro W3 ⟨hl1, ho1⟩
  simp only [List.drop_succ_cons, List.drop_zero]
  have g1 := HB.out.turn hl1 ho1
  have c0 := row_cell g1.at' 1 _ rfl
  have z0 := frozen_of_row W3 ab 1 _ _ g1.at'
  obtain ⟨ny, hny⟩ : ∃ ny, y + Y2 = ny := ⟨_, rfl⟩
  have g2 := g1.set 1 ny nx ny rfl
  obtain ⟨W4, hw2⟩ : ∃ W4, W3.setCell ⟨ab, 1, none⟩ (.int .i64 ny) = W4 := ⟨_, rfl⟩
  rw [hw2] at g2
  have HG := Lib.hid g2
  have HWHG := Lib.hid hw2
  have HYHG := Lib.hid hny
  clear g1 g2 hl1 ho1 lA lS KY hw2 hny
  go_wp2_with fail
  rw [HYHG.out, HWHG.out]
  clear c0 z0 HWHG
  have hsw := HG.out.off.size
  have lM : ∀ V, Below w.heap.size W4 V → (Instr.loadAt 121 (.pointer (some ⟨bm, 0, none⟩))).run Tryz.prog V = .ok (.pointer (some ⟨mb, 0, none⟩)) V := fun V hV => by
    have k := row_cell ((hV.block bm (by omega)).trans HG.out.pm) 0 _ rfl
    simp [Instr.loadAt, go_sem, k]
  obtain ⟨ca, cc, hCv, -, -⟩ := nums_of_own HG.out.o (by decide)
  have lC : ∀ V, Below w.heap.size W4 V → (Instr.loadAt 23 (.pointer (some ⟨mb, 7, none⟩))).run Tryz.prog V = .ok P V := fun V hV => by
    have k := row_cell ((hV.block mb (by omega)).trans HG.out.m) 7 P rfl
    rw [hCv] at k ⊢
    simp [Instr.loadAt, go_sem, k]
  have lY : ∀ V, Below w.heap.size W4 V → (Instr.loadAt 76 (.pointer (some ⟨ab, 0, none⟩))).run Tryz.prog V = .ok (.agg #[.int .i64 nx, .int .i64 ny]) V := fun V hV => by
    have k := row_cell ((hV.block ab (by omega)).trans HG.out.at') 0 _ rfl
    have k2 := row_cell ((hV.block ab (by omega)).trans HG.out.at') 1 _ rfl
    simp [Instr.loadAt, go_sem, k, k2]
  refine wp_region_order9 8 (0 :: 1 :: 2 :: 3 :: 4 :: 5 :: 6 :: 7 :: []) (fun V => Below w.heap.size W4 V) (C := fun V => Below W4.heap.size W4 V) (by kernel_rfl) (by kernel_rfl) (by kernel_rfl) (Below.refl _ _).drew (fun V hV => hV.mono hsw) ?_
  refine wpO9_load (ad := ⟨bm, 0, none⟩) (.pointer (some ⟨mb, 0, none⟩)) rfl rfl rfl (by rfl) lM ?_
  simp only [Act.put, List.setIfInBounds_toArray, List.set_cons_succ, List.set_cons_zero]
  refine wpO9_load (ad := ⟨bm, 0, none⟩) (.pointer (some ⟨mb, 0, none⟩)) rfl rfl rfl (by rfl) lM ?_
  simp only [Act.put, List.setIfInBounds_toArray, List.set_cons_succ, List.set_cons_zero]
  refine wpO9_nil (ad := ⟨mb, 0, none⟩) rfl rfl rfl (by rfl) ?_
  simp only [Act.put, List.setIfInBounds_toArray, List.set_cons_succ, List.set_cons_zero]
  repeat (refine wpO9_pure rfl rfl ?_; go_big_quiet_step (fail); refine wpQuiet_nil ?_)
  refine wpO9_load (ad := ⟨mb, 7, none⟩) P rfl rfl rfl (by rfl) lC ?_
  simp only [Act.put, List.setIfInBounds_toArray, List.set_cons_succ, List.set_cons_zero]
  refine wpO9_load (ad := ⟨ab, 0, none⟩) (.agg #[.int .i64 nx, .int .i64 ny]) rfl rfl rfl (by rfl) lY ?_
  simp only [Act.put, List.setIfInBounds_toArray, List.set_cons_succ, List.set_cons_zero]
  refine wpO9_do (fun x => ∃ g, x = .slice (some ⟨g, 0, none⟩) 1 1) (fun x V => Below W4.heap.size W4 V ∧ ∀ g, x = .slice (some ⟨g, 0, none⟩) 1 1 → V.heap[g]? = some (.cells #[.int .i64 nx, .int .i64 ny] 76 (0, 0))) rfl rfl rfl (fun _ V hV => hV.1.mono hsw) (fun V hV => ⟨.slice (some ⟨V.heap.size, 0, none⟩) 1 1, V.alloc (.cells #[.int .i64 nx, .int .i64 ny] 76), by simp [go_sem], ⟨_, rfl⟩, hV.alloc hV.size _, fun g hg => by
    injection hg with hg
    injection hg with hg
    injection hg with hg
    subst hg
    exact World.alloc_heap_new V (.cells #[.int .i64 nx, .int .i64 ny] 76)⟩) ?_
  rintro x ⟨g, rfl⟩
  simp only [Act.put, List.setIfInBounds_toArray, List.set_cons_succ, List.set_cons_zero]
  refine wpO9_do (fun v => ∃ A c, v = .slice A (L.length + 1) c) (fun v V => ∃ V3, Below W4.heap.size W4 V3 ∧ V.ownsRow w.heap.size 76 2 v (L.length + 1) ((fl2 (L ++ [(nx, ny)])).map (Value.int .i64)) ∧ V3.grownBy V P.ownBlock) rfl rfl rfl (fun v V hV => ?_) (fun V hV => ?_) ?_
  · obtain ⟨V3, hb, -, hg⟩ := hV
    exact (hb.mono hsw).grown hg (Nat.le_trans hsw hb.size) (fun k hk => (HG.out.o.lt k hk).1)
  · obtain ⟨hb, hc⟩ := hV
    have hc := hc g rfl
    obtain ⟨v', w', hrun, h6, h7, -⟩ := run_append_own (P := Tryz.prog) V w.heap.size 23 23 76 ii _ 2 16 Tryz.underlying23 hii hzi hzi1 hzi2 rfl (by decide) P L.length ((fl2 L).map (Value.int .i64)) (own_below7 HG.out.o hb) ⟨g, 0, none⟩ 1 1 [.int .i64 nx, .int .i64 ny] rfl (fun j u hj => by
      rcases j with _ | _ | j
      · simp at hj
        subst hj
        exact row_cell hc 0 _ rfl
      · simp at hj
        subst hj
        exact row_cell hc 1 _ rfl
      · simp at hj) (fun u hu => by simp at hu; rcases hu with rfl | rfl <;> rfl) (by unfold maxLen; omega) (by omega) (Nat.le_trans hsw hb.size)
    have h8 : w'.ownsRow w.heap.size 76 2 v' (L.length + 1) ((fl2 (L ++ [(nx, ny)])).map (Value.int .i64)) := by rw [fl2_app, List.map_append]; exact h6
    obtain ⟨a7, c7, e7, -, -⟩ := nums_of_own h8 (by decide)
    exact ⟨v', w', exec_appendH (.tmp 28) (.tmp 30) 23 rfl rfl rfl hrun, ⟨a7, c7, e7⟩, V, hb, h8, h7⟩
  rintro v7 ⟨a7, c7, rfl⟩
  simp only [Act.put, List.setIfInBounds_toArray, List.set_cons_succ, List.set_cons_zero]
  rintro w7 ⟨W5, hb3, hown, hgr⟩
  simp only [List.drop_succ_cons, List.drop_zero]
  have HG3 := HG.out.later hb3
  obtain ⟨m7, g7⟩ := HG3.grow hown hgr
  have k8 := row_cell m7 7 P rfl
  rw [hCv] at k8
  have z8 := frozen_of_row w7 mb 7 _ _ m7
  have HG7 := Lib.hid g7
  clear hown hgr m7 g7 HG3 lM lC lY hCv HG hb3
  go_wp2_with fail
  refine (lerr_any _ _ _ _ _ _ HG7.out.l).mono ?_
  rintro r w9 ⟨rfl, rfl⟩
  go_wp2
  go_ret
  have hR := HR.out
  obtain ⟨e1, e2, e3, e4⟩ := HE.out
  obtain ⟨rfl, rfl, hY2⟩ := HPE.out
  have q1 := HYHB.out
  have q2 := HYHG.out
  by_cases g1 : er = 0
  · subst g1
    obtain ⟨f1, f2⟩ := e2 rfl
    rw [if_neg (by rw [← e1]; simp), ← f1] at hR
    by_cases g2 : es = 0
    · subst g2
      obtain ⟨f3, f4⟩ := e4 rfl
      rw [if_neg (by rw [← e3]; simp), ← f3, ← f2, ← f4] at hR
      have hYY : Y = Y2 := by rw [← hY2]; rfl
      rw [hYY, q1, q2] at hR
      subst hR
      have hp : placeOf (p + u) 0 v = p + (u + v) := by unfold placeOf; rw [if_pos rfl, Nat.add_assoc]
      have hg := HG7.out
      rw [hp] at hg
      exact ⟨rfl, HG7.out.off, fun _ => ⟨_, hg⟩⟩
    · rw [if_pos (by rw [← e3]; exact g2), ← e3] at hR
      subst hR
      exact ⟨by simp [errOf], HG7.out.off, fun h => absurd h g2⟩
  · rw [if_pos (by rw [← e1]; exact g1), ← e1] at hR
    subst hR
    exact ⟨by simp [errOf, g1], HG7.out.off, fun h => absurd h g1⟩
end Go.Proofs.YtlbfibnfmijahaaGreat

namespace Go.Proofs.YtlbfibnfmijahaaGreat
open Go.RowKit Go.Shelf
set_option maxRecDepth 100000
attribute [local go_sem] Oper.semAt_some

theorem numR_all (l : List Int) : ∃ (X : Int) (u er : Nat), numR l 18446744073709551615 = (X, u, er) ∧ 0 ≤ X ∧ X ≤ 18446744073709551615 ∧ u ≤ l.length ∧
    (((Vi.get l).2.2 ≠ 0 ∧ er = (Vi.get l).2.2) ∨ ((Vi.get l).2.2 = 0 ∧ er = 0 ∧ X = ((Vi.get l).1 : Int) ∧ u = (Vi.get l).2.1)) := by
  have hle := Vi.get_le l
  obtain ⟨X, u, er, h1, h2, h3, h4, h5⟩ := numR_ways l 18446744073709551615 (by omega)
  refine ⟨X, u, er, h1, h2, h3, h4, ?_⟩
  rcases h5 with h | ⟨_, h, _⟩ | ⟨g1, _, g3, g4, g5⟩
  · exact .inl h
  · omega
  · exact .inr ⟨g1, g3, g4, g5⟩
theorem Off.two {mb lb ab : Nat} {w0 w W : World} (hb : Below w0.heap.size w0 w) (ho : Off (fun q => q = mb ∨ q = lb ∨ q = ab) w W) (hlo : w0.heap.size ≤ ab) : Off (fun q => q = mb ∨ q = lb) w0 W := by
  have := (Off.of_below (S := fun q => q = mb ∨ q = lb ∨ q = ab) hb).trans ho (fun _ _ h => h)
  exact this.mono fun j hj h => by
    rcases h with h | h | h
    · exact .inl h
    · exact .inr h
    · omega
theorem CSt.done {w0 w W : World} {lo mb lb ab bm : Nat} {zs : List Int} {N : Mg} {P C0 C : Value} {L : List Int} {a : Int} {p p' : Nat} (h0 : RdAt lo w0 mb lb zs N P C0 p 0) (hb : Below w0.heap.size w0 w) (hlo : w0.heap.size ≤ ab) (hne : L ≠ []) (h : CSt w lo mb lb ab bm zs N P L a p' 0 C W) : RdAt lo W mb lb zs { N with c := L } P C p' 0 := by
  have ho := Off.two hb h.off hlo
  obtain ⟨pa, pc, e1, h2, h3⟩ := h0.p
  have hlt := (Array.getElem?_eq_some_iff.1 h0.m).1
  have hsz := hb.size
  have ha := h0.a
  obtain ⟨ca, cc, e4, h5, h6⟩ := NuX.of_own h.o (by omega) (b4 := mb) (b8 := lb) (by omega) (by omega)
  exact ⟨h.m, h.l, h0.a, ⟨pa, pc, e1, h2, h3.keep ho⟩, ⟨ca, cc, e4, h5, h6⟩, h0.pz, fun e => absurd e hne⟩
theorem PSt.done {w0 w W : World} {lo mb lb ab sb bm : Nat} {zs : List Int} {N : Mg} {C P0 P : Value} {L : List (Int × Int)} {x y : Int} {p p' : Nat} (h0 : RdAt lo w0 mb lb zs N P0 C p 0) (hb : Below w0.heap.size w0 w) (hlo : w0.heap.size ≤ ab) (hne : L ≠ []) (h : PSt w lo mb lb ab sb bm zs N C L x y p' 0 P W) : RdAt lo W mb lb zs { N with p := L } P C p' 0 := by
  have ho := Off.two hb h.off hlo
  obtain ⟨pa, pc, e1, h2, h3⟩ := h0.c
  have hlt := (Array.getElem?_eq_some_iff.1 h0.m).1
  have hsz := hb.size
  have ha := h0.a
  obtain ⟨ca, cc, e4, h5, hc⟩ := nums_of_own h.o (by omega)
  refine ⟨h.m, h.l, h0.a, ⟨ca, cc, e4, h5, fun hn => ?_⟩, ⟨pa, pc, e1, h2, h3.keep ho⟩, fun e => absurd e hne, h0.cz⟩
  obtain ⟨b, off, e6, h7, h8⟩ := hc hn
  have hge : w.heap.size ≤ b := (h.o.lt b (by rw [e4, e6]; rfl)).1
  exact ⟨b, off, e6, by omega, by omega, h8⟩
theorem rdG_rng {a : Int} {l : List Int} (hl : Bys l) : (rdG a l).1 = 0 → -1 ≤ a → -1 ≤ (rdG a l).2.2 ∧ (rdG a l).2.2 ≤ 65535 := fun h ha => by
  obtain ⟨-, -, -, h4, h5⟩ := rdG_ok (a := a) (l := l) (x := (rdG a l).2.2) (u := (rdG a l).2.1) hl (by rw [← h])
  omega
theorem rdQ_rng {a : Int × Int} {l : List Int} (hl : Bys l) : (rdQ a l).1 = 0 → ptOk (rdQ a l).2.2 := fun h => by
  unfold rdQ at h ⊢
  by_cases h1 : (rdX a.1 l).1 ≠ 0
  · rw [if_pos h1] at h; exact absurd h h1
  · rw [if_neg h1] at h ⊢
    by_cases h2 : (rdX a.2 (l.drop (rdX a.1 l).2.1)).1 ≠ 0
    · rw [if_pos h2] at h; exact absurd h h2
    · rw [if_neg h2]
      have h1' : (rdX a.1 l).1 = 0 := by simpa using h1
      have h2' : (rdX a.2 (l.drop (rdX a.1 l).2.1)).1 = 0 := by simpa using h2
      obtain ⟨-, -, -, x1, x2⟩ := rdX_ok (a := a.1) (l := l) (x := (rdX a.1 l).2.2) (u := (rdX a.1 l).2.1) hl (by rw [← h1'])
      obtain ⟨-, -, -, y1, y2⟩ := rdX_ok (a := a.2) (l := l.drop (rdX a.1 l).2.1) (x := (rdX a.2 (l.drop (rdX a.1 l).2.1)).2.2) (u := (rdX a.2 (l.drop (rdX a.1 l).2.1)).2.1) (hl.drop _) (by rw [← h2'])
      exact ⟨x1, x2, y1, y2⟩
set_option maxHeartbeats 16000000 in
theorem countc_any (w0 w : World) (lo mb lb bo1 bo2 ab bm : Nat) (zs : List Int) (N : Mg) (P C : Value) (p : Nat) (f : Fd) (h0 : RdAt lo w0 mb lb zs N P C p 0) (hb : Below w0.heap.size w0 w) (hf : FdX f) (hso : f.so = 4) (hN : N.c = []) (hlo : w0.heap.size ≤ ab ∧ w0.heap.size ≤ bm) (hl : zs.length ≤ 1000000) (hz : Bys zs)
    (h1 : w.heap[bo1]? = some (.cells #[.int .i64 f.mo] 3 (0, 0))) (h2 : w.heap[bo2]? = some (.cells #[.func (.func 102) #[] #[.pointer (some ⟨ab, 0, none⟩), .pointer (some ⟨bm, 0, none⟩)]] 119 (0, 0))) (h3 : w.heap[ab]? = some (.cells #[.int .i64 (-1)] 3 (0, 0))) (h4 : w.heap[bm]? = some (.cells #[.pointer (some ⟨mb, 0, none⟩)] 121 (0, 0))) (hlt : ab < w.heap.size ∧ bm < w.heap.size) :
    Calls Tryz.prog 98 #[.pointer (some ⟨lb, 0, none⟩), .pointer (some ⟨bo1, 0, none⟩), .pointer (some ⟨bo2, 0, none⟩)] w fun r w' => RdO lo mb lb zs p (rdF N f (zs.drop p)) w0 r w' := by
  obtain ⟨X, u, er, hX, x0, x1, hu, hw⟩ := numR_all (zs.drop p)
  have hR0 := h0.later hb
  have K := lnum_any lo lb zs p 0 w 18446744073709551615 hR0.l (by omega) hz
  rw [hX] at K
  unfold ReadI at K
  simp only [ansI, placeOf, errOf, if_true] at K
  have hmo := hf.mo.2.1 hso
  have hle1 := hf.lst (by omega)
  have hlm := h0.a
  have hmlt := (Array.getElem?_eq_some_iff.1 h0.m).1
  obtain ⟨_, _, hbl, -⟩ := hR0.l.open
  have n1 := row_ne h1 hbl (by decide)
  have n2 := row_ne h2 hbl (by decide)
  have n3 := row_ne h3 hbl (by decide)
  have n4 := row_ne h4 hbl (by decide)
  have n6 := row_ne h2 hR0.m (by decide)
  have n7 := row_ne h2 h3 (by decide)
  have hNC : C = .slice none 0 0 := h0.cz hN
  have HNE : Hid ({ N with c := [] } = N) := Lib.hid (by cases N; simp only at hN; subst hN; rfl)
  obtain ⟨R, hR⟩ : ∃ R, rdF N f (zs.drop p) = R := ⟨_, rfl⟩
  rw [hR]
  unfold rdF at hR
  rw [if_neg (show ¬ f.so = 1 by omega), if_neg (show ¬ f.so = 2 by omega), if_neg (show ¬ f.so = 3 by omega), if_pos hso, hmo, hle1, hN] at hR
  simp only [List.nil_append, Int.zero_lt_one, and_true] at hR
  rw [hmo] at h1
  have K := Lib.hid K
  have HH := Lib.hid h0
  have HB := Lib.hid hb
  have HR0 := Lib.hid hR0
  have H2 := Lib.hid h2
  have H3 := Lib.hid h3
  have H4 := Lib.hid h4
  have HR := Lib.hid hR
  have HW := Lib.hid hw
  have HBY := Lib.hid hz
  have H1 := Lib.hid h1
  clear hR hw hX h0 hb hbl h1 h2 h3 h4 hz hR0 hf hmo hle1
  go_enter Tryz.func98, Tryz.ntmps98
  go_wp2
  refine wp_scope_straight ?_
  go_wp2_with fail
  refine K.out.mono ?_
  rintro r w1 ⟨rfl, hl1, ho1⟩
  have HOF : Hid (Off (fun q => q = mb ∨ q = lb) w0 w1) := Lib.hid (((Off.of_below (S := fun q => q = mb ∨ q = lb) HB.out).trans ho1 (fun _ _ e => .inr e)))
  have m1 := (ho1.block _ (Array.getElem?_eq_some_iff.1 HR0.out.m).1 (by omega)).trans HR0.out.m
  have k1 := row_cell ((ho1.block _ (Array.getElem?_eq_some_iff.1 H1.out).1 n1).trans H1.out) 0 _ rfl
  have a1 := (ho1.block _ (Array.getElem?_eq_some_iff.1 H3.out).1 n3).trans H3.out
  have b1 := (ho1.block _ (Array.getElem?_eq_some_iff.1 H4.out).1 n4).trans H4.out
  have f1 := (ho1.block _ (Array.getElem?_eq_some_iff.1 H2.out).1 n2).trans H2.out
  have hwz := HB.out.size
  rw [hNC, ← HNE.out] at m1
  have KE := Lib.hid (lerr_any _ _ _ _ _ _ hl1)
  have HST : Hid (er = 0 → CSt w lo mb lb ab bm zs N P [] (-1) (p + u) 0 (.slice none 0 0) w1) := Lib.hid fun h => by
    subst h
    exact ⟨m1, hl1, World.ownsRow_nil _ _ _ _, a1, b1, ho1.mono (fun _ _ e => .inr (.inl e)), by omega⟩
  have HL1 := Lib.hid hl1
  clear K hl1 a1 b1 m1 f1
  go_wp2_with fail
  refine KE.out.mono ?_
  rintro r w2 ⟨rfl, rfl⟩
  clear KE
  rcases HW.out with ⟨g1, rfl⟩ | ⟨g1, rfl, rfl, rfl⟩
  · have e1 : (((Vi.get (zs.drop p)).2.2 : Int) != 0) = true := by simpa using g1
    have hR := HR.out
    rw [if_pos g1] at hR
    have HR2 := Lib.hid hR
    clear hR HST
    go_wp2
    try simp only [Exit.noGoto]
    go_ret
    rw [← HR2.out]
    exact ⟨rfl, HOF.out, fun h => absurd h g1⟩
  · have hR := HR.out
    rw [if_neg (by simpa using g1)] at hR
    clear HW HR
    generalize (Vi.get (zs.drop p)).1 = z at *
    generalize (Vi.get (zs.drop p)).2.1 = u at *
    clear g1
    by_cases hz0 : z = 0
    · subst hz0
      rw [if_pos rfl] at hR
      have HR2 := Lib.hid hR
      clear hR HST
      go_wp2
      try simp only [Exit.noGoto]
      go_ret
      rw [← HR2.out]
      exact ⟨rfl, HOF.out, fun h => by simp at h⟩
    · have hzi : ¬ (z : Int) = 0 := by omega
      rw [if_neg hz0] at hR
      by_cases hbig : (32 : Int) < (z : Int)
      · rw [if_pos hbig] at hR
        have HR2 := Lib.hid hR
        clear hR HST
        go_wp2
        try simp only [Exit.noGoto]
        go_ret
        rw [← HR2.out]
        exact ⟨rfl, HOF.out, fun h => by simp at h⟩
      · rw [if_neg hbig] at hR
        rw [List.drop_drop] at hR
        have hz32 : (z : Int) ≤ 32 := by omega
        have HR2 := Lib.hid hR
        have HS1 := Lib.hid (HST.out rfl)
        obtain ⟨RC, hRC⟩ : ∃ RC, rdC z (-1) (zs.drop (p + u)) = RC := ⟨_, rfl⟩
        have HRC := Lib.hid hRC
        clear hR HST hRC
        go_wp2_with fail
        refine wp_label ?_
        go_wp2_with fail
        rw [show ((z : Int) == 0) = false from by simpa using hzi]
        go_loopw [6, 24] (fun ev iv wr => ∃ (j c : Nat) (a : Int) (L : List Int) (D : Value), j ≤ z ∧ ev = .int .i64 0 ∧ iv = .int .u64 (j : Int) ∧ L.length = j ∧ (-1 ≤ a ∧ a ≤ 65535) ∧ Hid (CSt w lo mb lb ab bm zs N P L a (p + u + c) 0 D wr) ∧ Hid (RC = ((rdC (z - j) a (zs.drop (p + u + c))).1, c + (rdC (z - j) a (zs.drop (p + u + c))).2.1, L ++ (rdC (z - j) a (zs.drop (p + u + c))).2.2))) (fun _ iv _ => z - (intOf iv).toNat)
        case atStart => exact ⟨0, 0, (-1), [], .slice none 0 0, by omega, rfl, rfl, rfl, ⟨by omega, by omega⟩, HS1, by rw [Nat.sub_zero, Nat.add_zero, HRC.out]; exact Lib.hid (by simp)⟩
        case round =>
          obtain ⟨j, c, a, L, D, hj, rfl, rfl, hL, hab, HS, HE⟩ := hrel
          obtain ⟨q, hq⟩ : ∃ q, p + u + c = q := ⟨_, rfl⟩
          rw [hq] at HS HE
          rcases Nat.lt_or_ge j z with hlt | hge
          · have hj2 : (j : Int) < (z : Int) := by omega
            have K := cellr_any w lo mb lb ab bm zs N P L a q D wr HS.out hab.1 hab.2 (by omega) (by omega) HBY.out
            have hst := rdC_step (z - j - 1) a (zs.drop q)
            rw [show z - j - 1 + 1 = z - j by omega] at hst
            have hrg := fun h => rdG_rng (a := a) (HBY.out.drop q) h hab.1
            obtain ⟨⟨E, k, x⟩, hans⟩ : ∃ r, rdG a (zs.drop q) = r := ⟨_, rfl⟩
            rw [hans] at K hst hrg
            simp only at K hst hrg
            have kf := row_cell ((HS.out.off.block _ (Array.getElem?_eq_some_iff.1 H2.out).1 (by omega)).trans H2.out) 0 _ rfl
            have K := Lib.hid K
            have HST := Lib.hid hst
            clear hans hst
            go_wp2_with fail
            refine K.out.mono ?_
            rintro r w2 ⟨rfl, hoff, hok⟩
            clear K
            by_cases hE : E = 0
            · subst hE
              obtain ⟨D2, hD2⟩ := hok rfl
              have hx := hrg rfl
              have hst := HST.out
              rw [if_neg (by simp)] at hst
              have hE2 := HE.out
              rw [hst] at hE2
              simp only at hE2
              rw [List.drop_drop] at hE2
              have HE3 : Hid (RC = ((rdC (z - (j + 1)) x (zs.drop (p + u + (c + k)))).1, c + k + (rdC (z - (j + 1)) x (zs.drop (p + u + (c + k)))).2.1, (L ++ [x]) ++ (rdC (z - (j + 1)) x (zs.drop (p + u + (c + k)))).2.2)) := Lib.hid (by
                rw [hE2, ← Nat.add_assoc (p + u) c k, hq, show z - (j + 1) = z - j - 1 by omega, Nat.add_assoc, List.append_assoc]
                rfl)
              have HD2 : Hid (CSt w lo mb lb ab bm zs N P (L ++ [x]) x (p + u + (c + k)) 0 D2 w2) := Lib.hid (by rw [← Nat.add_assoc, hq]; exact hD2)
              clear hE2 hst hD2 hok hoff kf hq
              go_wp2
              go_roundw
              case rel => exact ⟨j + 1, c + k, x, L ++ [x], D2, by omega, by go_num, by go_num, by simp [hL], hx, HD2, HE3⟩
              case measure => simp [intOf]; omega
            · have e1 : ((E : Int) != 0) = true := by simpa using hE
              have hst := HST.out
              rw [if_pos hE] at hst
              have hE2 := HE.out
              rw [hst] at hE2
              have hR := HR2.out
              rw [HRC.out, hE2] at hR
              simp only at hR
              rw [if_pos hE] at hR
              have HR3 := Lib.hid hR
              have HO3 := Lib.hid (Off.two HB.out hoff hlo.1)
              clear hR hE2 hst hok hoff kf hq
              go_wp2
              try simp only [Exit.noGoto]
              go_ret
              rw [← HR3.out]
              exact ⟨rfl, HO3.out, fun h => absurd h hE⟩
          · obtain rfl : j = z := by omega
            have hE2 := HE.out
            rw [Nat.sub_self] at hE2
            simp only [rdC, Nat.add_zero, List.append_nil] at hE2
            have hR := HR2.out
            rw [HRC.out, hE2] at hR
            simp only [ne_eq, not_true_eq_false, if_false] at hR
            have HR3 := Lib.hid hR
            have HF := Lib.hid (CSt.done HH.out HB.out hlo.1 (by intro h; rw [h] at hL; simp at hL; omega) HS.out)
            have HO3 := Lib.hid (Off.two HB.out HS.out.off hlo.1)
            have HQ := Lib.hid hq
            clear hR hE2 hq
            go_wp2
            try simp only [Exit.noGoto]
            go_ret
            rw [← HR3.out]
            refine ⟨rfl, HO3.out, fun _ => ?_⟩
            have hf := HF.out
            rw [← HQ.out] at hf
            exact ⟨_, _, by rw [← Nat.add_assoc]; exact hf⟩
set_option maxHeartbeats 16000000 in
theorem countp_any (w0 w : World) (lo mb lb bo1 bo2 ab sb bm : Nat) (zs : List Int) (N : Mg) (P C : Value) (p : Nat) (f : Fd) (h0 : RdAt lo w0 mb lb zs N P C p 0) (hb : Below w0.heap.size w0 w) (hf : FdX f) (hso : f.so = 3) (hN : N.p = []) (hlo : w0.heap.size ≤ ab ∧ w0.heap.size ≤ bm ∧ w0.heap.size ≤ sb) (hl : zs.length ≤ 1000000) (hz : Bys zs)
    (h1 : w.heap[bo1]? = some (.cells #[.int .i64 f.mo] 3 (0, 0))) (h2 : w.heap[bo2]? = some (.cells #[.func (.func 101) #[] #[.pointer (some ⟨ab, 0, none⟩), .pointer (some ⟨sb, 0, none⟩), .pointer (some ⟨bm, 0, none⟩)]] 119 (0, 0))) (h3 : w.heap[ab]? = some (.cells #[.int .i64 0, .int .i64 0] 76 (0, 0))) (h4 : w.heap[bm]? = some (.cells #[.pointer (some ⟨mb, 0, none⟩)] 121 (0, 0))) (h5 : w.heap[sb]? = some (.cells #[.func (.func 100) #[] #[]] 160 (0, 0))) (hlt : ab < w.heap.size ∧ bm < w.heap.size ∧ sb < w.heap.size) :
    Calls Tryz.prog 98 #[.pointer (some ⟨lb, 0, none⟩), .pointer (some ⟨bo1, 0, none⟩), .pointer (some ⟨bo2, 0, none⟩)] w fun r w' => RdO lo mb lb zs p (rdF N f (zs.drop p)) w0 r w' := by
  obtain ⟨X, u, er, hX, x0, x1, hu, hw⟩ := numR_all (zs.drop p)
  have hR0 := h0.later hb
  have K := lnum_any lo lb zs p 0 w 18446744073709551615 hR0.l (by omega) hz
  rw [hX] at K
  unfold ReadI at K
  simp only [ansI, placeOf, errOf, if_true] at K
  have hmo := hf.mo.1 hso
  have hle1 := hf.lst (by omega)
  have hlm := h0.a
  have hmlt := (Array.getElem?_eq_some_iff.1 h0.m).1
  obtain ⟨_, _, hbl, -⟩ := hR0.l.open
  have n1 := row_ne h1 hbl (by decide)
  have n2 := row_ne h2 hbl (by decide)
  have n3 := row_ne h3 hbl (by decide)
  have n4 := row_ne h4 hbl (by decide)
  have n5 := row_ne h5 hbl (by decide)
  have n6 := row_ne h2 hR0.m (by decide)
  have n7 := row_ne h2 h3 (by decide)
  have hNC : P = .slice none 0 0 := h0.pz hN
  have HNE : Hid ({ N with p := [] } = N) := Lib.hid (by cases N; simp only at hN; subst hN; rfl)
  obtain ⟨R, hR⟩ : ∃ R, rdF N f (zs.drop p) = R := ⟨_, rfl⟩
  rw [hR]
  unfold rdF at hR
  rw [if_neg (show ¬ f.so = 1 by omega), if_neg (show ¬ f.so = 2 by omega), if_pos hso, hmo, hle1, hN] at hR
  simp only [List.nil_append, Int.zero_lt_one, and_true] at hR
  rw [hmo] at h1
  have K := Lib.hid K
  have HH := Lib.hid h0
  have HB := Lib.hid hb
  have HR0 := Lib.hid hR0
  have H2 := Lib.hid h2
  have H3 := Lib.hid h3
  have H4 := Lib.hid h4
  have H5 := Lib.hid h5
  have HR := Lib.hid hR
  have HW := Lib.hid hw
  have HBY := Lib.hid hz
  have H1 := Lib.hid h1
  clear hR hw hX h0 hb hbl h1 h2 h3 h4 h5 hz hR0 hf hmo hle1
  go_enter Tryz.func98, Tryz.ntmps98
  go_wp2
  refine wp_scope_straight ?_
  go_wp2_with fail
  refine K.out.mono ?_
  rintro r w1 ⟨rfl, hl1, ho1⟩
  have HOF : Hid (Off (fun q => q = mb ∨ q = lb) w0 w1) := Lib.hid (((Off.of_below (S := fun q => q = mb ∨ q = lb) HB.out).trans ho1 (fun _ _ e => .inr e)))
  have m1 := (ho1.block _ (Array.getElem?_eq_some_iff.1 HR0.out.m).1 (by omega)).trans HR0.out.m
  have k1 := row_cell ((ho1.block _ (Array.getElem?_eq_some_iff.1 H1.out).1 n1).trans H1.out) 0 _ rfl
  have a1 := (ho1.block _ (Array.getElem?_eq_some_iff.1 H3.out).1 n3).trans H3.out
  have b1 := (ho1.block _ (Array.getElem?_eq_some_iff.1 H4.out).1 n4).trans H4.out
  have s1 := (ho1.block _ (Array.getElem?_eq_some_iff.1 H5.out).1 n5).trans H5.out
  have f1 := (ho1.block _ (Array.getElem?_eq_some_iff.1 H2.out).1 n2).trans H2.out
  have hwz := HB.out.size
  rw [hNC, ← HNE.out] at m1
  have KE := Lib.hid (lerr_any _ _ _ _ _ _ hl1)
  have HST : Hid (er = 0 → PSt w lo mb lb ab sb bm zs N C [] 0 0 (p + u) 0 (.slice none 0 0) w1) := Lib.hid fun h => by
    subst h
    exact ⟨m1, hl1, World.ownsRow_nil _ _ _ _, a1, s1, b1, ho1.mono (fun _ _ e => .inr (.inl e)), by omega⟩
  have HL1 := Lib.hid hl1
  clear K hl1 a1 b1 m1 f1 s1
  go_wp2_with fail
  refine KE.out.mono ?_
  rintro r w2 ⟨rfl, rfl⟩
  clear KE
  rcases HW.out with ⟨g1, rfl⟩ | ⟨g1, rfl, rfl, rfl⟩
  · have e1 : (((Vi.get (zs.drop p)).2.2 : Int) != 0) = true := by simpa using g1
    have hR := HR.out
    rw [if_pos g1] at hR
    have HR2 := Lib.hid hR
    clear hR HST
    go_wp2
    try simp only [Exit.noGoto]
    go_ret
    rw [← HR2.out]
    exact ⟨rfl, HOF.out, fun h => absurd h g1⟩
  · have hR := HR.out
    rw [if_neg (by simpa using g1)] at hR
    clear HW HR
    generalize (Vi.get (zs.drop p)).1 = z at *
    generalize (Vi.get (zs.drop p)).2.1 = u at *
    clear g1
    by_cases hz0 : z = 0
    · subst hz0
      rw [if_pos rfl] at hR
      have HR2 := Lib.hid hR
      clear hR HST
      go_wp2
      try simp only [Exit.noGoto]
      go_ret
      rw [← HR2.out]
      exact ⟨rfl, HOF.out, fun h => by simp at h⟩
    · have hzi : ¬ (z : Int) = 0 := by omega
      rw [if_neg hz0] at hR
      by_cases hbig : (16 : Int) < (z : Int)
      · rw [if_pos hbig] at hR
        have HR2 := Lib.hid hR
        clear hR HST
        go_wp2
        try simp only [Exit.noGoto]
        go_ret
        rw [← HR2.out]
        exact ⟨rfl, HOF.out, fun h => by simp at h⟩
      · rw [if_neg hbig] at hR
        rw [List.drop_drop] at hR
        have hz32 : (z : Int) ≤ 16 := by omega
        have HR2 := Lib.hid hR
        have HS1 := Lib.hid (HST.out rfl)
        obtain ⟨RC, hRC⟩ : ∃ RC, rdP z (0, 0) (zs.drop (p + u)) = RC := ⟨_, rfl⟩
        have HRC := Lib.hid hRC
        clear hR HST hRC
        go_wp2_with fail
        refine wp_label ?_
        go_wp2_with fail
        rw [show ((z : Int) == 0) = false from by simpa using hzi]
        go_loopw [6, 24] (fun ev iv wr => ∃ (j c : Nat) (a : Int × Int) (L : List (Int × Int)) (D : Value), j ≤ z ∧ ev = .int .i64 0 ∧ iv = .int .u64 (j : Int) ∧ L.length = j ∧ (ptOk a) ∧ Hid (PSt w lo mb lb ab sb bm zs N C L a.1 a.2 (p + u + c) 0 D wr) ∧ Hid (RC = ((rdP (z - j) a (zs.drop (p + u + c))).1, c + (rdP (z - j) a (zs.drop (p + u + c))).2.1, L ++ (rdP (z - j) a (zs.drop (p + u + c))).2.2))) (fun _ iv _ => z - (intOf iv).toNat)
        case atStart => exact ⟨0, 0, (0, 0), [], .slice none 0 0, by omega, rfl, rfl, rfl, ⟨by simp, by simp, by simp, by simp⟩, HS1, by rw [Nat.sub_zero, Nat.add_zero, HRC.out]; exact Lib.hid (by simp)⟩
        case round =>
          obtain ⟨j, c, a, L, D, hj, rfl, rfl, hL, hab, HS, HE⟩ := hrel
          obtain ⟨q, hq⟩ : ∃ q, p + u + c = q := ⟨_, rfl⟩
          rw [hq] at HS HE
          rcases Nat.lt_or_ge j z with hlt | hge
          · have hj2 : (j : Int) < (z : Int) := by omega
            have K := pointr_any w lo mb lb ab sb bm zs N C L a.1 a.2 q D wr HS.out ⟨hab.1, hab.2.1⟩ ⟨hab.2.2.1, hab.2.2.2⟩ (by omega) (by omega) HBY.out
            have hst := rdP_q (z - j - 1) a (zs.drop q)
            rw [show z - j - 1 + 1 = z - j by omega] at hst
            have hrg := rdQ_rng (a := a) (HBY.out.drop q)
            obtain ⟨⟨E, k, x⟩, hans⟩ : ∃ r, rdQ a (zs.drop q) = r := ⟨_, rfl⟩
            rw [hans] at K hst hrg
            simp only at K hst hrg
            have kf := row_cell ((HS.out.off.block _ (Array.getElem?_eq_some_iff.1 H2.out).1 (by omega)).trans H2.out) 0 _ rfl
            have K := Lib.hid K
            have HST := Lib.hid hst
            clear hans hst
            go_wp2_with fail
            refine K.out.mono ?_
            rintro r w2 ⟨rfl, hoff, hok⟩
            clear K
            by_cases hE : E = 0
            · subst hE
              obtain ⟨D2, hD2⟩ := hok rfl
              have hx := hrg rfl
              have hst := HST.out
              rw [if_neg (by simp)] at hst
              have hE2 := HE.out
              rw [hst] at hE2
              simp only at hE2
              rw [List.drop_drop] at hE2
              have HE3 : Hid (RC = ((rdP (z - (j + 1)) x (zs.drop (p + u + (c + k)))).1, c + k + (rdP (z - (j + 1)) x (zs.drop (p + u + (c + k)))).2.1, (L ++ [x]) ++ (rdP (z - (j + 1)) x (zs.drop (p + u + (c + k)))).2.2)) := Lib.hid (by
                rw [hE2, ← Nat.add_assoc (p + u) c k, hq, show z - (j + 1) = z - j - 1 by omega, Nat.add_assoc, List.append_assoc]
                rfl)
              have HD2 : Hid (PSt w lo mb lb ab sb bm zs N C (L ++ [x]) x.1 x.2 (p + u + (c + k)) 0 D2 w2) := Lib.hid (by rw [← Nat.add_assoc, hq]; exact hD2)
              clear hE2 hst hD2 hok hoff kf hq
              go_wp2
              go_roundw
              case rel => exact ⟨j + 1, c + k, x, L ++ [x], D2, by omega, by go_num, by go_num, by simp [hL], hx, HD2, HE3⟩
              case measure => simp [intOf]; omega
            · have e1 : ((E : Int) != 0) = true := by simpa using hE
              have hst := HST.out
              rw [if_pos hE] at hst
              have hE2 := HE.out
              rw [hst] at hE2
              have hR := HR2.out
              rw [HRC.out, hE2] at hR
              simp only at hR
              rw [if_pos hE] at hR
              have HR3 := Lib.hid hR
              have HO3 := Lib.hid (Off.two HB.out hoff hlo.1)
              clear hR hE2 hst hok hoff kf hq
              go_wp2
              try simp only [Exit.noGoto]
              go_ret
              rw [← HR3.out]
              exact ⟨rfl, HO3.out, fun h => absurd h hE⟩
          · obtain rfl : j = z := by omega
            have hE2 := HE.out
            rw [Nat.sub_self] at hE2
            simp only [rdP, Nat.add_zero, List.append_nil] at hE2
            have hR := HR2.out
            rw [HRC.out, hE2] at hR
            simp only [ne_eq, not_true_eq_false, if_false] at hR
            have HR3 := Lib.hid hR
            have HF := Lib.hid (PSt.done HH.out HB.out hlo.1 (by intro h; rw [h] at hL; simp at hL; omega) HS.out)
            have HO3 := Lib.hid (Off.two HB.out HS.out.off hlo.1)
            have HQ := Lib.hid hq
            clear hR hE2 hq
            go_wp2
            try simp only [Exit.noGoto]
            go_ret
            rw [← HR3.out]
            refine ⟨rfl, HO3.out, fun _ => ?_⟩
            have hf := HF.out
            rw [← HQ.out] at hf
            exact ⟨_, _, by rw [← Nat.add_assoc]; exact hf⟩
end Go.Proofs.YtlbfibnfmijahaaGreat

namespace Go.Proofs.YtlbfibnfmijahaaGreat
open Go.RowKit Go.Shelf
set_option maxRecDepth 100000
attribute [local go_sem] Oper.semAt_some

theorem unfit_any (x : Int) (w : World) : Calls Tryz.prog 107 #[.int .u8 x] w fun e w' => e = .returned (.bool (decide (¬ byI x))) ∧ w' = w := by
  by_cases h1 : x < 32
  · rw [decide_eq_true (by unfold byI; omega)]
    go_enter Tryz.func107, Tryz.ntmps107
    go_wp2
    go_ret
    exact ⟨rfl, rfl⟩
  · by_cases h2 : 126 < x
    · rw [decide_eq_true (by unfold byI; omega)]
      go_enter Tryz.func107, Tryz.ntmps107
      go_wp2
      go_ret
      exact ⟨rfl, rfl⟩
    · rw [decide_eq_false (by unfold byI; omega)]
      go_enter Tryz.func107, Tryz.ntmps107
      go_wp2
      go_ret
      exact ⟨rfl, rfl⟩
set_option maxHeartbeats 1000000 in
theorem indexu_any (B : Nat) (a : Option Addr) (n c : Nat) (zs : List Int) (w : World) (hn : zs.length = n) (hl : n ≤ 1000000) (h1 : Nums .u8 w B a zs) :
    Calls Tryz.prog 121 #[.slice a n c, .func (.func 107) #[] #[]] w fun e w' => (∃ r : Int, e = .returned (.int .i64 r) ∧ ((0 ≤ r ∧ ∃ s ∈ zs, ¬ byI s) ∨ (r = -1 ∧ ∀ s ∈ zs, byI s))) ∧ w' = w := by
  have HL := Lib.hid hn
  clear hn
  go_enter Tryz.func121, Tryz.ntmps121
  go_wp2
  go_loopw [5, 8] (fun _ v wr => ∃ k : Nat, k ≤ n ∧ v = .int .i64 (k : Int) ∧ Hid (∀ s ∈ zs.take k, byI s) ∧ wr = w) (fun _ v _ => n - (intOf v).toNat)
  case atStart => exact ⟨0, by omega, rfl, fun s hs => by simp at hs, rfl⟩
  case round =>
    obtain ⟨k, hk, rfl, HN, rfl⟩ := hrel
    by_cases hlt : k < n
    · obtain ⟨z, hz⟩ : ∃ z, zs[k]? = some z := ⟨_, List.getElem?_eq_getElem (by rw [HL.out]; exact hlt)⟩
      obtain ⟨b1, o1, rfl, hb1, hc1⟩ := h1.open hz
      have hlt' : (k : Int) < (n : Int) := by omega
      have K := unfit_any z wr
      by_cases hz0 : byI z
      · have HF : Hid (∀ s ∈ zs.take (k + 1), byI s) := by
          show ∀ s ∈ _, _
          rw [List.take_add_one, hz]
          intro s hs
          rcases List.mem_append.1 hs with h | h
          · exact HN.out s h
          · simp at h; subst h; exact hz0
        rw [decide_eq_false (by simpa using hz0)] at K
        clear hz h1
        go_wp2_with fail
        refine K.mono ?_
        rintro e w' ⟨rfl, rfl⟩
        go_wp2
        go_roundw
        case rel => exact ⟨k + 1, by omega, by go_num, HF, trivial⟩
        case measure => simp [intOf]; omega
      · have HF := Lib.hid (show ∃ s ∈ zs, ¬ byI s from ⟨z, List.mem_of_getElem? hz, hz0⟩)
        rw [decide_eq_true hz0] at K
        clear hz h1
        go_wp2_with fail
        refine K.mono ?_
        rintro e w' ⟨rfl, rfl⟩
        go_wp2
        go_ret
        exact ⟨⟨_, rfl, .inl ⟨by omega, HF.out⟩⟩, rfl⟩
    · have hkn : k = n := by omega
      have HF : Hid (∀ s ∈ zs, byI s) := by
        have := HN.out
        rwa [List.take_of_length_le (by rw [HL.out]; omega)] at this
      go_wp2
      go_ret
      exact ⟨⟨_, rfl, .inr ⟨rfl, HF.out⟩⟩, rfl⟩
theorem cunfit_any (B : Nat) (a : Option Addr) (n c : Nat) (zs : List Int) (w : World) (hn : zs.length = n) (hl : n ≤ 1000000) (h1 : Nums .u8 w B a zs) :
    Calls Tryz.prog 106 #[.slice a n c, .func (.func 107) #[] #[]] w fun e w' => e = .returned (.bool (decide (¬ ∀ s ∈ zs, byI s))) ∧ w' = w := by
  have K := indexu_any B a n c zs w hn hl h1
  clear h1
  obtain ⟨r0, hr0⟩ : ∃ r0, decide (¬ ∀ s ∈ zs, byI s) = r0 := ⟨_, rfl⟩
  rw [hr0]
  go_enter Tryz.func106, Tryz.ntmps106
  go_wp2_with fail
  refine K.mono ?_
  rintro e w' ⟨⟨r, rfl, h⟩, rfl⟩
  rcases h with ⟨h0, s, hs1, hs2⟩ | ⟨rfl, h⟩
  · have hr : r0 = true := by rw [← hr0]; exact decide_eq_true fun h => hs2 (h s hs1)
    subst hr
    clear K hr0
    go_wp2
    go_ret
    exact ⟨rfl, rfl⟩
  · have hr : r0 = false := by rw [← hr0]; exact decide_eq_false fun h2 => h2 h
    subst hr
    clear h K hr0
    go_wp2
    go_ret
    exact ⟨rfl, rfl⟩
theorem puttx_any (mb bm : Nat) (N : Mg) (P C : Value) (s : ByteArray) (w : World) (hm : w.heap[mb]? = some (.cells (mC N P C) 26 (0, 0))) (hbm : w.heap[bm]? = some (.cells #[.pointer (some ⟨mb, 0, none⟩)] 121 (0, 0))) :
    Calls Tryz.prog 83 #[.string s, .pointer (some ⟨bm, 0, none⟩)] w fun e w' => (∃ x, e = .returned x) ∧ w' = w.setCell ⟨mb, 9, none⟩ (.string s) := by
  have k := row_cell hbm 0 _ rfl
  have c := row_cell hm 9 (.string N.tx) rfl
  have z := frozen_of_row w mb 9 _ _ hm
  clear hm hbm
  go_enter Tryz.func83, Tryz.ntmps83
  go_wp2
  go_end0
  exact ⟨⟨_, rfl⟩, rfl⟩
theorem puttg_any (mb bm : Nat) (N : Mg) (P C : Value) (s : ByteArray) (w : World) (hm : w.heap[mb]? = some (.cells (mC N P C) 26 (0, 0))) (hbm : w.heap[bm]? = some (.cells #[.pointer (some ⟨mb, 0, none⟩)] 121 (0, 0))) :
    Calls Tryz.prog 84 #[.string s, .pointer (some ⟨bm, 0, none⟩)] w fun e w' => (∃ x, e = .returned x) ∧ w' = w.setCell ⟨mb, 10, none⟩ (.string s) := by
  have k := row_cell hbm 0 _ rfl
  have c := row_cell hm 10 (.string N.tg) rfl
  have z := frozen_of_row w mb 10 _ _ hm
  clear hm hbm
  go_enter Tryz.func84, Tryz.ntmps84
  go_wp2
  go_end0
  exact ⟨⟨_, rfl⟩, rfl⟩
/-- 'string(b)' of bytes that lie somewhere -/
theorem conv_txt (B : Nat) (a : Option Addr) (n c : Nat) (zs : List Int) (w : World) (hn : zs.length = n) (h1 : Nums .u8 w B a zs) :
    (convert 49 9 (.slice a n c)).run Tryz.prog w = .ok (.string (txt zs)) w := by
  subst hn
  by_cases hz : zs = []
  · subst hz
    rw [run_convert_bytes_string w _ _ _ _ _ _ Tryz.underlying49 Tryz.underlying5 Tryz.underlying9]
    cases a <;> simp [Conv.bytesToString, loadCells] <;> rfl
  · obtain ⟨b, o, rfl, _, hc⟩ := h1 hz
    exact run_convert_bytes_arg (P := Tryz.prog) w _ _ Tryz.underlying49 Tryz.underlying5 b o _ c zs rfl (fun i hi => by
      rw [hc i zs[i] (List.getElem?_eq_getElem hi)]
      simp [List.getElem?_eq_getElem hi]) _ Tryz.underlying9
theorem NumsIn.nums18 {k : IntKind} {w : World} {lo hi : Nat} {a : Option Addr} {zs : List Int} (h : NumsIn k w lo hi a zs) : Nums k w hi a zs := fun hn => by
  obtain ⟨b, off, e, _, h2, hc⟩ := h hn
  exact ⟨b, off, e, h2, hc⟩
theorem fldR_ways (l : List Int) (mo : Int) (h0 : 0 ≤ mo) (h1 : mo ≤ 64) : ∃ (B : List Int) (u er : Nat), fldR l mo = (B, u, er) ∧ B.length ≤ 64 ∧
    (((Vi.get l).2.2 ≠ 0 ∧ er = (Vi.get l).2.2) ∨ ((Vi.get l).2.2 = 0 ∧ mo < ((Vi.get l).1 : Int) ∧ er = 6) ∨
      ((Vi.get l).2.2 = 0 ∧ ((Vi.get l).1 : Int) ≤ mo ∧ (l.drop (Vi.get l).2.1).length < (Vi.get l).1 ∧ er = 4) ∨
      ((Vi.get l).2.2 = 0 ∧ ((Vi.get l).1 : Int) ≤ mo ∧ ¬ (l.drop (Vi.get l).2.1).length < (Vi.get l).1 ∧ er = 0 ∧ B = (l.drop (Vi.get l).2.1).take (Vi.get l).1 ∧ u = (Vi.get l).2.1 + (Vi.get l).1)) := by
  unfold fldR
  rw [show max mo 0 = mo by omega]
  by_cases g1 : (Vi.get l).2.2 ≠ 0
  · rw [if_pos g1]
    exact ⟨[], 0, _, rfl, by simp, .inl ⟨g1, rfl⟩⟩
  · rw [if_neg g1]
    have g1' : (Vi.get l).2.2 = 0 := by simpa using g1
    by_cases g2 : mo < ((Vi.get l).1 : Int)
    · rw [if_pos g2]
      exact ⟨[], 0, _, rfl, by simp, .inr (.inl ⟨g1', g2, rfl⟩)⟩
    · rw [if_neg g2]
      by_cases g3 : l.length - (Vi.get l).2.1 < (Vi.get l).1
      · rw [if_pos g3]
        exact ⟨[], 0, _, rfl, by simp, .inr (.inr (.inl ⟨g1', by omega, by rw [List.length_drop]; exact g3, rfl⟩))⟩
      · rw [if_neg g3]
        exact ⟨_, _, _, rfl, by rw [List.length_take]; omega, .inr (.inr (.inr ⟨g1', by omega, by rw [List.length_drop]; exact g3, rfl, rfl, rfl⟩))⟩
set_option maxHeartbeats 4000000 in
theorem textr_any (lo mb lb bo bp bm : Nat) (zs : List Int) (N : Mg) (P C : Value) (p : Nat) (f : Fd) (w : World) (h : RdAt lo w mb lb zs N P C p 0) (hf : FdX f) (hso : f.so = 5) (hl : zs.length ≤ 1000000) (hz : Bys zs)
    (hbo : w.heap[bo]? = some (.cells #[.int .i64 f.mo] 3 (0, 0))) (hbp : w.heap[bp]? = some (.cells #[.func (.func 83) #[] #[.pointer (some ⟨bm, 0, none⟩)]] 149 (0, 0))) (hbm : w.heap[bm]? = some (.cells #[.pointer (some ⟨mb, 0, none⟩)] 121 (0, 0))) :
    Calls Tryz.prog 104 #[.pointer (some ⟨lb, 0, none⟩), .pointer (some ⟨bo, 0, none⟩), .pointer (some ⟨bp, 0, none⟩)] w fun r w' => RdO lo mb lb zs p (rdF N f (zs.drop p)) w r w' := by
  have hmo : 0 ≤ f.mo ∧ f.mo ≤ 64 := by have := hf.mo; omega
  have hle0 := hf.tex (by omega)
  obtain ⟨Bs, u, er, hX, hBl, hw⟩ := fldR_ways (zs.drop p) f.mo hmo.1 hmo.2
  have K := lfld_any lo lb zs p 0 w f.mo (by omega) (by omega) h.l (by omega) hz
  rw [hX] at K
  unfold ReadB at K
  simp only [ansB, placeOf, errOf, if_true] at K
  obtain ⟨R, hR⟩ : ∃ R, rdF N f (zs.drop p) = R := ⟨_, rfl⟩
  rw [hR]
  unfold rdF at hR
  rw [if_neg (show ¬ f.so = 1 by omega), if_neg (show ¬ f.so = 2 by omega), if_neg (show ¬ (((Vi.get (zs.drop p)).1 = 0) ∧ 0 < f.le) by omega), if_neg (show ¬ f.so = 3 by omega), if_neg (show ¬ f.so = 4 by omega)] at hR
  have hlm := h.a
  obtain ⟨_, _, hbl, -⟩ := h.l.open
  have n1 := row_ne hbo h.m (by decide)
  have n2 := row_ne hbo hbl (by decide)
  have n3 := row_ne hbm h.m (by decide)
  have n4 := row_ne hbm hbl (by decide)
  have n6 := row_ne hbp hbl (by decide)
  have kb := row_cell hbo 0 _ rfl
  have K := Lib.hid K
  have HH := Lib.hid h
  have HBP := Lib.hid hbp
  have HBM := Lib.hid hbm
  have HR := Lib.hid hR
  have HW := Lib.hid hw
  obtain ⟨q, hq⟩ : ∃ q, Bs.length = q := ⟨_, rfl⟩
  rw [hq] at K hBl
  have HQ := Lib.hid hq
  clear hR hw hX h hbl hbo hbp hbm hq
  go_enter Tryz.func104, Tryz.ntmps104
  go_wp2_with fail
  refine K.out.mono ?_
  rintro r w1 ⟨⟨A, c, rfl, hcc, hn⟩, hl1, ho1⟩
  have h1 := HH.out.turn hl1 ho1
  have hn1 := hn.nums18
  have hbm1 := (ho1.block _ (Array.getElem?_eq_some_iff.1 HBM.out).1 n4).trans HBM.out
  have hbp1 := (ho1.block _ (Array.getElem?_eq_some_iff.1 HBP.out).1 n6).trans HBP.out
  have kp := row_cell hbp1 0 _ rfl
  have hcv := conv_txt _ A q c Bs w1 HQ.out hn1
  have KP := Lib.hid (puttx_any mb bm N P C (txt Bs) w1 h1.m hbm1)
  obtain ⟨w2, hw2⟩ : ∃ w2, w1.setCell ⟨mb, 9, none⟩ (.string (txt Bs)) = w2 := ⟨_, rfl⟩
  have hN := h1.tx (txt Bs)
  have hof : Off (fun q => q = mb) w1 (w1.setCell ⟨mb, 9, none⟩ (.string (txt Bs))) := Off.setCell (S := fun q => q = mb) (p := ⟨mb, 9, none⟩) (Off.refl _ w1) rfl _
  rw [hw2] at hN KP hof
  have hmlt := (Array.getElem?_eq_some_iff.1 HH.out.m).1
  have HN2 : Hid (Nums .u8 w2 w2.heap.size A Bs) := Lib.hid fun hne => by
    obtain ⟨b, off, e, k1, k2, kc⟩ := hn hne
    exact ⟨b, off, e, Nat.lt_of_lt_of_le k2 hof.size, fun j c hj => hof.cell (kc j c hj) (by show ¬ b = mb; omega)⟩
  have HN := Lib.hid hN
  have HOF : Hid (Off (fun q => q = mb ∨ q = lb) w w2) := Lib.hid ((ho1.mono (S' := fun q => q = mb ∨ q = lb) (fun _ _ e => .inr e)).trans hof (fun _ _ e => .inl e))
  clear K hl1 ho1 h1 hn hn1 hbm1 hbp1 hof hN hw2
  go_wp2_with fail
  refine KP.out.mono ?_
  rintro r w3 ⟨⟨x, rfl⟩, rfl⟩
  clear hcv kp KP
  go_wp2_with fail
  refine (cunfit_any _ A q c Bs _ HQ.out (by omega) HN2.out).mono ?_
  rintro r w4 ⟨rfl, rfl⟩
  obtain ⟨am, ham⟩ : ∃ am, decide (¬ ∀ s ∈ Bs, byI s) = am := ⟨_, rfl⟩
  rw [ham]
  go_wp2_with fail
  refine (otherwise_any HN.out.l am 19).mono ?_
  rintro r w5 ⟨rfl, rfl⟩
  have HAM := Lib.hid ham
  clear ham
  go_wp2
  go_ret
  have hR := HR.out
  have ham := HAM.out
  rcases HW.out with ⟨g1, rfl⟩ | ⟨g1, g2, rfl⟩ | ⟨g1, g2, g3, rfl⟩ | ⟨g1, g2, g3, rfl, g4, rfl⟩
  · rw [if_pos g1] at hR
    subst hR
    exact ⟨by simp [oth, g1], HOF.out, fun h => absurd h g1⟩
  · rw [if_neg (by simpa using g1), if_pos g2] at hR
    subst hR
    exact ⟨by simp [oth], HOF.out, fun h => by simp at h⟩
  · rw [if_neg (by simpa using g1), if_neg (by omega)] at hR
    unfold rdT at hR
    rw [if_pos g3] at hR
    simp only [ne_eq, Nat.reduceEqDiff, not_false_eq_true, if_true] at hR
    subst hR
    exact ⟨by simp [oth], HOF.out, fun h => by simp at h⟩
  · rw [if_neg (by simpa using g1), if_neg (by omega)] at hR
    unfold rdT at hR
    rw [if_neg g3, ← g4] at hR
    by_cases hb : ∀ s ∈ Bs, byI s
    · have : am = false := by rw [← ham]; exact decide_eq_false fun h => h hb
      subst this
      rw [if_pos hb] at hR
      simp only [ne_eq, not_true_eq_false, if_false, if_pos hso] at hR
      subst hR
      exact ⟨by simp [oth], HOF.out, fun _ => ⟨P, C, HN.out⟩⟩
    · have : am = true := by rw [← ham]; exact decide_eq_true hb
      subst this
      rw [if_neg hb] at hR
      simp only [ne_eq, Nat.reduceEqDiff, not_false_eq_true, if_true] at hR
      subst hR
      exact ⟨by simp [oth], HOF.out, fun h => by simp at h⟩
set_option maxHeartbeats 4000000 in
theorem tagr_any (lo mb lb bo bp bm : Nat) (zs : List Int) (N : Mg) (P C : Value) (p : Nat) (f : Fd) (w : World) (h : RdAt lo w mb lb zs N P C p 0) (hf : FdX f) (hso : f.so = 6) (hl : zs.length ≤ 1000000) (hz : Bys zs)
    (hbo : w.heap[bo]? = some (.cells #[.int .i64 f.mo] 3 (0, 0))) (hbp : w.heap[bp]? = some (.cells #[.func (.func 84) #[] #[.pointer (some ⟨bm, 0, none⟩)]] 149 (0, 0))) (hbm : w.heap[bm]? = some (.cells #[.pointer (some ⟨mb, 0, none⟩)] 121 (0, 0))) :
    Calls Tryz.prog 104 #[.pointer (some ⟨lb, 0, none⟩), .pointer (some ⟨bo, 0, none⟩), .pointer (some ⟨bp, 0, none⟩)] w fun r w' => RdO lo mb lb zs p (rdF N f (zs.drop p)) w r w' := by
  have hmo : 0 ≤ f.mo ∧ f.mo ≤ 64 := by have := hf.mo; omega
  have hle0 := hf.tex (by omega)
  obtain ⟨Bs, u, er, hX, hBl, hw⟩ := fldR_ways (zs.drop p) f.mo hmo.1 hmo.2
  have K := lfld_any lo lb zs p 0 w f.mo (by omega) (by omega) h.l (by omega) hz
  rw [hX] at K
  unfold ReadB at K
  simp only [ansB, placeOf, errOf, if_true] at K
  obtain ⟨R, hR⟩ : ∃ R, rdF N f (zs.drop p) = R := ⟨_, rfl⟩
  rw [hR]
  unfold rdF at hR
  rw [if_neg (show ¬ f.so = 1 by omega), if_neg (show ¬ f.so = 2 by omega), if_neg (show ¬ (((Vi.get (zs.drop p)).1 = 0) ∧ 0 < f.le) by omega), if_neg (show ¬ f.so = 3 by omega), if_neg (show ¬ f.so = 4 by omega)] at hR
  have hlm := h.a
  obtain ⟨_, _, hbl, -⟩ := h.l.open
  have n1 := row_ne hbo h.m (by decide)
  have n2 := row_ne hbo hbl (by decide)
  have n3 := row_ne hbm h.m (by decide)
  have n4 := row_ne hbm hbl (by decide)
  have n6 := row_ne hbp hbl (by decide)
  have kb := row_cell hbo 0 _ rfl
  have K := Lib.hid K
  have HH := Lib.hid h
  have HBP := Lib.hid hbp
  have HBM := Lib.hid hbm
  have HR := Lib.hid hR
  have HW := Lib.hid hw
  obtain ⟨q, hq⟩ : ∃ q, Bs.length = q := ⟨_, rfl⟩
  rw [hq] at K hBl
  have HQ := Lib.hid hq
  clear hR hw hX h hbl hbo hbp hbm hq
  go_enter Tryz.func104, Tryz.ntmps104
  go_wp2_with fail
  refine K.out.mono ?_
  rintro r w1 ⟨⟨A, c, rfl, hcc, hn⟩, hl1, ho1⟩
  have h1 := HH.out.turn hl1 ho1
  have hn1 := hn.nums18
  have hbm1 := (ho1.block _ (Array.getElem?_eq_some_iff.1 HBM.out).1 n4).trans HBM.out
  have hbp1 := (ho1.block _ (Array.getElem?_eq_some_iff.1 HBP.out).1 n6).trans HBP.out
  have kp := row_cell hbp1 0 _ rfl
  have hcv := conv_txt _ A q c Bs w1 HQ.out hn1
  have KP := Lib.hid (puttg_any mb bm N P C (txt Bs) w1 h1.m hbm1)
  obtain ⟨w2, hw2⟩ : ∃ w2, w1.setCell ⟨mb, 10, none⟩ (.string (txt Bs)) = w2 := ⟨_, rfl⟩
  have hN := h1.tg (txt Bs)
  have hof : Off (fun q => q = mb) w1 (w1.setCell ⟨mb, 10, none⟩ (.string (txt Bs))) := Off.setCell (S := fun q => q = mb) (p := ⟨mb, 10, none⟩) (Off.refl _ w1) rfl _
  rw [hw2] at hN KP hof
  have hmlt := (Array.getElem?_eq_some_iff.1 HH.out.m).1
  have HN2 : Hid (Nums .u8 w2 w2.heap.size A Bs) := Lib.hid fun hne => by
    obtain ⟨b, off, e, k1, k2, kc⟩ := hn hne
    exact ⟨b, off, e, Nat.lt_of_lt_of_le k2 hof.size, fun j c hj => hof.cell (kc j c hj) (by show ¬ b = mb; omega)⟩
  have HN := Lib.hid hN
  have HOF : Hid (Off (fun q => q = mb ∨ q = lb) w w2) := Lib.hid ((ho1.mono (S' := fun q => q = mb ∨ q = lb) (fun _ _ e => .inr e)).trans hof (fun _ _ e => .inl e))
  clear K hl1 ho1 h1 hn hn1 hbm1 hbp1 hof hN hw2
  go_wp2_with fail
  refine KP.out.mono ?_
  rintro r w3 ⟨⟨x, rfl⟩, rfl⟩
  clear hcv kp KP
  go_wp2_with fail
  refine (cunfit_any _ A q c Bs _ HQ.out (by omega) HN2.out).mono ?_
  rintro r w4 ⟨rfl, rfl⟩
  obtain ⟨am, ham⟩ : ∃ am, decide (¬ ∀ s ∈ Bs, byI s) = am := ⟨_, rfl⟩
  rw [ham]
  go_wp2_with fail
  refine (otherwise_any HN.out.l am 19).mono ?_
  rintro r w5 ⟨rfl, rfl⟩
  have HAM := Lib.hid ham
  clear ham
  go_wp2
  go_ret
  have hR := HR.out
  have ham := HAM.out
  rcases HW.out with ⟨g1, rfl⟩ | ⟨g1, g2, rfl⟩ | ⟨g1, g2, g3, rfl⟩ | ⟨g1, g2, g3, rfl, g4, rfl⟩
  · rw [if_pos g1] at hR
    subst hR
    exact ⟨by simp [oth, g1], HOF.out, fun h => absurd h g1⟩
  · rw [if_neg (by simpa using g1), if_pos g2] at hR
    subst hR
    exact ⟨by simp [oth], HOF.out, fun h => by simp at h⟩
  · rw [if_neg (by simpa using g1), if_neg (by omega)] at hR
    unfold rdT at hR
    rw [if_pos g3] at hR
    simp only [ne_eq, Nat.reduceEqDiff, not_false_eq_true, if_true] at hR
    subst hR
    exact ⟨by simp [oth], HOF.out, fun h => by simp at h⟩
  · rw [if_neg (by simpa using g1), if_neg (by omega)] at hR
    unfold rdT at hR
    rw [if_neg g3, ← g4] at hR
    by_cases hb : ∀ s ∈ Bs, byI s
    · have : am = false := by rw [← ham]; exact decide_eq_false fun h => h hb
      subst this
      rw [if_pos hb] at hR
      simp only [ne_eq, not_true_eq_false, if_false, if_neg (show ¬ f.so = 5 by omega)] at hR
      subst hR
      exact ⟨by simp [oth], HOF.out, fun _ => ⟨P, C, HN.out⟩⟩
    · have : am = true := by rw [← ham]; exact decide_eq_true hb
      subst this
      rw [if_neg hb] at hR
      simp only [ne_eq, Nat.reduceEqDiff, not_false_eq_true, if_true] at hR
      subst hR
      exact ⟨by simp [oth], HOF.out, fun h => by simp at h⟩
end Go.Proofs.YtlbfibnfmijahaaGreat

namespace Go.Proofs.YtlbfibnfmijahaaGreat
open Go.RowKit Go.Shelf
set_option maxRecDepth 100000
attribute [local go_sem] Oper.semAt_some

theorem two_rows {W : World} {c1 c2 : Array Value} {t1 t2 : TypeId} : Below W.heap.size W ((W.alloc (.cells c1 t1)).alloc (.cells c2 t2)) ∧ ((W.alloc (.cells c1 t1)).alloc (.cells c2 t2)).heap[W.heap.size]? = some (.cells c1 t1 (0, 0)) ∧ ((W.alloc (.cells c1 t1)).alloc (.cells c2 t2)).heap[W.heap.size + 1]? = some (.cells c2 t2 (0, 0)) ∧ ((W.alloc (.cells c1 t1)).alloc (.cells c2 t2)).heap.size = W.heap.size + 2 := by
  refine ⟨((Below.refl _ W).alloc (Nat.le_refl _) _).alloc (by simp) _, (Below.heap_alloc _ _ _ (by simp)).trans (World.alloc_heap_new _ _), ?_, by simp⟩
  have := World.alloc_heap_new (W.alloc (.cells c1 t1)) (.cells c2 t2)
  rwa [World.size_alloc] at this
/-- a function with two boxes that it has caught -/
def Fn2 (F : FuncId) (w : World) (c1 c2 : Array Value) (t1 t2 : TypeId) (e : Ending) (w' : World) : Prop := ∃ b1 b2, e = .returned (.func (.func F) #[] #[.pointer (some ⟨b1, 0, none⟩), .pointer (some ⟨b2, 0, none⟩)]) ∧ w.heap.size ≤ b1 ∧ w.heap.size ≤ b2 ∧ w'.heap[b1]? = some (.cells c1 t1 (0, 0)) ∧ w'.heap[b2]? = some (.cells c2 t2 (0, 0)) ∧ Below w.heap.size w w'
theorem plainR_any (mb : Nat) (f : Fd) (w : World) : Calls Tryz.prog 85 #[.pointer (some ⟨mb, 0, none⟩), f.v] w fun e w' => Fn2 108 w f.cs #[.pointer (some ⟨mb, 0, none⟩)] 87 121 e w' := by
  obtain ⟨h1, h2, h3, h4⟩ := two_rows (W := w) (c1 := #[.pointer (some ⟨mb, 0, none⟩)]) (t1 := 121) (c2 := f.cs) (t2 := 87)
  have H := Lib.hid (And.intro h1 (And.intro h2 h3))
  clear h1 h2 h3 h4
  obtain ⟨X0, hX0⟩ : ∃ X0, f.cs = X0 := ⟨_, rfl⟩
  unfold Fd.v
  rw [hX0] at H ⊢
  clear hX0
  go_enter Tryz.func85, Tryz.ntmps85
  go_wp2
  go_ret
  obtain ⟨h1, h2, h3⟩ := H.out
  exact ⟨_, _, rfl, by omega, by omega, h3, h2, h1⟩
theorem signedR_any (mb : Nat) (f : Fd) (w : World) : Calls Tryz.prog 78 #[.pointer (some ⟨mb, 0, none⟩), f.v] w fun e w' => Fn2 96 w f.cs #[.pointer (some ⟨mb, 0, none⟩)] 87 121 e w' := by
  obtain ⟨h1, h2, h3, h4⟩ := two_rows (W := w) (c1 := #[.pointer (some ⟨mb, 0, none⟩)]) (t1 := 121) (c2 := f.cs) (t2 := 87)
  have H := Lib.hid (And.intro h1 (And.intro h2 h3))
  clear h1 h2 h3 h4
  obtain ⟨X0, hX0⟩ : ∃ X0, f.cs = X0 := ⟨_, rfl⟩
  unfold Fd.v
  rw [hX0] at H ⊢
  clear hX0
  go_enter Tryz.func78, Tryz.ntmps78
  go_wp2
  go_ret
  obtain ⟨h1, h2, h3⟩ := H.out
  exact ⟨_, _, rfl, by omega, by omega, h3, h2, h1⟩
theorem countR_any (mo : Int) (F : FuncId) (cs : Array Value) (w : World) : Calls Tryz.prog 79 #[.int .i64 mo, .func (.func F) #[] cs] w fun e w' => Fn2 98 w #[.int .i64 mo] #[.func (.func F) #[] cs] 3 119 e w' := by
  obtain ⟨h1, h2, h3, h4⟩ := two_rows (W := w) (c1 := #[.int .i64 mo]) (t1 := 3) (c2 := #[.func (.func F) #[] cs]) (t2 := 119)
  have H := Lib.hid (And.intro h1 (And.intro h2 h3))
  clear h1 h2 h3 h4
  go_enter Tryz.func79, Tryz.ntmps79
  go_wp2
  go_ret
  obtain ⟨h1, h2, h3⟩ := H.out
  exact ⟨_, _, rfl, by omega, by omega, h2, h3, h1⟩
theorem textR_any (mo : Int) (F : FuncId) (cs : Array Value) (w : World) : Calls Tryz.prog 82 #[.int .i64 mo, .func (.func F) #[] cs] w fun e w' => Fn2 104 w #[.int .i64 mo] #[.func (.func F) #[] cs] 3 149 e w' := by
  obtain ⟨h1, h2, h3, h4⟩ := two_rows (W := w) (c1 := #[.int .i64 mo]) (t1 := 3) (c2 := #[.func (.func F) #[] cs]) (t2 := 149)
  have H := Lib.hid (And.intro h1 (And.intro h2 h3))
  clear h1 h2 h3 h4
  go_enter Tryz.func82, Tryz.ntmps82
  go_wp2
  go_ret
  obtain ⟨h1, h2, h3⟩ := H.out
  exact ⟨_, _, rfl, by omega, by omega, h2, h3, h1⟩
theorem cellR_any (mb : Nat) (w : World) : Calls Tryz.prog 81 #[.pointer (some ⟨mb, 0, none⟩)] w fun e w' => Fn2 102 w #[.int .i64 (-1)] #[.pointer (some ⟨mb, 0, none⟩)] 3 121 e w' := by
  obtain ⟨h1, h2, h3, h4⟩ := two_rows (W := w) (c1 := #[.pointer (some ⟨mb, 0, none⟩)]) (t1 := 121) (c2 := #[.int .i64 (-1)]) (t2 := 3)
  have H := Lib.hid (And.intro h1 (And.intro h2 h3))
  clear h1 h2 h3 h4
  go_enter Tryz.func81, Tryz.ntmps81
  go_wp2
  go_ret
  obtain ⟨h1, h2, h3⟩ := H.out
  exact ⟨_, _, rfl, by omega, by omega, h3, h2, h1⟩
/-- the function that reads a point, with its three boxes -/
def Fn3 (mb : Nat) (w : World) (e : Ending) (w' : World) : Prop := ∃ ab sb bm, e = .returned (.func (.func 101) #[] #[.pointer (some ⟨ab, 0, none⟩), .pointer (some ⟨sb, 0, none⟩), .pointer (some ⟨bm, 0, none⟩)]) ∧ w.heap.size ≤ ab ∧ w.heap.size ≤ sb ∧ w.heap.size ≤ bm ∧
  w'.heap[ab]? = some (.cells #[.int .i64 0, .int .i64 0] 76 (0, 0)) ∧ w'.heap[sb]? = some (.cells #[.func (.func 100) #[] #[]] 160 (0, 0)) ∧ w'.heap[bm]? = some (.cells #[.pointer (some ⟨mb, 0, none⟩)] 121 (0, 0)) ∧ Below w.heap.size w w'
theorem pointR_any (mb : Nat) (w : World) : Calls Tryz.prog 80 #[.pointer (some ⟨mb, 0, none⟩)] w fun e w' => Fn3 mb w e w' := by
  obtain ⟨w2, hw2⟩ : ∃ w2, (w.alloc (.cells #[.pointer (some ⟨mb, 0, none⟩)] 121)).alloc (.cells #[.int .i64 0, .int .i64 0] 76) = w2 := ⟨_, rfl⟩
  obtain ⟨h1, h2, h3, h4⟩ := two_rows (W := w) (c1 := #[.pointer (some ⟨mb, 0, none⟩)]) (t1 := 121) (c2 := #[.int .i64 0, .int .i64 0]) (t2 := 76)
  rw [hw2] at h1 h2 h3 h4
  have hb : Below w2.heap.size w2 (w2.alloc (.cells #[.func (.func 100) #[] #[]] 160)) := (Below.refl _ w2).alloc (Nat.le_refl _) _
  have h6 := World.alloc_heap_new w2 (.cells #[.func (.func 100) #[] #[]] 160)
  have k2 := (hb.block _ (Array.getElem?_eq_some_iff.1 h2).1).trans h2
  have k3 := (hb.block _ (Array.getElem?_eq_some_iff.1 h3).1).trans h3
  have kb := h1.trans (hb.mono h1.size)
  rw [h4] at h6
  rw [← hw2] at h6 k2 k3 kb
  have H := Lib.hid (And.intro k2 (And.intro k3 (And.intro h6 kb)))
  clear h1 h2 h3 h4 hw2 hb h6 k2 k3 kb
  go_enter Tryz.func80, Tryz.ntmps80
  go_wp2
  go_ret
  obtain ⟨k2, k3, h6, kb⟩ := H.out
  exact ⟨_, _, _, rfl, by omega, by omega, by omega, k3, h6, k2, kb⟩
end Go.Proofs.YtlbfibnfmijahaaGreat

namespace Go.Proofs.YtlbfibnfmijahaaGreat
open Go.RowKit Go.Shelf
set_option maxRecDepth 100000
attribute [local go_sem] Oper.semAt_some

/-- what reader answers: a function of two that it has caught, which reads the field -/
def RdrR (lo mb lb : Nat) (zs : List Int) (N : Mg) (p : Nat) (f : Fd) (w : World) (e : Ending) (w' : World) : Prop := ∃ F c1 c2, e = .returned (.func (.func F) #[] #[c1, c2]) ∧ (∀ args W, (callFunc F args).run Tryz.prog W = .ok (.enter F args) W) ∧ Below w.heap.size w w' ∧
  Calls Tryz.prog F #[.pointer (some ⟨lb, 0, none⟩), c1, c2] w' fun r w'' => RdO lo mb lb zs p (rdF N f (zs.drop p)) w r w''
theorem RdO.since {lo mb lb : Nat} {zs : List Int} {p : Nat} {x : Nat × Nat × Mg} {w w1 w' : World} {r : Ending} (h : RdO lo mb lb zs p x w1 r w') (hb : Below w.heap.size w w1) : RdO lo mb lb zs p x w r w' :=
  ⟨h.1, (Off.of_below (S := fun q => q = mb ∨ q = lb) hb).trans h.2.1 (fun _ _ h => h), h.2.2⟩
set_option maxHeartbeats 8000000 in
theorem reader_any (lo mb lb : Nat) (zs : List Int) (N : Mg) (P C : Value) (p : Nat) (f : Fd) (w : World) (h : RdAt lo w mb lb zs N P C p 0) (hf : FdX f) (hmo : f.so = 1 → 0 ≤ f.mo) (h3 : f.so = 3 → N.p = []) (h4 : f.so = 4 → N.c = []) (hl : zs.length ≤ 1000000) (hz : Bys zs) :
    Calls Tryz.prog 61 #[.pointer (some ⟨mb, 0, none⟩), f.v] w fun e w' => RdrR lo mb lb zs N p f w e w' := by
  obtain ⟨w2, hw2⟩ : ∃ w2, (w.alloc (.cells #[.pointer (some ⟨mb, 0, none⟩)] 121)).alloc (.cells f.cs 87) = w2 := ⟨_, rfl⟩
  obtain ⟨b2, q0, q1, s2⟩ := two_rows (W := w) (c1 := #[.pointer (some ⟨mb, 0, none⟩)]) (t1 := 121) (c2 := f.cs) (t2 := 87)
  rw [hw2] at b2 q0 q1 s2
  have HB2 := Lib.hid b2
  have HQ0 := Lib.hid q0
  have HQ1 := Lib.hid q1
  have HW2 := Lib.hid hw2
  have hs2 : w.heap.size + 1 < w2.heap.size := by omega
  obtain ⟨d0, d1, d2, d3, d4, d5, d6⟩ := fd_block q1
  have kp := row_cell q0 0 _ rfl
  have LF : Hid ((Instr.loadAt 87 (.pointer (some ⟨w.heap.size + 1, 0, none⟩))).run Tryz.prog w2 = .ok f.v w2) := Lib.hid (by simp [Instr.loadAt, go_sem, d0, d1, d2, d3, d4, d5, d6, Fd.v, Fd.cs])
  have hso := so_ways hf
  have HH := Lib.hid h
  have HF := Lib.hid hf
  have HZ := Lib.hid hz
  obtain ⟨X0, hX0⟩ : ∃ X0, f.cs = X0 := ⟨_, rfl⟩
  have HX := Lib.hid hX0
  by_cases hk : f.so = 1
  · have e := hk
    rw [hk] at d1
    rw [← hw2] at d1 d4 kp
    have HM := Lib.hid d4
    unfold Fd.v
    rw [hX0] at HW2 d1 d4 kp ⊢
    clear hX0 hw2 b2 q0 q1 s2 d0 d2 d3 d5 d6 h hf hz hso HM
    go_enter Tryz.func61, Tryz.ntmps61
    go_wp2_with (rw [HW2.out]; refine wpList_load_run rfl 87 (.tmp 3) rfl (some ⟨w.heap.size + 1, 0, none⟩) rfl f.v LF.out ?_)
    refine (plainR_any mb f w2).mono ?_
    rintro r w3 ⟨a1, a2, rfl, k1, k2, k3, k4, k5⟩
    have HK := Lib.hid (And.intro k3 (And.intro k4 k5))
    clear k3 k4 k5 d1 d4 kp LF
    go_wp2
    go_ret
    obtain ⟨k3, k4, k5⟩ := HK.out
    have hb3 := HB2.out.trans (k5.mono HB2.out.size)
    exact ⟨_, _, _, rfl, enters_of Tryz.func108 (by kernel_rfl) rfl, hb3, (plainr_any lo mb lb a1 a2 zs N P C p f w3 (HH.out.later hb3) HF.out e (hmo e) hl HZ.out k3 k4).mono fun r w4 h => h.since hb3⟩
  by_cases hk : f.so = 2
  · have e := hk
    rw [hk] at d1
    rw [← hw2] at d1 d4 kp
    have HM := Lib.hid d4
    unfold Fd.v
    rw [hX0] at HW2 d1 d4 kp ⊢
    clear hX0 hw2 b2 q0 q1 s2 d0 d2 d3 d5 d6 h hf hz hso HM
    go_enter Tryz.func61, Tryz.ntmps61
    go_wp2_with (rw [HW2.out]; refine wpList_load_run rfl 87 (.tmp 3) rfl (some ⟨w.heap.size + 1, 0, none⟩) rfl f.v LF.out ?_)
    refine (signedR_any mb f w2).mono ?_
    rintro r w3 ⟨a1, a2, rfl, k1, k2, k3, k4, k5⟩
    have HK := Lib.hid (And.intro k3 (And.intro k4 k5))
    clear k3 k4 k5 d1 d4 kp LF
    go_wp2
    go_ret
    obtain ⟨k3, k4, k5⟩ := HK.out
    have hb3 := HB2.out.trans (k5.mono HB2.out.size)
    exact ⟨_, _, _, rfl, enters_of Tryz.func96 (by kernel_rfl) rfl, hb3, (signedr_any lo mb lb a1 a2 zs N P C p f w3 (HH.out.later hb3) HF.out e hl HZ.out k3 k4).mono fun r w4 h => h.since hb3⟩
  by_cases hk : f.so = 3
  · have e := hk
    rw [hk] at d1
    rw [← hw2] at d1 d4 kp
    have HM := Lib.hid d4
    unfold Fd.v
    rw [hX0] at HW2 d1 d4 kp ⊢
    clear hX0 hw2 b2 q0 q1 s2 d0 d2 d3 d5 d6 h hf hz hso HM
    go_enter Tryz.func61, Tryz.ntmps61
    go_wp2_with fail
    rw [HW2.out]
    have lO : ∀ V, Below w2.heap.size w2 V → (Instr.loadAt 3 (.pointer (some ⟨w.heap.size + 1, 4, none⟩))).run Tryz.prog V = .ok (.int .i64 f.mo) V := fun V hV => by
      have k := (fd_block ((hV.block _ hs2).trans HQ1.out)).2.2.2.2.1
      simp [Instr.loadAt, go_sem, k]
    have lM : ∀ V, Below w2.heap.size w2 V → (Instr.loadAt 121 (.pointer (some ⟨w.heap.size, 0, none⟩))).run Tryz.prog V = .ok (.pointer (some ⟨mb, 0, none⟩)) V := fun V hV => by
      have k := row_cell ((hV.block _ (by omega)).trans HQ0.out) 0 _ rfl
      simp [Instr.loadAt, go_sem, k]
    refine wp_region_order9 5 (0 :: 1 :: 2 :: 3 :: 4 :: []) (fun V => Below w2.heap.size w2 V) (C := fun V => Below w2.heap.size w2 V) (by kernel_rfl) (by kernel_rfl) (by kernel_rfl) (Below.refl _ _).drew (fun V hV => hV) ?_
    repeat (refine wpO9_pure rfl rfl ?_; go_big_quiet_step (fail); refine wpQuiet_nil ?_)
    refine wpO9_load (ad := ⟨w.heap.size + 1, 4, none⟩) (.int .i64 f.mo) rfl rfl rfl (by rfl) lO ?_
    simp only [Act.put, List.setIfInBounds_toArray, List.set_cons_succ, List.set_cons_zero]
    refine wpO9_load (ad := ⟨w.heap.size, 0, none⟩) (.pointer (some ⟨mb, 0, none⟩)) rfl rfl rfl (by rfl) lM ?_
    simp only [Act.put, List.setIfInBounds_toArray, List.set_cons_succ, List.set_cons_zero]
    refine wpO9_call (fun v => ∃ ab sb bm, v = .func (.func 101) #[] #[.pointer (some ⟨ab, 0, none⟩), .pointer (some ⟨sb, 0, none⟩), .pointer (some ⟨bm, 0, none⟩)]) (fun v V => Below w2.heap.size w2 V ∧ ∀ ab sb bm, v = .func (.func 101) #[] #[.pointer (some ⟨ab, 0, none⟩), .pointer (some ⟨sb, 0, none⟩), .pointer (some ⟨bm, 0, none⟩)] → w2.heap.size ≤ ab ∧ w2.heap.size ≤ sb ∧ w2.heap.size ≤ bm ∧ V.heap[ab]? = some (.cells #[.int .i64 0, .int .i64 0] 76 (0, 0)) ∧ V.heap[sb]? = some (.cells #[.func (.func 100) #[] #[]] 160 (0, 0)) ∧ V.heap[bm]? = some (.cells #[.pointer (some ⟨mb, 0, none⟩)] 121 (0, 0))) (f := 80) (args := #[.pointer (some ⟨mb, 0, none⟩)]) rfl rfl rfl (fun _ V hV => hV.1) (fun x => by first | rfl | (simp [go_sem]; done)) (fun V hV => (pointR_any mb V).mono fun e w' h => ?_) ?_
    · obtain ⟨ab, sb, bm, rfl, k1, k2, k3, k4, k5, k6, k7⟩ := h
      have := hV.size
      refine ⟨_, rfl, ⟨ab, sb, bm, rfl⟩, hV.trans (k7.mono hV.size), fun c1 c2 c3 hc => ?_⟩
      injection hc with _ _ hc
      simp only [Array.mk.injEq, List.cons.injEq, Value.pointer.injEq, Option.some.injEq, Addr.mk.injEq, and_true] at hc
      obtain ⟨rfl, rfl, rfl⟩ := hc
      exact ⟨by omega, by omega, by omega, k4, k5, k6⟩
    rintro v ⟨ab, sb, bm, rfl⟩
    simp only [Act.put, List.setIfInBounds_toArray, List.set_cons_succ, List.set_cons_zero]
    refine wpO9_call (fun v => ∃ b1 b2, v = .func (.func 98) #[] #[.pointer (some ⟨b1, 0, none⟩), .pointer (some ⟨b2, 0, none⟩)]) (fun v V => Below w2.heap.size w2 V ∧ (w2.heap.size ≤ ab ∧ w2.heap.size ≤ sb ∧ w2.heap.size ≤ bm ∧ V.heap[ab]? = some (.cells #[.int .i64 0, .int .i64 0] 76 (0, 0)) ∧ V.heap[sb]? = some (.cells #[.func (.func 100) #[] #[]] 160 (0, 0)) ∧ V.heap[bm]? = some (.cells #[.pointer (some ⟨mb, 0, none⟩)] 121 (0, 0))) ∧ ∀ b1 b2, v = .func (.func 98) #[] #[.pointer (some ⟨b1, 0, none⟩), .pointer (some ⟨b2, 0, none⟩)] → V.heap[b1]? = some (.cells #[.int .i64 f.mo] 3 (0, 0)) ∧ V.heap[b2]? = some (.cells #[.func (.func 101) #[] #[.pointer (some ⟨ab, 0, none⟩), .pointer (some ⟨sb, 0, none⟩), .pointer (some ⟨bm, 0, none⟩)]] 119 (0, 0))) (f := 79) (args := #[.int .i64 f.mo, .func (.func 101) #[] #[.pointer (some ⟨ab, 0, none⟩), .pointer (some ⟨sb, 0, none⟩), .pointer (some ⟨bm, 0, none⟩)]]) rfl rfl rfl (fun _ V hV => hV.1) (fun x => by first | rfl | (simp [go_sem]; done)) (fun V hV => (countR_any f.mo 101 #[.pointer (some ⟨ab, 0, none⟩), .pointer (some ⟨sb, 0, none⟩), .pointer (some ⟨bm, 0, none⟩)] V).mono fun e w' h => ?_) ?_
    · obtain ⟨b1, b2, rfl, k1, k2, k3, k4, k5⟩ := h
      obtain ⟨hb, hf⟩ := hV
      obtain ⟨j1, j2, j3, j4, j5, j6⟩ := hf ab sb bm rfl
      refine ⟨_, rfl, ⟨b1, b2, rfl⟩, hb.trans (k5.mono hb.size), ⟨j1, j2, j3, (k5.block _ (Array.getElem?_eq_some_iff.1 j4).1).trans j4, (k5.block _ (Array.getElem?_eq_some_iff.1 j5).1).trans j5, (k5.block _ (Array.getElem?_eq_some_iff.1 j6).1).trans j6⟩, fun c1 c2 hc => ?_⟩
      injection hc with _ _ hc
      simp only [Array.mk.injEq, List.cons.injEq, Value.pointer.injEq, Option.some.injEq, Addr.mk.injEq, and_true] at hc
      obtain ⟨rfl, rfl⟩ := hc
      exact ⟨k3, k4⟩
    rintro v ⟨b1, b2, rfl⟩
    simp only [Act.put, List.setIfInBounds_toArray, List.set_cons_succ, List.set_cons_zero]
    rintro w3 ⟨hb3, hfa, hrw⟩
    simp only [List.drop_succ_cons, List.drop_zero]
    have HK := Lib.hid (And.intro hb3 (And.intro hfa (hrw b1 b2 rfl)))
    clear hb3 hfa hrw lO lM d1 d4 kp LF
    go_wp2
    go_ret
    obtain ⟨hb3, ⟨j1, j2, j3, j4, j5, j6⟩, k3, k4⟩ := HK.out
    have hb4 := HB2.out.trans (hb3.mono HB2.out.size)
    exact ⟨_, _, _, rfl, enters_of Tryz.func98 (by kernel_rfl) rfl, hb4, countp_any w w3 lo mb lb b1 b2 ab sb bm zs N P C p f HH.out hb4 HF.out e (h3 e) (by omega) hl HZ.out k3 k4 j4 j6 j5 ⟨(Array.getElem?_eq_some_iff.1 j4).1, (Array.getElem?_eq_some_iff.1 j6).1, (Array.getElem?_eq_some_iff.1 j5).1⟩⟩
  by_cases hk : f.so = 4
  · have e := hk
    rw [hk] at d1
    rw [← hw2] at d1 d4 kp
    have HM := Lib.hid d4
    unfold Fd.v
    rw [hX0] at HW2 d1 d4 kp ⊢
    clear hX0 hw2 b2 q0 q1 s2 d0 d2 d3 d5 d6 h hf hz hso HM
    go_enter Tryz.func61, Tryz.ntmps61
    go_wp2_with fail
    rw [HW2.out]
    have lO : ∀ V, Below w2.heap.size w2 V → (Instr.loadAt 3 (.pointer (some ⟨w.heap.size + 1, 4, none⟩))).run Tryz.prog V = .ok (.int .i64 f.mo) V := fun V hV => by
      have k := (fd_block ((hV.block _ hs2).trans HQ1.out)).2.2.2.2.1
      simp [Instr.loadAt, go_sem, k]
    have lM : ∀ V, Below w2.heap.size w2 V → (Instr.loadAt 121 (.pointer (some ⟨w.heap.size, 0, none⟩))).run Tryz.prog V = .ok (.pointer (some ⟨mb, 0, none⟩)) V := fun V hV => by
      have k := row_cell ((hV.block _ (by omega)).trans HQ0.out) 0 _ rfl
      simp [Instr.loadAt, go_sem, k]
    refine wp_region_order9 5 (0 :: 1 :: 2 :: 3 :: 4 :: []) (fun V => Below w2.heap.size w2 V) (C := fun V => Below w2.heap.size w2 V) (by kernel_rfl) (by kernel_rfl) (by kernel_rfl) (Below.refl _ _).drew (fun V hV => hV) ?_
    repeat (refine wpO9_pure rfl rfl ?_; go_big_quiet_step (fail); refine wpQuiet_nil ?_)
    refine wpO9_load (ad := ⟨w.heap.size + 1, 4, none⟩) (.int .i64 f.mo) rfl rfl rfl (by rfl) lO ?_
    simp only [Act.put, List.setIfInBounds_toArray, List.set_cons_succ, List.set_cons_zero]
    refine wpO9_load (ad := ⟨w.heap.size, 0, none⟩) (.pointer (some ⟨mb, 0, none⟩)) rfl rfl rfl (by rfl) lM ?_
    simp only [Act.put, List.setIfInBounds_toArray, List.set_cons_succ, List.set_cons_zero]
    refine wpO9_call (fun v => ∃ ab bm, v = .func (.func 102) #[] #[.pointer (some ⟨ab, 0, none⟩), .pointer (some ⟨bm, 0, none⟩)]) (fun v V => Below w2.heap.size w2 V ∧ ∀ ab bm, v = .func (.func 102) #[] #[.pointer (some ⟨ab, 0, none⟩), .pointer (some ⟨bm, 0, none⟩)] → w2.heap.size ≤ ab ∧ w2.heap.size ≤ bm ∧ V.heap[ab]? = some (.cells #[.int .i64 (-1)] 3 (0, 0)) ∧ V.heap[bm]? = some (.cells #[.pointer (some ⟨mb, 0, none⟩)] 121 (0, 0))) (f := 81) (args := #[.pointer (some ⟨mb, 0, none⟩)]) rfl rfl rfl (fun _ V hV => hV.1) (fun x => by first | rfl | (simp [go_sem]; done)) (fun V hV => (cellR_any mb V).mono fun e w' h => ?_) ?_
    · obtain ⟨ab, bm, rfl, k1, k2, k4, k6, k7⟩ := h
      have := hV.size
      refine ⟨_, rfl, ⟨ab, bm, rfl⟩, hV.trans (k7.mono hV.size), fun c1 c2 hc => ?_⟩
      injection hc with _ _ hc
      simp only [Array.mk.injEq, List.cons.injEq, Value.pointer.injEq, Option.some.injEq, Addr.mk.injEq, and_true] at hc
      obtain ⟨rfl, rfl⟩ := hc
      exact ⟨by omega, by omega, k4, k6⟩
    rintro v ⟨ab, bm, rfl⟩
    simp only [Act.put, List.setIfInBounds_toArray, List.set_cons_succ, List.set_cons_zero]
    refine wpO9_call (fun v => ∃ b1 b2, v = .func (.func 98) #[] #[.pointer (some ⟨b1, 0, none⟩), .pointer (some ⟨b2, 0, none⟩)]) (fun v V => Below w2.heap.size w2 V ∧ (w2.heap.size ≤ ab ∧ w2.heap.size ≤ bm ∧ V.heap[ab]? = some (.cells #[.int .i64 (-1)] 3 (0, 0)) ∧ V.heap[bm]? = some (.cells #[.pointer (some ⟨mb, 0, none⟩)] 121 (0, 0))) ∧ ∀ b1 b2, v = .func (.func 98) #[] #[.pointer (some ⟨b1, 0, none⟩), .pointer (some ⟨b2, 0, none⟩)] → V.heap[b1]? = some (.cells #[.int .i64 f.mo] 3 (0, 0)) ∧ V.heap[b2]? = some (.cells #[.func (.func 102) #[] #[.pointer (some ⟨ab, 0, none⟩), .pointer (some ⟨bm, 0, none⟩)]] 119 (0, 0))) (f := 79) (args := #[.int .i64 f.mo, .func (.func 102) #[] #[.pointer (some ⟨ab, 0, none⟩), .pointer (some ⟨bm, 0, none⟩)]]) rfl rfl rfl (fun _ V hV => hV.1) (fun x => by first | rfl | (simp [go_sem]; done)) (fun V hV => (countR_any f.mo 102 #[.pointer (some ⟨ab, 0, none⟩), .pointer (some ⟨bm, 0, none⟩)] V).mono fun e w' h => ?_) ?_
    · obtain ⟨b1, b2, rfl, k1, k2, k3, k4, k5⟩ := h
      obtain ⟨hb, hf⟩ := hV
      obtain ⟨j1, j3, j4, j6⟩ := hf ab bm rfl
      refine ⟨_, rfl, ⟨b1, b2, rfl⟩, hb.trans (k5.mono hb.size), ⟨j1, j3, (k5.block _ (Array.getElem?_eq_some_iff.1 j4).1).trans j4, (k5.block _ (Array.getElem?_eq_some_iff.1 j6).1).trans j6⟩, fun c1 c2 hc => ?_⟩
      injection hc with _ _ hc
      simp only [Array.mk.injEq, List.cons.injEq, Value.pointer.injEq, Option.some.injEq, Addr.mk.injEq, and_true] at hc
      obtain ⟨rfl, rfl⟩ := hc
      exact ⟨k3, k4⟩
    rintro v ⟨b1, b2, rfl⟩
    simp only [Act.put, List.setIfInBounds_toArray, List.set_cons_succ, List.set_cons_zero]
    rintro w3 ⟨hb3, hfa, hrw⟩
    simp only [List.drop_succ_cons, List.drop_zero]
    have HK := Lib.hid (And.intro hb3 (And.intro hfa (hrw b1 b2 rfl)))
    clear hb3 hfa hrw lO lM d1 d4 kp LF
    go_wp2
    go_ret
    obtain ⟨hb3, ⟨j1, j3, j4, j6⟩, k3, k4⟩ := HK.out
    have hb4 := HB2.out.trans (hb3.mono HB2.out.size)
    exact ⟨_, _, _, rfl, enters_of Tryz.func98 (by kernel_rfl) rfl, hb4, countc_any w w3 lo mb lb b1 b2 ab bm zs N P C p f HH.out hb4 HF.out e (h4 e) (by omega) hl HZ.out k3 k4 j4 j6 ⟨(Array.getElem?_eq_some_iff.1 j4).1, (Array.getElem?_eq_some_iff.1 j6).1⟩⟩
  by_cases hk : f.so = 5
  · have e : f.so = 5 := by omega
    rw [e] at d1
    rw [← hw2] at d1 d4 kp
    have HM := Lib.hid d4
    unfold Fd.v
    rw [hX0] at HW2 d1 d4 kp ⊢
    clear hX0 hw2 b2 q0 q1 s2 d0 d2 d3 d5 d6 h hf hz hso HM
    go_enter Tryz.func61, Tryz.ntmps61
    go_wp2_with fail
    rw [HW2.out]
    refine (textR_any f.mo 83 #[.pointer (some ⟨w.heap.size, 0, none⟩)] w2).mono ?_
    rintro r w3 ⟨a1, a2, rfl, k1, k2, k3, k4, k5⟩
    have HK := Lib.hid (And.intro k3 (And.intro k4 k5))
    clear k3 k4 k5 d1 d4 kp LF
    go_wp2
    go_ret
    obtain ⟨k3, k4, k5⟩ := HK.out
    have hb3 := HB2.out.trans (k5.mono HB2.out.size)
    have kb := (k5.block _ (by omega)).trans HQ0.out
    exact ⟨_, _, _, rfl, enters_of Tryz.func104 (by kernel_rfl) rfl, hb3, (textr_any lo mb lb a1 a2 w.heap.size zs N P C p f w3 (HH.out.later hb3) HF.out e hl HZ.out k3 k4 kb).mono fun r w4 h => h.since hb3⟩
  · have e : f.so = 6 := by omega
    rw [e] at d1
    rw [← hw2] at d1 d4 kp
    have HM := Lib.hid d4
    unfold Fd.v
    rw [hX0] at HW2 d1 d4 kp ⊢
    clear hX0 hw2 b2 q0 q1 s2 d0 d2 d3 d5 d6 h hf hz hso HM
    go_enter Tryz.func61, Tryz.ntmps61
    go_wp2_with fail
    rw [HW2.out]
    refine (textR_any f.mo 84 #[.pointer (some ⟨w.heap.size, 0, none⟩)] w2).mono ?_
    rintro r w3 ⟨a1, a2, rfl, k1, k2, k3, k4, k5⟩
    have HK := Lib.hid (And.intro k3 (And.intro k4 k5))
    clear k3 k4 k5 d1 d4 kp LF
    go_wp2
    go_ret
    obtain ⟨k3, k4, k5⟩ := HK.out
    have hb3 := HB2.out.trans (k5.mono HB2.out.size)
    have kb := (k5.block _ (by omega)).trans HQ0.out
    exact ⟨_, _, _, rfl, enters_of Tryz.func104 (by kernel_rfl) rfl, hb3, (tagr_any lo mb lb a1 a2 w.heap.size zs N P C p f w3 (HH.out.later hb3) HF.out e hl HZ.out k3 k4 kb).mono fun r w4 h => h.since hb3⟩
end Go.Proofs.YtlbfibnfmijahaaGreat
