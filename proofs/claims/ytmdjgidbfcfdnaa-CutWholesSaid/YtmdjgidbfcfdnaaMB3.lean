/-
  A part of the texts of one proof, put together: Q9, ScI, ScV, CutK, CutH, CutE, CutR, RhC, CutF, SamA, FrE, Lens, RdA, RdB, RdW, Back, Read, Zig, RdM, Zag, Clos, WordC, Meth, Meths, HdR, HdS, RhP, HdTA, FrO, CutW, CutX, HdO, FrA.
-/
import Derived.StillTail
import Derived.WalkSpells
import Derived.RangeFuncBound
import Derived.RangeFuncCalls
import Derived.RangeFuncLeaves
import Derived.Shelf.Abstract
import Derived.Shelf.RegionOpen
import Derived.OwnWalkIn
import Derived.TacticsInMore
import Derived.LoopNIn
import Derived.LoopIn
import Derived.Maps.AppendAt
import Derived.Laws.MakeOwn
import Derived.Laws.OwnMore
import Derived.Test.YtmdjgidbfcfdnaaRows
import Derived.WalkLawsBesides
import Derived.WalkMore
import Derived.Lib.Hide
import Derived.Lib.SliceRun
import Derived.Deep.OwnRows
import Derived.Deep.RegionWith
import Derived.Deep.LoopGhost
import Derived.RangeFuncNested
import Derived.BigQuiet
import Derived.Deep.QuietTactic
import Derived.WalkKit
import Derived.Laws.BitsAllLaws
import Derived.RangeFuncBox
import Derived.IntWalk
import Derived.RangeFuncWrites
import Derived.Handy
import Derived.BigRegion
import Derived.ProofKit
import Derived.OpenShut
import Derived.Deep.Fields
import Derived.Deep.Slices
import Derived.ChangeSame
import Derived.Test.YtmdjgidbfcfdnaaMB2
namespace Go.Proofs.Ytmdjgidbfcfdnaa
open Go.RowKit
section
variable {P : Program} {l : List Oper} {vs : List Value} {fs : List Tmp} {FS : Tmp → Value → World → Prop} {I : World → Prop} {a0 : Act}
theorem lex_take : ∀ (l : List Oper) (vs us : List Value) (a : Act) (n j : Nat), j ≤ n → vs.length = (l.take n).length → lex (l.take n) vs a j = lex l (vs ++ us) a j
  | _, _, _, _, _, 0, _, _ => by rw [lex_zero, lex_zero]
  | [], vs, us, a, n, j + 1, _, _ => by simp [lex]
  | o :: r, [], us, a, n + 1, j + 1, _, h2 => by simp at h2
  | o :: r, v :: vs, us, a, n + 1, j + 1, h1, h2 => by
    rw [List.take_succ_cons, List.cons_append, lex, lex]
    exact lex_take r vs us _ n j (by omega) (by simpa using h2)
theorem count_take {L : Array Bool} {n i : Nat} (hi : i < n) (h : L.getD i true = false) : ((L.setIfInBounds i true).toList.take n).count false + 1 = (L.toList.take n).count false := by
  have hL : (L.setIfInBounds i true).toList.take n = (((L.toList.take n).toArray).setIfInBounds i true).toList := by
    simp [List.take_set]
  rw [hL]
  refine count_set (L := (L.toList.take n).toArray) ?_
  rw [Array.getD_eq_getD_getElem?] at h ⊢
  simpa [List.getElem?_take, hi] using h
theorem count_take_zero {L : Array Bool} {n : Nat} (h : (L.toList.take n).count false = 0) (j : Nat) (hj : j < n) : L.getD j true = true := by
  have := count_zero (L := (L.toList.take n).toArray) (by simpa using h) j
  rw [Array.getD_eq_getD_getElem?] at this ⊢
  simpa [List.getElem?_take, hj] using this
theorem count_take_pos {L : Array Bool} {n f : Nat} (h : (L.toList.take n).count false = f + 1) : ∃ i, i < n ∧ L.getD i true = false := by
  have : 0 < (L.toList.take n).count false := by omega
  rw [List.count_pos_iff] at this
  obtain ⟨i, hi, hv⟩ := List.getElem_of_mem this
  rw [List.length_take] at hi
  refine ⟨i, by omega, ?_⟩
  rw [Array.getD_eq_getD_getElem?]
  have h2 : i < L.size := by have : L.toList.length = L.size := by simp
                             omega
  rw [List.getElem_take] at hv
  simp [h2]
  simpa using hv

theorem any_of_FT {N n : Nat} {Q' : Exit → Act → World → Prop} (hR : RG .any l.toArray N) (hN : N ≤ a0.tmps.size) (hlen : vs.length = l.length) (hI : Closed I) (hF : ∀ s x w w', FS s x w → Below w.heap.size w w' → FS s x w')
    (hob : ∀ (j : Nat) o v, j < n → l[j]? = some o → vs[j]? = some v → Ob P l.toArray I fs FS o v (lex l vs a0 j)) (hn : n < l.length) (hs : Region.sinkB .any l.toArray n = true) (hc : Region.chainB .any l.toArray n = true)
    (hQ : ∀ (listed : Array Bool) b w, (∀ j, j < n → listed.getD j true = true) → (∀ t, n ≤ t → t < l.length → listed.getD t true = false) → Inv l vs fs FS I a0 listed b w → wpAny P .any l.toArray Q' (l.length - n) listed b w) :
    ∀ (f : Nat) (listed : Array Bool) (b : Act) (w : World), (listed.toList.take n).count false = f → HeadInv .any l.toArray n listed → Inv l vs fs FS I a0 listed b w → wpAny P .any l.toArray Q' (f + (l.length - n)) listed b w
  | 0, listed, b, w, hcn, hh, h => by
    rw [Nat.zero_add]
    exact hQ listed b w (fun j hj => count_take_zero hcn j hj) (fun t h1 h2 => hh.tail t h1 (by simpa using h2)) h
  | f + 1, listed, b, w, hcn, hh, h => by
    obtain ⟨i0, hi0, hu0⟩ := count_take_pos hcn
    rw [show f + 1 + (l.length - n) = (f + (l.length - n)) + 1 by omega]
    refine ⟨fun h0 => ?_, fun i hi => ?_⟩
    · have hall := ready_all hR h.lsize h0
      rw [hall i0] at hu0
      cases hu0
    have hin : i < n := by
      rcases Nat.lt_or_ge i n with h1 | h1
      · exact h1
      · exact absurd hi (tail_waits hs hc (by simpa using hn) hh _ i0 rfl hi0 hu0 i h1)
    obtain ⟨hun, o, ho, hall⟩ := mem_ready.1 hi
    have ho2 : l[i]? = some o := by simpa using ho
    have hp : ∀ e ∈ o.after, Region.binds .any e = true → listed.getD e.on true = true := fun e he hb => by
      have h1 := hall e he hb
      rw [Array.getD_eq_getD_getElem?] at h1 ⊢
      cases hx : listed[e.on]? with
      | none => rfl
      | some y => rw [hx] at h1; simpa using h1
    obtain ⟨v, hv⟩ : ∃ v, vs[i]? = some v := ⟨_, List.getElem?_eq_getElem (by rw [hlen]; exact (List.getElem?_eq_some_iff.1 ho2).1)⟩
    have hcnt := count_take hin hun
    exact op_of_F hR hN hlen h ho2 hun hp hv (hob i o v hin ho2 hv) fun u w' hb hu =>
      any_of_FT hR hN hlen hI hF hob hn hs hc hQ f _ _ w' (by omega) (hh.set hi hin) (h.next hR hN hI hF ho2 hp hb hu)

/-- ONE WALK IN THE TEXT's ORDER SERVES EVERY ORDER; the tail, behind place n, as it stands -/
theorem wp_region_FT {id : Nat} {Q : Exit → Act → World → Prop} {a : Act} {w : World} {l : List Oper} (N n : Nat) (fs : List Tmp) (FS : Tmp → Value → World → Prop) (I : World → Prop) (hm : P.follows .mixedOrders = true) (hB : rgB .any l.toArray N = true)
    (hn : decide (n < l.length) = true) (hs : Region.sinkB .any l.toArray n = true) (hc : Region.chainB .any l.toArray n = true)
    (hq : Region.seqB .any l.toArray (l.length - n) n (List.replicate n true ++ List.replicate (l.length - n) false).toArray = true)
    (hfs : (fs.all fun s => (l.take n).any fun o => o.dst == some s) = true) (hN : N ≤ a.tmps.size) (hI : Closed I) (hF : ∀ s x w w', FS s x w → Below w.heap.size w w' → FS s x w') (hC : I w.drew)
    (h : wpF P l.toArray I fs FS (fun a' => ∀ xs w', I w' → (∀ s ∈ fs, FS s (xs s) w') → wpList P l.toArray Q (l.drop n) (fill fs xs a') w') (l.take n) a) : (Code.region id l.toArray true).wp P Q a w := by
  have hR := rgB_spec hB
  have hn' : n < l.length := by simpa using hn
  obtain ⟨vs0, hlen0, hob0, hE0⟩ := wpF_vals (l.take n) a h
  have htl : (l.take n).length = n := by rw [List.length_take]; omega
  rw [htl] at hlen0 hE0
  obtain ⟨vs, hvs⟩ : ∃ vs, vs0 ++ List.replicate (l.length - n) undef = vs := ⟨_, rfl⟩
  have hlen : vs.length = l.length := by rw [← hvs, List.length_append, List.length_replicate]; omega
  have hlex : ∀ j, j ≤ n → lex (l.take n) vs0 a j = lex l vs a j := fun j hj => by rw [← hvs]; exact lex_take l vs0 _ a n j hj (by rw [hlen0, htl])
  have hob : ∀ (j : Nat) o v, j < n → l[j]? = some o → vs[j]? = some v → Ob P l.toArray I fs FS o v (lex l vs a j) := fun j o v hj ho hv => by
    rw [← hlex j (by omega)]
    refine hob0 j o v (by rw [List.getElem?_take, if_pos hj]; exact ho) ?_
    rw [← hvs, List.getElem?_append_left (by omega)] at hv
    exact hv
  rw [hlex n (Nat.le_refl _)] at hE0
  have inv0 : HeadInv .any l.toArray n (Array.replicate l.toArray.size false) :=
    ⟨by simp, fun j oj _ hl => (by rw [getD_replicate_false] at hl; cases hl), fun t _ ht => getD_in (by simpa using ht) (getD_replicate_false _ _)⟩
  refine wp_region_any hm ?_
  have key := any_of_FT (Q' := Q) (l := l) (vs := vs) (fs := fs) (FS := FS) (I := I) (a0 := a) (n := n) hR hN hlen hI hF hob hn' hs hc ?_ n (Array.replicate l.toArray.size false) a w.drew (by
      simp only [List.size_toArray, Array.toList_replicate, List.take_replicate, List.count_replicate_self]; omega) inv0 ?_
  · rw [show n + (l.length - n) = l.toArray.size by simp; omega] at key
    exact key
  · intro listed b W hall hno hinv
    have hw : ∀ s ∈ fs, ∃ x, b.tmps[s]? = some x ∧ FS s x W := fun s hs => by
      rw [List.all_eq_true] at hfs
      have h1 := hfs s hs
      rw [List.any_eq_true] at h1
      obtain ⟨o, ho, hd⟩ := h1
      obtain ⟨j, hj, rfl⟩ := List.getElem_of_mem ho
      have hj1 : j < n := by rw [List.length_take] at hj; omega
      have hj2 : j < l.length := by omega
      have hd' : (l[j]).dst = some s := by simpa using hd
      obtain ⟨v, hv⟩ : ∃ v, vs[j]? = some v := ⟨_, List.getElem?_eq_getElem (by rw [hlen]; exact hj2)⟩
      exact (hinv.ins j l[j] s v (List.getElem?_eq_getElem hj2) (hall j hj1) hd' hv).1 hs
    have hb : b = fill fs (fun s => b.tmps.getD s undef) (lex l vs a n) := by
      have ht : b.tmps = (fill fs (fun s => b.tmps.getD s undef) (lex l vs a n)).tmps := by
        apply Array.ext_getElem?
        intro d
        by_cases hd : d ∈ fs
        · obtain ⟨x, hx, _⟩ := hw d hd
          have hlt : d < (lex l vs a n).tmps.size := by
            rw [(lex_size l vs a n).1, ← hinv.size]
            exact (Array.getElem?_eq_some_iff.1 hx).1
          rw [fill_in fs _ _ d hd hlt, hx]
          simp [hx]
        · rw [fill_out fs _ _ d hd]
          by_cases hwr : ∃ (j : Nat) (oj : Oper), j < n ∧ l[j]? = some oj ∧ oj.dst = some d
          · obtain ⟨j, oj, hjn, hj, hdj⟩ := hwr
            obtain ⟨v, hv⟩ : ∃ v, vs[j]? = some v := ⟨_, List.getElem?_eq_getElem (by rw [hlen]; exact (List.getElem?_eq_some_iff.1 hj).1)⟩
            have hj' : l.toArray[j]? = some oj := by simpa using hj
            rw [(hinv.ins j oj d v hj (hall j hjn) hdj hv).2 hd]
            exact (lex_in l vs a n j oj d v hj hjn hv hdj (Nat.lt_of_lt_of_le (hR.small _ _ _ hj' hdj) hN) fun i oi hi _ hne => hR.once i j oi oj d (by simpa using hi) hj' hdj hne).symm
          · rw [lex_out l vs a n d fun i oi hi hin hdi => hwr ⟨i, oi, hin, hi, hdi⟩]
            refine hinv.out d fun i oi hi hli hdi => hwr ⟨i, oi, ?_, hi, hdi⟩
            rcases Nat.lt_or_ge i n with h1 | h1
            · exact h1
            · rw [hno i h1 (List.getElem?_eq_some_iff.1 hi).1] at hli; cases hli
      have hd : b.defers = (fill fs (fun s => b.tmps.getD s undef) (lex l vs a n)).defers := by
        rw [(fill_size ..).2, (lex_size ..).2]
        exact hinv.defers
      cases b
      simp only at ht hd
      rw [Act.mk.injEq]
      exact ⟨ht, hd⟩
    have hL : listed = (List.replicate n true ++ List.replicate (l.length - n) false).toArray := by
      apply Array.ext
      · simp [hinv.lsize]; omega
      · intro j h1 h2
        have hj : j < l.length := by rw [← hinv.lsize]; exact h1
        by_cases hjn : j < n
        · have h3 := hall j hjn
          rw [Array.getD_eq_getD_getElem?, Array.getElem?_eq_getElem h1] at h3
          simp only [List.getElem_toArray]
          rw [List.getElem_append_left (by simpa using hjn)]
          simpa using h3
        · have h3 := hno j (by omega) hj
          rw [Array.getD_eq_getD_getElem?, Array.getElem?_eq_getElem h1] at h3
          simp only [List.getElem_toArray]
          rw [List.getElem_append_right (by simpa using Nat.le_of_not_lt hjn)]
          simpa using h3
    have hE := hE0 (fun s => b.tmps.getD s undef) W hinv.cls fun s hs => by
      obtain ⟨x, hx, hf⟩ := hw s hs
      simpa [hx] using hf
    rw [← hb] at hE
    have := wpAny_of_seq (md := .any) (Q' := Q) (l.drop n) n listed b W (fun j => by simp [List.getElem?_drop]) (by rw [List.length_drop, hL]; exact hq) hE
    rwa [List.length_drop] at this
  · refine ⟨hC, rfl, rfl, fun _ _ => rfl, fun j o d v hj hlj => ?_, fun j o hj hlj => ?_, by simp⟩
    all_goals
      have hlt := (List.getElem?_eq_some_iff.1 hj).1
      rw [Array.getD_eq_getD_getElem?] at hlj
      simp [hlt] at hlj
end
end Go.Proofs.Ytmdjgidbfcfdnaa

namespace Go.Proofs.Ytmdjgidbfcfdnaa
open Go.RowKit Go.Shelf
set_option maxRecDepth 100000
attribute [local go_sem] Oper.semAt_some

/-- the block of the row that the scanner holds now -/
def ownS (b : Nat) (W : World) : Option Nat := (W.cell? ⟨b, 2, none⟩).bind Value.ownBlock
section
variable {b lo p j : Nat} {own0 : Option Nat} {W W1 W2 : World} {v v1 : Value} {now : List Int}
end
end Go.Proofs.Ytmdjgidbfcfdnaa

namespace Go.Proofs.Ytmdjgidbfcfdnaa
open Go.RowKit Go.Shelf
set_option maxRecDepth 100000

theorem own_off {S : Nat → Prop} {w w' : World} {lo e size n : Nat} {v : Value} {xs : List Value} (h : w.ownsRow lo e size v n xs) (hf : Off S w w') (hn : ∀ g, v.ownBlock = some g → ¬ S g) : w'.ownsRow lo e size v n xs :=
  ⟨h.1, h.2.imp id fun ⟨g, cap, cur, hv, hg, hh, r⟩ => ⟨g, cap, cur, hv, hg, (hf.block g (Array.getElem?_eq_some_iff.1 hh).1 (hn g (by rw [hv]; rfl))).trans hh, r⟩⟩
theorem own_same {w w' : World} {lo e size n : Nat} {v : Value} {xs : List Value} (h : w.ownsRow lo e size v n xs) (hk : ∀ (k : Nat) (o : Obj), w.heap[k]? = some o → o.isCells = true → w'.heap[k]? = some o) : w'.ownsRow lo e size v n xs :=
  ⟨h.1, h.2.imp id fun ⟨g, cap, cur, hv, hg, hh, r⟩ => ⟨g, cap, cur, hv, hg, hk g _ hh rfl, r⟩⟩
/-- a segment's bytes lie in a block of Q that the scanner doesn't hold -/
def SgP (b : Nat) (Q : Nat → Prop) (W : World) (x : Sg) : Prop :=
  (held x.b).length ≤ x.cp ∧ (held x.b ≠ [] → ∃ g cur, x.a = some ⟨g, 0, none⟩ ∧ Q g ∧ W.heap[g]? = some (.cells cur 5 (0, 0)) ∧ ownS b W ≠ some g ∧ ∀ (j : Nat) (z : Int), (held x.b)[j]? = some z → cur[j]? = some (.int .u8 z))
theorem ownS_of_block {b : Nat} {V V' : World} (h : V'.heap[b]? = V.heap[b]?) : ownS b V' = ownS b V := by
  unfold ownS; rw [World.cell?_of_block (a := ⟨b, 2, none⟩) h]
section
variable {w1 V V' : World} {b Bo j : Nat} {Q : Nat → Prop} {own0 : Option Nat} {full : List (Nat × List Int)}
end
/-- append of structs onto a row of the call's own, inside a fence -/
theorem wpListIn_append_own_at {F : Fence} {nF : Nat} {P : Program} {w : World} {ops : Array Oper} {rest : List Oper} {o : Oper} {a : Act} {Q : Exit → Act → World → Prop} (hg : o.guard = none) (s x : Operand) (t : TypeId)
    (hop : o.op = Op.call { callee := Callee.builtin Builtin.append, args := #[s, x], argTypes := #[t, t] })
    (base : Nat) (e : TypeId) (i : TypeInfo) (z : Value) (size bytes : Nat) (ht : P.underlying t = some (.slice e)) (hi : P.info? e = some i) (hz : i.zero = some z) (hsize : i.size = size) (hby : i.bytes = bytes) (hzs : z.cells.size = size) (hsz : 0 < size)
    (v : Value) (n : Nat) (xs : List Value) (hs : a.eval s = v) (hown : w.ownsRow base e size v n xs) (ad : Addr) (m c : Nat) (news : List Value) (hx : a.eval x = .slice (some ad) m c) (hl : news.length = m * size) (hnews : ∀ j u, news[j]? = some u → w.cell? (ad.add j) = some u) (h1 : ∀ u ∈ news, u.oneCell' = true)
    (h63 : n + m ≤ maxLen) (hbytes : (n + m) * bytes ≤ 140737488355328) (hbase : base ≤ w.heap.size)
    (hK : ∀ v' w', w'.ownsRow base e size v' (n + m) (xs ++ news) → w.grownBy w' v.ownBlock → (v'.ownBlock = v.ownBlock ∨ v'.ownBlock = some w.heap.size) → wpListIn F nF P ops Q rest (a.put o.dst v') w') :
    wpListIn F nF P ops Q (o :: rest) a w := by
  refine wpListIn_plain hg fun K hK' => ?_
  obtain ⟨v', w', hrun, r1, r2, _, r4⟩ := run_append_own_at (P := P) (w := w) base t o.type e i z size bytes ht hi hz hsize hby hzs hsz v n xs hown ad m c news hl hnews h1 h63 hbytes hbase
  unfold Oper.wpIn
  refine ⟨?_, ?_⟩
  · simp [Oper.about, hop, resolve, Target.leads, Sem.run_pure]
  · rw [Oper.semAt_plain F _ _ (by rw [hop]; intro c hc'; cases hc')]
    simp [execOp, hop, resolve, invoke, builtin, hs, hx, hrun, Result.andThen]
    exact hK' _ _ (hK v' w' r1 r2 r4)
end Go.Proofs.Ytmdjgidbfcfdnaa

namespace Go.Proofs.Ytmdjgidbfcfdnaa
open Go.RowKit Go.Shelf
set_option maxRecDepth 100000

/-- the payloads lie in rows of bytes -/
def PayIn (W : World) (fs : List Fr) : Prop := ∀ f ∈ fs, f.zs.length ≤ f.cp ∧ InRow W f.a f.zs
theorem PayIn.keeps {A B : World} {fs : List Fr} (h : PayIn A fs) (k : KpT A B) : PayIn B fs := fun f hf => ⟨(h f hf).1, (h f hf).2.keeps k⟩
/-- behind j rounds: the list in the box Bl, the head in the box Bh; what was there at the loop's start (w4) lies as it lay -/
structure Fq (Bh Bl base : Nat) (v k s : Int) (zs : List Int) (r m : Nat) (w w4 : World) (j : Nat) (V : World) : Prop where
  list : ∃ u fs, Boxed V Bl 26 u ∧ V.ownsRow base 42 6 u fs.length (flatF fs) ∧ fs.length = j ∧ CutGo v k s zs r m fs ∧ PayIn V fs
  head : ∃ i, V.heap[Bh]? = some (.cells #[.int .i64 v, .int .i64 k, .int .u32 s, .int .i64 i, .int .i64 (m : Int)] 24 (0, 0))
  keep : KpT w4 V
  below : Below w.heap.size w V
section
variable {Bh Bl base r m j : Nat} {v k s : Int} {zs : List Int} {w w4 V V' : World}
theorem Fq.putObj {l : Nat} {o o' : Obj} (h : Fq Bh Bl base v k s zs r m w w4 j V) (hw : w.heap.size ≤ l) (ho : V.heap[l]? = some o) (hc : o.isCells = false) : Fq Bh Bl base v k s zs r m w w4 j (V.putObj l o') := by
  obtain ⟨u, fs, h1, h2, h3, h4, h5⟩ := h.list
  obtain ⟨i, hi⟩ := h.head
  have hne : ∀ (q : Nat) (cs : Array Value) (t : TypeId), V.heap[q]? = some (.cells cs t (0, 0)) → (V.putObj l o').heap[q]? = some (.cells cs t (0, 0)) := fun q cs t hq => (World.putObj_heap_other (fun e => by
    subst e
    rw [ho] at hq
    injection hq with hq
    rw [hq] at hc; cases hc)).trans hq
  exact ⟨⟨u, fs, hne _ _ _ h1, ownsRow_putObj h2 _ ho hc, h3, h4, h5.keeps (KpT.putObj ho hc)⟩, ⟨i, hne _ _ _ hi⟩, h.keep.trans (KpT.putObj ho hc), h.below.trans (below_put V o' hw)⟩
theorem Fq.later (h : Fq Bh Bl base v k s zs r m w w4 j V) (hB : Below V.heap.size V V') : Fq Bh Bl base v k s zs r m w w4 j V' := by
  obtain ⟨u, fs, h1, h2, h3, h4, h5⟩ := h.list
  obtain ⟨i, hi⟩ := h.head
  exact ⟨⟨u, fs, (hB.block _ h1.lt).trans h1, own_below6 h2 hB, h3, h4, h5.keeps (KpT.of_below hB)⟩, ⟨i, (hB.block _ (Array.getElem?_eq_some_iff.1 hi).1).trans hi⟩, h.keep.trans (KpT.of_below hB), h.below.trans (hB.mono h.below.size)⟩
/-- a round: the head's index is set, the list grows -/
theorem Fq.push {V4 : World} {u u' : Value} {fs : List Fr} {i j' : Int} {a : Option Addr} {cp : Nat} {P : List Int} {s0 : Nat} (hbase : w.heap.size ≤ base) (hBh : w.heap.size ≤ Bh) (hBl : w.heap.size ≤ Bl) (hj : j' = (j : Int))
    (hne : Bh ≠ Bl) (h1 : Boxed V Bl 26 u) (h2 : V.ownsRow base 42 6 u fs.length (flatF fs)) (h3 : fs.length = j) (h4 : CutGo v k s zs r m fs) (h5 : PayIn V fs)
    (hh : V.heap[Bh]? = some (.cells #[.int .i64 v, .int .i64 k, .int .u32 s, .int .i64 i, .int .i64 (m : Int)] 24 (0, 0))) (hk : KpT w4 V) (hb : Below w.heap.size w V) (hP : P = Ct.part zs r j) (hcp : P.length ≤ cp) (hin : InRow V a P)
    (hown : V4.ownsRow base 42 6 u' (fs.length + 1) (flatF fs ++ [.int .i64 v, .int .i64 k, .int .u32 s, .int .i64 j', .int .i64 (m : Int), .slice a P.length cp]))
    (hg : ((V.setCell ⟨Bh, 3, none⟩ (.int .i64 j')).alloc (.cells #[.int .i64 v, .int .i64 k, .int .u32 s, .int .i64 j', .int .i64 (m : Int), .slice a P.length cp] 42)).grownBy V4 u.ownBlock) :
    Boxed V4 Bl 26 u ∧ Fq Bh Bl base v k s zs r m w w4 (j + 1) (V4.setCell ⟨Bl, 0, none⟩ u') ∧ KeepsFrom s0 V (V4.setCell ⟨Bl, 0, none⟩ u') ∧ KpT V (V4.setCell ⟨Bl, 0, none⟩ u') := by
  subst hj hP
  have hlt := h2.lt
  have hBlt := h1.lt
  have hBht := (Array.getElem?_eq_some_iff.1 hh).1
  have hsz1 : (V.setCell ⟨Bh, 3, none⟩ (.int .i64 (j : Int))).heap.size = V.heap.size := by simp [World.setCell]
  have hsz := hg.size
  rw [World.size_alloc, hsz1] at hsz
  have hrowty : ∀ q, u.ownBlock = some q → ∃ cur, V.heap[q]? = some (.cells cur 42 (0, 0)) := fun q e => by
    rcases h2.2 with ⟨rfl, _⟩ | ⟨g, cap, cu, rfl, _, hh, _⟩
    · simp [Value.ownBlock] at e
    · simp only [Value.ownBlock, Option.some.injEq] at e
      subst e
      exact ⟨cu, hh⟩
  have hgq : ∀ q, q < V.heap.size → u.ownBlock ≠ some q → V4.heap[q]? = (V.setCell ⟨Bh, 3, none⟩ (.int .i64 (j : Int))).heap[q]? := fun q h6 h7 =>
    (hg.block q (by rw [World.size_alloc, hsz1]; omega) (fun e => h7 e.symm)).trans (Below.heap_alloc _ _ q (by rw [hsz1]; exact h6))
  have key : ∀ q, q < V.heap.size → q ≠ Bh → q ≠ Bl → u.ownBlock ≠ some q → (V4.setCell ⟨Bl, 0, none⟩ u').heap[q]? = V.heap[q]? := fun q h6 h7 h8 h9 =>
    (Below.heap_setCell V4 ⟨Bl, 0, none⟩ u' q h8).trans ((hgq q h6 h9).trans (Below.heap_setCell V ⟨Bh, 3, none⟩ _ q h7))
  have hnB : u.ownBlock ≠ some Bl := fun e => by
    obtain ⟨cur, hc⟩ := hrowty _ e
    rw [show V.heap[Bl]? = _ from h1] at hc
    injection hc with hc
    injection hc with _ ht
    exact absurd ht (by decide)
  have hnH : u.ownBlock ≠ some Bh := fun e => by
    obtain ⟨cur, hc⟩ := hrowty _ e
    rw [hh] at hc
    injection hc with hc
    injection hc with _ ht
    exact absurd ht (by decide)
  have b4 : Boxed V4 Bl 26 u := (hgq Bl hBlt hnB).trans ((Below.heap_setCell V ⟨Bh, 3, none⟩ _ Bl (fun e => hne e.symm)).trans h1)
  have hh4 : (V4.setCell ⟨Bl, 0, none⟩ u').heap[Bh]? = some (.cells #[.int .i64 v, .int .i64 k, .int .u32 s, .int .i64 (j : Int), .int .i64 (m : Int)] 24 (0, 0)) := by
    rw [Below.heap_setCell V4 ⟨Bl, 0, none⟩ u' Bh hne, hgq Bh hBht hnH, setCell_at hh]
    rfl
  have hK : KpT V (V4.setCell ⟨Bl, 0, none⟩ u') := ⟨by simp only [World.setCell, Array.size_modify]; omega, fun q cs t ht hq => (key q (Array.getElem?_eq_some_iff.1 hq).1 (fun e => by
      subst e
      rw [hh] at hq
      injection hq with hq
      injection hq with _ h6
      subst h6
      exact absurd ht (by decide)) (fun e => by
      subst e
      rw [show V.heap[q]? = _ from h1] at hq
      injection hq with hq
      injection hq with _ h6
      subst h6
      exact absurd ht (by decide)) (fun e => by
      obtain ⟨cur, hc⟩ := hrowty _ e
      rw [hc] at hq
      injection hq with hq
      injection hq with _ h6
      subst h6
      exact absurd ht (by decide))).trans hq⟩
  refine ⟨b4, ⟨⟨u', fs ++ [⟨v, k, s, (j : Int), (m : Int), a, cp, Ct.part zs r j⟩], b4.set u', ?_, by rw [List.length_append, h3]; rfl, ?_, fun f hf => ?_⟩, ⟨_, hh4⟩, hk.trans hK, ?_⟩, ⟨hK.size, fun q o _ ho hc => (key q (Array.getElem?_eq_some_iff.1 ho).1 (fun e => by
      subst e
      rw [hh] at ho
      injection ho with ho
      subst ho
      cases hc) (fun e => by
      subst e
      rw [show V.heap[q]? = _ from h1] at ho
      injection ho with ho
      subst ho
      cases hc) (fun e => by
      obtain ⟨cur, h6⟩ := hrowty _ e
      rw [h6] at ho
      injection ho with ho
      subst ho
      cases hc)).trans ho⟩, hK⟩
  · rw [List.length_append, List.length_singleton, flatF_push]
    have h6 : (V4.setCell ⟨Bl, 0, none⟩ u').ownsRow base 42 6 u' (fs.length + 1) (flatF fs ++ [.int .i64 v, .int .i64 k, .int .u32 s, .int .i64 (j : Int), .int .i64 (m : Int), .slice a (Ct.part zs r j).length cp]) :=
      ⟨hown.1, hown.2.imp id fun ⟨g, cap, cur, hv, hge, hh', r'⟩ => ⟨g, cap, cur, hv, hge, (Below.heap_setCell V4 ⟨Bl, 0, none⟩ u' g (fun e => by
        subst e
        rw [show V4.heap[g]? = _ from b4] at hh'
        injection hh' with hh'
        injection hh' with _ ht
        exact absurd ht (by decide))).trans hh', r'⟩⟩
    exact h6
  · have := h4.push a cp
    rw [h3] at this
    exact this
  · rcases List.mem_append.1 hf with hf | hf
    · exact ⟨(h5 f hf).1, (h5 f hf).2.keeps hK⟩
    · obtain rfl : f = ⟨v, k, s, (j : Int), (m : Int), a, cp, Ct.part zs r j⟩ := by simpa using hf
      exact ⟨hcp, hin.keeps hK⟩
  · have hbs := hb.size
    refine ⟨?_, ?_, ?_, by have := hK.size; omega, fun q hq => ?_⟩
    · exact hg.os.trans hb.os
    · exact hg.tape.trans hb.tape
    · exact hg.output.trans hb.output
    · exact (key q (by omega) (by omega) (by omega) (fun e => by have := (hlt q e).1; omega)).trans (hb.block q hq)
end
end Go.Proofs.Ytmdjgidbfcfdnaa

namespace Go.Proofs.Ytmdjgidbfcfdnaa
open Go.RowKit Go.Shelf
set_option maxRecDepth 100000
attribute [local go_sem] Oper.semAt_some

theorem fzInfo : (Try.prog.info? 42).map (fun i => (i.zero, i.size, i.bytes)) = some (some (.agg #[.int .i64 0, .int .i64 0, .int .u32 0, .int .i64 0, .int .i64 0, .slice none 0 0]), 6, 64) := by kernel_rfl
theorem own_slC {W : World} {base e size n : Nat} {v : Value} {xs : List Value} (h : W.ownsRow base e size v n xs) : ∃ A c, v = .slice A n c ∧ n ≤ c := by
  rcases h.2 with ⟨rfl, rfl⟩ | ⟨g, cap, cur, rfl, _, _, hle, _⟩
  · exact ⟨none, 0, rfl, Nat.le_refl _⟩
  · exact ⟨_, cap, rfl, hle⟩
theorem cells_newC {W : World} {cs : List Value} (t : TypeId) (j : Nat) (u : Value) (h : cs[j]? = some u) : (W.alloc (.cells cs.toArray t)).cell? ((⟨W.heap.size, 0, none⟩ : Addr).add j) = some u := by
  rw [Addr.add_lit, Nat.zero_add, World.cell?_alloc_at _ _ _ _ rfl]
  simpa using h
theorem make_frames (n : Nat) (hn : n ≤ 1000000) : ∃ cs : Array Value, cs.size = n * 6 ∧ ∀ W, (Instr.makeSlice 26 (.int .i64 0) (.int .i64 (n : Int))).run Try.prog W = .ok (.slice (some ⟨W.heap.size, 0, none⟩) 0 n) (W.alloc (.cells cs 42)) := by
  obtain ⟨j0, hj, hj0, hj1, hj2⟩ := info_parts fzInfo
  refine ⟨madeCells (Value.agg #[.int .i64 0, .int .i64 0, .int .u32 0, .int .i64 0, .int .i64 0, .slice none 0 0]).cells (n * j0.size), by rw [size_madeCells, hj1], fun W => ?_⟩
  have h := run_make (P := Try.prog) W 26 42 j0 _ Try.underlying26 hj hj0 .i64 .i64 0 (n : Int) (by omega) (by omega) (by rw [hj2]; omega) (by omega)
  simpa using h

set_option maxHeartbeats 8000000 in
theorem frames_cut (v k s i c : Int) (hs : 0 ≤ s ∧ s ≤ 4294967295) (a : Option Addr) (n cp r : Nat) (zs : List Int) (w : World) (hn : zs.length = n) (h0 : 1 ≤ n) (hn2 : n ≤ 192) (hr1 : 1 ≤ r) (hr2 : r ≤ 242) (hz : Bytes zs) (h1 : Nums .u8 w w.heap.size a zs) (hE : chk v k 0 (Ct.cnt n r : Int) = 0) :
    Calls Try.prog 6 #[hdV v k s i c, .slice a n cp, .int .i64 (r : Int)] w (FramesR w v k s zs (r : Int)) := by
  obtain ⟨z0, hf, hz0, hz1, hz2⟩ := info_parts fzInfo
  obtain ⟨m, hm⟩ : ∃ m, Ct.cnt n r = m := ⟨_, rfl⟩
  rw [hm] at hE
  have hm1 : 1 ≤ m := by rw [← hm]; exact Ct.cnt_pos hr1 h0
  have hmn : m ≤ n := by rw [← hm]; exact Ct.cnt_le hr1
  have hfe : Ct.fErr v k zs.length (r : Int) = 0 := by unfold Ct.fErr; rw [if_neg (by omega), if_neg (by omega), if_neg (by omega), Int.toNat_natCast, hn, hm]; exact hE
  have HGood := Lib.hid (fun (W : World) (base t : Nat) (u : Value) (fs : List Fr) => FramesR.good (w := w) (W := W) (v := v) (k := k) (s := s) (room := (r : Int)) (zs := zs) (base := base) (t := t) (u := u) (fs := fs) (m := m) hfe (by rw [Int.toNat_natCast, hn, hm]))
  rw [Int.toNat_natCast] at HGood
  have KN : ∀ W, Calls Try.prog 12 #[.int .i64 (n : Int), .int .i64 (r : Int)] W fun e w' => e = .returned (.int .i64 (m : Int)) ∧ w' = W := fun W => by
    have h := ccount_any n (r : Int) (by omega) (by omega) W
    have e1 : cntZ n (r : Int) = (m : Int) := by unfold cntZ; rw [if_neg (by omega), if_neg (by omega), Int.toNat_natCast, hm]
    rwa [e1] at h
  have KC := fun W => check_any v k s 0 (m : Int) W
  rw [hE] at KC
  unfold hdV at KC
  obtain ⟨cs0, hcs, hmk⟩ := make_frames m (by omega)
  have h2 : ¬ (n : Int) = 0 := by omega
  have h3 : ¬ 192 < (n : Int) := by omega
  have h4 : ¬ (r : Int) < 1 := by omega
  have h5 : ¬ 242 < (r : Int) := by omega
  have HM := Lib.hid hm
  have HN := Lib.hid hn
  have HZ := Lib.hid hz
  have H1 := Lib.hid h1
  have HCS := Lib.hid hcs
  clear hfe hm hE hz h1 hcs
  generalize FramesR w v k s zs (r : Int) = G at *
  unfold hdV
  refine (callsIn_wide (n := 3)).1 ?_
  refine callsIn_of_wp_marks Try.func6 rfl trivial ?_ rfl
  simp only [Try.ntmps6, List.size_toArray, List.length_cons, List.length_nil, Nat.reduceAdd, Nat.reduceSub, Array.replicate_succ, Array.replicate_zero, List.push_toArray, List.append_toArray, List.nil_append, List.cons_append]
  gi_wp2_with fail
  refine ⟨trivial, ?_⟩
  refine (callsIn_wide.2 (KN _)).mono ?_
  rintro e w1 ⟨rfl, rfl⟩
  gi_wp2_with fail
  refine ⟨trivial, ?_⟩
  refine (callsIn_wide.2 (KC _)).mono ?_
  rintro e w2 ⟨rfl, hb⟩
  obtain ⟨d0, d1, d2, d3, d4⟩ := hd_cells hb
  have hh2 : w2.heap[w.heap.size]? = some (.cells #[.int .i64 v, .int .i64 k, .int .u32 s, .int .i64 0, .int .i64 (m : Int)] 24 (0, 0)) := (hb.block _ (by simp)).trans (World.alloc_heap_new _ _)
  rw [World.size_alloc] at hb
  have hb2 : Below w.heap.size w w2 := ((Below.refl _ w).alloc (Nat.le_refl _) _).trans (hb.mono (by omega))
  have hs2 : w.heap.size + 1 ≤ w2.heap.size := by have := hb.size; rwa [World.size_alloc] at this
  have HH2 := Lib.hid hh2
  have HB2 := Lib.hid hb2
  clear hb hh2 hb2
  gi_wp2_with fail
  refine ⟨trivial, ?_⟩
  obtain ⟨w3, hw3⟩ : ∃ w3, (w2.alloc (.cells cs0 42)).alloc (.cells #[.slice (some ⟨w2.heap.size, 0, none⟩) 0 m] 26) = w3 := ⟨_, rfl⟩
  have hs3 : w3.heap.size = w2.heap.size + 2 := by rw [← hw3]; simp
  have hb23 : Below w2.heap.size w2 w3 := by rw [← hw3]; exact ((Below.refl _ w2).alloc (Nat.le_refl _) _).alloc (by simp) _
  have hbl3 : Boxed w3 (w2.heap.size + 1) 26 (.slice (some ⟨w2.heap.size, 0, none⟩) 0 m) := by
    rw [← hw3]
    have := Boxed.new (w2.alloc (.cells cs0 42)) 26 (.slice (some ⟨w2.heap.size, 0, none⟩) 0 m)
    rwa [World.size_alloc] at this
  have hrow3 : w3.ownsRow w2.heap.size 42 6 (.slice (some ⟨w2.heap.size, 0, none⟩) 0 m) 0 [] := by
    rw [← hw3]
    exact (World.ownsRow_made w2 cs0 m (Nat.le_refl _) (by unfold maxLen; omega) HCS.out).alloc _
  have hh3 := (hb23.block _ (by omega)).trans HH2.out
  have hb3 := HB2.out.trans (hb23.mono HB2.out.size)
  have KP := cparts_any a n cp r zs w3 HN.out (by omega) hr1 ((H1.out.below hb3).mono hb3.size)
  rw [hw3]
  refine (callsIn_wide.2 KP).mono ?_
  rintro e w4 ⟨Bo, Br, A1, k1, rfl, HP⟩
  have hb34 := HP.below
  have hs4 := hb34.size
  have hF0 : Fq w.heap.size (w2.heap.size + 1) w2.heap.size v k s zs r m w w4 0 w4 := ⟨⟨_, [], (hb34.block _ (by omega)).trans hbl3, own_below6 hrow3 hb34, rfl, fun j f hf => by simp at hf, fun f hf => by simp at hf⟩, ⟨0, (hb34.block _ (by omega)).trans hh3⟩, KpT.refl _, hb3.trans (hb34.mono hb3.size)⟩
  have HF0 := Lib.hid hF0
  have hws : w.heap.size ≤ w4.heap.size := by omega
  clear KP KN KC hw3 hbl3 hrow3 hh3 hb3 hb23 hmk d0 d1 d2 d3 d4 hb34 hF0 HH2
  gi_wp2_with fail
  refine range_stops rfl (by omega) (gf := 26) (lb := #[.pointer (some ⟨Bo, 0, none⟩), .pointer (some ⟨Br, 0, none⟩)]) rfl trivial (enters_of Try.func26 (by kernel_rfl) rfl)
    (fun x : Nat × Option Addr × List Int => #[Value.int .i64 (x.1 : Int), Value.slice x.2.1 x.2.2.length x.2.2.length]) (fun _ => rfl)
    (fun j x V => Fq w.heap.size (w2.heap.size + 1) w2.heap.size v k s zs r m w w4 j V ∧ x.1 = j ∧ x.2.2 = Ct.part zs r j ∧ InRow V x.2.1 x.2.2)
    (fun j V => Fq w.heap.size (w2.heap.size + 1) w2.heap.size v k s zs r m w w4 j V) (fun _ _ => False) KpT m
    (fun j x V l o o' h hl ho hc' => ⟨h.1.putObj (by omega) ho hc', h.2.1, h.2.2.1, h.2.2.2.keeps (KpT.putObj ho hc')⟩)
    (fun j V l o o' h hl ho hc' => h.putObj (by omega) ho hc')
    (fun _ _ _ _ _ h _ _ _ => h)
    (fun _ _ _ h k => h.trans k) (fun V l o o' hl ho hc' => KpT.putObj ho hc')
    (fun o => HF0.out.later (((Below.refl w4.heap.size w4).alloc (Nat.le_refl _) _).alloc (by simp) _))
    ?a1 ?assign ?body ?iter ?done ?stop
  case assign =>
    intro l x V K hK
    gi_wp2
    exact hK
  case body =>
    rintro l j ⟨xi, xa, xz⟩ V hl ⟨hFq, hxi, hxz, hin⟩ hj
    simp only at hxi hxz hin
    subst hxi
    obtain ⟨u, fs, h1, h2, h3, h4, h5⟩ := hFq.list
    obtain ⟨i0, hh⟩ := hFq.head
    obtain ⟨e0, e1, e2, e3, e4⟩ := hd_block hh
    have HPU : Hid (∀ (V4 : World) (u' : Value), V4.ownsRow w2.heap.size 42 6 u' (fs.length + 1) (flatF fs ++ [.int .i64 v, .int .i64 k, .int .u32 s, .int .i64 (xi : Int), .int .i64 (m : Int), .slice xa xz.length xz.length]) →
        ((V.setCell ⟨w.heap.size, 3, none⟩ (.int .i64 (xi : Int))).alloc (.cells #[.int .i64 v, .int .i64 k, .int .u32 s, .int .i64 (xi : Int), .int .i64 (m : Int), .slice xa xz.length xz.length] 42)).grownBy V4 u.ownBlock → _) := fun V4 u' hown hg =>
      Fq.push (s0 := w4.heap.size) (w := w) (w4 := w4) (by omega) (Nat.le_refl _) (by omega) rfl (by omega) h1 h2 h3 h4 h5 hh hFq.keep hFq.below hxz (Nat.le_refl _) hin hown hg
    have hh1 := setCell_at (j := 3) (u := .int .i64 (xi : Int)) hh
    simp only [List.setIfInBounds_toArray, List.set_cons_succ, List.set_cons_zero] at hh1
    obtain ⟨p0, p1, p2, p3, p4⟩ := hd_block hh1
    have fH : V.frozen? ⟨w.heap.size, 3, none⟩ = false := by simp [World.frozen?, hh]
    obtain ⟨Av, cv, rfl, hcv⟩ := own_slC h2
    have hL1 : Boxed (V.setCell ⟨w.heap.size, 3, none⟩ (.int .i64 (xi : Int))) (w2.heap.size + 1) 26 (.slice Av fs.length cv) := (Below.heap_setCell V ⟨w.heap.size, 3, none⟩ _ _ (by simp only; omega)).trans h1
    have kL1 := hL1.cell
    have hrow1 : (V.setCell ⟨w.heap.size, 3, none⟩ (.int .i64 (xi : Int))).ownsRow w2.heap.size 42 6 (.slice Av fs.length cv) fs.length (flatF fs) := ⟨h2.1, h2.2.imp id fun ⟨g, cap, cur, hv, hge, hh', r'⟩ => ⟨g, cap, cur, hv, hge, (Below.heap_setCell V ⟨w.heap.size, 3, none⟩ _ g (by simp only; omega)).trans hh', r'⟩⟩
    have hsz1 : (V.setCell ⟨w.heap.size, 3, none⟩ (.int .i64 (xi : Int))).heap.size = V.heap.size := by simp [World.setCell]
    have HROW := Lib.hid (hrow1.alloc (.cells #[.int .i64 v, .int .i64 k, .int .u32 s, .int .i64 (xi : Int), .int .i64 (m : Int), .slice xa xz.length xz.length] 42))
    have hVl := h1.lt
    have hX1 : fs.length + 1 ≤ maxLen := by unfold maxLen; omega
    have hX2 : (fs.length + 1) * 64 ≤ 140737488355328 := by omega
    have HX1 := Lib.hid hX1
    have HX2 := Lib.hid hX2
    have HX3 : Hid (w2.heap.size ≤ ((V.setCell ⟨w.heap.size, 3, none⟩ (.int .i64 (xi : Int))).alloc (.cells #[.int .i64 v, .int .i64 k, .int .u32 s, .int .i64 (xi : Int), .int .i64 (m : Int), .slice xa xz.length xz.length] 42)).heap.size) := by show _ ≤ _; rw [World.size_alloc, hsz1]; omega
    have HNW : Hid (∀ (q : Nat) (x : Value), [Value.int .i64 v, .int .i64 k, .int .u32 s, .int .i64 (xi : Int), .int .i64 (m : Int), .slice xa xz.length xz.length][q]? = some x → ((V.setCell ⟨w.heap.size, 3, none⟩ (.int .i64 (xi : Int))).alloc (.cells #[.int .i64 v, .int .i64 k, .int .u32 s, .int .i64 (xi : Int), .int .i64 (m : Int), .slice xa xz.length xz.length] 42)).cell? ((⟨V.heap.size, 0, none⟩ : Addr).add q) = some x) := fun q x hq => by
      have := cells_newC (W := V.setCell ⟨w.heap.size, 3, none⟩ (.int .i64 (xi : Int))) 42 q x hq
      rwa [hsz1] at this
    have HS1 := Lib.hid hsz1
    have HL3 := Lib.hid h3
    clear hFq hin h1 h2 h3 h4 h5 hh hh1 hL1 hrow1 hsz1 hcv hX1 hX2 hxz
    gi_wp2_with (gi_at_builtin; refine wpListIn_append_own_at rfl (.tmp 46) (.tmp 50) 26 rfl w2.heap.size 42 z0 _ 6 64 Try.underlying26 hf hz0 hz1 hz2 rfl (by decide) _ fs.length (flatF fs) rfl HROW.out ⟨V.heap.size, 0, none⟩ 1 1 [Value.int .i64 v, .int .i64 k, .int .u32 s, .int .i64 (xi : Int), .int .i64 (m : Int), .slice xa xz.length xz.length] rfl rfl HNW.out (by simp [Value.oneCell']) HX1.out HX2.out HX3.out ?_)
    intro u' V4 hown hg _
    obtain ⟨b4, f1, f2, f3⟩ := HPU.out V4 u' hown hg
    obtain ⟨A4, c4, rfl, hc4⟩ := own_slC hown
    have kB4 := b4.cell
    have fB4 := b4.frozen
    have hL3 := HL3.out
    have HF := Lib.hid (And.intro f2 (And.intro f1 f3))
    clear HPU f1 f2 f3 b4 hown hg hL3
    gi_wp2_with fail
    exact HF.out
  case iter =>
    intro Bk X l V hBk hBlt hX hl2 hD hB hY
    have hbo := hD.keep.same _ _ _ (.inr (.inr rfl)) HP.boxO
    have hbr : Boxed V Br 3 (.int .i64 (r : Int)) := hD.keep.same _ _ _ (.inr (.inl rfl)) HP.boxR
    have hbo' : Boxed V Bo 25 (.slice A1 n k1) := hbo
    refine (cparts_in 2 (by omega) 1 l Bo Br n k1 r w4.heap.size A1 zs HN.out h0 (by omega) hr1 (by omega) (fun j V => Fq w.heap.size (w2.heap.size + 1) w2.heap.size v k s zs r m w w4 j V) Bk X KpT
      (fun A B hA hAB => ?_) hBk hBlt (fun A B h => h) (fun j A' W1 hj hjm hin hb => ?_) V hbo'.cell hbr ((HP.nums.keeps hD.keep).nums) hD hB).mono ?_
    · exact hA.later hAB
    · rw [HM.out] at hjm
      exact hY j (j, A', Ct.part zs r j) W1 ⟨hj, rfl, rfl, hin⟩ hb hjm
    · rintro e V2 ⟨hv, h⟩
      rw [HM.out] at h
      exact ⟨hv, h⟩
  case done =>
    rintro D V hD hFq hK
    obtain ⟨u, fs, h1, h2, h3, h4, h5⟩ := hFq.list
    have kL := h1.cell
    have hFq2 := hFq.putObj (o' := .deferred none) (by omega : w.heap.size ≤ D) hK rfl
    have HFin : Hid (G (Ending.returned (.tuple #[u, .int .i64 0])) (V.putObj D (.deferred none))) := HGood.out _ w2.heap.size 42 u fs h3 h4 (fun f hf => by
      obtain ⟨q1, q2⟩ := h5 f hf
      obtain ⟨j, hj⟩ := List.mem_iff_getElem?.1 hf
      obtain ⟨_, _, e3, _, _, e6⟩ := h4 j f hj
      have hle := Ct.part_len zs r j
      rw [← e6] at hle
      exact ⟨by rw [e3]; exact hs.1, by rw [e3]; exact hs.2, q1, by omega, fun z hz => by
        rw [e6] at hz
        exact HZ.out z (Ct.part_mem hz), (q2.keeps (KpT.putObj hK rfl)).nums⟩) (ownsRow_putObj h2 _ hK rfl) hFq2.below
    clear hFq hFq2 h1 h2 h3 h4 h5
    gi_wp2
    refine ⟨by simp, .inl ⟨_, _, rfl, run_takeDeferred hK, ?_⟩⟩
    refine ⟨_, results_tmp2 rfl _ _ _, ?_⟩
    exact HFin.out
  case stop =>
    rintro D cd W' _ h _
    exact h.elim

/-- Frames, of any head, body and room -/
theorem frames_any12 (v k s i c : Int) (hs : 0 ≤ s ∧ s ≤ 4294967295) (a : Option Addr) (n cp : Nat) (room : Int) (zs : List Int) (w : World) (hn : zs.length = n) (hz : Bytes zs) (h1 : Nums .u8 w w.heap.size a zs) :
    Calls Try.prog 6 #[hdV v k s i c, .slice a n cp, .int .i64 room] w (FramesR w v k s zs room) := by
  by_cases h0 : n = 0
  · subst h0
    obtain rfl : zs = [] := List.eq_nil_of_length_eq_zero hn
    exact frames_short v k s i c a cp room w
  · by_cases h2 : 192 < n
    · exact frames_long v k s i c a n cp zs room w hn h2
    · by_cases h3 : room < 1 ∨ 242 < room
      · exact frames_range v k s i c a n cp zs room w hn (by omega) (by omega) h3
      · obtain ⟨r, rfl⟩ := Int.eq_ofNat_of_zero_le (a := room) (by omega)
        by_cases h4 : chk v k 0 (Ct.cnt n r : Int) = 0
        · exact frames_cut v k s i c hs a n cp r zs w hn (by omega) (by omega) (by omega) (by omega) hz h1 h4
        · exact frames_chk v k s i c a n cp r zs w hn (by omega) (by omega) (by omega) (by omega) h4
end Go.Proofs.Ytmdjgidbfcfdnaa

namespace Go.Proofs.Ytmdjgidbfcfdnaa
open Go.RowKit Go.Shelf
set_option maxRecDepth 100000
attribute [local go_sem] Oper.semAt_some

theorem make_seven : ∀ W, (Instr.makeSlice 25 (.int .i64 7) (.int .i64 7)).run Try.prog W = .ok (.slice (some ⟨W.heap.size, 0, none⟩) 7 7) (W.alloc (.cells #[.int .u8 0, .int .u8 0, .int .u8 0, .int .u8 0, .int .u8 0, .int .u8 0, .int .u8 0] 5)) := fun W => by
  obtain ⟨i0, hi, hz0, hz1, hz2⟩ := info_parts byteInfo
  have h := run_make (P := Try.prog) W 25 5 i0 (.int .u8 0) Try.underlying25 hi hz0 .i64 .i64 7 7 (by omega) (by omega) (by rw [hz2]; omega) (by omega)
  rw [hz1] at h
  have e : madeCells (Value.int .u8 0).cells 7 = #[.int .u8 0, .int .u8 0, .int .u8 0, .int .u8 0, .int .u8 0, .int .u8 0, .int .u8 0] := by
    apply Array.toList_inj.1
    rw [show (Value.int .u8 0).cells = #[Value.int .u8 0] from rfl, toList_madeCells_one]
    rfl
  simpa [e] using h

set_option maxHeartbeats 4000000 in
theorem cknown_any (w : World) : Calls Try.prog 9 #[] w fun e w' => e = .returned (.bool true) ∧ Below w.heap.size w w' := by
  have hmk := make_seven
  have hb0 := (Below.refl _ w).alloc (Nat.le_refl _) (.cells #[.int .u8 0, .int .u8 0, .int .u8 0, .int .u8 0, .int .u8 0, .int .u8 0, .int .u8 0] 5)
  have hnu := Nums.new .u8 w 5 [0, 0, 0, 0, 0, 0, 0] #[.int .u8 0, .int .u8 0, .int .u8 0, .int .u8 0, .int .u8 0, .int .u8 0, .int .u8 0] rfl
  have KF := frames_any12 1 1 0 0 0 (by omega) (some ⟨w.heap.size, 0, none⟩) 7 7 3 [0, 0, 0, 0, 0, 0, 0] (w.alloc (.cells #[.int .u8 0, .int .u8 0, .int .u8 0, .int .u8 0, .int .u8 0, .int .u8 0, .int .u8 0] 5)) rfl (fun z hz => by simp at hz; omega) (hnu.mono (by simp))
  have KN : ∀ W, Calls Try.prog 12 #[.int .i64 7, .int .i64 3] W fun e w' => e = .returned (.int .i64 3) ∧ w' = W := fun W => ccount_any 7 3 (by omega) (by omega) W
  have HB0 := Lib.hid hb0
  clear hb0 hnu
  unfold hdV at KF
  go_enter Try.func9, Try.ntmps9
  go_wp2_with fail
  refine KF.mono ?_
  rintro e w1 ⟨hb1, ⟨hE, _⟩ | ⟨_, A, cp, fs, rfl, hc, hcut, hat⟩⟩
  · exact absurd (by decide) hE
  have hlen : fs.length = 3 := hcut.len
  have hb := HB0.out.trans (hb1.mono (by simp))
  obtain ⟨f0, h0⟩ : ∃ f, fs[0]? = some f := ⟨_, List.getElem?_eq_getElem (by omega)⟩
  obtain ⟨f1, h1⟩ : ∃ f, fs[1]? = some f := ⟨_, List.getElem?_eq_getElem (by omega)⟩
  obtain ⟨f2, h2⟩ : ∃ f, fs[2]? = some f := ⟨_, List.getElem?_eq_getElem (by omega)⟩
  obtain ⟨_, _, _, _, _, e0⟩ := hcut.at' 0 f0 h0
  obtain ⟨_, _, _, i1, c1, _⟩ := hcut.at' 1 f1 h1
  obtain ⟨_, _, _, _, _, e2⟩ := hcut.at' 2 f2 h2
  obtain ⟨g, off, rfl, hg, _, _, _, _, _, a5⟩ := hat.six h0
  obtain ⟨g', off', q, _, _, _, _, b3, b4, _⟩ := hat.six h1
  injection q with q
  injection q with q1 q2
  subst q1 q2
  obtain ⟨g', off', q, _, _, _, _, _, _, d5⟩ := hat.six h2
  injection q with q
  injection q with q1 q2
  subst q1 q2
  have l0 : f0.zs.length = 3 := by rw [e0]; rfl
  have l2 : f2.zs.length = 1 := by rw [e2]; rfl
  rw [l0] at a5
  rw [l2] at d5
  rw [i1] at b3
  rw [c1] at b4
  rw [hlen] at hc ⊢
  have hc3 : 3 ≤ (cp : Int) := by omega
  have a5' : w1.cell? ⟨g, off + 5, none⟩ = some (.slice f0.a 3 f0.cp) := by simpa using a5
  have b3' : w1.cell? ⟨g, off + 6 + 3, none⟩ = some (.int .i64 1) := by simpa using b3
  have b4' : w1.cell? ⟨g, off + 6 + 4, none⟩ = some (.int .i64 3) := b4
  have d5' : w1.cell? ⟨g, off + 12 + 5, none⟩ = some (.slice f2.a 1 f2.cp) := by simpa using d5
  have b3'' : w1.cell? ⟨g, off + 9, none⟩ = some (.int .i64 1) := b3'
  have b4'' : w1.cell? ⟨g, off + 10, none⟩ = some (.int .i64 3) := b4'
  have d5'' : w1.cell? ⟨g, off + 17, none⟩ = some (.slice f2.a 1 f2.cp) := d5'
  have HB := Lib.hid hb
  clear KF hb hb1 hcut hat h0 h1 h2 e0 e2 i1 c1 l0 l2 a5 b3 b4 d5 hmk hlen
  go_wp2_with fail
  refine (KN _).mono ?_
  rintro e w2 ⟨rfl, rfl⟩
  go_wp2
  go_ret
  exact ⟨rfl, HB.out⟩
end Go.Proofs.Ytmdjgidbfcfdnaa

namespace Go.Proofs.Ytmdjgidbfcfdnaa
open Go.RowKit
set_option maxRecDepth 100000

/-- all parts of a body -/
def Ct.parts (zs : List Int) (r : Nat) : List (List Int) := (List.range (Ct.cnt zs.length r)).map (Ct.part zs r)
/-- which parts there are behind k bytes, and what is open -/
structure PcN (zs : List Int) (r n k : Nat) (O : List (List Int)) (N : List Int) : Prop where
  all : ∀ j, j < O.length → O[j]? = some (Ct.part zs r j)
  now : (k < n ∧ O.length * r + N.length = k ∧ N.length < r ∧ N = (zs.drop (O.length * r)).take N.length) ∨ (k = n ∧ N = [] ∧ O.length = Ct.cnt n r)
section
variable {zs : List Int} {r n k : Nat} {O : List (List Int)} {N : List Int} {z : Int}
theorem Ct.cnt_eq {q : Nat} (hr : 1 ≤ r) (h1 : n ≤ (q + 1) * r) (h2 : q * r < n) : q + 1 = Ct.cnt n r := by
  have := (Ct.lt_cnt hr).2 h2
  rcases Nat.lt_or_ge (q + 1) (Ct.cnt n r) with h | h
  · have := (Ct.lt_cnt hr).1 h; omega
  · omega
theorem PcN.start (hn : 1 ≤ n) (hr : 1 ≤ r) : PcN zs r n 0 [] [] := ⟨fun j hj => by simp at hj, .inl ⟨by omega, by simp, by simp; omega, by simp⟩⟩
theorem PcN.more (h : PcN zs r n k O N) (hn : zs.length = n) (hz : zs[k]? = some z) : (N ++ [z]) = (zs.drop (O.length * r)).take (N.length + 1) ∧ O.length * r + N.length = k ∧ N.length < r := by
  have hk : k < n := by rw [← hn]; exact (List.getElem?_eq_some_iff.1 hz).1
  rcases h.now with ⟨_, h2, h3, h4⟩ | ⟨h1, _⟩
  · refine ⟨?_, h2, h3⟩
    rw [List.take_add_one, ← h4, List.getElem?_drop, h2, hz]; rfl
  · omega
theorem PcN.grow (h : PcN zs r n k O N) (hn : zs.length = n) (hz : zs[k]? = some z) (h1 : N.length + 1 ≠ r) (h2 : k + 1 ≠ n) : PcN zs r n (k + 1) O (N ++ [z]) := by
  have hk : k < n := by rw [← hn]; exact (List.getElem?_eq_some_iff.1 hz).1
  obtain ⟨e1, e2, e3⟩ := h.more hn hz
  refine ⟨h.all, .inl ⟨by omega, by rw [List.length_append, List.length_singleton]; omega, by rw [List.length_append, List.length_singleton]; omega, by rw [List.length_append, List.length_singleton]; exact e1⟩⟩
theorem PcN.push (h : PcN zs r n k O N) (hr : 1 ≤ r) (hn : zs.length = n) (hz : zs[k]? = some z) (h1 : N.length + 1 = r ∨ k + 1 = n) : PcN zs r n (k + 1) (O ++ [N ++ [z]]) [] := by
  have hk : k < n := by rw [← hn]; exact (List.getElem?_eq_some_iff.1 hz).1
  obtain ⟨e1, e2, e3⟩ := h.more hn hz
  have hm : (O.length + 1) * r = O.length * r + r := by rw [Nat.add_mul, Nat.one_mul]
  have hp : N ++ [z] = Ct.part zs r O.length := by
    rw [e1]
    unfold Ct.part
    rcases h1 with h1 | h1
    · rw [h1]
    · rw [List.take_of_length_le (by rw [List.length_drop]; omega), List.take_of_length_le (by rw [List.length_drop]; omega)]
  refine ⟨fun j hj => ?_, ?_⟩
  · rw [List.length_append, List.length_singleton] at hj
    rcases Nat.lt_or_ge j O.length with h3 | h3
    · rw [List.getElem?_append_left h3]; exact h.all j h3
    · have : j = O.length := by omega
      subst this
      rw [List.getElem?_append_right (Nat.le_refl _), Nat.sub_self, hp]; rfl
  · rcases Nat.lt_or_ge (k + 1) n with h3 | h3
    · left
      have : N.length + 1 = r := by omega
      refine ⟨h3, by rw [List.length_append, List.length_singleton, hm]; simp; omega, by simp; omega, by simp⟩
    · right
      refine ⟨by omega, rfl, ?_⟩
      rw [List.length_append, List.length_singleton]
      exact Ct.cnt_eq hr (by rw [hm]; omega) (by omega)
theorem PcN.done (h : PcN zs r n k O N) (hn : zs.length = n) (hk : k = n) : Ct.parts zs r = O := by
  rcases h.now with ⟨h1, _⟩ | ⟨_, _, h3⟩
  · omega
  · unfold Ct.parts
    rw [hn, ← h3]
    refine List.ext_getElem? fun j => ?_
    rw [List.getElem?_map]
    rcases Nat.lt_or_ge j O.length with h4 | h4
    · rw [List.getElem?_range h4, h.all j h4]; rfl
    · rw [List.getElem?_eq_none (by simpa using h4), List.getElem?_eq_none h4]; rfl
end
theorem Ct.parts_len (zs : List Int) (r : Nat) : (Ct.parts zs r).length = Ct.cnt zs.length r := by simp [Ct.parts]
theorem Ct.parts_at {zs : List Int} {r j : Nat} (h : j < Ct.cnt zs.length r) : (Ct.parts zs r)[j]? = some (Ct.part zs r j) := by
  unfold Ct.parts
  rw [List.getElem?_map, List.getElem?_range h]; rfl

set_option maxHeartbeats 4000000 in
theorem rparts_any (a : Option Addr) (n c r : Nat) (zs : List Int) (w : World) (hn : zs.length = n) (hn1 : 1 ≤ n) (hl : n ≤ 1000) (hr : 1 ≤ r) (hr2 : r ≤ 1000) (h1 : Nums .u8 w w.heap.size a zs) :
    Calls Try.prog 18 #[.slice a n c, .int .i64 (r : Int)] w (RBlk w (Ct.parts zs r)) := by
  obtain ⟨i0, hi, hz0, hz1, hz2⟩ := info_parts byteInfo
  obtain ⟨j0, hj, hj0, hj1, hj2⟩ := info_parts listInfo
  have HL := Lib.hid hn
  have hr0 : (0 : Int) < (r : Int) := by omega
  clear hn
  go_enter Try.func18, Try.ntmps18
  go_wp2
  go_loopw [5, 6, 7] (fun v u iv wr => ∃ (k : Nat) (xs : List Value) (O : List (List Int)) (N : List Int), k ≤ n ∧ iv = .int .i64 k ∧ O.length ≤ k ∧ N.length ≤ k ∧ Hid (PcN zs r n k O N) ∧ Hid (Ls 5 25 .u8 w.heap.size wr v u xs O N) ∧ Hid (Below w.heap.size w wr))
    (fun _ _ iv _ => n - (intOf iv).toNat)
  case atStart => exact ⟨0, [], [], [], by omega, rfl, by simp, by simp, PcN.start hn1 hr, Ls.start _ _ _ _ _, Below.refl _ _⟩
  case round =>
    obtain ⟨k, xs, O, N, hk, rfl, hOk, hNk, HP, HLs, HBe⟩ := hrel
    by_cases hlt : k < n
    · obtain ⟨z, hzk⟩ : ∃ z, zs[k]? = some z := ⟨_, List.getElem?_eq_getElem (by rw [HL.out]; exact hlt)⟩
      have hbe := HBe.out
      obtain ⟨b1, o1, rfl, hb1, hc1⟩ := (h1.below hbe).open hzk
      have hlt' : (k : Int) < (n : Int) := by omega
      have hsz := hbe.size
      have HX1 : Hid (N.length + 1 ≤ maxLen) := by show _ ≤ _; unfold maxLen; omega
      have HX2 : Hid ((N.length + 1) * 1 ≤ 140737488355328) := by show _ ≤ _; omega
      have HX3 : Hid (w.heap.size ≤ (wr.alloc (.cells #[.int .u8 z] 5)).heap.size) := by show _ ≤ _; rw [World.size_alloc]; omega
      have HZ := Lib.hid hzk
      clear hzk
      go_wp2_with (at_builtin; refine wpList_append_own_at _ rfl (.tmp 18) (.tmp 23) 25 rfl w.heap.size 5 i0 (.int .u8 0) 1 1 Try.underlying25 hi hz0 hz1 hz2 rfl (by decide) _ _ _ rfl (HLs.out.now.alloc _) ⟨wr.heap.size, 0, none⟩ 1 1 [.int .u8 z] rfl rfl (cell_one_new _ _ _) (by simp [Value.oneCell']) HX1.out HX2.out HX3.out ?_)
      intro u1 w1 hown hg _ hat
      obtain ⟨g1, cap1, rfl⟩ := ownsRow_succ hown
      have HL1 := Lib.hid (HLs.out.grow (z := z) (by decide) hown hg (by rw [World.size_alloc]; exact hat))
      have HB1 := Lib.hid (((hbe.alloc hsz _).grown hg (by rw [World.size_alloc]; omega) (fun g hk => (HLs.out.now.lt g hk).1)))
      clear hown hg hat HX1 HX2 HX3 HLs HBe hc1
      have hs1 := HB1.out.size
      by_cases hp : N.length + 1 = r ∨ k + 1 = n
      · have HP2 := Lib.hid (HP.out.push hr HL.out HZ.out hp)
        have HX1 : Hid (O.length + 1 ≤ maxLen) := by show _ ≤ _; unfold maxLen; omega
        have HX2 : Hid ((O.length + 1) * 24 ≤ 140737488355328) := by show _ ≤ _; omega
        have HX3 : Hid (w.heap.size ≤ (w1.alloc (.cells #[.slice (some ⟨g1, 0, none⟩) (N.length + 1) cap1] 25)).heap.size) := by show _ ≤ _; rw [World.size_alloc]; omega
        by_cases hp1 : N.length + 1 = r
        · have hp2 : ((N.length : Int) + 1 == (r : Int)) = true := by rw [beq_iff_eq]; omega
          have HP1 := Lib.hid hp1
          clear hp hp1
          go_wp2_with (at_builtin; refine wpList_append_own_at _ rfl (.tmp 36) (.tmp 38) 56 rfl w.heap.size 25 j0 (.slice none 0 0) 1 24 Try.underlying56 hj hj0 hj1 hj2 rfl (by decide) _ _ _ rfl (HL1.out.out.alloc _) ⟨w1.heap.size, 0, none⟩ 1 1 [_] rfl rfl (cell_one_new _ _ _) (by simp [Value.oneCell']) HX1.out HX2.out HX3.out ?_)
          intro v2 w2 hown hg _ _
          have HL2 := Lib.hid (HL1.out.push (by decide) hown hg)
          have HB3 := Lib.hid (((HB1.out.alloc hs1 _).grown hg (by rw [World.size_alloc]; omega) (fun g hk => (HL1.out.out.lt g hk).1)))
          clear hown hg
          go_wp2
          go_roundw
          case rel => exact ⟨k + 1, _, O ++ [N ++ [z]], [], by omega, by go_num, by rw [List.length_append, List.length_singleton]; omega, by simp, HP2, HL2, HB3⟩
          case measure => simp [intOf]; omega
        · have hp2 : ((N.length : Int) + 1 == (r : Int)) = false := by rw [beq_eq_false_iff_ne]; omega
          have hp3 : (k : Int) = (n : Int) - 1 := by omega
          have hp4 : ((k : Int) == (n : Int) - 1) = true := by rw [beq_iff_eq]; omega
          have HP1 := Lib.hid hp1
          have HP3 := Lib.hid hp3
          clear hp hp1 hp3
          go_wp2_with (at_builtin; refine wpList_append_own_at _ rfl (.tmp 36) (.tmp 38) 56 rfl w.heap.size 25 j0 (.slice none 0 0) 1 24 Try.underlying56 hj hj0 hj1 hj2 rfl (by decide) _ _ _ rfl (HL1.out.out.alloc _) ⟨w1.heap.size, 0, none⟩ 1 1 [_] rfl rfl (cell_one_new _ _ _) (by simp [Value.oneCell']) HX1.out HX2.out HX3.out ?_)
          intro v2 w2 hown hg _ _
          have HL2 := Lib.hid (HL1.out.push (by decide) hown hg)
          have HB3 := Lib.hid (((HB1.out.alloc hs1 _).grown hg (by rw [World.size_alloc]; omega) (fun g hk => (HL1.out.out.lt g hk).1)))
          clear hown hg
          go_wp2
          go_roundw
          case rel => exact ⟨k + 1, _, O ++ [N ++ [z]], [], by omega, by go_num, by rw [List.length_append, List.length_singleton]; omega, by simp, HP2, HL2, HB3⟩
          case measure => simp [intOf]; omega
      · have HP2 := Lib.hid (HP.out.grow HL.out HZ.out (fun e => hp (.inl e)) (fun e => hp (.inr e)))
        have hp2 : ((N.length : Int) + 1 == (r : Int)) = false := by rw [beq_eq_false_iff_ne]; omega
        have hp3 : ((k : Int) == (n : Int) - 1) = false := by rw [beq_eq_false_iff_ne]; omega
        have HPP := Lib.hid hp
        clear hp
        go_wp2
        go_roundw
        case rel => exact ⟨k + 1, _, O, N ++ [z], by omega, by go_num, by omega, by rw [List.length_append, List.length_singleton]; omega, HP2, HL1, HB1⟩
        case measure => simp [intOf]; omega
    · have hkn : k = n := by omega
      have HF := Lib.hid (HP.out.done HL.out hkn)
      go_wp2
      go_ret
      exact RBlk.of HLs.out HF.out HBe.out
end Go.Proofs.Ytmdjgidbfcfdnaa

namespace Go.Proofs.Ytmdjgidbfcfdnaa
open Go.RowKit
set_option maxRecDepth 100000

set_option maxHeartbeats 8000000 in
theorem rcheck_any (v k s i c : Int) (w : World) :
    Calls Try.prog 19 #[hdV v k s i c] w fun e w' => e = .returned (.int .i64 (chk v k i c)) ∧ Below w.heap.size w w' := by
  unfold hdV
  rcases chk_cases v k i c with ⟨h, h1⟩ | ⟨h, h1, h2, h3⟩ | ⟨h, h1, h2, h3, h4, h5⟩ | ⟨h, h1, h2, h3, h4, h5, h6, h7⟩ | ⟨h, h1, h2, h3, h4, h5, h6, h7, h8⟩
  · rw [h]
    have a1 : (v != 1) = true := by simp; omega
    have a2 : (v != 2) = true := by simp; omega
    clear h h1
    go_enter Try.func19, Try.ntmps19
    go_wp2
    go_ret
    exact ⟨rfl, (Below.refl _ w).alloc (Nat.le_refl _) _⟩
  · rw [h]
    obtain rfl | rfl : v = 1 ∨ v = 2 := by omega
    all_goals
      rcases h3 with h3 | h3
      all_goals
        go_enter Try.func19, Try.ntmps19
        go_wp2
        all_goals
          go_ret
          exact ⟨rfl, (Below.refl _ w).alloc (Nat.le_refl _) _⟩
  · rw [h]
    obtain rfl | rfl : v = 1 ∨ v = 2 := by omega
    all_goals
      rcases h5 with h5 | h5
      all_goals
        go_enter Try.func19, Try.ntmps19
        go_wp2
        all_goals
          go_ret
          exact ⟨rfl, (Below.refl _ w).alloc (Nat.le_refl _) _⟩
  · rw [h]
    obtain rfl | rfl : v = 1 ∨ v = 2 := by omega
    all_goals
      rcases h7 with h7 | h7
      all_goals
        go_enter Try.func19, Try.ntmps19
        go_wp2
        all_goals
          go_ret
          exact ⟨rfl, (Below.refl _ w).alloc (Nat.le_refl _) _⟩
  · rw [h]
    obtain rfl | rfl : v = 1 ∨ v = 2 := by omega
    all_goals
      go_enter Try.func19, Try.ntmps19
      go_wp2
      all_goals
        go_ret
        exact ⟨rfl, (Below.refl _ w).alloc (Nat.le_refl _) _⟩
end Go.Proofs.Ytmdjgidbfcfdnaa

namespace Go.Proofs.Ytmdjgidbfcfdnaa
open Go.RowKit Go.Shelf
set_option maxRecDepth 100000
attribute [local go_sem] Oper.semAt_some

theorem rfInfo : (Try.prog.info? 45).map (fun i => (i.zero, i.size, i.bytes)) = some (some (.agg #[.int .i64 0, .int .i64 0, .int .u32 0, .int .i64 0, .int .i64 0, .slice none 0 0]), 6, 64) := by kernel_rfl

theorem rframes_short (v k s i c : Int) (a : Option Addr) (cp : Nat) (room : Int) (w : World) :
    Calls Try.prog 7 #[hdV v k s i c, .slice a 0 cp, .int .i64 room] w (FramesR w v k s [] room) := by
  have HF := Lib.hid (fun e w' => FramesR.bad (w := w) (w' := w') (s := s) (e := e) (show Ct.fErr v k ([] : List Int).length room = 13 from rfl) (by decide))
  generalize FramesR w v k s [] room = G at *
  unfold hdV
  go_enter Try.func7, Try.ntmps7
  go_wp2
  try go_ret2
  exact HF.out _ _ rfl ((Below.refl _ w).alloc (Nat.le_refl _) _)
theorem rframes_long (v k s i c : Int) (a : Option Addr) (n cp : Nat) (zs : List Int) (room : Int) (w : World) (hn : zs.length = n) (h1 : 192 < n) :
    Calls Try.prog 7 #[hdV v k s i c, .slice a n cp, .int .i64 room] w (FramesR w v k s zs room) := by
  have HF := Lib.hid (fun e w' => FramesR.bad (w := w) (w' := w') (s := s) (e := e) (show Ct.fErr v k zs.length room = 2 from by unfold Ct.fErr; rw [if_neg (by omega), if_pos (by omega)]) (by decide))
  have h2 : ¬ (n : Int) = 0 := by omega
  have h3 : 192 < (n : Int) := by omega
  clear hn h1
  generalize FramesR w v k s zs room = G at *
  unfold hdV
  go_enter Try.func7, Try.ntmps7
  go_wp2
  try go_ret2
  exact HF.out _ _ rfl ((Below.refl _ w).alloc (Nat.le_refl _) _)
theorem rframes_range (v k s i c : Int) (a : Option Addr) (n cp : Nat) (zs : List Int) (room : Int) (w : World) (hn : zs.length = n) (h0 : 1 ≤ n) (h1 : n ≤ 192) (hr : room < 1 ∨ 242 < room) :
    Calls Try.prog 7 #[hdV v k s i c, .slice a n cp, .int .i64 room] w (FramesR w v k s zs room) := by
  have HF := Lib.hid (fun e w' => FramesR.bad (w := w) (w' := w') (s := s) (e := e) (show Ct.fErr v k zs.length room = 5 from by unfold Ct.fErr; rw [if_neg (by omega), if_neg (by omega), if_pos hr]) (by decide))
  have h2 : ¬ (n : Int) = 0 := by omega
  have h3 : ¬ 192 < (n : Int) := by omega
  clear hn h1 h0
  generalize FramesR w v k s zs room = G at *
  unfold hdV
  by_cases h4 : room < 1
  · clear hr
    go_enter Try.func7, Try.ntmps7
    go_wp2
    try go_ret2
    exact HF.out _ _ rfl ((Below.refl _ w).alloc (Nat.le_refl _) _)
  · have h5 : 242 < room := by omega
    clear hr
    go_enter Try.func7, Try.ntmps7
    go_wp2
    try go_ret2
    exact HF.out _ _ rfl ((Below.refl _ w).alloc (Nat.le_refl _) _)

set_option maxHeartbeats 8000000 in
theorem rframes_cut (v k s i c : Int) (hs : 0 ≤ s ∧ s ≤ 4294967295) (a : Option Addr) (n cp r : Nat) (zs : List Int) (w : World) (hn : zs.length = n) (h0 : 1 ≤ n) (hn2 : n ≤ 192) (hr1 : 1 ≤ r) (hr2 : r ≤ 242) (hz : Bytes zs) (h1 : Nums .u8 w w.heap.size a zs) :
    Calls Try.prog 7 #[hdV v k s i c, .slice a n cp, .int .i64 (r : Int)] w (FramesR w v k s zs (r : Int)) := by
  obtain ⟨r0, hr, hz0, hz1, hz2⟩ := info_parts rfInfo
  obtain ⟨m, hm⟩ : ∃ m, Ct.cnt n r = m := ⟨_, rfl⟩
  have hm1 : 1 ≤ m := by rw [← hm]; exact Ct.cnt_pos hr1 h0
  have hmn : m ≤ n := by rw [← hm]; exact Ct.cnt_le hr1
  have hfe : Ct.fErr v k zs.length (r : Int) = chk v k 0 (m : Int) := by unfold Ct.fErr; rw [if_neg (by omega), if_neg (by omega), if_neg (by omega), Int.toNat_natCast, hn, hm]
  have HBad := Lib.hid (fun e w' => FramesR.bad (w := w) (w' := w') (s := s) (e := e) hfe)
  have HGood := Lib.hid (fun (h : chk v k 0 (m : Int) = 0) (W : World) (base t : Nat) (u : Value) (fs : List Fr) => FramesR.good (w := w) (W := W) (v := v) (k := k) (s := s) (room := (r : Int)) (zs := zs) (base := base) (t := t) (u := u) (fs := fs) (m := m) (by rw [hfe, h]) (by rw [Int.toNat_natCast, hn, hm]))
  rw [Int.toNat_natCast] at HGood
  have h2 : ¬ (n : Int) = 0 := by omega
  have h3 : ¬ 192 < (n : Int) := by omega
  have h4 : ¬ (r : Int) < 1 := by omega
  have h5 : ¬ 242 < (r : Int) := by omega
  have hb0 := (Below.refl _ w).alloc (Nat.le_refl _) (.cells #[.int .i64 v, .int .i64 k, .int .u32 s, .int .i64 i, .int .i64 c] 33)
  have KP := rparts_any a n cp r zs (w.alloc (.cells #[.int .i64 v, .int .i64 k, .int .u32 s, .int .i64 i, .int .i64 c] 33)) hn h0 (by omega) hr1 (by omega) ((h1.below hb0).mono hb0.size)
  have hpl : (Ct.parts zs r).length = m := by rw [Ct.parts_len, hn, hm]
  have hpa : ∀ j, j < m → (Ct.parts zs r)[j]? = some (Ct.part zs r j) := fun j hj => Ct.parts_at (by rw [hn, hm]; exact hj)
  have HPA := Lib.hid hpa
  have HZ := Lib.hid hz
  have HM := Lib.hid hm
  have HN := Lib.hid hn
  generalize FramesR w v k s zs (r : Int) = G at *
  unfold hdV
  clear hfe h1 hpa hz hm hn h0
  go_enter Try.func7, Try.ntmps7
  go_wp2_with fail
  refine KP.mono ?_
  rintro e w1 ⟨AL, cL, rfl, hcL, hLA, hb1⟩
  clear KP
  rw [hpl] at hcL ⊢
  rw [World.size_alloc] at hb1
  have hH1 : w1.heap[w.heap.size]? = some (.cells #[.int .i64 v, .int .i64 k, .int .u32 s, .int .i64 i, .int .i64 c] 33 (0, 0)) := (hb1.block _ (by omega)).trans (World.alloc_heap_new _ _)
  have hb01 : Below w.heap.size w w1 := hb0.trans (hb1.mono (by omega))
  have hs01 : w.heap.size + 1 ≤ w1.heap.size := by have := hb1.size; rwa [World.size_alloc] at this
  have HH1 := Lib.hid hH1
  have HB01 := Lib.hid hb01
  have HLA := Lib.hid hLA
  have hmc : (m : Int) ≤ (cL : Int) := by omega
  clear hb0 hb1 hH1 hb01 hLA
  go_wp2
  go_loopw [9, 10] (fun u iv wr => ∃ (j : Nat) (U : Value) (fs : List Fr), U = u ∧ j ≤ m ∧ iv = .int .i64 (j : Int) ∧ Hid (fs.length = j) ∧ Hid (CutGo v k s zs r m fs) ∧ Hid (∀ f ∈ fs, f.At w1 w1.heap.size) ∧ Hid (wr.ownsRow w1.heap.size 45 6 U fs.length (flatF fs)) ∧ Hid (Below w1.heap.size w1 wr) ∧ Hid (0 < j → chk v k 0 (m : Int) = 0)) (fun _ iv _ => m - (intOf iv).toNat)
  case atStart => exact ⟨0, _, [], rfl, by omega, rfl, rfl, (fun j f hf => by simp at hf), (fun f hf => by simp at hf), World.ownsRow_nil _ _ _ _, Below.refl _ _, fun h => by omega⟩
  case round =>
    obtain ⟨j, U, fs, rfl, hj, rfl, HL, HG, HAt, HRow, HB, HC0⟩ := hrel
    by_cases hlt : j < m
    · have hlt' : (j : Int) < (m : Int) := by omega
      have hHr : wr.heap[w.heap.size]? = some (.cells #[.int .i64 v, .int .i64 k, .int .u32 s, .int .i64 i, .int .i64 c] 33 (0, 0)) := (HB.out.block _ (by omega)).trans HH1.out
      obtain ⟨d0, d1, d2, d3, d4⟩ := hd_block hHr
      clear hHr
      have HKC : Hid (∀ W, Calls Try.prog 19 #[.agg #[.int .i64 v, .int .i64 k, .int .u32 s, .int .i64 (j : Int), .int .i64 (m : Int)]] W fun e w' => e = .returned (.int .i64 (chk v k (j : Int) (m : Int))) ∧ Below W.heap.size W w') := fun W => rcheck_any v k s (j : Int) (m : Int) W
      by_cases hE : chk v k 0 (m : Int) = 0
      · have hEj : chk v k (j : Int) (m : Int) = 0 := chk_from hE hlt'
        rw [hEj] at HKC
        obtain ⟨g, Ai, ci, rfl, hg, hcell, hci, hNi⟩ := HLA.out j _ (HPA.out j hlt)
        have HE := Lib.hid hE
        clear hE hEj
        go_wp2_with fail
        refine (HKC.out _).mono ?_
        rintro e W2 ⟨rfl, hb2⟩
        obtain ⟨e0, e1, e2, e3, e4⟩ := hd_cells hb2
        rw [World.size_alloc] at hb2
        have hbw : Below wr.heap.size wr W2 := ((Below.refl _ wr).alloc (Nat.le_refl _) _).trans (hb2.mono (by omega))
        have hbW : Below w1.heap.size w1 W2 := HB.out.trans (hbw.mono HB.out.size)
        have HRow2 := Lib.hid (own_below6 HRow.out hbw)
        have hlX : ∀ W, Below W2.heap.size W2 W → (Instr.loadAt 33 (.pointer (some ⟨wr.heap.size, 0, none⟩))).run Try.prog W = .ok (.agg #[.int .i64 v, .int .i64 k, .int .u32 s, .int .i64 (j : Int), .int .i64 (m : Int)]) W := fun W hW => by
          have hl : wr.heap.size < W2.heap.size := by have := hb2.size; rw [World.size_alloc] at this; omega
          have f0 := (hW.cell (p := ⟨wr.heap.size, 0, none⟩) hl).trans e0
          have f1 := (hW.cell (p := ⟨wr.heap.size, 1, none⟩) hl).trans e1
          have f2 := (hW.cell (p := ⟨wr.heap.size, 2, none⟩) hl).trans e2
          have f3 := (hW.cell (p := ⟨wr.heap.size, 3, none⟩) hl).trans e3
          have f4 := (hW.cell (p := ⟨wr.heap.size, 4, none⟩) hl).trans e4
          simp [Instr.loadAt, go_sem, f0, f1, f2, f3, f4]
        obtain ⟨P, hP⟩ : ∃ P, Ct.part zs r j = P := ⟨_, rfl⟩
        rw [hP] at hcell hci hNi
        have hlL : ∀ W, Below W2.heap.size W2 W → (Instr.loadAt 25 (.pointer (some ⟨g, j, none⟩))).run Try.prog W = .ok (.slice Ai P.length ci) W := fun W hW => by
          have f0 := ((hbW.trans (hW.mono hbW.size)).cell (p := ⟨g, j, none⟩) hg).trans hcell
          simp [Instr.loadAt, go_sem, f0]
        have HBW := Lib.hid hbW
        have HNI := Lib.hid hNi
        have HPj := Lib.hid hP
        have hs2 := hbw.size
        clear hb2 hbw hbW hP e0 e1 e2 e3 e4 d0 d1 d2 d3 d4 hcell hNi HKC
        go_wp2_with fail
        refine wp_region_FT 54 8 [51] (fun q x W => ∃ b, x = .slice (some ⟨b, 0, none⟩) 1 1 ∧ W.heap[b]? = some (.cells (frC v k s (j : Int) (m : Int) (.slice Ai P.length ci)) 45 (0, 0))) (fun W => Below W2.heap.size W2 W) (by kernel_rfl) (by kernel_rfl) (by rfl) (by kernel_rfl) (by kernel_rfl) (by kernel_rfl) (by rfl) (by simp) (fun W W' h hb => h.trans (hb.mono h.size)) (fun q x W W' h hb => by
          obtain ⟨b, h1, h2⟩ := h
          exact ⟨b, h1, (hb.block _ (Array.getElem?_eq_some_iff.1 h2).1).trans h2⟩) (Below.refl _ _).drew ?_
        simp only [List.take_succ_cons, List.take_zero, List.drop_succ_cons, List.drop_zero]
        repeat (refine wpF_pure rfl rfl ?_; go_big_quiet_step (fail); refine wpQuiet_nil ?_)
        refine wpF_load (.agg #[.int .i64 v, .int .i64 k, .int .u32 s, .int .i64 (j : Int), .int .i64 (m : Int)]) rfl (by rfl) (by rfl) (by rfl) hlX ?_
        simp only [Act.put, List.setIfInBounds_toArray, List.set_cons_succ, List.set_cons_zero]
        repeat (refine wpF_pure rfl rfl ?_; go_big_quiet_step (fail); refine wpQuiet_nil ?_)
        refine wpF_load (.slice Ai P.length ci) rfl (by rfl) (by rfl) (by rfl) hlL ?_
        simp only [Act.put, List.setIfInBounds_toArray, List.set_cons_succ, List.set_cons_zero]
        refine wpF_val (.agg #[.int .i64 v, .int .i64 k, .int .u32 s, .int .i64 (j : Int), .int .i64 (m : Int), .slice Ai P.length ci]) (by rfl) (by rfl) (fun W _ => by simp [go_sem]) ?_
        simp only [Act.put, List.setIfInBounds_toArray, List.set_cons_succ, List.set_cons_zero]
        refine wpF_src 51 (by simp) rfl rfl rfl (fun W hW => ⟨.slice (some ⟨W.heap.size, 0, none⟩) 1 1, W.alloc (.cells (frC v k s (j : Int) (m : Int) (.slice Ai P.length ci)) 45), ?_, ⟨_, rfl, World.alloc_heap_new _ _⟩, (Below.refl _ _).alloc (Nat.le_refl _) _⟩) ?_
        · simp [go_sem, frC]
        simp only [Act.put, List.setIfInBounds_toArray, List.set_cons_succ, List.set_cons_zero]
        intro xs W hW hx
        obtain ⟨b, hxb, hbl⟩ := hx 51 (by simp)
        simp only [fill, Act.put, List.setIfInBounds_toArray, List.set_cons_succ, List.set_cons_zero]
        rw [hxb]
        have hbW := HBW.out.trans (hW.mono HBW.out.size)
        have HRow3 := Lib.hid (own_below6 HRow2.out hW)
        have HNW : Hid (∀ (q : Nat) (u : Value), [Value.int .i64 v, .int .i64 k, .int .u32 s, .int .i64 (j : Int), .int .i64 (m : Int), .slice Ai P.length ci][q]? = some u → W.cell? ((⟨b, 0, none⟩ : Addr).add q) = some u) := fun q u hq => by
          rw [Addr.add_lit, Nat.zero_add]
          simp only [World.cell?, hbl]
          simpa [frC] using hq
        have hL := HL.out
        have HX1 : Hid (fs.length + 1 ≤ maxLen) := by show _ ≤ _; unfold maxLen; omega
        have HX2 : Hid ((fs.length + 1) * 64 ≤ 140737488355328) := by show _ ≤ _; omega
        have HX3 := Lib.hid hbW.size
        have HBw := Lib.hid hbW
        clear hx hxb hbl hlX hlL hL hbW hW
        go_wp2_with (at_builtin; refine wpList_append_own_at _ rfl (.tmp 44) (.tmp 51) 30 rfl w1.heap.size 45 r0 _ 6 64 Try.underlying30 hr hz0 hz1 hz2 rfl (by decide) _ _ _ rfl HRow3.out ⟨b, 0, none⟩ 1 1 [Value.int .i64 v, .int .i64 k, .int .u32 s, .int .i64 (j : Int), .int .i64 (m : Int), .slice Ai P.length ci] rfl rfl HNW.out (by simp [Value.oneCell']) HX1.out HX2.out HX3.out ?_)
        intro U' W4 hown hg4 _ _
        have hlow := fun g hk => (HRow3.out.lt g hk).1
        have HB4 := Lib.hid (HBw.out.grown hg4 HX3.out hlow)
        have HG4 : Hid (CutGo v k s zs r m (fs ++ [⟨v, k, s, (j : Int), (m : Int), Ai, ci, P⟩])) := by
          have h := HG.out.push Ai ci
          rw [HL.out, HPj.out] at h
          exact h
        have HA4 : Hid (∀ f ∈ fs ++ [⟨v, k, s, (j : Int), (m : Int), Ai, ci, P⟩], f.At w1 w1.heap.size) := fun f hf => by
          rcases List.mem_append.1 hf with hf | hf
          · exact HAt.out f hf
          · obtain rfl : f = ⟨v, k, s, (j : Int), (m : Int), Ai, ci, P⟩ := by simpa using hf
            refine ⟨hs.1, hs.2, hci, ?_, ?_, HNI.out⟩
            · have := Ct.part_len zs r j
              rw [HPj.out] at this
              show P.length ≤ _
              rw [this]; omega
            · intro z hz
              rw [← HPj.out] at hz
              exact HZ.out z (Ct.part_mem hz)
        have HR4 : Hid (W4.ownsRow w1.heap.size 45 6 U' (fs ++ [(⟨v, k, s, (j : Int), (m : Int), Ai, ci, P⟩ : Fr)]).length (flatF (fs ++ [(⟨v, k, s, (j : Int), (m : Int), Ai, ci, P⟩ : Fr)]))) := by
          show World.ownsRow _ _ _ _ _ _ _
          rw [List.length_append, List.length_singleton, flatF_push]
          exact hown
        clear hown hg4 hlow
        go_wp2
        go_roundw
        case rel => exact ⟨j + 1, _, _, rfl, by omega, by go_num, by show _ = _; rw [List.length_append, HL.out]; rfl, HG4, HA4, HR4, HB4, fun _ => HE.out⟩
        case measure => simp [intOf]; omega
      · have hj0 : j = 0 := by
          rcases Nat.eq_zero_or_pos j with h | h
          · exact h
          · exact absurd (HC0.out h) hE
        have hEj : chk v k (j : Int) (m : Int) = chk v k 0 (m : Int) := by rw [hj0]; rfl
        rw [hEj] at HKC
        have hE2 : (chk v k 0 (m : Int) != 0) = true := by simpa using hE
        have HBE := Lib.hid (fun e w' => HBad.out e w' hE)
        have HJ0 := Lib.hid hj0
        clear hEj hj0 HBad HGood HC0
        generalize chk v k 0 (m : Int) = E at *
        go_wp2_with fail
        refine (HKC.out _).mono ?_
        rintro e W2 ⟨rfl, hb2⟩
        obtain ⟨e0, e1, e2, e3, e4⟩ := hd_cells hb2
        rw [World.size_alloc] at hb2
        have HB2 := Lib.hid (HB01.out.trans ((HB.out.trans (((Below.refl _ wr).alloc (Nat.le_refl _) _).trans (hb2.mono (by omega)) |>.mono HB.out.size)).mono HB01.out.size))
        clear hb2 d0 d1 d2 d3 d4
        go_wp2_with fail
        refine (HKC.out _).mono ?_
        rintro e W3 ⟨rfl, hb3⟩
        have HB3 := Lib.hid (HB2.out.trans (hb3.mono HB2.out.size))
        clear hb3
        go_wp2
        try go_ret2
        exact HBE.out _ _ rfl HB3.out
    · have hjm : j = m := by omega
      have hnl : ¬ (j : Int) < (m : Int) := by omega
      have HFin : Hid (G (Ending.returned (.tuple #[U, .int .i64 0])) wr) := HGood.out (HC0.out (by omega)) wr w1.heap.size 45 U fs (by rw [HL.out, hjm]) HG.out (fun f hf => ((HAt.out f hf).below HB.out).mono HB.out.size) HRow.out (HB01.out.trans (HB.out.mono HB01.out.size))
      clear hjm
      go_wp2
      try go_ret2
      exact HFin.out

/-- the document's Frames, of any head, body and room -/
theorem rframes_any (v k s i c : Int) (hs : 0 ≤ s ∧ s ≤ 4294967295) (a : Option Addr) (n cp : Nat) (room : Int) (zs : List Int) (w : World) (hn : zs.length = n) (hz : Bytes zs) (h1 : Nums .u8 w w.heap.size a zs) :
    Calls Try.prog 7 #[hdV v k s i c, .slice a n cp, .int .i64 room] w (FramesR w v k s zs room) := by
  by_cases h0 : n = 0
  · subst h0
    obtain rfl : zs = [] := List.eq_nil_of_length_eq_zero hn
    exact rframes_short v k s i c a cp room w
  · by_cases h2 : 192 < n
    · exact rframes_long v k s i c a n cp zs room w hn h2
    · by_cases h3 : room < 1 ∨ 242 < room
      · exact rframes_range v k s i c a n cp zs room w hn (by omega) (by omega) h3
      · obtain ⟨r, rfl⟩ := Int.eq_ofNat_of_zero_le (a := room) (by omega)
        exact rframes_cut v k s i c hs a n cp r zs w hn (by omega) (by omega) (by omega) (by omega) hz h1
end Go.Proofs.Ytmdjgidbfcfdnaa

namespace Go.Proofs.Ytmdjgidbfcfdnaa
open Go.RowKit
set_option maxRecDepth 100000

theorem same_lens (a1 a2 : Option Addr) (n1 n2 c1 c2 : Nat) (w : World) (h : n1 ≠ n2) :
    Calls Try.prog 11 #[.slice a1 n1 c1, .slice a2 n2 c2] w fun e w' => e = .returned (.bool false) ∧ ∃ n, w' = w.drewN n := by
  have h2 : ((n1 : Int) != (n2 : Int)) = true := by simp; omega
  have h3 : ¬ (n1 : Int) = (n2 : Int) := by omega
  go_enter Try.func11, Try.ntmps11
  go_wp2
  go_ret
  exact ⟨rfl, 0, rfl⟩

/-- Same of any two lists -/
theorem same_any (B : Nat) (a1 a2 : Option Addr) (n1 n2 c1 c2 : Nat) (xs ys : List Int) (w : World) (e1 : xs.length = n1) (e2 : ys.length = n2) (l1 : n1 ≤ 9223372036854775807) (h1 : Nums .u8 w B a1 xs) (h2 : Nums .u8 w B a2 ys) :
    Calls Try.prog 11 #[.slice a1 n1 c1, .slice a2 n2 c2] w fun e w' => e = .returned (.bool (decide (xs = ys))) ∧ ∃ n, w' = w.drewN n := by
  by_cases hl : n1 = n2
  · subst hl
    have HE1 := Lib.hid e1
    have HE2 := Lib.hid e2
    clear e1 e2
    go_enter Try.func11, Try.ntmps11
    go_wp2
    go_loopw [5] (fun i wr => ∃ k : Nat, k ≤ n1 ∧ i = .int .i64 k ∧ Hid (xs.take k = ys.take k) ∧ ∃ n, wr = w.drewN n) (fun i _ => n1 - (intOf i).toNat)
    case atStart => exact ⟨0, by omega, rfl, rfl, 0, rfl⟩
    case round =>
      obtain ⟨k, hk, rfl, HT, n, rfl⟩ := hrel
      by_cases hlt : k < n1
      · obtain ⟨x, hx⟩ : ∃ x, xs[k]? = some x := ⟨_, List.getElem?_eq_getElem (by rw [HE1.out]; exact hlt)⟩
        obtain ⟨y, hy⟩ : ∃ y, ys[k]? = some y := ⟨_, List.getElem?_eq_getElem (by rw [HE2.out]; exact hlt)⟩
        obtain ⟨b1, o1, rfl, hb1, hc1⟩ := h1.open hx
        obtain ⟨b2, o2, rfl, hb2, hc2⟩ := h2.open hy
        have HX := Lib.hid hx
        have HY := Lib.hid hy
        clear h1 h2 hx hy
        have hlt' : (k : Int) < (n1 : Int) := by omega
        by_cases hxy : x = y
        · have hq : (x != y) = false := by simp [hxy]
          have HQ : Hid (xs.take (k + 1) = ys.take (k + 1)) := by
            show _ = _
            rw [List.take_add_one, List.take_add_one, HT.out, HX.out, HY.out, hxy]
          subst hxy
          go_wp2
          go_quiet (fail)
          go_wp2
          go_roundw
          case rel => exact ⟨k + 1, by omega, by go_num, HQ, _, rfl⟩
          case measure => simp [intOf]; omega
        · have hq : (x != y) = true := by simp [hxy]
          have HQ : Hid (¬ xs = ys) := fun e => hxy (by
            have h3 := HX.out
            rw [e, HY.out] at h3
            exact (Option.some.inj h3).symm)
          have HN := Lib.hid hxy
          clear hxy
          go_wp2
          go_quiet (fail)
          go_wp2
          go_ret
          exact ⟨by rw [decide_eq_false HQ.out]; rfl, n + nq, by simp [World.drewN, Nat.add_assoc]⟩
      · have hk' : k = n1 := by omega
        have HQ : Hid (xs = ys) := by
          have h3 := HT.out
          rw [List.take_of_length_le (by rw [HE1.out]; omega), List.take_of_length_le (by rw [HE2.out]; omega)] at h3
          exact h3
        go_wp2
        go_ret
        exact ⟨by rw [decide_eq_true HQ.out]; rfl, n, rfl⟩
  · refine (same_lens a1 a2 n1 n2 c1 c2 w hl).mono ?_
    rintro e w' ⟨rfl, hd⟩
    exact ⟨by rw [decide_eq_false (fun e => hl (by rw [← e1, ← e2, e]))], hd⟩
end Go.Proofs.Ytmdjgidbfcfdnaa

namespace Go.Proofs.Ytmdjgidbfcfdnaa
open Go.RowKit Go.Shelf
set_option maxRecDepth 100000
attribute [local go_sem] Oper.semAt_some

/-- are frames the same -/
def sameZ (v k s i c v' k' s' i' c' : Int) (xs ys : List Int) : Bool := decide (v = v' ∧ k = k' ∧ s = s' ∧ i = i' ∧ c = c' ∧ xs = ys)
theorem ret_bool8 {a b : Bool} (h : a = b) : Ending.returned (.bool a) = Ending.returned (.bool b) := by rw [h]
theorem two_frames {w w0 : World} {v k s i c v' k' s' i' c' : Int} {p p' : Value} {t : TypeId} (hw : (w.alloc (.cells (frC v k s i c p) t)).alloc (.cells (frC v' k' s' i' c' p') t) = w0) :
    Below w.heap.size w w0 ∧ w0.heap[w.heap.size]? = some (.cells (frC v k s i c p) t (0, 0)) ∧ w0.heap[w.heap.size + 1]? = some (.cells (frC v' k' s' i' c' p') t (0, 0)) := by
  subst hw
  refine ⟨((Below.refl _ w).alloc (Nat.le_refl _) _).alloc (by simp) _, ?_, ?_⟩
  · exact (Below.heap_alloc _ _ _ (by simp)).trans (World.alloc_heap_new _ _)
  · have := World.alloc_heap_new (w.alloc (.cells (frC v k s i c p) t)) (.cells (frC v' k' s' i' c' p') t)
    rwa [World.size_alloc] at this

set_option maxHeartbeats 2000000 in
theorem rfsame_any (v k s i c v' k' s' i' c' : Int) (B : Nat) (A A' : Option Addr) (n cp n' cp' : Nat) (xs ys : List Int) (w : World) (hn : xs.length = n) (hn' : ys.length = n') (hl : n ≤ 9223372036854775807) (hB : B ≤ w.heap.size) (h1 : Nums .u8 w B A xs) (h2 : Nums .u8 w B A' ys) :
    Calls Try.prog 20 #[frV v k s i c (.slice A n cp), frV v' k' s' i' c' (.slice A' n' cp')] w fun e w' => e = .returned (.bool (sameZ v k s i c v' k' s' i' c' xs ys)) ∧ Below w.heap.size w w' := by
  obtain ⟨w0, hw⟩ : ∃ w0, (w.alloc (.cells (frC v k s i c (.slice A n cp)) 45)).alloc (.cells (frC v' k' s' i' c' (.slice A' n' cp')) 45) = w0 := ⟨_, rfl⟩
  obtain ⟨hb, q1, q2⟩ := two_frames hw
  obtain ⟨d0, d1, d2, d3, d4, d5⟩ := fr_block q1
  obtain ⟨e0, e1, e2, e3, e4, e5⟩ := fr_block q2
  have hb' := hb.mono hB
  have K := same_any B A A' n n' cp cp' xs ys w0 hn hn' hl (h1.below hb') (h2.below hb')
  have HW := Lib.hid hw
  have HB := Lib.hid hb
  unfold frV
  have HF1 : Hid (frC v k s i c (.slice A n cp) = #[.int .i64 v, .int .i64 k, .int .u32 s, .int .i64 i, .int .i64 c, .slice A n cp]) := rfl
  have HF2 : Hid (frC v' k' s' i' c' (.slice A' n' cp') = #[.int .i64 v', .int .i64 k', .int .u32 s', .int .i64 i', .int .i64 c', .slice A' n' cp']) := rfl
  clear hw q1 q2 hb hb' h1 h2
  by_cases hh : v = v' ∧ k = k' ∧ s = s' ∧ i = i' ∧ c = c'
  · obtain ⟨rfl, rfl, rfl, rfl, rfl⟩ := hh
    have hz : sameZ v k s i c v k s i c xs ys = decide (xs = ys) := by simp [sameZ]
    rw [hz]
    clear hz
    rw [HF1.out, HF2.out] at HW ⊢
    go_enter Try.func20, Try.ntmps20
    go_wp2_with fail
    rw [HW.out]
    go_wp2_with fail
    refine K.mono ?_
    rintro e w1 ⟨rfl, m, hm⟩
    have HB2 : Hid (Below w.heap.size w w1) := by rw [hm]; exact below_drewN HB.out m
    clear hm
    go_wp2
    go_ret
    exact ⟨rfl, HB2.out⟩
  · have hz : sameZ v k s i c v' k' s' i' c' xs ys = false := by
      unfold sameZ
      rw [decide_eq_false_iff_not]
      rintro ⟨rfl, rfl, rfl, rfl, rfl, _⟩
      exact hh ⟨rfl, rfl, rfl, rfl, rfl⟩
    rw [hz]
    have HH := Lib.hid hh
    clear hz hh K
    rw [HF1.out, HF2.out]
    clear HF1 HF2 HW HB
    go_enter Try.func20, Try.ntmps20
    go_wp2_with (exact absurd ⟨by assumption, by assumption, by assumption, by assumption, by assumption⟩ HH.out)
    all_goals
      go_ret
      exact ⟨rfl, ((Below.refl _ w).alloc (Nat.le_refl _) _).alloc (by simp) _⟩
end Go.Proofs.Ytmdjgidbfcfdnaa

namespace Go.Proofs.Ytmdjgidbfcfdnaa
open Go.RowKit Go.Deep
set_option maxRecDepth 100000

section
variable {w w' : World} {lo b : Nat} {zs : List Int} {p e p' e' : Nat}
end

/-- slices.Clone of bytes -/
theorem cloneK_any (a : Option Addr) (n cap : Nat) (zs : List Int) (w : World) (hn : zs.length = n) (hl : n ≤ 1000000000) (h1 : Nums .u8 w w.heap.size a zs) :
    Calls Try.prog 25 #[.slice a n cap] w fun e w' => ∃ v, e = .returned v ∧ MadeK 5 .u8 w w' zs v := by
  subst hn
  obtain ⟨i0, hi, hz0, hz1, hz2⟩ := info_parts byteInfo
  cases a with
  | none =>
    have : zs = [] := by
      apply Classical.byContradiction
      intro hn
      obtain ⟨b, off, e, _⟩ := h1 hn
      cases e
    subst this
    have hq := fun w => Lib.run_eql_slice_nil (P := Try.prog) w 25 5 none 0 cap 0 0 Try.underlying25
    go_enter Try.func25, Try.ntmps25
    go_wp2
    go_ret
    exact ⟨_, rfl, MadeK.nil _ _ (Below.refl _ _)⟩
  | some x =>
    have hq := fun w => Lib.run_eql_slice_nil (P := Try.prog) w 25 5 (some x) zs.length cap 0 0 Try.underlying25
    have hnews : ∀ j u, (zs.map (Value.int .u8))[j]? = some u → (w.alloc (.cells #[] 5)).cell? (x.add j) = some u := by
      intro j u hj
      rw [List.getElem?_map] at hj
      cases hc : zs[j]? with
      | none => rw [hc] at hj; simp at hj
      | some c =>
        rw [hc] at hj
        simp only [Option.map_some, Option.some.injEq] at hj
        subst hj
        obtain ⟨b, off, e, hb, hcell⟩ := h1.open hc
        injection e with e
        subst e
        have := (World.cell?_alloc_lt w (.cells #[] 5) ⟨b, off + j, none⟩ hb).trans hcell
        by_cases h0 : j = 0
        · subst h0; simpa [Addr.add] using this
        · simpa [Addr.add, h0] using this
    have hown : (w.alloc (.cells #[] 5)).ownsRow w.heap.size 5 1 (.slice (some ⟨w.heap.size, 0, none⟩) 0 0) 0 [] :=
      ⟨rfl, .inr ⟨w.heap.size, 0, #[], rfl, Nat.le_refl _, heap_alloc_new w _, Nat.le_refl _, by simp, rfl, rfl⟩⟩
    go_enter Try.func25, Try.ntmps25
    go_wp2_with (at_builtin; refine wpList_append_own _ rfl (.tmp 5) (.tmp 6) 25 rfl w.heap.size 5 i0 (.int .u8 0) 1 1 Try.underlying25 hi hz0 hz1 hz2 rfl (by decide) _ _ _ rfl hown x zs.length cap (zs.map (Value.int .u8)) rfl (by simp) hnews ?_ ?_ ?_ ?_ ?_; (intro u hu; simp at hu; obtain ⟨c, _, rfl⟩ := hu; rfl); (unfold maxLen; omega); omega; (simp); intro v' w1 hown1 hgrow1 _)
    go_ret
    refine ⟨_, rfl, by simpa using hown1, ?_⟩
    exact ((Below.refl w.heap.size w).alloc (Nat.le_refl _) _).grown hgrow1 (by simp) (fun g hk => by have hk : some w.heap.size = some g := hk; injection hk with hk; omega)

section
variable (lo b : Nat) (zs : List Int) (p e : Nat) (w : World)
/-- what End tells -/
def endOf (zs : List Int) (p e : Nat) : Nat := if e ≠ 0 then e else if p < zs.length then 3 else 0
end

end Go.Proofs.Ytmdjgidbfcfdnaa

namespace Go.Proofs.Ytmdjgidbfcfdnaa
open Go.RowKit
set_option maxRecDepth 100000
section
variable (lo b : Nat) (zs : List Int) (p e : Nat) (w : World)
end
end Go.Proofs.Ytmdjgidbfcfdnaa

namespace Go.Proofs.Ytmdjgidbfcfdnaa
open Go.RowKit
set_option maxRecDepth 100000
section
variable (lo b : Nat) (zs : List Int) (p e : Nat) (w : World)
end
end Go.Proofs.Ytmdjgidbfcfdnaa

namespace Go.Proofs.Ytmdjgidbfcfdnaa
open Go.RowKit
set_option maxRecDepth 100000
section
variable (lo b : Nat) (zs : List Int) (p e : Nat) (w : World)
end
end Go.Proofs.Ytmdjgidbfcfdnaa

namespace Go.Proofs.Ytmdjgidbfcfdnaa
open Go.RowKit Go.Shelf
set_option maxRecDepth 100000
attribute [local go_sem] Oper.semAt_some

/-- a place and a byte, as the closure hands them on -/
abbrev PB := { x : Nat × Int // x.1 ≤ 1000000 ∧ 0 ≤ x.2 ∧ x.2 ≤ 255 }
def bytesOf (l : List PB) : List Int := l.map fun x => x.1.2
theorem bytesOf_append (a b : List PB) : bytesOf (a ++ b) = bytesOf a ++ bytesOf b := by simp [bytesOf]
theorem bytesOf_length (a : List PB) : (bytesOf a).length = a.length := by simp [bytesOf]
theorem back_more {zs : List Int} {k : Nat} {c : Int} (h : zs[k]? = some c) : (zs.drop k).reverse = (zs.drop (k + 1)).reverse ++ [c] := by
  have hk : k < zs.length := (List.getElem?_eq_some_iff.1 h).1
  rw [List.getElem?_eq_getElem hk] at h
  injection h with h
  rw [List.drop_eq_getElem_cons hk, List.reverse_cons, h]

theorem NumsS.kept {k : IntKind} {S : Nat → Prop} {A B : World} {a : Option Addr} {zs : List Int} (h : NumsS k A S a zs) (hk : KeepS S A B) : NumsS k B S a zs := fun hn => by
  obtain ⟨b, off, e, h1, hc⟩ := h hn
  exact ⟨b, off, e, h1, fun j c hj => (hk.cell (p := ⟨b, off + j, none⟩) h1).trans (hc j c hj)⟩
theorem NumsS.open {k : IntKind} {S : Nat → Prop} {w : World} {a : Option Addr} {zs : List Int} (h : NumsS k w S a zs) {j : Nat} {c : Int} (hj : zs[j]? = some c) : ∃ b off, a = some ⟨b, off, none⟩ ∧ S b ∧ w.cell? ⟨b, off + j, none⟩ = some (.int k c) := by
  obtain ⟨b, off, e, hb, hc⟩ := h (by intro e; subst e; simp at hj)
  exact ⟨b, off, e, hb, hc j c hj⟩
theorem Nums.toS {k : IntKind} {S : Nat → Prop} {w : World} {B : Nat} {a : Option Addr} {zs : List Int} (h : Nums k w B a zs) (hS : ∀ b, b < B → S b) : NumsS k w S a zs := fun hn => by
  obtain ⟨b, off, e, hb, hc⟩ := h hn
  exact ⟨b, off, e, hS b hb, hc⟩

theorem kept_t {S : Nat → Prop} {A B C : World} (h : KeepS S A B) (k : KeepS S B C) : KeepS S A C := h.trans k
theorem kept_b {S : Nat → Prop} {w : World} (hS : ∀ k, S k → k < w.heap.size) (W : World) (l : Nat) (o o' : Obj) (hl : w.heap.size ≤ l) (_ho : W.heap[l]? = some o) (_h1 : o.isCells = false) (_h2 : o.isWalk = false) : KeepS S W (W.putObj l o') := by
  refine ⟨by simp [World.putObj], fun k h2 => ?_⟩
  have := hS k h2
  simp only [World.putObj]
  rw [Array.getElem?_setIfInBounds]
  rw [if_neg (by omega)]
theorem kept_set {S : Nat → Prop} {W W' : World} {C : Nat} (h : KeepS S W W') (hC : ¬ S C) (o : Nat) (v : Value) : KeepS S W (W'.setCell ⟨C, o, none⟩ v) :=
  h.trans ⟨by simp [World.setCell], fun k h1 => Below.heap_setCell W' ⟨C, o, none⟩ v k (fun e => hC (by subst e; exact h1))⟩

end Go.Proofs.Ytmdjgidbfcfdnaa

namespace Go.Proofs.Ytmdjgidbfcfdnaa
open Go.RowKit
set_option maxRecDepth 100000

/-- what Get answers -/
def GetR (r : Nat × Nat × Nat) (e : Ending) : Prop := e = .returned (.tuple #[.int .u64 r.1, .int .i64 r.2.1, .int .i64 r.2.2])
theorem GetR.of {r : Nat × Nat × Nat} {a b c : Int} (ha : a = r.1) (hb : b = r.2.1) (hc : c = r.2.2) : GetR r (.returned (.tuple #[.int .u64 a, .int .i64 b, .int .i64 c])) := by
  subst ha hb hc; rfl

theorem split_at {zs p r : List Int} {k : Nat} {c : Int} (hs : zs = p ++ r) (hp : p.length = k) (hc : zs[k]? = some c) : ∃ r', r = c :: r' ∧ zs = (p ++ [c]) ++ r' := by
  subst hs hp
  rw [List.getElem?_append_right (Nat.le_refl _), Nat.sub_self] at hc
  cases r with
  | nil => simp at hc
  | cons d r => simp at hc; subst hc; exact ⟨r, rfl, by simp⟩

/-- the bytes p have come, all of them high -/
def Come (zs : List Int) (k : Nat) (X : Int) : Prop := ∃ p r, zs = p ++ r ∧ p.length = k ∧ (∀ c ∈ p, 128 ≤ c) ∧ X = Vi.val p
theorem come_nil (zs : List Int) : Come zs 0 0 := ⟨[], zs, rfl, rfl, by simp, rfl⟩
theorem come_more {zs : List Int} {k : Nat} {X c : Int} (hz : ∀ c ∈ zs, 0 ≤ c ∧ c ≤ 255) (h : Come zs k X) (hk : k ≤ 8) (hc : zs[k]? = some c) (h1 : 128 ≤ c) : Come zs (k + 1) (bits .or .u64 X (IntKind.u64.wrap (c % 128 * 2 ^ (7 * k)))) := by
  obtain ⟨p, r, hs, hp, ha, rfl⟩ := h
  obtain ⟨r', rfl, hs'⟩ := split_at hs hp hc
  have hv := Vi.val_lt p
  have hcb := hz c (by rw [hs]; simp)
  refine ⟨p ++ [c], r', hs', by simp [hp], ?_, ?_⟩
  · intro d hd
    simp only [List.mem_append, List.mem_singleton] at hd
    rcases hd with hd | rfl
    · exact ha d hd
    · exact h1
  · have hj := Vi.or_join (Vi.val p) (c.toNat % 128) k (by rw [← hp]; exact hv) (by omega) (by omega) (by omega)
    rw [show ((c.toNat % 128 : Nat) : Int) = c % 128 by omega] at hj
    rw [hj, Vi.val_append, hp]
    simp [Vi.val]
/-- the last byte -/
theorem come_last {zs : List Int} {k : Nat} {X c : Int} (hz : ∀ c ∈ zs, 0 ≤ c ∧ c ≤ 255) (h : Come zs k X) (hk : k ≤ 9) (hc : zs[k]? = some c) (h1 : c < 128) (h9 : k = 9 → c ≤ 1) (h0 : k = 0 ∨ c ≠ 0) :
    ((Vi.get zs).1 : Int) = bits .or .u64 X (IntKind.u64.wrap (c % 128 * 2 ^ (7 * k))) ∧ (Vi.get zs).2.1 = k + 1 ∧ (Vi.get zs).2.2 = 0 := by
  obtain ⟨p, r, hs, hp, ha, rfl⟩ := h
  obtain ⟨r', rfl, hs'⟩ := split_at hs hp hc
  have hv := Vi.val_lt p
  have hcb := hz c (by rw [hs]; simp)
  have hj := Vi.or_join (Vi.val p) (c.toNat % 128) k (by rw [← hp]; exact hv) hk (by omega) (by omega)
  rw [show ((c.toNat % 128 : Nat) : Int) = c % 128 by omega] at hj
  have hva : Vi.val (p ++ [c]) = Vi.val p + 128 ^ k * (c.toNat % 128) := by rw [Vi.val_append, hp]; simp [Vi.val]
  have hlt : Vi.val (p ++ [c]) < 18446744073709551616 := by
    by_cases h : k = 9
    · have := h9 h
      subst h
      rw [hp] at hv
      rw [hva]
      have e9 : (128 : Nat) ^ 9 = 9223372036854775808 := by decide
      rw [e9] at hv ⊢
      omega
    · have hv2 := Vi.val_lt (p ++ [c])
      have hle : (p ++ [c]).length ≤ 9 := by simp; omega
      have h9' : 128 ^ (p ++ [c]).length ≤ 128 ^ 9 := Nat.pow_le_pow_right (by decide) hle
      have e9 : (128 : Nat) ^ 9 = 9223372036854775808 := by decide
      omega
  rw [hs, Vi.get_ok ha (by omega) h1 hlt (by omega), hj, hva, hp]
  exact ⟨rfl, rfl, rfl⟩
theorem come_bad {zs : List Int} {k : Nat} {X c : Int} (h : Come zs k X) (hk : k ≤ 9) (hc : zs[k]? = some c) (h1 : c < 128) (hb : (k = 9 ∧ 1 < c) ∨ (0 < k ∧ c = 0)) : Vi.get zs = (0, 0, 3) := by
  obtain ⟨p, r, hs, hp, ha, rfl⟩ := h
  obtain ⟨r', rfl, hs'⟩ := split_at hs hp hc
  rw [hs]
  refine Vi.get_bad ha (by omega) h1 ?_
  rcases hb with ⟨h9, hc1⟩ | ⟨hk0, hc0⟩
  · left
    rw [Vi.val_append, hp, h9]
    have e9 : (128 : Nat) ^ 9 = 9223372036854775808 := by decide
    rw [e9]
    simp only [Vi.val]
    omega
  · exact .inr ⟨by omega, hc0⟩
theorem come_long {zs : List Int} {X c : Int} (h : Come zs 9 X) (hc : zs[9]? = some c) (h1 : 128 ≤ c) : Vi.get zs = (0, 0, 3) := by
  obtain ⟨p, r, hs, hp, ha, rfl⟩ := h
  obtain ⟨r', rfl, hs'⟩ := split_at hs hp hc
  rw [hs']
  refine Vi.get_long ?_ (by simp [hp])
  intro d hd
  simp only [List.mem_append, List.mem_singleton] at hd
  rcases hd with hd | rfl
  · exact ha d hd
  · exact h1
theorem come_end {zs : List Int} {X : Int} {k : Nat} (h : Come zs k X) (hk : k ≤ 9) (hl : k = zs.length) : Vi.get zs = (0, 0, 4) := by
  obtain ⟨p, r, hs, hp, ha, rfl⟩ := h
  have : r = [] := by
    apply List.eq_nil_of_length_eq_zero
    have := congrArg List.length hs
    simp at this; omega
  subst this
  rw [List.append_nil] at hs
  subst hs
  exact Vi.get_end ha (by omega)

end Go.Proofs.Ytmdjgidbfcfdnaa

namespace Go.Proofs.Ytmdjgidbfcfdnaa
open Go.RowKit
set_option maxRecDepth 100000


theorem u64_not (y : Int) (h0 : 0 ≤ y) (h1 : y ≤ 18446744073709551615) : bits .xor .u64 18446744073709551615 y = 18446744073709551615 - y := by
  obtain ⟨m, rfl⟩ := Int.eq_ofNat_of_zero_le h0
  have h := u64_xor_nat 18446744073709551615 m (by omega) (by omega)
  have e : 18446744073709551615 ^^^ m = 18446744073709551615 - m := by
    have hx := congrArg BitVec.toNat (BitVec.xor_allOnes (x := BitVec.ofNat 64 m))
    rw [BitVec.toNat_xor, BitVec.toNat_not, BitVec.toNat_allOnes, BitVec.toNat_ofNat, Nat.mod_eq_of_lt (by omega)] at hx
    rw [Nat.xor_comm]
    exact hx
  rw [e] at h
  rw [show (18446744073709551615 : Int) = ((18446744073709551615 : Nat) : Int) from rfl, h]
  omega

theorem zig_val (n : Int) (h0 : n < 0) (h1 : -9223372036854775808 ≤ n) : bits .xor .u64 IntKind.u64.max (IntKind.u64.wrap (IntKind.u64.wrap n * 2)) = -2 * n - 1 := by
  rw [show IntKind.u64.max = 18446744073709551615 from rfl, u64_not _ (by rw [IntKind.wrap_u64]; omega) (by rw [IntKind.wrap_u64]; omega), IntKind.wrap_u64, IntKind.wrap_u64]
  omega

end Go.Proofs.Ytmdjgidbfcfdnaa

namespace Go.Proofs.Ytmdjgidbfcfdnaa
open Go.RowKit

/-- the number of bytes, the lowest one first -/
def le : List Int → Int
  | [] => 0
  | c :: l => c + 256 * le l
theorem le_bound : ∀ {l : List Int}, (∀ c ∈ l, 0 ≤ c ∧ c ≤ 255) → 0 ≤ le l ∧ le l < 256 ^ l.length
  | [], _ => by simp [le]
  | c :: l, h => by
    have h1 := le_bound (l := l) fun d hd => h d (by simp [hd])
    have h2 := h c (by simp)
    simp only [le, List.length_cons, Int.pow_succ]
    omega
theorem le_bound4 {l : List Int} (h : ∀ c ∈ l, 0 ≤ c ∧ c ≤ 255) {n : Nat} (hl : l.length = n) (hn : n ≤ 4) : 0 ≤ le l ∧ le l ≤ 4294967295 := by
  have h1 := le_bound h
  rw [hl] at h1
  have h2 : (256 : Int) ^ n ≤ 4294967296 := by
    match n, hn with
    | 0, _ => decide
    | 1, _ => decide
    | 2, _ => decide
    | 3, _ => decide
    | 4, _ => decide
  omega
theorem le_bound2 {l : List Int} (h : ∀ c ∈ l, 0 ≤ c ∧ c ≤ 255) {n : Nat} (hl : l.length = n) (hn : n ≤ 2) : 0 ≤ le l ∧ le l ≤ 65535 := by
  have h1 := le_bound h
  rw [hl] at h1
  have h2 : (256 : Int) ^ n ≤ 65536 := by
    match n, hn with
    | 0, _ => decide
    | 1, _ => decide
    | 2, _ => decide
  omega
theorem le_bound1 {l : List Int} (h : ∀ c ∈ l, 0 ≤ c ∧ c ≤ 255) (hl : l.length = 1) : 0 ≤ le l ∧ le l ≤ 255 := by
  have h1 := le_bound h
  rw [hl] at h1
  have h2 : (256 : Int) ^ 1 = 256 := by decide
  omega
/-- the next byte below: shifted, and or -/
theorem or_shift (N c : Int) (h0 : 0 ≤ N) (h1 : N < 16777216) (c0 : 0 ≤ c) (c1 : c ≤ 255) : bits .or .u32 (IntKind.u32.wrap (N * 256)) c = c + 256 * N := by
  obtain ⟨m, rfl⟩ := Int.eq_ofNat_of_zero_le h0
  obtain ⟨d, rfl⟩ := Int.eq_ofNat_of_zero_le c0
  have e : IntKind.u32.wrap ((m : Int) * 256) = ((m * 256 : Nat) : Int) := by rw [IntKind.wrap_u32]; omega
  rw [e, u32_or_nat _ _ (by omega) (by omega)]
  have h : m * 256 ||| d = m * 256 + d := by
    rw [show m * 256 = m <<< 8 by rw [Nat.shiftLeft_eq], ← Nat.shiftLeft_add_eq_or_of_lt (by omega)]
  rw [h]; omega

/-- a word of n bytes -/
def wordR (l : List Int) (n : Nat) : Int × Nat × Nat := if l.length < n then (0, 0, 4) else (le (l.take n), n, 0)
/-- a number, not above the most -/
def numR (l : List Int) (most : Int) : Int × Nat × Nat :=
  if (Vi.get l).2.2 ≠ 0 then (0, 0, (Vi.get l).2.2) else if most < ((Vi.get l).1 : Int) then (0, 0, 5) else (((Vi.get l).1 : Int), (Vi.get l).2.1, 0)
/-- the signed one of a number -/
def zagZ (n : Int) : Int := if n % 2 = 1 then -(n / 2) - 1 else n / 2
theorem zagZ_range {n : Int} (h0 : 0 ≤ n) (h1 : n ≤ 18446744073709551615) : -9223372036854775808 ≤ zagZ n ∧ zagZ n ≤ 9223372036854775807 := by
  unfold zagZ; split <;> omega
/-- a signed one, between two -/
def sigR (l : List Int) (least most : Int) : Int × Nat × Nat :=
  if (Vi.get l).2.2 ≠ 0 then (0, 0, (Vi.get l).2.2) else if zagZ ((Vi.get l).1 : Int) < least ∨ most < zagZ ((Vi.get l).1 : Int) then (0, 0, 5) else (zagZ ((Vi.get l).1 : Int), (Vi.get l).2.1, 0)
/-- so many bytes -/
def rawR (l : List Int) (n : Int) : List Int × Nat × Nat := if n < 0 then ([], 0, 5) else if (l.length : Int) < n then ([], 0, 4) else (l.take n.toNat, n.toNat, 0)
/-- bytes, behind how many they are -/
def fldR (l : List Int) (most : Int) : List Int × Nat × Nat :=
  if (Vi.get l).2.2 ≠ 0 then ([], 0, (Vi.get l).2.2) else if max most 0 < ((Vi.get l).1 : Int) then ([], 0, 6) else if l.length - (Vi.get l).2.1 < (Vi.get l).1 then ([], 0, 4)
  else ((l.drop (Vi.get l).2.1).take (Vi.get l).1, (Vi.get l).2.1 + (Vi.get l).1, 0)

section
variable {l : List Int}
theorem wordR_le (n : Nat) : (wordR l n).2.1 ≤ l.length := by unfold wordR; split <;> simp <;> omega
theorem numR_le (most : Int) : (numR l most).2.1 ≤ l.length := by
  have := (Vi.get_le l).2.2.1
  unfold numR; split
  · simp
  · split
    · simp
    · exact this
theorem sigR_le (least most : Int) : (sigR l least most).2.1 ≤ l.length := by
  have := (Vi.get_le l).2.2.1
  unfold sigR; split
  · simp
  · split
    · simp
    · exact this
theorem rawR_le (n : Int) : (rawR l n).2.1 ≤ l.length := by 
  unfold rawR; split
  · simp
  · split
    · simp
    · show n.toNat ≤ l.length
      omega
theorem fldR_le (most : Int) : (fldR l most).2.1 ≤ l.length := by
  have := (Vi.get_le l).2.2.1
  unfold fldR; split
  · simp
  · split
    · simp
    · split
      · simp
      · show (Vi.get l).2.1 + (Vi.get l).1 ≤ l.length
        omega
end
end Go.Proofs.Ytmdjgidbfcfdnaa

namespace Go.Proofs.Ytmdjgidbfcfdnaa
open Go.RowKit
set_option maxRecDepth 100000

end Go.Proofs.Ytmdjgidbfcfdnaa

namespace Go.Proofs.Ytmdjgidbfcfdnaa
open Go.RowKit
set_option maxRecDepth 100000

/-- what a read's closure hands on: where nothing is wrong, the value and its bytes' number -/
def ClosI (k : IntKind) (x : Int × Nat × Nat) (r : Ending) : Prop :=
  ∃ (v s : Int), r = .returned (.tuple #[.int k v, .int .i64 s, .int .i64 x.2.2]) ∧ (x.2.2 = 0 → v = x.1 ∧ s = x.2.1)
theorem ClosI.bad {k : IntKind} {x : Int × Nat × Nat} {v s : Int} {e : Int} (h : x.2.2 ≠ 0) (he : e = x.2.2) : ClosI k x (.returned (.tuple #[.int k v, .int .i64 s, .int .i64 e])) := by
  subst he; exact ⟨v, s, rfl, fun h0 => absurd h0 h⟩
theorem ClosI.ok {k : IntKind} {x : Int × Nat × Nat} {v s : Int} {e : Int} (hv : v = x.1) (hs : s = x.2.1) (he : e = x.2.2) : ClosI k x (.returned (.tuple #[.int k v, .int .i64 s, .int .i64 e])) := by
  subst he; exact ⟨v, s, rfl, fun _ => ⟨hv, hs⟩⟩

section
variable (B : Nat) (a : Option Addr) (n cap c : Nat) (l : List Int) (w : World)
/-- what a closure that makes bytes hands on -/
def ClosB (x : List Int × Nat × Nat) (w : World) (r : Ending) (w' : World) : Prop :=
  ∃ (v : Value) (s : Int), r = .returned (.tuple #[v, .int .i64 s, .int .i64 x.2.2]) ∧ MadeK 5 .u8 w w' x.1 v ∧ (x.2.2 = 0 → s = x.2.1)
theorem ClosB.mk {x : List Int × Nat × Nat} {w w' : World} {v : Value} {s e : Int} (hm : MadeK 5 .u8 w w' x.1 v) (he : e = x.2.2) (hs : x.2.2 = 0 → s = x.2.1) : ClosB x w (.returned (.tuple #[v, .int .i64 s, .int .i64 e])) w' := by
  subst he; exact ⟨v, s, rfl, hm, hs⟩
end
end Go.Proofs.Ytmdjgidbfcfdnaa

namespace Go.Proofs.Ytmdjgidbfcfdnaa
open Go.RowKit Go.Shelf
set_option maxRecDepth 100000
attribute [local go_sem] Oper.semAt_some

theorem le_snoc_rev (L : List Int) (c : Int) : le (L ++ [c]).reverse = c + 256 * le L.reverse := by simp [le]
theorem bytesOf_bound (pre : List PB) : ∀ c ∈ (bytesOf pre).reverse, 0 ≤ c ∧ c ≤ 255 := by
  intro c hc
  simp only [bytesOf, List.mem_reverse, List.mem_map] at hc
  obtain ⟨x, _, rfl⟩ := hc
  exact x.2.2

end Go.Proofs.Ytmdjgidbfcfdnaa

namespace Go.Proofs.Ytmdjgidbfcfdnaa
open Go.RowKit
set_option maxRecDepth 100000

/-- place and error behind a read -/
def placeOf (p e : Nat) (size : Nat) : Nat := if e = 0 then p + size else p
def errOf (e err : Nat) : Nat := if e = 0 then err else e
def ansI (e : Nat) (x : Int) : Int := if e = 0 then x else 0
def ansB (e : Nat) (L : List Int) : List Int := if e = 0 then L else []
section
variable {k : IntKind} {lo b : Nat} {zs : List Int} {p e : Nat} {x : Int × Nat × Nat} {y : List Int × Nat × Nat} {w w0 w' : World} {r : Ending}
theorem NumsIn.set {w1 : World} {A : Option Addr} {L : List Int} {s : Nat} (h : NumsIn .u8 w1 s w1.heap.size A L) (hb : b < s) (o : Nat) (v : Value) : NumsIn .u8 (w1.setCell ⟨b, o, none⟩ v) s (w1.setCell ⟨b, o, none⟩ v).heap.size A L := by
  have h2 := h.keeps (B := w1.setCell ⟨b, o, none⟩ v) ⟨by simp [World.setCell], fun k h4 h5 => Below.heap_setCell _ _ _ _ (by simp; omega)⟩
  exact h2.mono (by simp [World.setCell])
end
theorem numR_err {l : List Int} {m : Int} (h : (numR l m).2.2 ≠ 0) : (numR l m).1 = 0 ∧ (numR l m).2.1 = 0 := by
  revert h; unfold numR; split; (intro _; exact ⟨rfl, rfl⟩); split; (intro _; exact ⟨rfl, rfl⟩); intro h; exact absurd rfl h
theorem sigR_err {l : List Int} {m1 m : Int} (h : (sigR l m1 m).2.2 ≠ 0) : (sigR l m1 m).1 = 0 ∧ (sigR l m1 m).2.1 = 0 := by
  revert h; unfold sigR; split; (intro _; exact ⟨rfl, rfl⟩); split; (intro _; exact ⟨rfl, rfl⟩); intro h; exact absurd rfl h
theorem wordR_err {l : List Int} {m : Nat} (h : (wordR l m).2.2 ≠ 0) : (wordR l m).1 = 0 ∧ (wordR l m).2.1 = 0 := by
  revert h; unfold wordR; split; (intro _; exact ⟨rfl, rfl⟩); intro h; exact absurd rfl h
theorem rawR_err {l : List Int} {m : Int} (h : (rawR l m).2.2 ≠ 0) : (rawR l m).1 = [] ∧ (rawR l m).2.1 = 0 := by
  revert h; unfold rawR; split; (intro _; exact ⟨rfl, rfl⟩); split; (intro _; exact ⟨rfl, rfl⟩); intro h; exact absurd rfl h
theorem fldR_err {l : List Int} {m : Int} (h : (fldR l m).2.2 ≠ 0) : (fldR l m).1 = [] ∧ (fldR l m).2.1 = 0 := by
  revert h; unfold fldR; split; (intro _; exact ⟨rfl, rfl⟩); split; (intro _; exact ⟨rfl, rfl⟩); split; (intro _; exact ⟨rfl, rfl⟩); intro h; exact absurd rfl h
theorem drop_fit {zs : List Int} {p s : Nat} (h : s ≤ (zs.drop p).length) (hp : p ≤ zs.length) : p + s ≤ zs.length := by rw [List.length_drop] at h; omega
theorem drop_bytes {zs : List Int} (hz : ∀ x ∈ zs, 0 ≤ x ∧ x ≤ 255) (p : Nat) : ∀ x ∈ zs.drop p, 0 ≤ x ∧ x ≤ 255 := fun x hx => hz x (List.mem_of_mem_drop hx)

section
variable (lo b : Nat) (zs : List Int) (p e : Nat) (w : World)
end
end Go.Proofs.Ytmdjgidbfcfdnaa

namespace Go.Proofs.Ytmdjgidbfcfdnaa
open Go.RowKit
set_option maxRecDepth 100000
theorem ansI_range {e : Nat} {x a b : Int} (h0 : a ≤ x) (h1 : x ≤ b) (ha : a ≤ 0) (hb : 0 ≤ b) : a ≤ ansI e x ∧ ansI e x ≤ b := by
  unfold ansI; split <;> omega
theorem wordR_range {l : List Int} (hz : ∀ x ∈ l, 0 ≤ x ∧ x ≤ 255) {m : Nat} (hm : m ≤ 4) : 0 ≤ (wordR l m).1 ∧ (wordR l m).1 ≤ 4294967295 := by
  unfold wordR; split
  · simp
  · exact le_bound4 (fun x hx => hz x (List.mem_of_mem_take hx)) (n := m) (by rw [List.length_take]; omega) hm
theorem wordR_range2 {l : List Int} (hz : ∀ x ∈ l, 0 ≤ x ∧ x ≤ 255) : 0 ≤ (wordR l 2).1 ∧ (wordR l 2).1 ≤ 65535 := by
  unfold wordR; split
  · simp
  · exact le_bound2 (fun x hx => hz x (List.mem_of_mem_take hx)) (n := 2) (by rw [List.length_take]; omega) (by decide)
theorem wordR_range1 {l : List Int} (hz : ∀ x ∈ l, 0 ≤ x ∧ x ≤ 255) : 0 ≤ (wordR l 1).1 ∧ (wordR l 1).1 ≤ 255 := by
  unfold wordR; split
  · simp
  · exact le_bound1 (fun x hx => hz x (List.mem_of_mem_take hx)) (by rw [List.length_take]; omega)
section
variable (lo b : Nat) (zs : List Int) (p e : Nat) (w : World)
end
end Go.Proofs.Ytmdjgidbfcfdnaa

namespace Go.Proofs.Ytmdjgidbfcfdnaa
open Go.RowKit
set_option maxRecDepth 100000

/-- the head of bytes, and what is wrong -/
def prs : List Int → (Int × Int × Int × Int × Int) × Int
  | [z0, z1, z2, z3, z4, z5, z6, z7] => if chk z0 z1 z6 z7 = 0 then ((z0, z1, le [z2, z3, z4, z5], z6, z7), 0) else ((0, 0, 0, 0, 0), chk z0 z1 z6 z7)
  | zs => ((0, 0, 0, 0, 0), if zs.length < 8 then 13 else 3)
def hdP (x : Int × Int × Int × Int × Int) : Value := hdV x.1 x.2.1 x.2.2.1 x.2.2.2.1 x.2.2.2.2
theorem prs_8 (z0 z1 z2 z3 z4 z5 z6 z7 : Int) : prs [z0, z1, z2, z3, z4, z5, z6, z7] = if chk z0 z1 z6 z7 = 0 then ((z0, z1, le [z2, z3, z4, z5], z6, z7), 0) else ((0, 0, 0, 0, 0), chk z0 z1 z6 z7) := rfl
theorem prs_short {zs : List Int} (h : zs.length < 8) : prs zs = ((0, 0, 0, 0, 0), 13) := by
  unfold prs
  split
  · simp at h
  · rw [if_pos h]
theorem prs_long {zs : List Int} (h : 8 < zs.length) : prs zs = ((0, 0, 0, 0, 0), 3) := by
  unfold prs
  split
  · simp at h
  · rw [if_neg (by omega)]
theorem eight {zs : List Int} (h : zs.length = 8) : ∃ z0 z1 z2 z3 z4 z5 z6 z7, zs = [z0, z1, z2, z3, z4, z5, z6, z7] := by
  match zs, h with
  | [z0, z1, z2, z3, z4, z5, z6, z7], _ => exact ⟨z0, z1, z2, z3, z4, z5, z6, z7, rfl⟩

/-- five cells written one by one -/
theorem set5 {W : World} {R : Nat} {t : TypeId} {x0 x1 x2 x3 x4 : Value} (y0 y1 y2 y3 y4 : Value) (h : W.heap[R]? = some (.cells #[x0, x1, x2, x3, x4] t (0, 0))) :
    (((((W.setCell ⟨R, 0, none⟩ y0).setCell ⟨R, 1, none⟩ y1).setCell ⟨R, 2, none⟩ y2).setCell ⟨R, 3, none⟩ y3).setCell ⟨R, 4, none⟩ y4).heap[R]? = some (.cells #[y0, y1, y2, y3, y4] t (0, 0)) := by
  have := setCell_at (j := 4) (u := y4) (setCell_at (j := 3) (u := y3) (setCell_at (j := 2) (u := y2) (setCell_at (j := 1) (u := y1) (setCell_at (j := 0) (u := y0) h))))
  simpa using this
theorem below5 {w W : World} {R : Nat} (y0 y1 y2 y3 y4 : Value) (hR : w.heap.size ≤ R) (h : Below w.heap.size w W) :
    Below w.heap.size w (((((W.setCell ⟨R, 0, none⟩ y0).setCell ⟨R, 1, none⟩ y1).setCell ⟨R, 2, none⟩ y2).setCell ⟨R, 3, none⟩ y3).setCell ⟨R, 4, none⟩ y4) :=
  ((((h.setCell (p := ⟨R, 0, none⟩) hR y0).setCell (p := ⟨R, 1, none⟩) hR y1).setCell (p := ⟨R, 2, none⟩) hR y2).setCell (p := ⟨R, 3, none⟩) hR y3).setCell (p := ⟨R, 4, none⟩) hR y4

section
variable {w : World} {lo b p : Nat} {zs : List Int}
end
end Go.Proofs.Ytmdjgidbfcfdnaa

namespace Go.Proofs.Ytmdjgidbfcfdnaa
open Go.RowKit
set_option maxRecDepth 100000

section
variable {w W W' : World} {R lo b B p p' : Nat} {zs : List Int} {cs : Array Value}
end

end Go.Proofs.Ytmdjgidbfcfdnaa

namespace Go.Proofs.Ytmdjgidbfcfdnaa
open Go.RowKit
set_option maxRecDepth 100000

end Go.Proofs.Ytmdjgidbfcfdnaa

namespace Go.Proofs.Ytmdjgidbfcfdnaa
open Go.RowKit
set_option maxRecDepth 100000

/-- what is parsed is told by just these bytes -/
theorem prs_ok {zs : List Int} {v k s i c : Int} (hz : Bytes zs) (h : prs zs = ((v, k, s, i, c), 0)) : chk v k i c = 0 ∧ 0 ≤ s ∧ s ≤ 4294967295 ∧ hdB v k s i c = zs ∧ zs.length = 8 := by
  rcases Nat.lt_trichotomy zs.length 8 with h8 | h8 | h8
  · rw [prs_short h8] at h; cases h
  · obtain ⟨z0, z1, z2, z3, z4, z5, z6, z7, rfl⟩ := eight h8
    rw [prs_8] at h
    by_cases h0 : chk z0 z1 z6 z7 = 0
    · rw [if_pos h0] at h
      injection h with h h9
      injection h with e1 h; injection h with e2 h; injection h with e3 h; injection h with e4 e5
      subst e1 e2 e3 e4 e5
      have r2 := hz z2 (by simp); have r3 := hz z3 (by simp); have r4 := hz z4 (by simp); have r5 := hz z5 (by simp)
      simp only [le]
      refine ⟨h0, by omega, by omega, ?_, rfl⟩
      unfold hdB
      simp only [List.cons.injEq, and_true, true_and]
      omega
    · rw [if_neg h0] at h
      injection h with h h9
      exact absurd h9 h0
  · rw [prs_long h8] at h; cases h
end Go.Proofs.Ytmdjgidbfcfdnaa

namespace Go.Proofs.Ytmdjgidbfcfdnaa
open Go.RowKit Go.Shelf
set_option maxRecDepth 100000
attribute [local go_sem] Oper.semAt_some

abbrev Hd := Int × Int × Int × Int × Int
def frP (x : Hd × List Int) (p : Value) : Value := frV x.1.1 x.1.2.1 x.1.2.2.1 x.1.2.2.2.1 x.1.2.2.2.2 p
def noFr : Hd × List Int := ((0, 0, 0, 0, 0), [])
/-- the frame of a block -/
def unB (b : List Int) : (Hd × List Int) × Int :=
  if b.length ≤ 12 then (noFr, 13)
  else if Cr.le4 (Cr.sum (b.take (b.length - 4))) = b.drop (b.length - 4) then
    (if (prs (b.take 8)).2 = 0 then (((prs (b.take 8)).1, (b.take (b.length - 4)).drop 8), 0) else (noFr, (prs (b.take 8)).2))
  else (noFr, 11)
/-- what is answered -/
def UnpR (w w' : World) (x : (Hd × List Int) × Int) (e : Ending) : Prop :=
  ∃ A c, e = .returned (.tuple #[frP x.1 (.slice A x.1.2.length c), .int .i64 x.2]) ∧ x.1.2.length ≤ c ∧ NumsS .u8 w' (fun b => w.heap.size ≤ b ∧ b < w'.heap.size) A x.1.2 ∧ Below w.heap.size w w'
theorem UnpR.no {w w' : World} {r : Int} {e : Ending} (he : e = .returned (.tuple #[frV 0 0 0 0 0 (.slice none 0 0), .int .i64 r])) (hb : Below w.heap.size w w') : UnpR w w' (noFr, r) e :=
  ⟨none, 0, he, Nat.le_refl _, NumsS.nil, hb⟩
theorem frInfo : (Try.prog.info? 42).map (·.size) = some 6 := by kernel_rfl
theorem fr_one (v k s i c : Int) (A : Option Addr) (n cp : Nat) : (frC v k s i c (.slice A n cp)).all (·.oneCell') = true := by simp [frC, Value.oneCell']
theorem fr_store (w : World) (R : Nat) (old cs : Array Value) (h : w.heap[R]? = some (.cells old 42 (0, 0))) (ho : old.size = 6) (hc : cs.size = 6) (h1 : cs.all (·.oneCell') = true) :
    (Instr.storeAt 42 (.pointer (some ⟨R, 0, none⟩)) (.agg cs)).run Try.prog w = .ok () (w.setRow R cs) := by
  simp only [Instr.storeAt, Instr.sureAddr, Sem.run_bind, Sem.run_pure, Result.andThen]
  exact run_storeVar_row w R 42 42 old cs h (by rw [hc]; exact frInfo) (by omega) h1

/-- what the slots hold whose values are known by what they are good for -/
def FRo (p : Part) (L : List Int) (q : Tmp) (x : Value) (W : World) : Prop :=
  if q = 20 then ∃ a c, x = .slice a 1 c ∧ Parts W W.heap.size a [p]
  else ∃ A c, x = .slice A 4 c ∧ Nums .u8 W W.heap.size A L
theorem FRo.later {p : Part} {L : List Int} {q : Tmp} {x : Value} {W W' : World} (hh : FRo p L q x W) (hb : Below W.heap.size W W') : FRo p L q x W' := by
  unfold FRo at *
  split
  · rename_i h1
    rw [if_pos h1] at hh
    obtain ⟨a, c, e, hg⟩ := hh
    refine ⟨a, c, e, fun p hp => ((hg.1 p hp).below hb).mono hb.size, fun hn => ?_⟩
    obtain ⟨b, off, e2, hc⟩ := hg.2 hn
    refine ⟨b, off, e2, fun j p hj => ?_⟩
    have h3 := hc j p hj
    exact (hb.cell (p := ⟨b, off + j, none⟩) (block_of_cell h3)).trans h3
  · rename_i h1
    rw [if_neg h1] at hh
    obtain ⟨A, c, e, hn⟩ := hh
    exact ⟨A, c, e, (hn.below hb).mono hb.size⟩
/-- .. at its end: a copy of the payload (42), the frame (43) -/
def FRq (R : Nat) (L : List Int) (v k s i d : Int) (q : Tmp) (x : Value) (W : World) : Prop :=
  ∃ A c, x = (if q = 42 then .slice A L.length c else .agg (frC v k s i d (.slice A L.length c))) ∧ L.length ≤ c ∧ NumsS .u8 W (fun b => R < b ∧ b < W.heap.size) A L
theorem FRq.later {R : Nat} {L : List Int} {v k s i d : Int} {q : Tmp} {x : Value} {W W' : World} (hh : FRq R L v k s i d q x W) (hb : Below W.heap.size W W') : FRq R L v k s i d q x W' := by
  obtain ⟨A, c, e, hc, hn⟩ := hh
  exact ⟨A, c, e, hc, (hn.keeps (KeepS.of_below hb fun k hk => hk.2)).more fun k hk => ⟨hk.1, Nat.lt_of_lt_of_le hk.2 hb.size⟩⟩
end Go.Proofs.Ytmdjgidbfcfdnaa

namespace Go.Proofs.Ytmdjgidbfcfdnaa
open Go.RowKit Go.Shelf
set_option maxRecDepth 100000
attribute [local go_sem] Oper.semAt_some

theorem wcheck_nil (A : Option Addr) (cp : Nat) (w : World) : Calls Try.prog 21 #[.slice A 0 cp] w fun e w' => e = .returned (.int .i64 13) ∧ Below w.heap.size w w' := by
  go_enter Try.func21, Try.ntmps21
  go_wp2
  refine wp_scope_straight ?_
  go_wp2
  refine wp_label ?_
  go_wp2
  go_loopw [3, 8] (fun x iv wr => x = .int .i64 0 ∧ iv = .int .i64 ((0 : Nat) : Int) ∧ wr = w) (fun _ _ _ => 0)
  case atStart => exact ⟨rfl, rfl, rfl⟩
  case round =>
    obtain ⟨rfl, rfl, rfl⟩ := hrel
    go_wp2
    simp only [Exit.noGoto]
    go_ret
    exact ⟨rfl, Below.refl _ _⟩

set_option maxHeartbeats 4000000 in
theorem wcheck_any (A : Option Addr) (n cp : Nat) (fs : List Fr) (f0 : Fr) (w : World) (hn : fs.length = n) (hcp : n ≤ cp) (hl : n ≤ 9223372036854775807) (h0 : fs[0]? = some f0) (h1 : FrsAt w w.heap.size A fs) :
    Calls Try.prog 21 #[.slice A n cp] w fun e w' => e = .returned (.int .i64 (Ct.wErr fs)) ∧ Below w.heap.size w w' := by
  have hnc : (n : Int) ≤ (cp : Int) := by omega
  have hn0 : 0 < n := by rw [← hn]; exact (List.getElem?_eq_some_iff.1 h0).1
  have HN := Lib.hid hn
  have H0 := Lib.hid h0
  have H1 := Lib.hid h1
  obtain ⟨R, hR⟩ : ∃ R, Ct.wErr fs = R := ⟨_, rfl⟩
  have HR := Lib.hid hR
  rw [hR]
  clear hn h0 h1 hR
  go_enter Try.func21, Try.ntmps21
  go_wp2
  refine wp_scope_straight ?_
  go_wp2
  refine wp_label ?_
  go_wp2
  go_loopw [3, 8] (fun x iv wr => ∃ j : Nat, j ≤ n ∧ x = .int .i64 0 ∧ iv = .int .i64 (j : Int) ∧ Hid (∀ (i : Nat) (g : Fr), i < j → fs[i]? = some g → Ct.wBad f0 g i = 0) ∧ Hid (Below w.heap.size w wr)) (fun _ iv _ => n - (intOf iv).toNat)
  case atStart => exact ⟨0, by omega, rfl, rfl, fun i g hi => by omega, Below.refl _ _⟩
  case round =>
    obtain ⟨j, hj, rfl, rfl, HP, HB⟩ := hrel
    obtain ⟨g, off, rfl, hg, a0, a1, a2, a3, a4, a5⟩ := (H1.out.below HB.out).six H0.out
    rw [Nat.zero_mul, Nat.add_zero] at a0 a1 a2 a3 a4 a5
    by_cases hlt : j < n
    · have hlt' : (j : Int) < (n : Int) := by omega
      obtain ⟨f, hf⟩ : ∃ f, fs[j]? = some f := ⟨_, List.getElem?_eq_getElem (by rw [HN.out]; exact hlt)⟩
      obtain ⟨g', off', e', _, c0, c1, c2, c3, c4, c5⟩ := (H1.out.below HB.out).six hf
      injection e' with e'
      injection e' with e1 e2
      subst e1 e2
      have HF := Lib.hid hf
      obtain ⟨M, hM⟩ : ∃ M, mateZ f0.v f0.k f0.s f0.c f.v f.k f.s f.c = M := ⟨_, rfl⟩
      have HM := Lib.hid hM
      have hK : ∀ W, Calls Try.prog 27 #[hdV f0.v f0.k f0.s f0.i f0.c, hdV f.v f.k f.s f.i f.c] W fun e w' => e = .returned (.bool M) ∧ Below W.heap.size W w' := fun W => by rw [← hM]; exact mates_any f0.v f0.k f0.s f0.i f0.c f.v f.k f.s f.i f.c W
      unfold hdV at hK
      have HK := Lib.hid hK
      clear hM hK hf
      obtain ⟨fv, fk, fq, fi, fc, fa, fcp, fz⟩ := f
      obtain ⟨gv, gk, gq, gi, gc, ga, gcp, gz⟩ := f0
      simp only at *
      obtain ⟨W0, hW0⟩ : ∃ W0, wr.alloc (.cells #[.int .i64 fv, .int .i64 fk, .int .u32 fq, .int .i64 fi, .int .i64 fc, .slice fa fz.length fcp] 42) = W0 := ⟨_, rfl⟩
      have HW0 := Lib.hid hW0
      have hb0 : Below wr.heap.size wr W0 := by rw [← hW0]; exact (Below.refl _ wr).alloc (Nat.le_refl _) _
      have hq0 : W0.heap[wr.heap.size]? = some (.cells (frC fv fk fq fi fc (.slice fa fz.length fcp)) 42 (0, 0)) := by rw [← hW0]; exact World.alloc_heap_new _ _
      have hgr : g < wr.heap.size := Nat.lt_of_lt_of_le hg HB.out.size
      have hlR : ∀ W, Below W0.heap.size W0 W → (Instr.loadAt 24 (.pointer (some ⟨g, off, none⟩))).run Try.prog W = .ok (.agg #[.int .i64 gv, .int .i64 gk, .int .u32 gq, .int .i64 gi, .int .i64 gc]) W := fun W hW => by
        have hw2 := hb0.trans (hW.mono hb0.size)
        have d0 := (hw2.cell (p := ⟨g, off, none⟩) hgr).trans a0
        have d1 := (hw2.cell (p := ⟨g, off + 1, none⟩) hgr).trans a1
        have d2 := (hw2.cell (p := ⟨g, off + 2, none⟩) hgr).trans a2
        have d3 := (hw2.cell (p := ⟨g, off + 3, none⟩) hgr).trans a3
        have d4 := (hw2.cell (p := ⟨g, off + 4, none⟩) hgr).trans a4
        simp [Instr.loadAt, go_sem, d0, d1, d2, d3, d4]
      have hlF : ∀ W, Below W0.heap.size W0 W → (Instr.loadAt 24 (.pointer (some ⟨wr.heap.size, 0, none⟩))).run Try.prog W = .ok (.agg #[.int .i64 fv, .int .i64 fk, .int .u32 fq, .int .i64 fi, .int .i64 fc]) W := fun W hW => by
        obtain ⟨d0, d1, d2, d3, d4, d5⟩ := fr_block ((hW.block _ (Array.getElem?_eq_some_iff.1 hq0).1).trans hq0)
        simp [Instr.loadAt, go_sem, d0, d1, d2, d3, d4]
      have HQ0 := Lib.hid hq0
      have HB0 := Lib.hid (HB.out.trans (hb0.mono HB.out.size))
      clear hW0 hb0 hq0 HB a0 a1 a2 a3 a4 a5
      go_wp2_with fail
      rw [HW0.out]
      refine wp_region_F 54 [] (fun _ _ _ => False) (fun W => Below W0.heap.size W0 W) (by kernel_rfl) (by kernel_rfl) (by rfl) (by simp) (fun W W' h hb => h.trans (hb.mono h.size)) (fun s v W W' h hb => h) (Below.refl _ _).drew ?_
      repeat (refine wpF_pure rfl rfl ?_; go_big_quiet_step (fail); refine wpQuiet_nil ?_)
      refine wpF_load (.agg #[.int .i64 gv, .int .i64 gk, .int .u32 gq, .int .i64 gi, .int .i64 gc]) rfl (by rfl) (by rfl) (by rfl) hlR ?_
      simp only [Act.put, List.setIfInBounds_toArray, List.set_cons_succ, List.set_cons_zero]
      repeat (refine wpF_pure rfl rfl ?_; go_big_quiet_step (fail); refine wpQuiet_nil ?_)
      refine wpF_load (.agg #[.int .i64 fv, .int .i64 fk, .int .u32 fq, .int .i64 fi, .int .i64 fc]) rfl (by rfl) (by rfl) (by rfl) hlF ?_
      simp only [Act.put, List.setIfInBounds_toArray, List.set_cons_succ, List.set_cons_zero]
      refine wpF_call (f := 27) (args := #[.agg #[.int .i64 gv, .int .i64 gk, .int .u32 gq, .int .i64 gi, .int .i64 gc], .agg #[.int .i64 fv, .int .i64 fk, .int .u32 fq, .int .i64 fi, .int .i64 fc]]) (.bool M) rfl rfl (fun x => by first | rfl | (simp [go_sem]; done)) (fun W hW => HK.out W) ?_
      simp only [Act.put, List.setIfInBounds_toArray, List.set_cons_succ, List.set_cons_zero]
      repeat (refine wpF_pure rfl rfl ?_; go_big_quiet_step (fail); refine wpQuiet_nil ?_)
      intro xs W hW _
      simp only [fill]
      obtain ⟨d0, d1, d2, d3, d4, d5⟩ := fr_block ((hW.block _ (Array.getElem?_eq_some_iff.1 HQ0.out).1).trans HQ0.out)
      have HB1 := Lib.hid (HB0.out.trans (hW.mono HB0.out.size))
      clear hlR hlF hW
      cases M with
      | false =>
        have HE : Hid (R = 17) := by
          show R = 17
          rw [← HR.out, Ct.wErr_bad (k := j) H0.out HP.out HF.out (by unfold Ct.wBad; rw [if_neg (by simp [HM.out])]; decide)]
          unfold Ct.wBad
          rw [if_neg (by simp [HM.out])]
        go_wp2
        try simp only [Exit.noGoto]
        go_ret
        exact ⟨ret_intC HE.out.symm, HB1.out⟩
      | true =>
        by_cases hi : fi = (j : Int)
        · have HP2 : Hid (∀ (i : Nat) (g : Fr), i < j + 1 → fs[i]? = some g → Ct.wBad ⟨gv, gk, gq, gi, gc, ga, gcp, gz⟩ g i = 0) := fun i g hi2 hg2 => by
            rcases Nat.lt_or_ge i j with h | h
            · exact HP.out i g h hg2
            · have e : i = j := by omega
              subst e
              have h2 := HF.out
              rw [hg2] at h2
              injection h2 with h2
              rw [h2]
              exact Ct.wBad_zero.2 ⟨HM.out, hi⟩
          have hi2 : (fi != (j : Int)) = false := by simp [hi]
          subst hi
          clear d0 d1 d2 d4 d5 HP
          go_wp2
          go_roundw
          case rel => exact ⟨j + 1, by omega, rfl, by go_num, HP2, HB1⟩
          case measure => simp [intOf]; omega
        · have HE : Hid (R = 3) := by
            show R = 3
            rw [← HR.out, Ct.wErr_bad (k := j) H0.out HP.out HF.out (by unfold Ct.wBad; rw [if_pos HM.out, if_neg hi]; decide)]
            unfold Ct.wBad
            rw [if_pos HM.out, if_neg hi]
          have hi2 : (fi != (j : Int)) = true := by simp [hi]
          go_wp2
          try simp only [Exit.noGoto]
          go_ret
          exact ⟨ret_intC HE.out.symm, HB1.out⟩
    · have hjn : ¬ (j : Int) < (n : Int) := by omega
      have HE : Hid (R = Ct.wEnd f0 n) := by
        show R = _
        rw [← HR.out, Ct.wErr_end H0.out (fun i g hg2 => HP.out i g (by have := (List.getElem?_eq_some_iff.1 hg2).1; rw [HN.out] at this; omega) hg2), HN.out]
      have hn1 : ¬ (n : Int) = 0 := by omega
      obtain ⟨gv, gk, gq, gi, gc, ga, gcp, gz⟩ := f0
      simp only at *
      by_cases h1 : (n : Int) < gc
      · have HE2 : Hid (R = 13) := by show R = 13; rw [HE.out]; unfold Ct.wEnd; rw [if_pos h1]
        clear HE a0 a1 a2 a3 a5
        go_wp2
        try simp only [Exit.noGoto]
        go_ret
        exact ⟨ret_intC HE2.out.symm, HB.out⟩
      · by_cases h2 : gc < (n : Int)
        · have HE2 : Hid (R = 6) := by show R = 6; rw [HE.out]; unfold Ct.wEnd; rw [if_neg h1, if_pos h2]
          clear HE a0 a1 a2 a3 a5
          go_wp2
          try simp only [Exit.noGoto]
          go_ret
          exact ⟨ret_intC HE2.out.symm, HB.out⟩
        · have HE2 : Hid (R = 0) := by show R = 0; rw [HE.out]; unfold Ct.wEnd; rw [if_neg h1, if_neg h2]
          clear HE a0 a1 a2 a3 a5
          go_wp2
          try simp only [Exit.noGoto]
          go_ret
          exact ⟨ret_intC HE2.out.symm, HB.out⟩
end Go.Proofs.Ytmdjgidbfcfdnaa

namespace Go.Proofs.Ytmdjgidbfcfdnaa
open Go.RowKit Go.Shelf
set_option maxRecDepth 100000
attribute [local go_sem] Oper.semAt_some

/-- the body of frames, if nothing is wrong -/
def Ct.wOut (fs : List Fr) : List Int := if Ct.wErr fs = 0 then Ct.flat fs else []
/-- what Whole leaves -/
def WholeR (w : World) (fs : List Fr) (e : Ending) (w' : World) : Prop :=
  ∃ A c, e = .returned (.tuple #[.slice A (Ct.wOut fs).length c, .int .i64 (Ct.wErr fs)]) ∧ (Ct.wOut fs).length ≤ c ∧ Nums .u8 w' w'.heap.size A (Ct.wOut fs) ∧ Below w.heap.size w w'

theorem whole_bad (A : Option Addr) (n cp : Nat) (fs : List Fr) (w : World) (hE : Ct.wErr fs ≠ 0)
    (hK : Calls Try.prog 21 #[.slice A n cp] w fun e w' => e = .returned (.int .i64 (Ct.wErr fs)) ∧ Below w.heap.size w w') :
    Calls Try.prog 10 #[.slice A n cp] w (WholeR w fs) := by
  have HO := Lib.hid (show Ct.wOut fs = [] from by unfold Ct.wOut; rw [if_neg hE])
  have HF := Lib.hid (show ∀ e w', (e = Ending.returned (.tuple #[.slice none 0 0, .int .i64 (Ct.wErr fs)]) ∧ Below w.heap.size w w') → WholeR w fs e w' from fun e w' h => ⟨none, 0, by rw [HO.out]; exact h.1, by rw [HO.out]; exact Nat.le_refl _, by rw [HO.out]; exact Nums.nil, h.2⟩)
  have he : (Ct.wErr fs != 0) = true := by simpa using hE
  have hE0 : ¬ Ct.wErr fs = 0 := hE
  clear HO hE
  generalize WholeR w fs = G at *
  generalize Ct.wErr fs = E at *
  go_enter Try.func10, Try.ntmps10
  go_wp2_with fail
  refine hK.mono ?_
  rintro e w1 ⟨rfl, hb⟩
  have HB := Lib.hid hb
  clear hb hK
  go_wp2
  try go_ret2
  exact HF.out _ _ ⟨rfl, HB.out⟩

set_option maxHeartbeats 4000000 in
theorem whole_good (A : Option Addr) (n cp : Nat) (fs : List Fr) (w : World) (hn : fs.length = n) (hcp : n ≤ cp) (hl : n ≤ 9223372036854775807) (hf : (Ct.flat fs).length ≤ 1000000) (h1 : FrsAt w w.heap.size A fs) (hE : Ct.wErr fs = 0)
    (hK : Calls Try.prog 21 #[.slice A n cp] w fun e w' => e = .returned (.int .i64 (Ct.wErr fs)) ∧ Below w.heap.size w w') :
    Calls Try.prog 10 #[.slice A n cp] w (WholeR w fs) := by
  obtain ⟨i0, hi, hz0, hz1, hz2⟩ := info_parts byteInfo
  have hnc : (n : Int) ≤ (cp : Int) := by omega
  have HO := Lib.hid (show Ct.wOut fs = Ct.flat fs from by unfold Ct.wOut; rw [if_pos hE])
  have HF := Lib.hid (show ∀ e w' v, e = Ending.returned (.tuple #[v, .int .i64 0]) → MadeK 5 .u8 w w' (Ct.flat fs) v → WholeR w fs e w' from fun e w' v h hm => by
    obtain ⟨A', c', rfl, hc', hnn⟩ := hm.slice
    exact ⟨A', c', by rw [HO.out, hE]; exact h, by rw [HO.out]; exact hc', by rw [HO.out]; exact hnn, hm.2⟩)
  have HN := Lib.hid hn
  have H1 := Lib.hid h1
  have HFL := Lib.hid hf
  rw [hE] at hK
  clear HO hE hn h1 hf
  generalize WholeR w fs = G at *
  go_enter Try.func10, Try.ntmps10
  go_wp2_with fail
  refine hK.mono ?_
  rintro e w1 ⟨rfl, hb⟩
  have HB := Lib.hid hb
  clear hb hK
  go_wp2
  go_loopw [5, 15] (fun v iv wr => ∃ j : Nat, j ≤ n ∧ iv = .int .i64 (j : Int) ∧ Hid (MadeK 5 .u8 w wr (Ct.flat (fs.take j)) v)) (fun _ iv _ => n - (intOf iv).toNat)
  case atStart => exact ⟨0, by omega, rfl, MadeK.nil _ _ HB.out⟩
  case round =>
    obtain ⟨j, hj, rfl, HM⟩ := hrel
    by_cases hlt : j < n
    · have hlt' : (j : Int) < (n : Int) := by omega
      obtain ⟨f, hf⟩ : ∃ f, fs[j]? = some f := ⟨_, List.getElem?_eq_getElem (by rw [HN.out]; exact hlt)⟩
      obtain ⟨g, off, rfl, hg, c0, c1, c2, c3, c4, c5⟩ := (H1.out.below HM.out.2).six hf
      have hat := (H1.out.below HM.out.2).1 f (List.mem_of_getElem? hf)
      have HT := Lib.hid (Ct.flat_take hf)
      have hle := Ct.flat_len_le fs (j + 1)
      rw [HT.out, List.length_append] at hle
      have hFL := HFL.out
      have HX1 : Hid ((Ct.flat (fs.take j)).length + f.zs.length ≤ maxLen) := by show _ ≤ _; unfold maxLen; omega
      have HX2 : Hid (((Ct.flat (fs.take j)).length + f.zs.length) * 1 ≤ 140737488355328) := by show _ ≤ _; omega
      have hnum := hat.nums
      clear hat hf hle hFL
      obtain ⟨fv, fk, fq, fi, fc, fa, fcp, fz⟩ := f
      simp only at *
      have HM2 := Lib.hid (HM.out.later (.cells #[.int .i64 fv, .int .i64 fk, .int .u32 fq, .int .i64 fi, .int .i64 fc, .slice fa fz.length fcp] 42))
      have HNU := Lib.hid (hnum.below (((Below.refl w.heap.size wr).mono (Nat.le_refl _)).alloc HM.out.2.size (.cells #[.int .i64 fv, .int .i64 fk, .int .u32 fq, .int .i64 fi, .int .i64 fc, .slice fa fz.length fcp] 42)))
      have HSZ := Lib.hid HM2.out.2.size
      clear hnum
      go_wp2_with (at_builtin; refine wpList_append_any rfl (.tmp 19) (.tmp 21) 25 rfl w.heap.size 5 i0 (.int .u8 0) 1 Try.underlying25 hi hz0 hz1 hz2 rfl .u8 (Ct.flat (fs.take j)) fz _ rfl HM2.out.1 _ _ _ _ rfl rfl HNU.out HX1.out HX2.out HSZ.out ?_)
      intro v' w4 hown hg4
      have HM4 := Lib.hid (HM2.out.more (zs := fz) (v' := v') (by simpa using hown) hg4)
      rw [← HT.out] at HM4
      clear hown hg4 c0 c1 c2 c3 c4 c5
      go_wp2
      go_roundw
      case rel => exact ⟨j + 1, by omega, by go_num, HM4⟩
      case measure => simp [intOf]; omega
    · have e : j = n := by omega
      have HM5 := HM.out
      rw [e, ← HN.out, List.take_length] at HM5
      have HM6 := Lib.hid HM5
      have hjn : ¬ (j : Int) < (n : Int) := by omega
      clear HM5 e
      go_wp2
      try go_ret2
      exact HF.out _ _ _ rfl HM6.out

/-- Whole of any frames -/
theorem cwhole_any (A : Option Addr) (n cp : Nat) (fs : List Fr) (w : World) (hn : fs.length = n) (hcp : n ≤ cp) (hl : n ≤ 9223372036854775807) (hf : (Ct.flat fs).length ≤ 1000000) (h1 : FrsAt w w.heap.size A fs) :
    Calls Try.prog 10 #[.slice A n cp] w (WholeR w fs) := by
  have hK : Calls Try.prog 21 #[.slice A n cp] w fun e w' => e = .returned (.int .i64 (Ct.wErr fs)) ∧ Below w.heap.size w w' := by
    cases fs with
    | nil =>
      obtain rfl : n = 0 := by simpa using hn.symm
      exact wcheck_nil A cp w
    | cons f0 r => exact wcheck_any A n cp (f0 :: r) f0 w hn hcp hl rfl h1
  by_cases hE : Ct.wErr fs = 0
  · exact whole_good A n cp fs w hn hcp hl hf h1 hE hK
  · exact whole_bad A n cp fs w hE hK
end Go.Proofs.Ytmdjgidbfcfdnaa

namespace Go.Proofs.Ytmdjgidbfcfdnaa
open Go.ChangeShapes Go.WideShapes Go.RowKit
set_option maxRecDepth 100000

section
variable {H : Type} {enc : TypeId × Value → H} {w : World} {base : Nat} {spare : Nat → Bool} {held : Bool}
theorem open_head {r : Reach} {b0 : Nat} {x : Value} {d : DataW H} {p : List MemPlace} (hv : Value.okWide Try.prog w r b0 24 x) (h : DataW.Trod enc Try.prog w base spare held 24 x d p) :
    ∃ v k s i c : Int, x = hdV v k s i c ∧ (Lit.int .i64 v).wf = true ∧ (Lit.int .i64 k).wf = true ∧ (Lit.int .u32 s).wf = true ∧ (Lit.int .i64 i).wf = true ∧ (Lit.int .i64 c).wf = true := by
  obtain ⟨⟨cs⟩, rfl, hsz⟩ := okWide_struct Try.underlying24 hv
  have h5 : Try.prog.cellsOf 24 = 5 := by kernel_rfl
  rw [h5] at hsz
  obtain ⟨fuel, hf⟩ := h
  obtain ⟨xs, n, _, _, _, hlen, hg⟩ := DataW.trod_struct Try.underlying24 hf
  have one : ∀ (t : TypeId) (q : Nat) (kd : IntKind), Try.prog.underlying t = some (.int kd) → q < xs.length → DataW.trod enc Try.prog w base spare held n t ((cs.drop q).take 1) = xs[q]? → ∃ z, cs[q]? = some (.int kd z) ∧ (Lit.int kd z).wf = true := fun t q kd ht hq e => by
    rw [List.getElem?_eq_getElem hq] at e
    obtain ⟨z, e1, _, hz⟩ := DataW.trod_int ht e
    refine ⟨z, ?_, hz⟩
    have := congrArg (·[0]?) e1
    simpa [List.getElem?_take, List.getElem?_drop] using this
  have hl : xs.length = 5 := hlen
  have g0 := hg 0 _ rfl
  have g1 := hg 1 _ rfl
  have g2 := hg 2 _ rfl
  have g3 := hg 3 _ rfl
  have g4 := hg 4 _ rfl
  simp only [Value.cells] at g0 g1 g2 g3 g4
  obtain ⟨v, a0, r0⟩ := one 3 0 .i64 Try.underlying3 (by omega) g0
  obtain ⟨k, a1, r1⟩ := one 3 1 .i64 Try.underlying3 (by omega) g1
  obtain ⟨s, a2, r2⟩ := one 22 2 .u32 Try.underlying22 (by omega) g2
  obtain ⟨i, a3, r3⟩ := one 3 3 .i64 Try.underlying3 (by omega) g3
  obtain ⟨c, a4, r4⟩ := one 3 4 .i64 Try.underlying3 (by omega) g4
  refine ⟨v, k, s, i, c, ?_, r0, r1, r2, r3, r4⟩
  match cs, hsz, a0, a1, a2, a3, a4 with
  | [y0, y1, y2, y3, y4], _, a0, a1, a2, a3, a4 =>
    simp at a0 a1 a2 a3 a4
    subst a0 a1 a2 a3 a4
    rfl
end
end Go.Proofs.Ytmdjgidbfcfdnaa

namespace Go.Proofs.Ytmdjgidbfcfdnaa
open Go.RowKit Go.ChangeShapes Go.WideShapes Go.Deep
set_option maxRecDepth 100000

def i64Ok (z : Int) : Prop := -9223372036854775808 ≤ z ∧ z ≤ 9223372036854775807
/-- its numbers are numbers of its kinds -/
structure Fr.Wf (f : Fr) : Prop where
  v : i64Ok f.v
  k : i64Ok f.k
  i : i64Ok f.i
  c : i64Ok f.c
section
variable {H : Type} {enc : TypeId × Value → H} {w : World}
theorem row_of {T E : TypeId} {k : IntKind} {fuel : Nat} {v : Value} {x : DataW H × List MemPlace} (ht : Try.prog.underlying T = some (.slice E)) (he : Try.prog.underlying E = some (.int k)) (hc : Try.prog.cellsOf E = 1)
    (h : DataW.trod enc Try.prog w 0 (fun _ => true) true fuel T [v] = some x) : ∃ a n c es, v = .slice a n c ∧ es.length = n ∧ n ≤ c ∧ Nums k w w.heap.size a es ∧ ∀ z ∈ es, (Lit.int k z).wf = true := by
  rcases open_ints ht he hc h with ⟨hcs, _⟩ | ⟨a, l, c, zs, hcs, _, hl, hm, hz, _, hcell, hwz⟩
  · injection hcs with hcs
    exact ⟨none, 0, 0, [], hcs, rfl, Nat.le_refl _, Nums.nil, fun z hz => by cases hz⟩
  · injection hcs with hcs
    obtain ⟨es, h1, h2, h3, h4, h5⟩ := IsRow.elems (k := k) (w := w) (a := some a) (len := l) (cap := c) (zs := zs) (.inr ⟨_, rfl, hl, hm, by simpa using hz, hcell, hwz⟩)
    exact ⟨some a, l, c, es, hcs, h1, h2, h4, h5⟩
theorem row_short {T E : TypeId} {k : IntKind} {fuel : Nat} {v : Value} {x : DataW H × List MemPlace} (ht : Try.prog.underlying T = some (.slice E)) (he : Try.prog.underlying E = some (.int k)) (hc : Try.prog.cellsOf E = 1)
    (h : DataW.trod enc Try.prog w 0 (fun _ => true) true fuel T [v] = some x) : ∃ a n c, v = .slice a n c ∧ c ≤ maxLen := by
  rcases open_ints ht he hc h with ⟨hcs, _⟩ | ⟨a, l, c, zs, hcs, _, hl, hm, hz, _, hcell, hwz⟩
  · injection hcs with hcs
    exact ⟨none, 0, 0, hcs, Nat.zero_le _⟩
  · injection hcs with hcs
    exact ⟨some a, l, c, hcs, hm⟩
/-- a head's cells -/
theorem head_of {fuel : Nat} {cs : List Value} {x : DataW H × List MemPlace} (h : DataW.trod enc Try.prog w 0 (fun _ => true) true fuel 24 cs = some x) :
    ∃ v k s i c : Int, cs = [.int .i64 v, .int .i64 k, .int .u32 s, .int .i64 i, .int .i64 c] ∧ 0 ≤ s ∧ s ≤ 4294967295 ∧ i64Ok v ∧ i64Ok k ∧ i64Ok i ∧ i64Ok c := by
  obtain ⟨xs, n, _, _, hlen, hxl, hf⟩ := DataW.trod_struct Try.underlying24 h
  have h5 : Try.prog.cellsOf 24 = 5 := by kernel_rfl
  have k0 : Try.prog.cellsOf 3 = 1 := by kernel_rfl
  have k1 : Try.prog.cellsOf 22 = 1 := by kernel_rfl
  rw [h5] at hlen
  match cs, hlen with
  | [c0, c1, c2, c3, c4], _ =>
    have hx : ∀ i, i < 5 → ∃ y, xs[i]? = some y := fun i hi => ⟨_, List.getElem?_eq_getElem (by rw [hxl]; exact hi)⟩
    obtain ⟨y0, e0⟩ := hx 0 (by decide)
    obtain ⟨y1, e1⟩ := hx 1 (by decide)
    obtain ⟨y2, e2⟩ := hx 2 (by decide)
    obtain ⟨y3, e3⟩ := hx 3 (by decide)
    obtain ⟨y4, e4⟩ := hx 4 (by decide)
    have f0 : DataW.trod enc Try.prog w 0 (fun _ => true) true n 3 (([c0, c1, c2, c3, c4].drop 0).take (Try.prog.cellsOf 3)) = some y0 := (hf 0 _ rfl).trans e0
    rw [k0] at f0
    have f1 : DataW.trod enc Try.prog w 0 (fun _ => true) true n 3 (([c0, c1, c2, c3, c4].drop 1).take (Try.prog.cellsOf 3)) = some y1 := (hf 1 _ rfl).trans e1
    rw [k0] at f1
    have f2 : DataW.trod enc Try.prog w 0 (fun _ => true) true n 22 (([c0, c1, c2, c3, c4].drop 2).take (Try.prog.cellsOf 22)) = some y2 := (hf 2 _ rfl).trans e2
    rw [k1] at f2
    have f3 : DataW.trod enc Try.prog w 0 (fun _ => true) true n 3 (([c0, c1, c2, c3, c4].drop 3).take (Try.prog.cellsOf 3)) = some y3 := (hf 3 _ rfl).trans e3
    rw [k0] at f3
    have f4 : DataW.trod enc Try.prog w 0 (fun _ => true) true n 3 (([c0, c1, c2, c3, c4].drop 4).take (Try.prog.cellsOf 3)) = some y4 := (hf 4 _ rfl).trans e4
    rw [k0] at f4
    obtain ⟨v, g0, _, hv⟩ := DataW.trod_int Try.underlying3 f0
    obtain ⟨k, g1, _, hk⟩ := DataW.trod_int Try.underlying3 f1
    obtain ⟨s, g2, _, hs⟩ := DataW.trod_int Try.underlying22 f2
    obtain ⟨i, g3, _, hi⟩ := DataW.trod_int Try.underlying3 f3
    obtain ⟨c, g4, _, hc⟩ := DataW.trod_int Try.underlying3 f4
    injection g0 with g0
    injection g1 with g1
    injection g2 with g2
    injection g3 with g3
    injection g4 with g4
    subst g0 g1 g2 g3 g4
    have hr : 0 ≤ s ∧ s ≤ 4294967295 := by
      have h := hs
      simp [Lit.wf] at h
      exact h
    exact ⟨v, k, s, i, c, rfl, hr.1, hr.2, bounds_i64 hv, bounds_i64 hk, bounds_i64 hi, bounds_i64 hc⟩
/-- a frame's cells -/
theorem fr_of {fuel : Nat} {cs : List Value} {x : DataW H × List MemPlace} (h : DataW.trod enc Try.prog w 0 (fun _ => true) true fuel 42 cs = some x) :
    ∃ f : Fr, cs = f.cs.toList ∧ f.At w w.heap.size ∧ f.Wf := by
  obtain ⟨xs, n, _, _, hlen, hxl, hf⟩ := DataW.trod_struct Try.underlying42 h
  have h6 : Try.prog.cellsOf 42 = 6 := by kernel_rfl
  have k0 : Try.prog.cellsOf 24 = 5 := by kernel_rfl
  have k1 : Try.prog.cellsOf 25 = 1 := by kernel_rfl
  rw [h6] at hlen
  match cs, hlen with
  | [c0, c1, c2, c3, c4, c5], _ =>
    have hx : ∀ i, i < 2 → ∃ y, xs[i]? = some y := fun i hi => ⟨_, List.getElem?_eq_getElem (by rw [hxl]; exact hi)⟩
    obtain ⟨y0, e0⟩ := hx 0 (by decide)
    obtain ⟨y1, e1⟩ := hx 1 (by decide)
    have f0 : DataW.trod enc Try.prog w 0 (fun _ => true) true n 24 (([c0, c1, c2, c3, c4, c5].drop 0).take (Try.prog.cellsOf 24)) = some y0 := (hf 0 _ rfl).trans e0
    rw [k0] at f0
    have f1 : DataW.trod enc Try.prog w 0 (fun _ => true) true n 25 (([c0, c1, c2, c3, c4, c5].drop 5).take (Try.prog.cellsOf 25)) = some y1 := (hf 1 _ rfl).trans e1
    rw [k1] at f1
    obtain ⟨v, k, s, i, c, g0, hs0, hs1, hv, hk, hi, hc⟩ := head_of f0
    obtain ⟨a, m, cp, zs, rfl, l1, l2, l3, l4⟩ := row_of Try.underlying25 Try.underlying5 (by kernel_rfl) f1
    obtain ⟨a2, m2, cp2, q1, q2⟩ := row_short Try.underlying25 Try.underlying5 (by kernel_rfl) f1
    injection q1 with q1 q3 q4
    subst q1 q3 q4
    simp only [List.drop_zero, List.take_succ_cons, List.take_zero, List.cons.injEq, and_true] at g0
    obtain ⟨rfl, rfl, rfl, rfl, rfl⟩ := g0
    subst l1
    exact ⟨⟨v, k, s, i, c, a, cp, zs⟩, rfl, ⟨hs0, hs1, l2, by unfold maxLen at q2; simp only; omega, bytes_of l4, l3⟩, ⟨hv, hk, hi, hc⟩⟩
theorem open_frame {r : Reach} {b0 : Nat} {x : Value} {d : DataW H} {p : List MemPlace} (hv : Value.okWide Try.prog w r b0 42 x) (h : DataW.Trod enc Try.prog w 0 (fun _ => true) true 42 x d p) :
    ∃ f : Fr, x = .agg f.cs ∧ f.At w w.heap.size ∧ f.Wf := by
  obtain ⟨⟨cs⟩, rfl, hsz⟩ := okWide_struct Try.underlying42 hv
  obtain ⟨fuel, hf⟩ := h
  obtain ⟨f, e, h1, h2⟩ := fr_of hf
  simp only [Value.cells] at e
  refine ⟨f, ?_, h1, h2⟩
  rw [e]
theorem frs_of {fuel : Nat} {A : Option Addr} {len cap : Nat} {x : DataW H × List MemPlace} (h : DataW.trod enc Try.prog w 0 (fun _ => true) true fuel 26 [.slice A len cap] = some x) :
    ∃ fs : List Fr, fs.length = len ∧ len ≤ 9223372036854775807 ∧ len ≤ cap ∧ FrsAt w w.heap.size A fs ∧ ∀ f ∈ fs, f.Wf := by
  rcases open_slice Try.underlying26 h with ⟨hcs, _⟩ | ⟨a, l, c, m, n, D, Pl, hcs, _, hl, hm, hmm, _, hi⟩
  · injection hcs with hcs
    injection hcs with h1 h2 h3
    subst h1 h2 h3
    exact ⟨[], rfl, by decide, Nat.le_refl _, ⟨fun f hf => by simp at hf, fun j f hj => by simp at hj⟩, fun f hf => by simp at hf⟩
  · injection hcs with hcs
    injection hcs with h1 h2 h3
    subst h1 h2 h3
    have h6 : Try.prog.cellsOf 42 = 6 := by kernel_rfl
    have hmc : m = cap := by simpa using hmm
    have key : ∀ i, ∃ f : Fr, i < len → f.At w w.heap.size ∧ f.Wf ∧ ∃ b o, some a = some (⟨b, o, none⟩ : Addr) ∧ b < w.heap.size ∧ ∀ (q : Nat) (u : Value), f.cs[q]? = some u → w.cell? ⟨b, o + i * 6 + q, none⟩ = some u := by
      intro i
      by_cases hil : i < len
      · obtain ⟨cs', hc', ht'⟩ := hi i (by omega)
        rw [h6] at hc'
        obtain ⟨f, rfl, hat, hwf⟩ := fr_of ht'
        obtain ⟨_, _, hcell⟩ := World.cells?_some hc'
        obtain ⟨cs0, hc0, ht0⟩ := hi 0 (by omega)
        rw [h6] at hc0
        obtain ⟨f0, rfl, _⟩ := fr_of ht0
        have hz := (World.cells?_some hc0).2.2 0 (by decide)
        have hadd : ∀ a : Addr, a.add 0 = a := fun a => by unfold Addr.add; rw [if_pos rfl]
        rw [Nat.zero_mul, hadd, hadd] at hz
        obtain ⟨b, o, sp⟩ := a
        have hsp : sp = none := World.cell?_spot hz
        subst hsp
        have hcj : ∀ (j : Nat) v, f.cs[j]? = some v → w.cell? ⟨b, o + i * 6 + j, none⟩ = some v := fun j v hv => by
          have hj : j < 6 := (Array.getElem?_eq_some_iff.1 hv).1
          have h0 := hcell j hj
          rw [Addr.add_lit, Addr.add_lit, Array.getElem?_toList, hv] at h0
          exact h0
        exact ⟨f, fun _ => ⟨hat, hwf, b, o, rfl, block_of_cell (hcj 0 _ rfl), hcj⟩⟩
      · exact ⟨⟨0, 0, 0, 0, 0, none, 0, []⟩, fun h => absurd h hil⟩
    obtain ⟨g, hg⟩ := Classical.axiomOfChoice key
    have hall : ∀ (i : Nat) f, ((List.range len).map g)[i]? = some f → i < len ∧ f = g i := fun i f hd => by
      rw [List.getElem?_map] at hd
      obtain ⟨j, hj, rfl⟩ := Option.map_eq_some_iff.1 hd
      have hil : i < len := by
        rcases Nat.lt_or_ge i len with h | h
        · exact h
        · rw [List.getElem?_eq_none (by simpa using h)] at hj; simp at hj
      rw [List.getElem?_range hil] at hj
      injection hj with hj
      exact ⟨hil, by rw [hj]⟩
    refine ⟨(List.range len).map g, by simp, by unfold maxLen at hm; omega, by omega, ⟨fun f hf => ?_, fun j f hj => ?_⟩, fun f hf => ?_⟩
    · obtain ⟨i, hi, rfl⟩ := List.mem_iff_getElem.1 hf
      obtain ⟨h1, h2⟩ := hall i _ (List.getElem?_eq_getElem hi)
      rw [h2]; exact (hg i h1).1
    · obtain ⟨h1, rfl⟩ := hall j f hj
      exact (hg j h1).2.2
    · obtain ⟨i, hi, rfl⟩ := List.mem_iff_getElem.1 hf
      obtain ⟨h1, h2⟩ := hall i _ (List.getElem?_eq_getElem hi)
      rw [h2]; exact (hg i h1).2.1
end
end Go.Proofs.Ytmdjgidbfcfdnaa
