/-
  A part of the texts of one proof, put together: FldI, FldK, KpC, Ld, FldW, StopA, StopB, FldF, MsgM, MsgA, MsgP, MsgQ, MsgE, MsgB, MsgF, App, ApK, ApN, FldR, FldM, MsgC, MsgD, MsgG.
-/
import Derived.RangeFuncBound
import Derived.RangeFuncCalls
import Derived.RangeFuncLeaves
import Derived.RangeFuncNested
import Derived.RangeFuncWrites
import Derived.RangeFuncBox
import Derived.Lib.MinMax
import Derived.Laws.StructEq
import Derived.ChangeKeysEq
import Derived.BigQuiet
import Derived.Deep.QuietTactic
import Derived.Deep.LoopGhost
import Derived.WalkMore
import Derived.Deep.Slices
import Derived.ChangeMaps5
import Derived.OpenShut
import Derived.ChangeSame
import Derived.Deep.Upon
import Derived.Lib.AppendZeros
import Derived.Maps.AppendAt
import Derived.OwnWalkIn
import Derived.Laws.Tables
import Derived.Test.YtnbhiamnoapmlaaMNNumbersProof1
namespace Go.Proofs.Ytnbhiamnoapmlaa
open Go.RowKit Go.Shelf
set_option maxRecDepth 100000
attribute [local go_sem] Oper.semAt_some

/-- those that a version has -/
def FDv (k v : Int) : List Fd := (FD k).filter fun f => decide (f.si ≤ v)
/-- rows of fields and boxes of numbers at lo or above are as they were -/
structure KeT (tf ti : TypeId) (lo : Nat) (A B : World) : Prop where
  size : A.heap.size ≤ B.heap.size
  same : ∀ (q : Nat) (cs : Array Value) (t : TypeId), lo ≤ q → t = tf ∨ t = ti → A.heap[q]? = some (.cells cs t (0, 0)) → B.heap[q]? = A.heap[q]?
section
variable {tf ti : TypeId} {lo : Nat} {A B C : World}
theorem KeT.refl (A : World) : KeT tf ti lo A A := ⟨Nat.le_refl _, fun _ _ _ _ _ _ => rfl⟩
theorem KeT.trans (h : KeT tf ti lo A B) (k : KeT tf ti lo B C) : KeT tf ti lo A C := ⟨Nat.le_trans h.size k.size, fun q cs t hq ht hA => (k.same q cs t hq ht ((h.same q cs t hq ht hA).trans hA)).trans (h.same q cs t hq ht hA)⟩
theorem KeT.of_below (h : Below A.heap.size A B) : KeT tf ti lo A B := ⟨h.size, fun q _ _ _ _ hA => h.block q (Array.getElem?_eq_some_iff.1 hA).1⟩
theorem KeT.block (h : KeT tf ti lo A B) {q : Nat} {cs : Array Value} {t : TypeId} (hq : lo ≤ q) (ht : t = tf ∨ t = ti) (hA : A.heap[q]? = some (.cells cs t (0, 0))) : B.heap[q]? = some (.cells cs t (0, 0)) := (h.same q cs t hq ht hA).trans hA
theorem KeT.putObj {l : Nat} {o o' : Obj} (ho : A.heap[l]? = some o) (hc : o.isCells = false) : KeT tf ti lo A (A.putObj l o') := ⟨by simp [World.putObj], fun q cs t _ _ hA => World.putObj_heap_other (fun e => by
  subst e
  rw [ho] at hA
  injection hA with hA
  subst hA
  cases hc)⟩
theorem KeT.setCell (h : KeT tf ti lo A B) {p : Addr} (hp : p.block < lo) (u : Value) : KeT tf ti lo A (B.setCell p u) := ⟨by have := h.size; simpa [World.setCell] using this, fun q cs t hq ht hA => (Below.heap_setCell B p u q (by omega)).trans (h.same q cs t hq ht hA)⟩
end

theorem fall_any (k v : Int) (w : World) : Calls Try.prog 25 #[.int .i64 k, .int .i64 v] w fun e w' => e = .returned (.func (.func 39) #[] #[.pointer (some ⟨w.heap.size, 0, none⟩), .pointer (some ⟨w.heap.size + 1, 0, none⟩)]) ∧
    w'.heap[w.heap.size]? = some (.cells #[.int .i64 k] 3 (0, 0)) ∧ w'.heap[w.heap.size + 1]? = some (.cells #[.int .i64 v] 3 (0, 0)) ∧ Below w.heap.size w w' := by
  go_enter Try.func25, Try.ntmps25
  go_wp2
  go_ret
  refine ⟨rfl, ?_, ?_, ((Below.refl _ w).alloc (Nat.le_refl _) _).alloc (by simp) _⟩
  · rw [Below.heap_alloc _ _ _ (by simp)]
    exact World.alloc_heap_new _ _
  · rw [show w.heap.size + 1 = (w.alloc (.cells #[.int .i64 k] 3)).heap.size by simp]
    exact World.alloc_heap_new _ _

theorem FRow.sevenP {T : TypeId} {w : World} {g : Nat} {L : List Fd} (h : FRow T w g L) {j : Nat} {f : Fd} (hj : L[j]? = some f) :
    w.cell? ⟨g, j * 7, none⟩ = some (.string f.nm) ∧ w.cell? ⟨g, j * 7 + 1, none⟩ = some (.int .i64 f.so) ∧ w.cell? ⟨g, j * 7 + 2, none⟩ = some (.int .i64 f.pl) ∧ w.cell? ⟨g, j * 7 + 3, none⟩ = some (.int .i64 f.le) ∧ w.cell? ⟨g, j * 7 + 4, none⟩ = some (.int .i64 f.mo) ∧ w.cell? ⟨g, j * 7 + 5, none⟩ = some (.int .i64 f.si) ∧ w.cell? ⟨g, j * 7 + 6, none⟩ = some (.int .i64 f.ab) :=
  ⟨h.cell hj (q := 0) (by omega), h.cell hj (q := 1) (by omega), h.cell hj (q := 2) (by omega), h.cell hj (q := 3) (by omega), h.cell hj (q := 4) (by omega), h.cell hj (q := 5) (by omega), h.cell hj (q := 6) (by omega)⟩
theorem filter_take {L : List Fd} {p : Fd → Bool} {i : Nat} {f : Fd} (hf : L[i]? = some f) : ((L.take (i + 1)).filter p).length = ((L.take i).filter p).length + (if p f then 1 else 0) := by
  rw [List.take_add_one, hf, List.filter_append, List.length_append]
  by_cases h : p f <;> simp [h]
theorem filter_get {L : List Fd} {p : Fd → Bool} {i : Nat} {f : Fd} (hf : L[i]? = some f) (hp : p f = true) : (L.filter p)[((L.take i).filter p).length]? = some f := by
  have h1 : L = L.take i ++ f :: L.drop (i + 1) := by
    have hi := (List.getElem?_eq_some_iff.1 hf).1
    conv => lhs; rw [← List.take_append_drop i L, List.drop_eq_getElem_cons hi]
    rw [(List.getElem?_eq_some_iff.1 hf).2]
  have key : ((L.take i ++ f :: L.drop (i + 1)).filter p)[((L.take i).filter p).length]? = some f := by
    rw [List.filter_append, List.filter_cons_of_pos hp]
    simp
  rwa [← h1] at key

set_option maxHeartbeats 2000000 in
theorem fall_in (n : Nat) (hn : 1 ≤ n) (m' l g : Nat) (k v : Int) (J : Nat → World → Prop) (Jx : World → Prop) (hJ : ∀ j A B, J j A → Below A.heap.size A B → J j B)
    (hY : ∀ j f W, J j W → (FDv k v)[j]? = some f → YieldAt Fence.wide m' Try.prog l #[f.v] W fun e W' => (e = .returned (.bool true) ∧ J (j + 1) W' ∧ KeT 65 3 g W W') ∨ (e = .returned (.bool false) ∧ Jx W'))
    (W : World) (hg0 : W.heap[g]? = some (.cells #[.int .i64 k] 3 (0, 0))) (hg1 : W.heap[g + 1]? = some (.cells #[.int .i64 v] 3 (0, 0))) (h0 : J 0 W) :
    CallsIn Fence.wide n Try.prog 39 #[.func (.yield l) #[] #[], .pointer (some ⟨g, 0, none⟩), .pointer (some ⟨g + 1, 0, none⟩)] W fun e W' => (∃ v, e = .returned v) ∧ (J (FDv k v).length W' ∨ Jx W') := by
  have c0 : W.cell? ⟨g, 0, none⟩ = some (.int .i64 k) := by simp [World.cell?, hg0]
  have hlt := (Array.getElem?_eq_some_iff.1 hg1).1
  have hlt0 := (Array.getElem?_eq_some_iff.1 hg0).1
  obtain ⟨R, hR⟩ : ∃ R, (FDv k v).length = R := ⟨_, rfl⟩
  rw [hR]
  refine callsIn_of_wp Try.func39 rfl trivial ?_ rfl
  simp only [Try.ntmps39, List.size_toArray, List.length_cons, List.length_nil, Nat.reduceAdd, Nat.reduceSub, Array.replicate_succ, Array.replicate_zero, List.push_toArray, List.append_toArray, List.nil_append, List.cons_append]
  gi_wp2_with fail
  refine ⟨trivial, (callsIn_wide.2 (of_any k W)).mono ?_⟩
  rintro e w1 ⟨A, c, rfl, hc, hA, hb1⟩
  have hN6 : (FD k).length ≤ 6 := by
    unfold FD
    rw [pls_len]
    exact raw_few k
  unfold FDv at hY hR
  generalize FD k = L at *
  obtain ⟨N, hN⟩ : ∃ N, L.length = N := ⟨_, rfl⟩
  rw [hN] at hc hN6 ⊢
  have hgW : g + 1 < W.heap.size := hlt
  have HJ0 := Lib.hid (hJ 0 _ _ h0 hb1)
  have HN := Lib.hid hN
  have HR := Lib.hid hR
  have HY := Lib.hid hY
  have HJ := Lib.hid hJ
  have HV := Lib.hid ((hb1.block (g + 1) hlt).trans hg1)
  clear hN hR hY hg0 hg1 h0 c0 hlt hlt0 hJ hb1
  by_cases hL : L = []
  · subst hL
    obtain rfl : 0 = N := HN.out
    obtain rfl : 0 = R := HR.out
    gi_wp2_with fail
    gi_loopw [9] (fun x wr => x = .int .i64 0 ∧ wr = w1) (fun _ _ => 0)
    case atStart => exact ⟨rfl, rfl⟩
    case round =>
      obtain ⟨rfl, rfl⟩ := hrel
      gi_wp2
      go_end0
      exact ⟨⟨_, rfl⟩, .inl HJ0.out⟩
  · obtain ⟨ga, rfl, hga, hF⟩ := hA hL
    have HF := Lib.hid hF
    have hgag : g ≤ ga := by omega
    clear hF hA hga
    gi_wp2_with fail
    gi_loopw [9] (fun x wr => ∃ p : Nat, p ≤ N ∧ x = .int .i64 (p : Int) ∧ Hid (J ((L.take p).filter fun f => decide (f.si ≤ v)).length wr) ∧ Hid (FRow 65 wr ga L) ∧ Hid (wr.heap[g + 1]? = some (.cells #[.int .i64 v] 3 (0, 0)))) (fun x _ => N - (intOf x).toNat)
    case atStart => exact ⟨0, by omega, rfl, HJ0, HF, HV⟩
    case round =>
      obtain ⟨p, hp, rfl, HJp, HFp, HVp⟩ := hrel
      rcases Nat.lt_or_ge p N with hlt | hge
      · obtain ⟨f, hf⟩ : ∃ f, L[p]? = some f := ⟨_, List.getElem?_eq_getElem (by rw [HN.out]; exact hlt)⟩
        obtain ⟨d0, d1, d2, d3, d4, d5, d6⟩ := HFp.out.sevenP hf
        have dv : wr.cell? ⟨g + 1, 0, none⟩ = some (.int .i64 v) := by simp [World.cell?, HVp.out]
        have hsz := (Array.getElem?_eq_some_iff.1 HVp.out).1
        have hfl := filter_take (p := fun f => decide (f.si ≤ v)) hf
        have hfg := filter_get (p := fun f => decide (f.si ≤ v)) hf
        have Hfl := Lib.hid hfl
        by_cases hv : f.si ≤ v
        · have HYj := HY.out _ f (wr.alloc (.cells f.cs 65)) (HJ.out _ _ _ HJp.out ((Below.refl _ wr).alloc (Nat.le_refl _) _)) (hfg (by simpa using hv))
          unfold Fd.v Fd.cs at HYj
          obtain ⟨fn, tmps, assign, body, hy, hR⟩ := yield_any (n - 1) HYj
          have HR2 := Lib.hid hR
          clear hR HYj hfl hfg
          have hFlt : ga < wr.heap.size := (Array.getElem?_eq_some_iff.1 HFp.out).1
          gi_wp2_with fail
          refine HR2.out.mono ?_
          rintro e W3 (⟨rfl, hJ3, hK3⟩ | ⟨rfl, hJx3⟩)
          · have HJ3 : Hid (J ((L.take (p + 1)).filter fun f => decide (f.si ≤ v)).length W3) := by
              show J _ _
              rw [Hfl.out, if_pos (by simpa using hv)]
              exact hJ3
            have HF3 : Hid (FRow 65 W3 ga L) := hK3.block hgag (.inl rfl) ((Below.heap_alloc _ _ _ hFlt).trans HFp.out)
            have HV3 : Hid (W3.heap[g + 1]? = some (.cells #[.int .i64 v] 3 (0, 0))) := hK3.block (by omega) (.inr rfl) ((Below.heap_alloc _ _ _ hsz).trans HVp.out)
            clear hJ3 hK3 d0 d1 d2 d3 d4 d5 d6 dv
            gi_wp2
            go_roundw
            case rel => exact ⟨p + 1, by omega, by go_num, HJ3, HF3, HV3⟩
            case measure => simp [intOf]; omega
          · gi_wp2
            refine bodyPost_ret (results_none rfl _ _ _) rfl ?_
            exact ⟨⟨_, rfl⟩, .inr hJx3⟩
        · have HJ3 : Hid (J ((L.take (p + 1)).filter fun f => decide (f.si ≤ v)).length (wr.alloc (.cells #[.string f.nm, .int .i64 f.so, .int .i64 f.pl, .int .i64 f.le, .int .i64 f.mo, .int .i64 f.si, .int .i64 f.ab] 65))) := by
            show J _ _
            rw [Hfl.out, if_neg (by simpa using hv)]
            exact HJ.out _ _ _ HJp.out ((Below.refl _ wr).alloc (Nat.le_refl _) _)
          have HF3 : Hid (FRow 65 (wr.alloc (.cells #[.string f.nm, .int .i64 f.so, .int .i64 f.pl, .int .i64 f.le, .int .i64 f.mo, .int .i64 f.si, .int .i64 f.ab] 65)) ga L) := (Below.heap_alloc _ _ _ (Array.getElem?_eq_some_iff.1 HFp.out).1).trans HFp.out
          have HV3 : Hid ((wr.alloc (.cells #[.string f.nm, .int .i64 f.so, .int .i64 f.pl, .int .i64 f.le, .int .i64 f.mo, .int .i64 f.si, .int .i64 f.ab] 65)).heap[g + 1]? = some (.cells #[.int .i64 v] 3 (0, 0))) := (Below.heap_alloc _ _ _ hsz).trans HVp.out
          clear hfl hfg
          gi_wp2
          refine ⟨fun f hf => (by cases hf), ?_⟩
          gi_wp2
          go_roundw
          case rel => exact ⟨p + 1, by omega, by go_num, HJ3, HF3, HV3⟩
          case measure => simp [intOf]; omega
      · obtain rfl : p = N := by omega
        gi_wp2
        go_end0
        have h1 := HJp.out
        rw [List.take_of_length_le (by rw [HN.out]; exact Nat.le_refl _), HR.out] at h1
        exact ⟨⟨_, rfl⟩, .inl h1⟩
end Go.Proofs.Ytnbhiamnoapmlaa

namespace Go.Proofs.Ytnbhiamnoapmlaa
open Go.RowKit Go.Shelf
set_option maxRecDepth 100000
attribute [local go_sem] Oper.semAt_some

end Go.Proofs.Ytnbhiamnoapmlaa

namespace Go.Proofs.Ytnbhiamnoapmlaa
open Go.RowKit

/-- whatever is cells, but block b, is as it was -/
structure KpC (b : Nat) (W W' : World) : Prop where
  size : W.heap.size ≤ W'.heap.size
  same : ∀ (k : Nat) (o : Obj), k ≠ b → W.heap[k]? = some o → o.isCells = true → W'.heap[k]? = some o
theorem KpC.trans {b : Nat} {A B C : World} (h : KpC b A B) (k : KpC b B C) : KpC b A C := ⟨Nat.le_trans h.size k.size, fun i o hi ho hc => k.same i o hi (h.same i o hi ho hc) hc⟩
theorem KpC.putObj {b l : Nat} {W : World} {o o' : Obj} (ho : W.heap[l]? = some o) (hc : o.isCells = false) : KpC b W (W.putObj l o') := by
  refine ⟨by simp [World.putObj], fun k p hk hp hpc => (World.putObj_heap_other (fun e => ?_)).trans hp⟩
  subst e
  rw [hp] at ho
  injection ho with ho
  subst ho
  rw [hpc] at hc; cases hc
theorem KpC.of_below {b : Nat} {W W' : World} (h : Below W.heap.size W W') : KpC b W W' := ⟨h.size, fun k _ _ ho _ => (h.block k (Array.getElem?_eq_some_iff.1 ho).1).trans ho⟩
theorem KpC.set {b : Nat} {W W' : World} (h : KpC b W W') (v : Value) : KpC b W (W'.setCell ⟨b, 0, none⟩ v) :=
  ⟨by simpa [World.setCell] using h.size, fun k _ hk ho hc => (Below.heap_setCell W' ⟨b, 0, none⟩ v k (fun e => hk (by simpa using e))).trans (h.same k _ hk ho hc)⟩

theorem below_put {B l : Nat} (W : World) (o' : Obj) (h : B ≤ l) : Below B W (W.putObj l o') := ⟨rfl, rfl, rfl, by simp [World.putObj], fun k hk => World.putObj_heap_other (by omega)⟩
end Go.Proofs.Ytnbhiamnoapmlaa

namespace Go.Proofs.Ytnbhiamnoapmlaa
open Go.RowKit

theorem cells_of_cell {W : World} {p : Addr} {v : Value} (h : W.cell? p = some v) : ∃ o : Obj, W.heap[p.block]? = some o ∧ o.isCells = true := by
  unfold World.cell? at h
  cases ho : W.heap[p.block]? with
  | none => simp [ho] at h
  | some o => exact ⟨o, rfl, by cases o <;> simp_all [Obj.isCells]⟩
theorem Nums.putObj {k : IntKind} {V : World} {B l : Nat} {a : Option Addr} {zs : List Int} {o : Obj} (h : Nums k V B a zs) (ho : V.heap[l]? = some o) (hc : o.isCells = false) (o' : Obj) : Nums k (V.putObj l o') B a zs := fun hn => by
  obtain ⟨b, off, e, hb, hcl⟩ := h hn
  refine ⟨b, off, e, hb, fun j c hj => ?_⟩
  have h1 := hcl j c hj
  obtain ⟨o2, h2, h3⟩ := cells_of_cell h1
  refine (World.cell?_of_block (World.putObj_heap_other (fun e => ?_))).trans h1
  simp only at h2 e
  subst e
  rw [ho] at h2
  injection h2 with h2
  subst h2
  rw [hc] at h3; cases h3
theorem off_below {S : Nat → Prop} {w V V' : World} (h : Off S w V) (hb : Below w.heap.size V V') : Off S w V' :=
  ⟨hb.os.trans h.os, hb.tape.trans h.tape, hb.output.trans h.output, Nat.le_trans h.size hb.size, fun k hk hn => (hb.block k hk).trans (h.block k hk hn)⟩
/-- behind j rounds of the law's loop: the box b holds j, all else is as it was -/
def Ld (w : World) (b : Nat) (t : TypeId) (j : Nat) (V : World) : Prop := Boxed V b t (.int .i64 ((j : Nat) : Int)) ∧ Off (fun k => k = b) w V
theorem Ld.below {w V V' : World} {b : Nat} {t : TypeId} {j : Nat} (h : Ld w b t j V) (hb : b < w.heap.size) (hB : Below w.heap.size V V') : Ld w b t j V' :=
  ⟨(hB.block b hb).trans h.1, off_below h.2 hB⟩
theorem Ld.next {w V V1 : World} {b : Nat} {t : TypeId} {j : Nat} (h : Ld w b t j V) (hb : b < w.heap.size) (h1 : Below w.heap.size V V1) : Ld w b t (j + 1) (V1.setCell ⟨b, 0, none⟩ (.int .i64 ((j : Int) + 1))) :=
  ⟨by have := Boxed.set (.int .i64 ((j : Int) + 1)) ((h1.block b hb).trans h.1 : Boxed V1 b t _); rw [Int.natCast_succ]; exact this, (off_below h.2 h1).setCell (p := ⟨b, 0, none⟩) rfl _⟩
theorem Ld.keepS {S : Nat → Prop} {V : World} {b : Nat} (hb : ¬ S b) (v : Value) : KeepS S V (V.setCell ⟨b, 0, none⟩ v) := (KeepS.refl S V).set hb v
end Go.Proofs.Ytnbhiamnoapmlaa

namespace Go.Proofs.Ytnbhiamnoapmlaa
open Go.RowKit Go.Shelf
set_option maxRecDepth 100000
attribute [local go_sem] Oper.semAt_some

/-- the kind of a word -/
def kd (x : ByteArray) : Int := if x = wd 1 then 1 else if x = wd 2 then 2 else if x = wd 3 then 3 else if x = wd 4 then 4 else if x = wd 5 then 5 else 0
theorem kd_wd {j : Nat} (hj : j < 5) : kd (wd ((j : Int) + 1)) = (j : Int) + 1 := by
  obtain rfl | rfl | rfl | rfl | rfl : j = 0 ∨ j = 1 ∨ j = 2 ∨ j = 3 ∨ j = 4 := by omega
  all_goals decide
theorem kd_none {x : ByteArray} (h : ∀ j : Nat, j < 5 → wd ((j : Int) + 1) ≠ x) : kd x = 0 := by
  have h0 := h 0 (by omega); have h1 := h 1 (by omega); have h2 := h 2 (by omega); have h3 := h 3 (by omega); have h4 := h 4 (by omega)
  unfold kd
  rw [if_neg (fun e => h0 e.symm), if_neg (fun e => h1 e.symm), if_neg (fun e => h2 e.symm), if_neg (fun e => h3 e.symm), if_neg (fun e => h4 e.symm)]

end Go.Proofs.Ytnbhiamnoapmlaa

namespace Go.Proofs.Ytnbhiamnoapmlaa
open Go.RowKit

section
variable {F : Fence} {n : Nat} {P : Program} {g : Operand} {ps : Array Tmp} {assign body : Code} {Q : Exit → Act → World → Prop} {a : Act} {w : World}
theorem range_stopa {α : Type} (hro : F.round = none) (h1 : 1 ≤ n) {gf : Nat} {lb : Array Value} (hg : a.eval g = .func (.func gf) #[] lb) (hFg : F.fn gf) (eg : ∀ args w, (callFunc gf args).run P w = .ok (.enter gf args) w)
    (enc : α → Array Value) (hps : ∀ x, (enc x).size = ps.size) (Rd : Nat → α → World → Prop) (Ra : Nat → α → Act → World → Prop) (Dn : Nat → World → Prop) (Sx : Code → World → Prop) (Kp : World → World → Prop) (N : Nat)
    (hRp : ∀ j x b W l o o', Ra j x b W → w.heap.size ≤ l → W.heap[l]? = some o → o.isCells = false → Ra j x b (W.putObj l o'))
    (hDp : ∀ j W l o o', Dn j W → w.heap.size ≤ l → W.heap[l]? = some o → o.isCells = false → Dn j (W.putObj l o'))
    (hSp : ∀ c W l o o', Sx c W → w.heap.size ≤ l → W.heap[l]? = some o → o.isCells = false → Sx c (W.putObj l o'))
    (hKt : ∀ A B C, Kp A B → Kp B C → Kp A C)
    (hKp : ∀ W l o o', w.heap.size ≤ l → W.heap[l]? = some o → o.isCells = false → Kp W (W.putObj l o'))
    (hD0 : ∀ o, Dn 0 ((w.alloc (.deferred (some []))).alloc o))
    (hassign : ∀ (l j : Nat) (x : α) (W : World) (K : Act → World → Prop), Rd j x W → j < N → (∀ b W', Ra j x b W' → KeepsFrom w.heap.size W W' → Kp W W' → K b W') →
      assign.wpIn (F.inRound l) (n - 1 - 1) P (Exit.then K (fun _ _ _ => False)) { tmps := (ps.zip (enc x)).foldl (fun t (p, v) => t.setIfInBounds p v) a.tmps, defers := [] } W)
    (hbody : ∀ (l j : Nat) (x : α) (b : Act) (W : World), w.heap.size ≤ l → Ra j x b W → j < N → body.wpIn (F.inRound l) (n - 1 - 1) P (stopPost w.heap.size Kp (Dn (j + 1)) Sx W) b W)
    (hiter : ∀ (Bk : World → Prop) (X : World → Prop) (l : Nat) (W : World), (∀ A B, Bk A → A.heap.size ≤ B.heap.size → (∀ k, w.heap.size ≤ k → k < w.heap.size + 2 → B.heap[k]? = A.heap[k]?) → Bk B) → (∀ A, Bk A → w.heap.size + 2 ≤ A.heap.size) →
      (∀ A l' o o', X A → w.heap.size + 2 ≤ l' → A.heap[l']? = some o → o.isCells = false → X (A.putObj l' o')) → l < w.heap.size + 2 → Dn 0 W → Bk W →
      (∀ j x W1, Rd j x W1 → Bk W1 → j < N → YieldAt F (n - 1 - 1) P l (enc x) W1 (YPost w.heap.size l Kp (fun W2 => Dn (j + 1) W2 ∧ Bk W2) X W1)) →
      CallsIn F (n - 1) P gf (#[.func (.yield l) #[] #[]] ++ lb) W fun e W' => (∃ v, e = .returned v) ∧ ((Dn N W' ∧ Bk W') ∨ X W'))
    (hdone : ∀ (D : Nat) (W : World), w.heap.size ≤ D → Dn N W → W.heap[D]? = some (.deferred (some [])) → Q .normal { a with defers := { target := .collected D, args := #[] } :: a.defers } W)
    (hstop : ∀ (D : Nat) (c : Code) (W : World), w.heap.size ≤ D → Sx c W → W.heap[D]? = some (.deferred (some [])) → c.wpIn F n P Q { a with defers := { target := .collected D, args := #[] } :: a.defers } W) :
    (Code.rangeFunc g ps assign body).wpIn F n P Q a w := by
  apply wpIn_rangeFunc
  intro fn hfn
  rw [hro]
  have hent := run_enterLoop_outer (P := P) (w := w) fn a.tmps ps assign body
  obtain ⟨lp, hlp⟩ : ∃ lp : LoopState → Option Code → Loop, lp = fun st pe => { state := st, pending := pe, fn := fn, tmps := a.tmps, params := ps, assign := assign, body := body, defers := w.heap.size } := ⟨_, rfl⟩
  have hlp0 : ({ state := .ready, pending := none, fn, tmps := a.tmps, params := ps, assign, body, defers := w.heap.size } : Loop) = lp .ready none := by rw [hlp]
  rw [hlp0] at hent
  have hD0' := hD0 (.loop (lp .ready none))
  have hl0 : ((w.alloc (.deferred (some []))).alloc (.loop (lp .ready none))).heap[w.heap.size + 1]? = some (.loop (lp .ready none)) := by
    have h := World.alloc_heap_new (w.alloc (.deferred (some []))) (.loop (lp .ready none))
    rwa [World.size_alloc] at h
  have hd0 : ((w.alloc (.deferred (some []))).alloc (.loop (lp .ready none))).heap[w.heap.size]? = some (.deferred (some [])) := (Below.heap_alloc _ _ _ (by simp)).trans (World.alloc_heap_new w _)
  generalize (w.alloc (.deferred (some []))).alloc (.loop (lp .ready none)) = W0 at *
  refine ⟨_, _, _, { target := .fn (.func gf) lb, args := #[.func (.yield (w.heap.size + 1)) #[] #[]] }, W0, gf, #[.func (.yield (w.heap.size + 1)) #[] #[]] ++ lb, W0, hent, ?_, ?_, ?_, fun _ => h1, ?_⟩
  · simp only [resolve, hg]
    simp [go_sem]
  · intro f' hf'
    simp [Target.leads] at hf'
    subst hf'
    exact hFg
  · simp [invoke, go_sem, eg]
  let Bk : World → Prop := fun W => W.heap[w.heap.size + 1]? = some (.loop (lp .ready none)) ∧ W.heap[w.heap.size]? = some (.deferred (some []))
  let X : World → Prop := fun W => ∃ c, Sx c W ∧ W.heap[w.heap.size + 1]? = some (.loop (lp .done (some c))) ∧ W.heap[w.heap.size]? = some (.deferred (some []))
  have hBlt : ∀ A, Bk A → w.heap.size + 2 ≤ A.heap.size := fun A h => (Array.getElem?_eq_some_iff.1 h.1).1
  refine (hiter Bk X (w.heap.size + 1) W0 (fun A B hA _ hAB => ⟨(hAB _ (by omega) (by omega)).trans hA.1, (hAB _ (by omega) (by omega)).trans hA.2⟩) hBlt
    (fun A l' o o' hA hl' ho hc => by
      obtain ⟨c, h1, h2, h3⟩ := hA
      exact ⟨c, hSp c A l' o o' h1 (by omega) ho hc, (World.putObj_heap_other (by omega)).trans h2, (World.putObj_heap_other (by omega)).trans h3⟩) (by omega) hD0' ⟨hl0, hd0⟩ ?_).mono ?_
  · rintro j x W1 hR hB hj
    have hsz := hBlt W1 hB
    have hy := run_yield (P := P) (args := enc x) hB.1 (by rw [hlp]; exact hps x)
    rw [hlp] at hy
    refine ⟨fn, _, assign, body, hy, roundIn_of_wpIn hfn (hassign _ j x W1 _ hR hj (fun b2 W2 hR2 hkf hKp2 => ?_))⟩
    have hB2 : Bk W2 := ⟨hkf.same _ _ (by omega) hB.1 rfl, hkf.same _ _ (Nat.le_refl _) hB.2 rfl⟩
    have hsz2 := hBlt W2 hB2
    have hbeg := run_beginRound (P := P) hB2.1 (by rw [hlp])
    rw [hlp] at hbeg
    refine ⟨_, hbeg, ?_⟩
    refine wpIn_mono (hbody _ j x b2 _ (by omega) (hRp j x b2 W2 _ _ _ hR2 (by omega) hB2.1 rfl) hj) ?_
    have b1 : (W2.putObj (w.heap.size + 1) (.loop { lp .ready none with state := .busy })).heap[w.heap.size + 1]? = some (.loop { lp .ready none with state := .busy }) := World.putObj_heap_same (by omega)
    have b2 : (W2.putObj (w.heap.size + 1) (.loop { lp .ready none with state := .busy })).heap[w.heap.size]? = some (.deferred (some [])) := (World.putObj_heap_other (by omega)).trans hB2.2
    have hK1 := hKp W2 (w.heap.size + 1) _ (.loop { lp .ready none with state := .busy }) (by omega) hB2.1 rfl
    rw [hlp] at b1 b2 hK1
    have fin : ∀ (jump : Option Code) (W3 : World), KeepsFrom w.heap.size (W2.putObj (w.heap.size + 1) (.loop { lp .ready none with state := .busy })) W3 →
        (Instr.endRound (w.heap.size + 1) jump).run P W3 = .ok (.bool jump.isNone) (W3.putObj (w.heap.size + 1) (.loop (lp (if jump.isNone then .ready else .done) jump))) ∧
        W3.heap[w.heap.size + 1]? = some (.loop { lp .ready none with state := .busy }) ∧
        (W3.putObj (w.heap.size + 1) (.loop (lp (if jump.isNone then .ready else .done) jump))).heap[w.heap.size + 1]? = some (.loop (lp (if jump.isNone then .ready else .done) jump)) ∧
        (W3.putObj (w.heap.size + 1) (.loop (lp (if jump.isNone then .ready else .done) jump))).heap[w.heap.size]? = some (.deferred (some [])) ∧
        KeepsBut w.heap.size (w.heap.size + 1) W1 (W3.putObj (w.heap.size + 1) (.loop (lp (if jump.isNone then .ready else .done) jump))) := fun jump W3 hk => by
      rw [hlp] at hk ⊢
      have c1 := hk.same _ _ (by omega) b1 rfl
      have c2 := hk.same _ _ (Nat.le_refl _) b2 rfl
      have hend := run_endRound (P := P) jump c1
      refine ⟨hend, c1, World.putObj_heap_same (Array.getElem?_eq_some_iff.1 c1).1, (World.putObj_heap_other (by omega)).trans c2, ?_, ?_⟩
      · have h1 := hk.size
        have h2 := hkf.size
        simp only [World.putObj, Array.size_setIfInBounds] at h1 ⊢
        omega
      · intro k o hkl hk2 ho hc
        exact (World.putObj_heap_other (by omega)).trans (hk.same k o hk2 ((World.putObj_heap_other (by omega)).trans (hkf.same k o hk2 ho hc)) hc)
    rintro e a3 W3 hp
    rw [hlp] at fin
    cases e with
    | normal =>
      obtain ⟨hk, hDn, hKp3⟩ := hp
      obtain ⟨hend, c1, d1, d2, hkb⟩ := fin none W3 hk
      exact ⟨_, _, hend, .inl ⟨rfl, ⟨hDp _ _ _ _ _ hDn (by omega) c1 rfl, by rw [hlp]; exact d1, d2⟩, hKt _ _ _ hKp2 (hKt _ _ _ hK1 (hKt _ _ _ hKp3 (hKp W3 _ _ _ (by omega) c1 rfl))), hkb⟩⟩
    | ret =>
      obtain ⟨hk, hx⟩ := hp
      obtain ⟨hend, c1, d1, d2, hkb⟩ := fin (some .ret) W3 hk
      exact ⟨_, _, hend, .inr ⟨rfl, ⟨.ret, hSp _ _ _ _ _ hx (by omega) c1 rfl, by rw [hlp]; exact d1, d2⟩, hkb⟩⟩
    | exit id =>
      obtain ⟨hk, hx⟩ := hp
      obtain ⟨hend, c1, d1, d2, hkb⟩ := fin (some (.exit id)) W3 hk
      exact ⟨_, _, hend, .inr ⟨rfl, ⟨.exit id, hSp _ _ _ _ _ hx (by omega) c1 rfl, by rw [hlp]; exact d1, d2⟩, hkb⟩⟩
    | goto t => exact hp.elim
    | panic ch => exact hp.elim
    | outgrown => exact hp.elim
  · rintro e W2 ⟨⟨v, rfl⟩, ⟨hDN, hB⟩ | ⟨c, hc, hl, hd⟩⟩
    · have hend := run_endLoop (P := P) hB.1 (by rw [hlp]; simp)
      rw [hlp] at hend
      exact ⟨none, _, hend, hdone _ _ (Nat.le_refl _) (hDp _ _ _ _ _ hDN (by omega) hB.1 rfl) ((World.putObj_heap_other (by omega)).trans hB.2)⟩
    · have hend := run_endLoop (P := P) hl (by rw [hlp]; simp)
      rw [hlp] at hend
      exact ⟨some c, _, hend, hstop _ c _ (Nat.le_refl _) (hSp _ _ _ _ _ hc (by omega) hl rfl) ((World.putObj_heap_other (by omega)).trans hd)⟩
end
end Go.Proofs.Ytnbhiamnoapmlaa

namespace Go.Proofs.Ytnbhiamnoapmlaa
open Go.RowKit

section
variable {F : Fence} {n : Nat} {P : Program} {g : Operand} {ps : Array Tmp} {assign body : Code} {Q : Exit → Act → World → Prop} {a : Act} {w : World}
theorem range_stopb {α : Type} (hro : F.round = none) (h1 : 1 ≤ n) {gf : Nat} {lb : Array Value} (hg : a.eval g = .func (.func gf) #[] lb) (hFg : F.fn gf) (eg : ∀ args w, (callFunc gf args).run P w = .ok (.enter gf args) w)
    (enc : α → Array Value) (hps : ∀ x, (enc x).size = ps.size) (Rd : Nat → α → World → Prop) (Fx : Nat → α → Nat → World → Prop) (Dn : Nat → World → Prop) (Sx : Code → World → Prop) (Kp : World → World → Prop) (N : Nat)
    (hFp : ∀ j x q W l o o', Fx j x q W → w.heap.size ≤ l → W.heap[l]? = some o → o.isCells = false → Fx j x q (W.putObj l o'))
    (hDp : ∀ j W l o o', Dn j W → w.heap.size ≤ l → W.heap[l]? = some o → o.isCells = false → Dn j (W.putObj l o'))
    (hSp : ∀ c W l o o', Sx c W → w.heap.size ≤ l → W.heap[l]? = some o → o.isCells = false → Sx c (W.putObj l o'))
    (hKt : ∀ A B C, Kp A B → Kp B C → Kp A C)
    (hKp : ∀ W l o o', w.heap.size ≤ l → W.heap[l]? = some o → o.isCells = false → Kp W (W.putObj l o'))
    (hD0 : ∀ o, Dn 0 ((w.alloc (.deferred (some []))).alloc o))
    (hround : ∀ (l j : Nat) (x : α) (W : World) (K : Act → World → Prop), Rd j x W → j < N →
      (∀ b q W', Fx j x q W' → KeepsFrom w.heap.size W W' → Kp W W' → (∀ l V, w.heap.size ≤ l → Fx j x q V → body.wpIn (F.inRound l) (n - 1 - 1) P (stopPost w.heap.size Kp (Dn (j + 1)) Sx V) b V) → K b W') →
      assign.wpIn (F.inRound l) (n - 1 - 1) P (Exit.then K (fun _ _ _ => False)) { tmps := (ps.zip (enc x)).foldl (fun t (p, v) => t.setIfInBounds p v) a.tmps, defers := [] } W)
    (hiter : ∀ (Bk : World → Prop) (X : World → Prop) (l : Nat) (W : World), (∀ A B, Bk A → A.heap.size ≤ B.heap.size → (∀ k, w.heap.size ≤ k → k < w.heap.size + 2 → B.heap[k]? = A.heap[k]?) → Bk B) → (∀ A, Bk A → w.heap.size + 2 ≤ A.heap.size) →
      (∀ A l' o o', X A → w.heap.size + 2 ≤ l' → A.heap[l']? = some o → o.isCells = false → X (A.putObj l' o')) → l < w.heap.size + 2 → Dn 0 W → Bk W →
      (∀ j x W1, Rd j x W1 → Bk W1 → j < N → YieldAt F (n - 1 - 1) P l (enc x) W1 (YPost w.heap.size l Kp (fun W2 => Dn (j + 1) W2 ∧ Bk W2) X W1)) →
      CallsIn F (n - 1) P gf (#[.func (.yield l) #[] #[]] ++ lb) W fun e W' => (∃ v, e = .returned v) ∧ ((Dn N W' ∧ Bk W') ∨ X W'))
    (hdone : ∀ (D : Nat) (W : World), w.heap.size ≤ D → Dn N W → W.heap[D]? = some (.deferred (some [])) → Q .normal { a with defers := { target := .collected D, args := #[] } :: a.defers } W)
    (hstop : ∀ (D : Nat) (c : Code) (W : World), w.heap.size ≤ D → Sx c W → W.heap[D]? = some (.deferred (some [])) → c.wpIn F n P Q { a with defers := { target := .collected D, args := #[] } :: a.defers } W) :
    (Code.rangeFunc g ps assign body).wpIn F n P Q a w :=
  range_stopa hro h1 hg hFg eg enc hps Rd
    (fun j x b W => ∃ q, Fx j x q W ∧ ∀ l V, w.heap.size ≤ l → Fx j x q V → body.wpIn (F.inRound l) (n - 1 - 1) P (stopPost w.heap.size Kp (Dn (j + 1)) Sx V) b V) Dn Sx Kp N
    (fun j x _ W l o o' h hl ho hc => by
      obtain ⟨q, h1, h2⟩ := h
      exact ⟨q, hFp j x q W l o o' h1 hl ho hc, h2⟩)
    hDp hSp hKt hKp hD0
    (fun l j x W K hr hj hK => hround l j x W K hr hj fun b q W' h1 h2 h3 h4 => hK b W' ⟨q, h1, h4⟩ h2 h3)
    (fun l _ _ _ W hl h _ => by
      obtain ⟨q, h1, h2⟩ := h
      exact h2 l W hl h1)
    hiter hdone hstop
end
end Go.Proofs.Ytnbhiamnoapmlaa

namespace Go.Proofs.Ytnbhiamnoapmlaa
open Go.RowKit Go.Shelf
set_option maxRecDepth 100000
attribute [local go_sem] Oper.semAt_some

/-- the first of a name -/
def fnd (L : List Fd) (nm : ByteArray) : Option Fd := L.find? fun f => decide (f.nm = nm)
theorem FD_all (k : Int) : ∀ f ∈ FD k, (f.si = 1 ∨ f.si = 2) ∧ f.nm ≠ ⟨#[]⟩ := by
  rcases kind_ways k with rfl | rfl | rfl | rfl | rfl | ⟨h1, h2, h3, h4, h5⟩
  case' inr.inr.inr.inr.inr => rw [show FD k = [] by simp [FD, raw, h1, h2, h3, h4, h5, pls]]
  all_goals simp [FD, raw, pls]
theorem FDv_two (k : Int) : FDv k 2 = FD k := List.filter_eq_self.2 fun f hf => by
  have := (FD_all k f hf).1
  simp
  omega
theorem fnd_at {L : List Fd} {nm : ByteArray} {j : Nat} {f : Fd} (hj : L[j]? = some f) (h : f.nm = nm) (hn : ∀ g ∈ L.take j, g.nm ≠ nm) : fnd L nm = some f := by
  unfold fnd
  rw [List.find?_eq_some_iff_append]
  have hi := (List.getElem?_eq_some_iff.1 hj).1
  refine ⟨by simpa using h, L.take j, L.drop (j + 1), ?_, fun g hg => by simpa using hn g hg⟩
  conv => lhs; rw [← List.take_append_drop j L, List.drop_eq_getElem_cons hi]
  rw [(List.getElem?_eq_some_iff.1 hj).2]
theorem fnd_none {L : List Fd} {nm : ByteArray} (hn : ∀ g ∈ L, g.nm ≠ nm) : fnd L nm = none := by
  unfold fnd
  rw [List.find?_eq_none]
  intro g hg
  simpa using hn g hg
theorem seven_set {V : World} {b : Nat} {T : TypeId} (f : Fd) {f0 : Fd} (h : V.heap[b]? = some (.cells f0.cs T (0, 0))) :
    (((((((V.setCell ⟨b, 0, none⟩ (.string f.nm)).setCell ⟨b, 1, none⟩ (.int .i64 f.so)).setCell ⟨b, 2, none⟩ (.int .i64 f.pl)).setCell ⟨b, 3, none⟩ (.int .i64 f.le)).setCell ⟨b, 4, none⟩ (.int .i64 f.mo)).setCell ⟨b, 5, none⟩ (.int .i64 f.si)).setCell ⟨b, 6, none⟩ (.int .i64 f.ab)).heap[b]? = some (.cells f.cs T (0, 0)) := by
  rw [setCell_at (setCell_at (setCell_at (setCell_at (setCell_at (setCell_at (setCell_at h))))))]
  simp [Fd.cs]
theorem seven_off {V W : World} {b : Nat} {u0 u1 u2 u3 u4 u5 u6 : Value} (h : Off (fun q => q = b) V W) :
    Off (fun q => q = b) V (((((((W.setCell ⟨b, 0, none⟩ u0).setCell ⟨b, 1, none⟩ u1).setCell ⟨b, 2, none⟩ u2).setCell ⟨b, 3, none⟩ u3).setCell ⟨b, 4, none⟩ u4).setCell ⟨b, 5, none⟩ u5).setCell ⟨b, 6, none⟩ u6) :=
  ((((((h.setCell (p := ⟨b, 0, none⟩) rfl u0).setCell (p := ⟨b, 1, none⟩) rfl u1).setCell (p := ⟨b, 2, none⟩) rfl u2).setCell (p := ⟨b, 3, none⟩) rfl u3).setCell (p := ⟨b, 4, none⟩) rfl u4).setCell (p := ⟨b, 5, none⟩) rfl u5).setCell (p := ⟨b, 6, none⟩) rfl u6
theorem keepsFrom_off {V W : World} {b s : Nat} (h : Off (fun q => q = b) V W) (hb : b < s) : KeepsFrom s V W :=
  ⟨h.size, fun q o hq ho _ => (h.block q (Array.getElem?_eq_some_iff.1 ho).1 (by intro e; omega)).trans ho⟩
/-- what Find answers -/
def finR (o : Option Fd) : Value := .tuple #[(o.getD Fd.zero).v, .bool o.isSome]

set_option maxHeartbeats 4000000 in
theorem ffind_any (k : Int) (nm : ByteArray) (w : World) : Calls Try.prog 42 #[.int .i64 k, .string nm] w fun e w' => e = .returned (finR (fnd (FD k) nm)) ∧ Below w.heap.size w w' := by
  obtain ⟨w3, hw3⟩ : ∃ w3, w3 = ((w.alloc (.cells #[.string nm] 9)).alloc (.cells Fd.zero.cs 65)).alloc (.cells Fd.zero.cs 65) := ⟨_, rfl⟩
  have hs3 : w3.heap.size = w.heap.size + 3 := by rw [hw3]; simp
  have hb3 : Below w.heap.size w w3 := by rw [hw3]; exact (((Below.refl _ w).alloc (Nat.le_refl _) _).alloc (by simp) _).alloc (by simp; omega) _
  have p0 : w3.heap[w.heap.size]? = some (.cells #[.string nm] 9 (0, 0)) := by
    rw [hw3, Below.heap_alloc _ _ _ (by simp; omega), Below.heap_alloc _ _ _ (by simp)]; exact World.alloc_heap_new _ _
  have p1 : w3.heap[w.heap.size + 1]? = some (.cells Fd.zero.cs 65 (0, 0)) := by
    rw [hw3, Below.heap_alloc _ _ _ (by simp)]
    have := World.alloc_heap_new (w.alloc (.cells #[.string nm] 9)) (.cells Fd.zero.cs 65)
    rwa [World.size_alloc] at this
  have p2 : w3.heap[w.heap.size + 1 + 1]? = some (.cells Fd.zero.cs 65 (0, 0)) := by
    rw [hw3]
    have := World.alloc_heap_new ((w.alloc (.cells #[.string nm] 9)).alloc (.cells Fd.zero.cs 65)) (.cells Fd.zero.cs 65)
    rwa [World.size_alloc, World.size_alloc] at this
  have HW := Lib.hid hw3
  clear hw3
  obtain ⟨R, hR⟩ : ∃ R, fnd (FD k) nm = R := ⟨_, rfl⟩
  rw [hR]
  have HR := Lib.hid hR
  clear hR
  refine (callsIn_wide (n := 9)).1 ?_
  refine callsIn_of_wp_marks Try.func42 rfl trivial ?_ rfl
  simp only [Try.ntmps42, List.size_toArray, List.length_cons, List.length_nil, Nat.reduceAdd, Nat.reduceSub, Array.replicate_succ, Array.replicate_zero, List.push_toArray, List.append_toArray, List.nil_append, List.cons_append]
  gi_wp2_with fail
  refine wpIn_wide.2 (wp_scope_straight ((wpIn_wide (n := 9)).1 ?_))
  gi_wp2_with fail
  apply wpIn_label
  gi_wp2_with fail
  refine ⟨trivial, ?_⟩
  unfold Fd.cs Fd.zero at HW
  rw [← HW.out]
  refine (callsIn_wide.2 (fall_any k 2 w3)).mono ?_
  rintro e w4 ⟨rfl, hg0, hg1, hb4⟩
  clear HW
  rw [hs3] at hg0 hg1
  have hs4 := (Array.getElem?_eq_some_iff.1 hg1).1
  have q0 := (hb4.block _ (by omega)).trans p0
  have q1 := (hb4.block _ (by omega)).trans p1
  have q2 := (hb4.block _ (by omega)).trans p2
  have hb04 := hb3.trans (hb4.mono (by omega))
  clear p0 p1 p2 hb4 hb3
  obtain ⟨L, hL⟩ : ∃ L, FD k = L := ⟨_, rfl⟩
  have HL := Lib.hid hL
  rw [hL] at HR
  have hNE := Lib.hid (FD_all k)
  rw [hL] at hNE
  have HF2 := Lib.hid (FDv_two k)
  rw [hL] at HF2
  clear hL
  gi_wp2_with fail
  refine range_stopb rfl (by omega) (gf := 39) (lb := #[.pointer (some ⟨w.heap.size + 3, 0, none⟩), .pointer (some ⟨w.heap.size + 3 + 1, 0, none⟩)]) rfl trivial (enters_of Try.func39 (by kernel_rfl) rfl)
    (fun f : Fd => #[f.v]) (fun _ => rfl)
    (fun j f V => L[j]? = some f ∧ (∀ g ∈ L.take j, g.nm ≠ nm) ∧ Below w4.heap.size w4 V)
    (fun j f q V => (L[j]? = some f ∧ (∀ g ∈ L.take j, g.nm ≠ nm) ∧ Below w4.heap.size w4 V) ∧ w4.heap.size ≤ q ∧ V.heap[q]? = some (.cells f.cs 65 (0, 0)))
    (fun j V => (∀ g ∈ L.take j, g.nm ≠ nm) ∧ Below w4.heap.size w4 V)
    (fun cd V => cd = .exit 0 ∧ ∃ (j : Nat) (f : Fd), L[j]? = some f ∧ f.nm = nm ∧ (∀ g ∈ L.take j, g.nm ≠ nm) ∧ V.heap[w.heap.size + 1 + 1]? = some (.cells f.cs 65 (0, 0)) ∧ Off (fun q => q = w.heap.size + 1 + 1) w4 V)
    (KeT 65 3 (w.heap.size + 3)) L.length
    (fun j f q V l o o' h hl ho hc' => ⟨⟨h.1.1, h.1.2.1, h.1.2.2.trans (below_put V o' hl)⟩, h.2.1, (World.putObj_heap_other (fun e => by subst e; rw [h.2.2] at ho; injection ho with ho; subst ho; cases hc')).trans h.2.2⟩)
    (fun j V l o o' h hl ho hc' => ⟨h.1, h.2.trans (below_put V o' hl)⟩)
    (fun cd V l o o' h hl ho hc' => by
      obtain ⟨h1, j, f, h2, h3, h4, h5, h6⟩ := h
      exact ⟨h1, j, f, h2, h3, h4, (World.putObj_heap_other (by omega)).trans h5, off_below h6 (below_put V o' hl)⟩)
    (fun _ _ _ h k => h.trans k) (fun V l o o' hl ho hc' => KeT.putObj ho hc')
    (fun o => ⟨fun g hg => by simp at hg, ((Below.refl w4.heap.size w4).alloc (Nat.le_refl _) _).alloc (by simp) _⟩) ?round ?iter ?done ?stop
  case round =>
    rintro l j f V K ⟨hf, hn, hbV⟩ hj hK
    have HK := Lib.hid hK
    clear hK
    unfold Fd.v Fd.cs
    gi_wp2_with fail
    refine HK.out _ V.heap.size _ ⟨⟨hf, hn, hbV.alloc hbV.size _⟩, hbV.size, World.alloc_heap_new _ _⟩ ⟨by simp, fun q o _ ho _ => (Below.heap_alloc _ _ _ (Array.getElem?_eq_some_iff.1 ho).1).trans ho⟩ (KeT.of_below ((Below.refl _ V).alloc (Nat.le_refl _) _)) ?_
    clear HK hbV
    rintro l V2 hl ⟨⟨_, _, hbV⟩, hq, hc⟩
    obtain ⟨d0, d1, d2, d3, d4, d5, d6⟩ := fd_block hc
    have bX : V2.cell? ⟨w.heap.size, 0, none⟩ = some (.string nm) := (hbV.cell (p := ⟨w.heap.size, 0, none⟩) (by show w.heap.size < _; omega)).trans (by simp [World.cell?, q0])
    by_cases h : f.nm = nm
    · obtain ⟨e0, e1, e2, e3, e4, e5, e6⟩ := fd_block (f := Fd.zero) ((hbV.block _ (by omega)).trans q2)
      have fz := fun j => frozen_of_row V2 (w.heap.size + 1 + 1) j _ _ ((hbV.block _ (by omega)).trans q2)
      have z0 := fz 0; have z1 := fz 1; have z2 := fz 2; have z3 := fz 3; have z4 := fz 4; have z5 := fz 5; have z6 := fz 6
      have HH := Lib.hid h
      rw [h] at d0
      clear fz h
      have hW := (hbV.block _ (by omega)).trans q2
      gi_wp2
      rw [← HH.out]
      exact ⟨keepsFrom_off (seven_off (Off.refl _ _)) (by omega), rfl, j, f, hf, rfl, HH.out.symm ▸ hn, seven_set f hW, seven_off (off_below (Off.refl _ _) hbV)⟩
    · have hne := str_ne h
      have hfin := Lib.hid (show _ ∧ _ ∧ _ from ⟨(⟨Nat.le_refl _, fun _ _ _ ho _ => ho⟩ : KeepsFrom w4.heap.size V2 V2), (fun g hg => by
          rw [List.take_add_one, hf, List.mem_append] at hg
          rcases hg with hg | hg
          · exact hn g hg
          · simp at hg; subst hg; exact h : ∀ g ∈ L.take (j + 1), g.nm ≠ nm), hbV⟩)
      clear hn hbV hf
      gi_wp2
      exact ⟨hfin.out.1, hfin.out.2, KeT.refl _⟩
  case iter =>
    intro Bk X l V hBk hBlt hX hl hD hB hY
    have h := fall_in 8 (by omega) 7 l (w.heap.size + 3) k 2 (fun j V => ((∀ g ∈ L.take j, g.nm ≠ nm) ∧ Below w4.heap.size w4 V) ∧ Bk V) X
      (fun j A B h hb => ⟨⟨h.1.1, h.1.2.trans (hb.mono h.1.2.size)⟩, hBk A _ h.2 hb.size (fun q h1 h2 => by have := hBlt A h.2; exact hb.block q (by omega))⟩)
      (fun j f W h hf => by
        rw [HF2.out] at hf
        exact (hY j f W ⟨hf, h.1⟩ h.2 (List.getElem?_eq_some_iff.1 hf).1).mono (fun e W2 h => h.elim (fun h => .inl ⟨h.1, h.2.1, h.2.2.1⟩) (fun h => .inr ⟨h.1, h.2.1⟩)))
      V ((hD.2.block _ (by omega)).trans hg0) ((hD.2.block _ (by omega)).trans hg1) ⟨hD, hB⟩
    rw [HF2.out] at h
    exact h
  case done =>
    rintro D V hD ⟨hn, hbV⟩ hK
    rw [List.take_length] at hn
    have h0 : R = none := by rw [← HR.out]; exact fnd_none hn
    subst h0
    obtain ⟨d0, d1, d2, d3, d4, d5, d6⟩ := fd_block (f := Fd.zero) ((hbV.block _ (by omega)).trans q2)
    obtain ⟨e0, e1, e2, e3, e4, e5, e6⟩ := fd_block (f := Fd.zero) ((hbV.block _ (by omega)).trans q1)
    have fz := fun j => frozen_of_row V (w.heap.size + 1) j _ _ ((hbV.block _ (by omega)).trans q1)
    have z0 := fz 0; have z1 := fz 1; have z2 := fz 2; have z3 := fz 3; have z4 := fz 4; have z5 := fz 5; have z6 := fz 6
    clear fz
    have hset := seven_set Fd.zero ((hbV.block _ (by omega)).trans q1)
    have hoff : Off (fun q => q = w.heap.size + 1) V _ := seven_off (V := V) (W := V) (b := w.heap.size + 1) (u0 := .string Fd.zero.nm) (u1 := .int .i64 Fd.zero.so) (u2 := .int .i64 Fd.zero.pl) (u3 := .int .i64 Fd.zero.le) (u4 := .int .i64 Fd.zero.mo) (u5 := .int .i64 Fd.zero.si) (u6 := .int .i64 Fd.zero.ab) (Off.refl _ _)
    simp only [Fd.zero] at d0 d1 d2 d3 d4 d5 d6 e0 e1 e2 e3 e4 e5 e6 hset hoff
    gi_wp2_with fail
    refine wpIn_wide.2 ?_
    go_region
    generalize World.setCell _ ⟨w.heap.size + 1, 6, none⟩ _ = W5 at *
    have HB := Lib.hid (hb04.trans ((hbV.mono hb04.size).trans (hoff.below (B := w.heap.size) (fun k hk => by omega) (by have := hbV.size; omega))))
    have hK5 : W5.drew.heap[D]? = some (.deferred (some [])) := (hoff.block D (Array.getElem?_eq_some_iff.1 hK).1 (by omega)).trans hK
    obtain ⟨y0, y1, y2, y3, y4, y5, y6⟩ := fd_block (w := W5.drew.putObj D (.deferred none)) (f := Fd.zero) ((World.putObj_heap_other (by omega)).trans hset)
    clear d0 d1 d2 d3 d4 d5 d6 e0 e1 e2 e3 e4 e5 e6 z0 z1 z2 z3 z4 z5 z6 hset hoff hbV q0 q1 q2
    gi_wp2
    simp only [Exit.noGoto]
    refine ⟨by simp, .inl ⟨_, _, rfl, run_takeDeferred hK5, ?_⟩⟩
    refine ⟨_, ?_, rfl, HB.out.drew.trans (below_put _ _ (by omega))⟩
    simp [results, Try.f42, go_sem, finR, Fd.v, Fd.cs, y0, y1, y2, y3, y4, y5, y6]
  case stop =>
    rintro D cd V hD ⟨rfl, j, f, hf, hx, hn, hV, hO⟩ hK
    have h0 : R = some f := by rw [← HR.out]; exact fnd_at hf hx hn
    subst h0
    clear hx
    have hne := str_nil (hNE.out f (List.mem_of_getElem? hf)).2
    have q1V := (hO.block _ (by omega) (by omega)).trans q1
    obtain ⟨d0, d1, d2, d3, d4, d5, d6⟩ := fd_block hV
    obtain ⟨e0, e1, e2, e3, e4, e5, e6⟩ := fd_block (f := Fd.zero) q1V
    have fz := fun j => frozen_of_row V (w.heap.size + 1) j _ _ q1V
    have z0 := fz 0; have z1 := fz 1; have z2 := fz 2; have z3 := fz 3; have z4 := fz 4; have z5 := fz 5; have z6 := fz 6
    clear fz
    have hset := seven_set f q1V
    have hoff : Off (fun q => q = w.heap.size + 1) V _ := seven_off (V := V) (W := V) (b := w.heap.size + 1) (u0 := .string f.nm) (u1 := .int .i64 f.so) (u2 := .int .i64 f.pl) (u3 := .int .i64 f.le) (u4 := .int .i64 f.mo) (u5 := .int .i64 f.si) (u6 := .int .i64 f.ab) (Off.refl _ _)
    gi_wp2_with fail
    refine wpIn_wide.2 ?_
    go_region
    generalize World.setCell _ ⟨w.heap.size + 1, 6, none⟩ _ = W5 at *
    have hbV : Below w.heap.size w4 V := hO.below (fun k hk => by omega) (by have := hb04.size; omega)
    have HB := Lib.hid (hb04.trans (hbV.trans (hoff.below (B := w.heap.size) (fun k hk => by omega) (by have := hbV.size; have := hb04.size; omega))))
    have hK5 : W5.drew.heap[D]? = some (.deferred (some [])) := (hoff.block D (Array.getElem?_eq_some_iff.1 hK).1 (by omega)).trans hK
    obtain ⟨y0, y1, y2, y3, y4, y5, y6⟩ := fd_block (w := W5.drew.putObj D (.deferred none)) (f := f) ((World.putObj_heap_other (by omega)).trans hset)
    clear d0 d1 d2 d3 d4 d5 d6 e0 e1 e2 e3 e4 e5 e6 z0 z1 z2 z3 z4 z5 z6 hset hoff hbV q0 q1 q2
    gi_wp2
    simp only [Exit.noGoto]
    refine ⟨by simp, .inl ⟨_, _, rfl, run_takeDeferred hK5, ?_⟩⟩
    refine ⟨_, ?_, rfl, HB.out.drew.trans (below_put _ _ (by omega))⟩
    simp [results, Try.f42, go_sem, finR, Fd.v, Fd.cs, y0, y1, y2, y3, y4, y5, y6]
end Go.Proofs.Ytnbhiamnoapmlaa

namespace Go.Proofs.Ytnbhiamnoapmlaa
open Go.RowKit
set_option maxRecDepth 100000

/-- what each field of a kind is -/
structure FdOk (f : Fd) : Prop where
  so : 1 ≤ f.so ∧ f.so ≤ 6
  pl : f.so < 3 → ∃ j : Nat, j < 6 ∧ f.pl = (j : Int)
  no : ¬ f.so < 3 → f.pl = -1
  si : f.si = 1 ∨ f.si = 2
  nm : f.nm ≠ ⟨#[]⟩
  mo : (f.so = 3 → f.mo = 16) ∧ (f.so = 4 → f.mo = 32) ∧ (f.so = 5 → f.mo = 64) ∧ (f.so = 6 → f.mo = 16)
  le : -1000000 ≤ f.le ∧ f.le ≤ 1000000 ∧ -1000000 ≤ f.mo ∧ f.mo ≤ 1000000 ∧ -1000000 ≤ f.ab ∧ f.ab ≤ 1000000
theorem FD_fdok (k : Int) : ∀ f ∈ FD k, FdOk f := by
  have hall : ∀ L : List Fd, (L.all fun f => decide (1 ≤ f.so ∧ f.so ≤ 6) && (if f.so < 3 then decide (0 ≤ f.pl ∧ f.pl < 6) else decide (f.pl = -1)) && decide (f.si = 1 ∨ f.si = 2) && !decide (f.nm = ⟨#[]⟩) &&
      decide ((f.so = 3 → f.mo = 16) ∧ (f.so = 4 → f.mo = 32) ∧ (f.so = 5 → f.mo = 64) ∧ (f.so = 6 → f.mo = 16)) && decide (-1000000 ≤ f.le ∧ f.le ≤ 1000000 ∧ -1000000 ≤ f.mo ∧ f.mo ≤ 1000000 ∧ -1000000 ≤ f.ab ∧ f.ab ≤ 1000000)) = true → ∀ f ∈ L, FdOk f := by
    intro L h f hf
    rw [List.all_eq_true] at h
    have h1 := h f hf
    simp only [Bool.and_eq_true, decide_eq_true_eq, Bool.not_eq_true', decide_eq_false_iff_not] at h1
    obtain ⟨⟨⟨⟨⟨h1, h2⟩, h3⟩, h4⟩, h5⟩, h6⟩ := h1
    refine ⟨h1, fun h => ?_, fun h => ?_, h3, h4, h5, h6⟩
    · rw [if_pos h] at h2
      have h2 : 0 ≤ f.pl ∧ f.pl < 6 := by simpa using h2
      exact ⟨f.pl.toNat, by omega, by omega⟩
    · rw [if_neg h] at h2
      simpa using h2
  rcases kind_ways k with rfl | rfl | rfl | rfl | rfl | ⟨h1, h2, h3, h4, h5⟩
  case' inr.inr.inr.inr.inr => rw [show FD k = [] by simp [FD, raw, h1, h2, h3, h4, h5, pls]]
  all_goals exact hall _ (by decide)
/-- fields that don't touch one another -/
def Apt (f g : Fd) : Prop := f.so ≠ g.so ∧ (f.so < 3 → g.so < 3 → f.pl.toNat ≠ g.pl.toNat) ∨ (f.so < 3 ∧ g.so < 3 ∧ f.pl.toNat ≠ g.pl.toNat)
instance aptDec (f g : Fd) : Decidable (Apt f g) := by unfold Apt; infer_instance
theorem FD_apt (k : Int) : (FD k).Pairwise Apt := by
  rcases kind_ways k with rfl | rfl | rfl | rfl | rfl | ⟨h1, h2, h3, h4, h5⟩
  case' inr.inr.inr.inr.inr => rw [show FD k = [] by simp [FD, raw, h1, h2, h3, h4, h5, pls]]
  all_goals decide
theorem fE_apt {f g : Fd} (h : Apt f g) (M : Mg) (hf : FdOk f) (hg : FdOk g) : fE (strip M f) g = fE M g := by
  have h1 := hf.so
  have h2 := hg.so
  refine fE_strip ?_ ?_ M hf.so hg.so
  · rcases h with h | h
    · exact .inl h.1
    · exact .inr ⟨by omega, by omega, by omega, by omega, h.2.2⟩
  · intro a b
    rcases h with h | h
    · exact h.2 a b
    · exact h.2.2
theorem strip_k (M : Mg) (f : Fd) : (strip M f).k = M.k := by
  unfold strip
  repeat' split
  all_goals first | rfl | exact Mg.put_k ..
theorem fold_strip_k : ∀ (L : List Fd) (M : Mg), (L.foldl strip M).k = M.k
  | [], _ => rfl
  | f :: r, M => by rw [List.foldl_cons, fold_strip_k r, strip_k]
theorem fE_fold : ∀ (L : List Fd) (f : Fd) (M : Mg), (∀ g ∈ L, Apt g f ∧ FdOk g) → FdOk f → fE (L.foldl strip M) f = fE M f
  | [], _, _, _, _ => rfl
  | g :: r, f, M, h, hf => by
    rw [List.foldl_cons, fE_fold r f (strip M g) (fun x hx => h x (List.mem_cons_of_mem _ hx)) hf]
    exact fE_apt (h g (List.mem_cons_self ..)).1 M (h g (List.mem_cons_self ..)).2 hf
/-- at the j-th, behind all ahead of it -/
theorem fE_at {k : Int} {j : Nat} {f : Fd} (hj : (FD k)[j]? = some f) (M : Mg) : fE (((FD k).take j).foldl strip M) f = fE M f := by
  refine fE_fold _ f M (fun g hg => ⟨?_, FD_fdok k g (List.mem_of_mem_take hg)⟩) (FD_fdok k f (List.mem_of_getElem? hj))
  have hi := (List.getElem?_eq_some_iff.1 hj).1
  have h1 : FD k = (FD k).take j ++ f :: (FD k).drop (j + 1) := by
    conv => lhs; rw [← List.take_append_drop j (FD k), List.drop_eq_getElem_cons hi]
    rw [(List.getElem?_eq_some_iff.1 hj).2]
  have h2 := FD_apt k
  rw [h1, List.pairwise_append] at h2
  exact h2.2.2 g hg f (List.mem_cons_self ..)
theorem firstE_at : ∀ (L : List Fd) (M : Mg) (j : Nat) (f : Fd), L[j]? = some f → (∀ g ∈ L.take j, fE M g = 0) → fE M f ≠ 0 → firstE M L = fE M f
  | [], _, _, _, h, _, _ => by simp at h
  | g :: r, M, 0, f, h, _, hne => by
    simp only [List.getElem?_cons_zero, Option.some.injEq] at h
    subst h
    rw [firstE, if_pos hne]
  | g :: r, M, j + 1, f, h, h0, hne => by
    rw [List.take_succ_cons] at h0
    rw [firstE, if_neg (by simp [h0 g (List.mem_cons_self ..)])]
    exact firstE_at r M j f (by simpa using h) (fun x hx => h0 x (List.mem_cons_of_mem _ hx)) hne
theorem firstE_zero : ∀ (L : List Fd) (M : Mg), (∀ g ∈ L, fE M g = 0) ↔ firstE M L = 0
  | [], _ => by simp [firstE]
  | g :: r, M => by
    rw [firstE]
    have := firstE_zero r M
    by_cases h : fE M g = 0
    · simp [h, this]
    · simp [h]
theorem take_zero {L : List Fd} {M : Mg} {j : Nat} {f : Fd} (hj : L[j]? = some f) (h : ∀ g ∈ L.take j, fE M g = 0) (hf : fE M f = 0) : ∀ g ∈ L.take (j + 1), fE M g = 0 := fun g hg => by
  rw [List.take_add_one, hj, List.mem_append] at hg
  rcases hg with hg | hg
  · exact h g hg
  · simp at hg; subst hg; exact hf
theorem fold_take {L : List Fd} {j : Nat} {f : Fd} (hj : L[j]? = some f) {α : Type} (s : α → Fd → α) (a : α) : (L.take (j + 1)).foldl s a = s ((L.take j).foldl s a) f := by
  rw [List.take_add_one, hj, List.foldl_append]
  rfl

/-! ### the document's words for what is left -/
/-- is a place a number's? -/
def isN (L : List Fd) (i : Nat) : Bool := L.any fun f => decide (f.so < 3) && decide (f.pl.toNat = i)
def isS (L : List Fd) (s : Int) : Bool := L.any fun f => decide (f.so = s)
theorem rest_iff (M : Mg) : ((FD M.k).foldl strip M = Mg.zero M.k) ↔ ((∀ i : Nat, i < 6 → isN (FD M.k) i = false → M.at' i = 0) ∧ (isS (FD M.k) 3 = false → M.p = []) ∧ (isS (FD M.k) 4 = false → M.c = []) ∧ (isS (FD M.k) 5 = false → M.tx = ⟨#[]⟩) ∧ (isS (FD M.k) 6 = false → M.tg = ⟨#[]⟩)) := by
  have h6 : ∀ P : Nat → Prop, (∀ i : Nat, i < 6 → P i) ↔ (P 0 ∧ P 1 ∧ P 2 ∧ P 3 ∧ P 4 ∧ P 5) := fun P => ⟨fun h => ⟨h 0 (by omega), h 1 (by omega), h 2 (by omega), h 3 (by omega), h 4 (by omega), h 5 (by omega)⟩, fun ⟨a, b, c, d, e, f⟩ i hi => by
    rcases i with _ | _ | _ | _ | _ | _ | i <;> first | assumption | omega⟩
  rw [h6, ← Mg.ext_iff']
  obtain ⟨k, n0, n1, n2, n3, n4, n5, p, c, tx, tg⟩ := M
  simp only
  rcases kind_ways k with rfl | rfl | rfl | rfl | rfl | ⟨h1, h2, h3, h4, h5⟩
  case' inr.inr.inr.inr.inr => rw [show FD k = [] by simp [FD, raw, h1, h2, h3, h4, h5, pls]]
  all_goals simp [FD, raw, pls, isN, isS, strip, Mg.put, Mg.zero, Mg.at', and_assoc]

/-! ### projected, new -/
theorem prj_k (M : Mg) (f : Fd) : (prj M f).k = M.k := by
  unfold prj
  repeat' split
  all_goals first | rfl | exact Mg.put_k ..
theorem fold_prj_k : ∀ (L : List Fd) (M : Mg), (L.foldl prj M).k = M.k
  | [], _ => rfl
  | f :: r, M => by rw [List.foldl_cons, fold_prj_k r, prj_k]
theorem mproj_k (M : Mg) (v : Int) : (mproj M v).k = M.k := by
  unfold mproj
  split
  · exact fold_prj_k ..
  · rfl
theorem mproj_twice (M : Mg) (v : Int) : mproj (mproj M v) v = mproj M v := by
  unfold mproj
  by_cases h : v = 1
  · rw [if_pos h, if_pos h, fold_prj_k]
    obtain ⟨k, n0, n1, n2, n3, n4, n5, p, c, tx, tg⟩ := M
    simp only
    rcases kind_ways k with rfl | rfl | rfl | rfl | rfl | ⟨h1, h2, h3, h4, h5⟩
    case' inr.inr.inr.inr.inr => rw [show FD k = [] by simp [FD, raw, h1, h2, h3, h4, h5, pls]]
    all_goals simp [FD, raw, pls, prj, Mg.put]
  · rw [if_neg h, if_neg h]
theorem mck_zero (M : Mg) : mck M = 0 ↔ FD M.k ≠ [] ∧ (∀ f ∈ FD M.k, fE M f = 0) ∧ (FD M.k).foldl strip M = Mg.zero M.k := by
  unfold mck
  rw [firstE_zero]
  by_cases h1 : FD M.k = []
  · simp [h1]
  · by_cases h2 : firstE M (FD M.k) = 0
    · by_cases h3 : (FD M.k).foldl strip M = Mg.zero M.k <;> simp [h1, h2, h3]
    · simp [h1, h2]
theorem mck_proj (M : Mg) (v : Int) (h : mck M = 0) : mck (mproj M v) = 0 := by
  unfold mproj
  by_cases hv : v = 1
  · rw [if_pos hv]
    rw [mck_zero, rest_iff] at h ⊢
    rw [fold_prj_k]
    obtain ⟨k, n0, n1, n2, n3, n4, n5, p, c, tx, tg⟩ := M
    simp only at h ⊢
    rcases kind_ways k with rfl | rfl | rfl | rfl | rfl | ⟨h1, h2, h3, h4, h5⟩
    case inr.inr.inr.inr.inr => exact absurd (show FD k = [] by simp [FD, raw, h1, h2, h3, h4, h5, pls]) h.1
    all_goals
      obtain ⟨h1, h2, h3⟩ := h
      refine ⟨h1, ?_, ?_⟩
      · simp [FD, raw, pls, fE, prj, Mg.put, Mg.at', wN, wT] at h2 ⊢
        have hz : ((ByteArray.mk #[]).size : Int) ≤ 16 := by decide
        simp [h2, hz]
      · have h6 : ∀ P : Nat → Prop, (∀ i : Nat, i < 6 → P i) ↔ (P 0 ∧ P 1 ∧ P 2 ∧ P 3 ∧ P 4 ∧ P 5) := fun P => ⟨fun h => ⟨h 0 (by omega), h 1 (by omega), h 2 (by omega), h 3 (by omega), h 4 (by omega), h 5 (by omega)⟩, fun ⟨a, b, c, d, e, f⟩ i hi => by
          rcases i with _ | _ | _ | _ | _ | _ | i <;> first | assumption | omega⟩
        rw [h6] at h3 ⊢
        simp [FD, raw, pls, isN, isS, prj, Mg.put, Mg.at'] at h3 ⊢
        try exact h3
  · rw [if_neg hv]
    exact h
/-! ### new ones -/
theorem mnew_k (k : Int) : (mnew k).k = if FD k = [] then 0 else k := by
  unfold mnew
  have key : ∀ (L : List Fd) (M : Mg), (L.foldl (nw k) M).k = if L = [] then M.k else k := by
    intro L
    induction L with
    | nil => intro M; rfl
    | cons f r ih =>
      intro M
      rw [List.foldl_cons, ih]
      by_cases h : r = []
      · subst h
        simp only [if_true, if_neg (List.cons_ne_nil f [])]
        unfold nw
        simp only
        repeat' split
        all_goals first | rfl | exact Mg.put_k ..
      · rw [if_neg h, if_neg (List.cons_ne_nil _ _)]
  rw [key]
  rfl
theorem mck_new (k : Int) : (mnew k).k = 0 ∨ mck (mnew k) = 0 := by
  rcases kind_ways k with rfl | rfl | rfl | rfl | rfl | ⟨h1, h2, h3, h4, h5⟩
  case inr.inr.inr.inr.inr =>
    left
    rw [mnew_k, if_pos (show FD k = [] by simp [FD, raw, h1, h2, h3, h4, h5, pls])]
  all_goals right; decide
theorem FD_few (k : Int) : (FD k).length ≤ 6 := by
  unfold FD
  rw [pls_len]
  exact raw_few k
theorem FD_nil (k : Int) : FD k = [] ↔ wd k = ⟨#[]⟩ := by
  rcases kind_ways k with rfl | rfl | rfl | rfl | rfl | ⟨h1, h2, h3, h4, h5⟩
  case inr.inr.inr.inr.inr => simp [FD, raw, wd, h1, h2, h3, h4, h5, pls]
  all_goals decide
theorem mproj_new (k v : Int) (h : 1 ≤ k ∧ k ≤ 5) : mproj (mnew k) v = mnew k := by
  unfold mproj
  by_cases hv : v = 1
  · rw [if_pos hv]
    have : k = 1 ∨ k = 2 ∨ k = 3 ∨ k = 4 ∨ k = 5 := by omega
    rcases this with rfl | rfl | rfl | rfl | rfl <;> decide
  · rw [if_neg hv]
/-- a number of a new message, set to any -/
theorem mck_set {k : Int} (h : 1 ≤ k ∧ k ≤ 5) {f : Fd} (hf : f ∈ FD k) {j : Nat} (hp : f.pl = (j : Int)) (v R : Int) (hR : R = if f.le ≤ v ∧ v ≤ f.mo then 0 else 5) : mck ((mnew k).put j v) = R := by
  have hk : k = 1 ∨ k = 2 ∨ k = 3 ∨ k = 4 ∨ k = 5 := by omega
  rcases hk with rfl | rfl | rfl | rfl | rfl
  all_goals
    simp [FD, raw, pls] at hf
    rcases hf with rfl | rfl | rfl | rfl | rfl | rfl
    all_goals
      dsimp only at hp
      rcases j with _ | _ | _ | _ | _ | _ | j
      all_goals first
        | (exfalso; omega)
        | skip
      all_goals
        clear hp
        have hz : ((ByteArray.mk #[]).size : Int) = 0 := rfl
        dsimp only at hR
        simp [mck, mnew, FD, raw, pls, firstE, fE, wN, wP, wS, wT, wC, cE, strip, Mg.put, Mg.at', Mg.zero, nw, startV, ptOk, hz]
        split at hR <;> split <;> omega
end Go.Proofs.Ytnbhiamnoapmlaa

namespace Go.Proofs.Ytnbhiamnoapmlaa
open Go.RowKit Go.Shelf
set_option maxRecDepth 100000
attribute [local go_sem] Oper.semAt_some

theorem wnum_any (n le mo : Int) (w : World) : Calls Try.prog 29 #[.int .i64 n, .int .i64 le, .int .i64 mo] w fun e w' => e = .returned (.int .i64 (wN n le mo)) ∧ w = w' := by
  by_cases h1 : n < le
  · rw [show wN n le mo = 5 from if_pos (.inl h1)]
    go_enter Try.func29, Try.ntmps29
    go_wp2
    go_ret
    exact ⟨rfl, rfl⟩
  · by_cases h2 : mo < n
    · rw [show wN n le mo = 5 from if_pos (.inr h2)]
      go_enter Try.func29, Try.ntmps29
      go_wp2
      go_ret
      exact ⟨rfl, rfl⟩
    · rw [show wN n le mo = 0 from if_neg (by omega)]
      go_enter Try.func29, Try.ntmps29
      go_wp2
      go_ret
      exact ⟨rfl, rfl⟩
theorem wsize_any (n mo : Int) (w : World) : Calls Try.prog 41 #[.int .i64 n, .int .i64 mo] w fun e w' => e = .returned (.int .i64 (wS n mo)) ∧ w = w' := by
  by_cases h1 : n = 0
  · subst h1
    rw [show wS 0 mo = 13 from rfl]
    go_enter Try.func41, Try.ntmps41
    go_wp2
    go_ret
    exact ⟨rfl, rfl⟩
  · have hb : (n == 0) = false := by simpa using h1
    by_cases h2 : mo < n
    · rw [show wS n mo = 6 by simp [wS, h1, h2]]
      go_enter Try.func41, Try.ntmps41
      go_wp2
      go_ret
      exact ⟨rfl, rfl⟩
    · rw [show wS n mo = 0 by simp [wS, h1, h2]]
      go_enter Try.func41, Try.ntmps41
      go_wp2
      go_ret
      exact ⟨rfl, rfl⟩
theorem byte_at (s : ByteArray) (j : Nat) (hj : j < s.size) : s.data.toList[j]? = some s[j] := by
  rw [Array.getElem?_toList]
  exact Array.getElem?_eq_getElem hj
set_option maxHeartbeats 2000000 in
theorem wtext_any (s : ByteArray) (mo : Int) (hs : s.size ≤ maxLen) (w : World) : Calls Try.prog 28 #[.string s, .int .i64 mo] w fun e w' => e = .returned (.int .i64 (wT s mo)) ∧ w = w' := by
  obtain ⟨n, hn⟩ : ∃ n, s.size = n := ⟨_, rfl⟩
  have hl : n ≤ 9223372036854775807 := by unfold maxLen at hs; omega
  clear hs
  by_cases h1 : mo < (n : Int)
  · rw [show wT s mo = 6 by unfold wT; rw [hn]; exact if_pos h1]
    go_enter Try.func28, Try.ntmps28
    go_wp2
    refine wp_scope_straight ?_
    go_wp2
    simp only [Exit.noGoto]
    go_ret
    exact ⟨rfl, rfl⟩
  · obtain ⟨R, hR⟩ : ∃ R, wT s mo = R := ⟨_, rfl⟩
    rw [hR]
    have HR := Lib.hid hR
    clear hR
    go_enter Try.func28, Try.ntmps28
    go_wp2
    refine wp_scope_straight ?_
    go_wp2
    refine wp_label ?_
    go_wp2
    go_loopw [5, 13] (fun x iv wr => ∃ j : Nat, j ≤ n ∧ x = .int .i64 0 ∧ iv = .int .i64 (j : Int) ∧ Hid (∀ b ∈ s.data.toList.take j, byOk b) ∧ wr = w) (fun _ iv _ => n - (intOf iv).toNat)
    case atStart => exact ⟨0, by omega, rfl, rfl, Lib.hid (by simp), rfl⟩
    case round =>
      obtain ⟨j, hj, rfl, rfl, HB, rfl⟩ := hrel
      rcases Nat.lt_or_ge j n with hlt | hge
      · have hg : s.data.toList[j]? = some (s[j]'(by omega)) := byte_at s j (by omega)
        by_cases hb : byOk (s[j]'(by omega))
        · have HB2 : Hid (∀ b ∈ s.data.toList.take (j + 1), byOk b) := Lib.hid (fun b hb2 => by
            rw [List.take_add_one, hg, List.mem_append] at hb2
            rcases hb2 with hb2 | hb2
            · exact HB.out b hb2
            · simp at hb2; subst hb2; exact hb)
          unfold byOk at hb
          clear hg
          go_wp2
          exact ⟨⟨j + 1, by omega, rfl, by go_num, HB2, trivial⟩, by simp only [intOf]; omega⟩
        · obtain rfl : R = 19 := by
            rw [← HR.out]
            unfold wT
            rw [hn, if_neg (by omega), if_neg (fun h => hb (h _ (List.mem_of_getElem? hg)))]
          unfold byOk at hb
          clear hg
          go_wp2
          all_goals
            try simp only [Exit.noGoto]
            go_ret
            exact ⟨rfl, rfl⟩
      · obtain rfl : j = n := by omega
        obtain rfl : R = 0 := by
          rw [← HR.out]
          unfold wT
          rw [hn, if_neg (by omega), if_pos]
          have h2 := HB.out
          rwa [List.take_of_length_le (by show s.data.toList.length ≤ j; rw [Array.length_toList]; exact Nat.le_of_eq hn)] at h2
        go_wp2
        simp only [Exit.noGoto]
        go_ret
        exact ⟨rfl, rfl⟩
end Go.Proofs.Ytnbhiamnoapmlaa

namespace Go.Proofs.Ytnbhiamnoapmlaa
open Go.RowKit Go.Shelf
set_option maxRecDepth 100000
attribute [local go_sem] Oper.semAt_some

/-- points as they lie -/
def fl2 : List (Int × Int) → List Int
  | [] => []
  | q :: r => q.1 :: q.2 :: fl2 r
theorem fl2_len : ∀ l : List (Int × Int), (fl2 l).length = l.length * 2
  | [] => rfl
  | q :: r => by
    rw [fl2, List.length_cons, List.length_cons, fl2_len r, List.length_cons]
    omega
theorem fl2_get : ∀ (l : List (Int × Int)) (j : Nat) (q : Int × Int), l[j]? = some q → (fl2 l)[j * 2]? = some q.1 ∧ (fl2 l)[j * 2 + 1]? = some q.2
  | [], _, _, h => by simp at h
  | g :: r, 0, q, h => by
    simp only [List.getElem?_cons_zero, Option.some.injEq] at h
    subst h
    exact ⟨rfl, rfl⟩
  | g :: r, j + 1, q, h => by
    have h1 := fl2_get r j q (by simpa using h)
    rw [fl2, show (j + 1) * 2 = j * 2 + 1 + 1 by omega]
    exact h1
theorem fl2_app (l m : List (Int × Int)) : fl2 (l ++ m) = fl2 l ++ fl2 m := by
  induction l with
  | nil => rfl
  | cons q r ih => rw [List.cons_append, fl2, ih]; rfl
theorem fl2_inj : ∀ l m : List (Int × Int), fl2 l = fl2 m → l = m
  | [], [], _ => rfl
  | [], _ :: _, h => by simp [fl2] at h
  | _ :: _, [], h => by simp [fl2] at h
  | (a, b) :: r, (c, d) :: s, h => by
    simp only [fl2, List.cons.injEq] at h
    obtain ⟨rfl, rfl, h⟩ := h
    rw [fl2_inj r s h]
/-- a point's cells -/
theorem pts_two {w : World} {B : Nat} {A : Option Addr} {l : List (Int × Int)} (h : Nums .i64 w B A (fl2 l)) {j : Nat} {q : Int × Int} (hj : l[j]? = some q) : ∃ b off, A = some ⟨b, off, none⟩ ∧ b < B ∧ w.cell? ⟨b, off + j * 2, none⟩ = some (.int .i64 q.1) ∧ w.cell? ⟨b, off + j * 2 + 1, none⟩ = some (.int .i64 q.2) := by
  obtain ⟨h1, h2⟩ := fl2_get l j q hj
  obtain ⟨b, off, e, hb, hc⟩ := h (by intro e; rw [e] at h1; simp at h1)
  exact ⟨b, off, e, hb, hc _ _ h1, hc _ _ h2⟩

theorem idx2 (x y : Int) (W : World) : (Instr.index 75 (.agg #[.int .i64 x, .int .i64 y]) (.int .i64 0)).run Try.prog W = .ok (.int .i64 x) W ∧ (Instr.index 75 (.agg #[.int .i64 x, .int .i64 y]) (.int .i64 1)).run Try.prog W = .ok (.int .i64 y) W := by
  refine ⟨?_, ?_⟩ <;> simp [Instr.index, run_underlying Try.underlying75, asIntOf, part, go_sem, Try.sizeOf3]

set_option maxHeartbeats 4000000 in
theorem wpath_any (A : Option Addr) (n cp : Nat) (l : List (Int × Int)) (mo : Int) (w : World) (hn : l.length = n) (hcp : n ≤ cp) (hmo : mo ≤ 1000000) (hA : Nums .i64 w w.heap.size A (fl2 l)) :
    Calls Try.prog 26 #[.slice A n cp, .int .i64 mo] w fun e w' => e = .returned (.int .i64 (wP l mo)) ∧ Below w.heap.size w w' := by
  obtain ⟨R, hR⟩ : ∃ R, wP l mo = R := ⟨_, rfl⟩
  rw [hR]
  unfold wP at hR
  rw [hn] at hR
  have HR := Lib.hid hR
  have HN := Lib.hid hn
  have HA := Lib.hid hA
  have KS := Lib.hid (wsize_any n mo)
  obtain ⟨s, hs⟩ : ∃ s, wS n mo = s := ⟨_, rfl⟩
  rw [hs] at KS HR
  have HS := Lib.hid hs
  clear hR hn hA hs
  go_enter Try.func26, Try.ntmps26
  go_wp2
  refine wp_scope_straight ?_
  go_wp2_with fail
  refine (KS.out w).mono ?_
  rintro e w1 ⟨rfl, rfl⟩
  clear KS
  by_cases h0 : s = 0
  · subst h0
    have hsm : n ≤ 1000000 := by
      have := HS.out
      unfold wS at this
      by_cases h1 : (n : Int) = 0
      · omega
      · by_cases h2 : mo < (n : Int)
        · rw [if_neg h1, if_pos h2] at this; omega
        · omega
    rw [if_neg (by omega)] at HR
    go_wp2
    refine wp_label ?_
    go_wp2
    go_loopw [5, 19] (fun x iv wr => ∃ j : Nat, j ≤ n ∧ x = .int .i64 0 ∧ iv = .int .i64 (j : Int) ∧ Hid (∀ q ∈ l.take j, ptOk q) ∧ Hid (Below w.heap.size w wr)) (fun _ iv _ => n - (intOf iv).toNat)
    case atStart => exact ⟨0, by omega, rfl, rfl, Lib.hid (by simp), Lib.hid (Below.refl _ _)⟩
    case round =>
      obtain ⟨j, hj, rfl, rfl, HP, HB⟩ := hrel
      rcases Nat.lt_or_ge j n with hlt | hge
      · obtain ⟨⟨x, y⟩, hq⟩ : ∃ q, l[j]? = some q := ⟨_, List.getElem?_eq_getElem (by rw [HN.out]; exact hlt)⟩
        obtain ⟨b, off, rfl, hb, c0, c1⟩ := pts_two (HA.out.below HB.out) hq
        have HQ := Lib.hid hq
        have HW := Lib.hid (HB.out.alloc HB.out.size (.cells #[.int .i64 x, .int .i64 y] 57))
        dsimp only at c0 c1
        clear hq
        go_wp2_with fail
        go_loopw [5, 28] (fun x' iv wr' => ∃ i : Nat, i ≤ 2 ∧ x' = .int .i64 0 ∧ iv = .int .i64 (i : Int) ∧ Hid ((0 < i → -1000000 ≤ x ∧ x ≤ 1000000) ∧ (1 < i → -1000000 ≤ y ∧ y ≤ 1000000)) ∧ Hid (Below w.heap.size w wr')) (fun _ iv _ => 2 - (intOf iv).toNat)
        case atStart => exact ⟨0, by omega, rfl, rfl, Lib.hid (by omega), HW⟩
        case round =>
          obtain ⟨i, hi, rfl, rfl, HI, HB2⟩ := hrel
          have hix := fun W => (idx2 x y W).1
          have hiy := fun W => (idx2 x y W).2
          obtain rfl | rfl | rfl : i = 0 ∨ i = 1 ∨ i = 2 := by omega
          · by_cases hv : -1000000 ≤ x ∧ x ≤ 1000000
            · have HI2 : Hid ((0 < 0 + 1 → -1000000 ≤ x ∧ x ≤ 1000000) ∧ (1 < 0 + 1 → -1000000 ≤ y ∧ y ≤ 1000000)) := Lib.hid ⟨fun _ => hv, fun h => by omega⟩
              have KN := Lib.hid (wnum_any x (-1000000) 1000000)
              rw [show wN x (-1000000) 1000000 = 0 from if_neg (by omega)] at KN
              go_wp2_with fail
              refine (KN.out _).mono ?_
              rintro e w2 ⟨rfl, rfl⟩
              clear KN
              go_wp2
              exact ⟨⟨0 + 1, by omega, rfl, rfl, HI2, HB2⟩, by simp only [intOf]; omega⟩
            · obtain rfl : R = 5 := by
                rw [← HR.out, if_neg (fun h => hv ⟨(h _ (List.mem_of_getElem? HQ.out)).1, (h _ (List.mem_of_getElem? HQ.out)).2.1⟩)]
              have KN := Lib.hid (wnum_any x (-1000000) 1000000)
              rw [show wN x (-1000000) 1000000 = 5 from if_pos (by omega)] at KN
              clear hv
              go_wp2_with fail
              refine (KN.out _).mono ?_
              rintro e w2 ⟨rfl, rfl⟩
              clear KN
              go_wp2
              try simp only [Exit.noGoto]
              go_ret
              exact ⟨rfl, HB2.out⟩
          · by_cases hv : -1000000 ≤ y ∧ y ≤ 1000000
            · have HI2 : Hid ((0 < 1 + 1 → -1000000 ≤ x ∧ x ≤ 1000000) ∧ (1 < 1 + 1 → -1000000 ≤ y ∧ y ≤ 1000000)) := Lib.hid ⟨fun _ => HI.out.1 (by omega), fun _ => hv⟩
              have KN := Lib.hid (wnum_any y (-1000000) 1000000)
              rw [show wN y (-1000000) 1000000 = 0 from if_neg (by omega)] at KN
              go_wp2_with fail
              refine (KN.out _).mono ?_
              rintro e w2 ⟨rfl, rfl⟩
              clear KN
              go_wp2
              exact ⟨⟨1 + 1, by omega, rfl, rfl, HI2, HB2⟩, by simp only [intOf]; omega⟩
            · obtain rfl : R = 5 := by
                rw [← HR.out, if_neg (fun h => hv ⟨(h _ (List.mem_of_getElem? HQ.out)).2.2.1, (h _ (List.mem_of_getElem? HQ.out)).2.2.2⟩)]
              have KN := Lib.hid (wnum_any y (-1000000) 1000000)
              rw [show wN y (-1000000) 1000000 = 5 from if_pos (by omega)] at KN
              clear hv
              go_wp2_with fail
              refine (KN.out _).mono ?_
              rintro e w2 ⟨rfl, rfl⟩
              clear KN
              go_wp2
              try simp only [Exit.noGoto]
              go_ret
              exact ⟨rfl, HB2.out⟩
          · have HP2 : Hid (∀ q ∈ l.take (j + 1), ptOk q) := Lib.hid (fun q hq => by
              rw [List.take_add_one, HQ.out, List.mem_append] at hq
              rcases hq with hq | hq
              · exact HP.out q hq
              · simp at hq
                subst hq
                have h1 := HI.out.1 (by omega)
                have h2 := HI.out.2 (by omega)
                exact ⟨h1.1, h1.2, h2.1, h2.2⟩)
            go_wp2
            go_roundw
            case rel => exact ⟨j + 1, by omega, rfl, by go_num, HP2, HB2⟩
            case measure => simp [intOf]; omega
      · obtain rfl : j = n := by omega
        obtain rfl : R = 0 := by
          rw [← HR.out, if_pos]
          have h1 := HP.out
          rwa [List.take_of_length_le (by rw [HN.out]; exact Nat.le_refl _)] at h1
        go_wp2
        try simp only [Exit.noGoto]
        go_ret
        exact ⟨rfl, HB.out⟩
  · rw [if_pos h0] at HR
    obtain rfl : s = R := HR.out
    have hs0 : (s != 0) = true := by simpa using h0
    go_wp2
    try simp only [Exit.noGoto]
    go_ret
    exact ⟨rfl, Below.refl _ _⟩

/-- behind j cells of a list, none of which is wrong, the rest is looked at behind the last one -/
theorem cE_at : ∀ (l : List Int) (a : Int) (j : Nat) (c : Int), l[j]? = some c → cE a (l.take j) = 0 → cE a l = cE (if j = 0 then a else l.getD (j - 1) 0) (l.drop j)
  | [], _, _, _, h, _ => by simp at h
  | x :: r, a, 0, c, _, _ => by simp
  | x :: r, a, j + 1, c, h, h0 => by
    rw [List.take_succ_cons, cE] at h0
    by_cases h1 : x < 0 ∨ 65535 < x
    · rw [if_pos h1] at h0; omega
    · by_cases h2 : x ≤ a
      · rw [if_neg h1, if_pos h2] at h0; omega
      · rw [if_neg h1, if_neg h2] at h0
        have e : (if j = 0 then x else r.getD (j - 1) 0) = (if j + 1 = 0 then a else (x :: r).getD (j + 1 - 1) 0) := by
          rw [if_neg (Nat.succ_ne_zero j)]
          rcases j with _ | j <;> simp
        rw [cE, if_neg h1, if_neg h2, cE_at r x j c (by simpa using h) h0, List.drop_succ_cons, e]
theorem cE_next : ∀ (l : List Int) (a : Int) (j : Nat) (c : Int), l[j]? = some c → cE a (l.take j) = 0 → 0 ≤ c → c ≤ 65535 → (if j = 0 then a else l.getD (j - 1) 0) < c → cE a (l.take (j + 1)) = 0
  | [], _, _, _, h, _, _, _, _ => by simp at h
  | x :: r, a, 0, c, h, _, h1, h2, h3 => by
    simp only [List.getElem?_cons_zero, Option.some.injEq] at h
    subst h
    rw [if_pos rfl] at h3
    rw [List.take_succ_cons, List.take_zero, cE, if_neg (by omega), if_neg (by omega), cE]
  | x :: r, a, j + 1, c, h, h0, h1, h2, h3 => by
    rw [List.take_succ_cons, cE] at h0
    by_cases g1 : x < 0 ∨ 65535 < x
    · rw [if_pos g1] at h0; omega
    · by_cases g2 : x ≤ a
      · rw [if_neg g1, if_pos g2] at h0; omega
      · rw [if_neg g1, if_neg g2] at h0
        rw [List.take_succ_cons, cE, if_neg g1, if_neg g2]
        refine cE_next r x j c (by simpa using h) h0 h1 h2 ?_
        rw [if_neg (by omega)] at h3
        rcases j with _ | j
        · simpa using h3
        · simpa using h3
/-- the one that a cell is held against -/
def ahd (l : List Int) (j : Nat) : Int := if j = 0 then -1 else l.getD (j - 1) 0
theorem cE_bad {l : List Int} {j : Nat} {c : Int} (h : l[j]? = some c) (h0 : cE (-1) (l.take j) = 0) : cE (-1) l = if c < 0 ∨ 65535 < c then 5 else if c ≤ ahd l j then 3 else cE c (l.drop (j + 1)) := by
  rw [cE_at l (-1) j c h h0]
  have hi := (List.getElem?_eq_some_iff.1 h).1
  rw [List.drop_eq_getElem_cons hi, (List.getElem?_eq_some_iff.1 h).2, cE]
  rfl

set_option maxHeartbeats 4000000 in
theorem wcells_any (A : Option Addr) (n cp : Nat) (l : List Int) (mo : Int) (w : World) (hn : l.length = n) (hcp : n ≤ cp) (hmo : mo ≤ 1000000) (hA : Nums .i64 w w.heap.size A l) :
    Calls Try.prog 27 #[.slice A n cp, .int .i64 mo] w fun e w' => e = .returned (.int .i64 (wC l mo)) ∧ w = w' := by
  obtain ⟨R, hR⟩ : ∃ R, wC l mo = R := ⟨_, rfl⟩
  rw [hR]
  unfold wC at hR
  rw [hn] at hR
  have HR := Lib.hid hR
  have HN := Lib.hid hn
  have HA := Lib.hid hA
  have KS := Lib.hid (wsize_any n mo)
  obtain ⟨s, hs⟩ : ∃ s, wS n mo = s := ⟨_, rfl⟩
  rw [hs] at KS HR
  have HS := Lib.hid hs
  clear hR hn hA hs
  go_enter Try.func27, Try.ntmps27
  go_wp2
  refine wp_scope_straight ?_
  go_wp2_with fail
  refine (KS.out w).mono ?_
  rintro e w1 ⟨rfl, rfl⟩
  clear KS
  by_cases h0 : s = 0
  · subst h0
    have hsm : n ≤ 1000000 := by
      have := HS.out
      unfold wS at this
      by_cases h1 : (n : Int) = 0
      · omega
      · by_cases h2 : mo < (n : Int)
        · rw [if_neg h1, if_pos h2] at this; omega
        · omega
    rw [if_neg (by omega)] at HR
    go_wp2
    refine wp_label ?_
    go_wp2
    go_loopw [5, 6, 18] (fun x y iv wr => ∃ (j : Nat) (a : Int), j ≤ n ∧ x = .int .i64 0 ∧ y = .int .i64 a ∧ iv = .int .i64 (j : Int) ∧ Hid (cE (-1) (l.take j) = 0) ∧ Hid (a = ahd l j) ∧ wr = w) (fun _ _ iv _ => n - (intOf iv).toNat)
    case atStart => exact ⟨0, -1, by omega, rfl, rfl, rfl, Lib.hid (by simp [cE]), Lib.hid rfl, rfl⟩
    case round =>
      obtain ⟨j, a, hj, rfl, rfl, rfl, HP, HD, rfl⟩ := hrel
      rcases Nat.lt_or_ge j n with hlt | hge
      · obtain ⟨c, hq⟩ : ∃ c, l[j]? = some c := ⟨_, List.getElem?_eq_getElem (by rw [HN.out]; exact hlt)⟩
        obtain ⟨b, off, rfl, hb, c0⟩ := HA.out.open hq
        have HQ := Lib.hid hq
        clear hq
        have KN := Lib.hid (wnum_any c 0 65535)
        have HB := Lib.hid (cE_bad HQ.out HP.out)
        rw [HR.out] at HB
        by_cases hv : c < 0 ∨ 65535 < c
        · rw [if_pos hv] at HB
          rw [show wN c 0 65535 = 5 from if_pos hv] at KN
          obtain rfl : R = 5 := HB.out
          clear hv
          go_wp2_with fail
          refine (KN.out _).mono ?_
          rintro e w2 ⟨rfl, rfl⟩
          clear KN
          go_wp2
          try simp only [Exit.noGoto]
          go_ret
          exact ⟨rfl, rfl⟩
        · rw [if_neg hv] at HB
          rw [show wN c 0 65535 = 0 from if_neg hv] at KN
          rw [← HD.out] at HB
          by_cases hc : c ≤ a
          · rw [if_pos hc] at HB
            obtain rfl : R = 3 := HB.out
            clear hv
            go_wp2_with fail
            refine (KN.out _).mono ?_
            rintro e w2 ⟨rfl, rfl⟩
            clear KN
            go_wp2
            try simp only [Exit.noGoto]
            go_ret
            exact ⟨rfl, rfl⟩
          · have HP2 : Hid (cE (-1) (l.take (j + 1)) = 0) := Lib.hid (cE_next l (-1) j c HQ.out HP.out (by omega) (by omega) (by have := HD.out; unfold ahd at this; omega))
            have HD2 : Hid (c = ahd l (j + 1)) := Lib.hid (by
              unfold ahd
              rw [if_neg (by omega), Nat.add_sub_cancel, List.getD, HQ.out]
              rfl)
            clear hv
            go_wp2_with fail
            refine (KN.out _).mono ?_
            rintro e w2 ⟨rfl, rfl⟩
            clear KN
            go_wp2
            exact ⟨⟨j + 1, c, by omega, rfl, rfl, by go_num, HP2, HD2, trivial⟩, by simp only [intOf]; omega⟩
      · obtain rfl : j = n := by omega
        obtain rfl : R = 0 := by
          rw [← HR.out]
          have h1 := HP.out
          rwa [List.take_of_length_le (by rw [HN.out]; exact Nat.le_refl _)] at h1
        go_wp2
        try simp only [Exit.noGoto]
        go_ret
        exact ⟨rfl, rfl⟩
  · rw [if_pos h0] at HR
    obtain rfl : s = R := HR.out
    have hs0 : (s != 0) = true := by simpa using h0
    go_wp2
    try simp only [Exit.noGoto]
    go_ret
    exact ⟨rfl, rfl⟩
end Go.Proofs.Ytnbhiamnoapmlaa

namespace Go.Proofs.Ytnbhiamnoapmlaa
open Go.RowKit
set_option maxRecDepth 100000

theorem run_item (d : Nat) (xs ys : Array Value) (x y : Int) (i : Nat) (is : List Nat) (W : World) (hx : xs[i]? = some (.int .i64 x)) (hy : ys[i]? = some (.int .i64 y)) :
    (Op.eqItems (d + 1) 3 (Try.prog.cellsOf 3) xs ys (i :: is)).run Try.prog W = if x = y then (Op.eqItems (d + 1) 3 (Try.prog.cellsOf 3) xs ys is).run Try.prog W else .ok false W := by
  have hc : Try.prog.cellsOf 3 = 1 := by kernel_rfl
  rw [Op.eqItems, hc]
  have h1 : (part 3 xs (i * 1)).run Try.prog W = .ok (.int .i64 x) W := by simp [part, go_sem, hx, Try.sizeOf3]
  have h2 : (part 3 ys (i * 1)).run Try.prog W = .ok (.int .i64 y) W := by simp [part, go_sem, hy, Try.sizeOf3]
  simp only [Sem.run_bind, h1, h2, Result.andThen_ok, run_equalIn_int W d 3 .i64 .i64 x y Try.underlying3]
  by_cases h : x = y
  · subst h; simp
  · simp [h]
theorem run_items (d : Nat) (W : World) : ∀ (is : List Nat) (xs ys : Array Value) (us vs : List Int), (∀ i ∈ is, xs[i]? = (us[i]?).map (Value.int .i64) ∧ i < us.length) → (∀ i ∈ is, ys[i]? = (vs[i]?).map (Value.int .i64) ∧ i < vs.length) →
    (Op.eqItems (d + 1) 3 (Try.prog.cellsOf 3) xs ys is).run Try.prog W = .ok (decide (∀ i ∈ is, us[i]? = vs[i]?)) W
  | [], xs, ys, us, vs, _, _ => by simp [Op.eqItems]
  | i :: is, xs, ys, us, vs, hx, hy => by
    have h1 := hx i (List.mem_cons_self ..)
    have h2 := hy i (List.mem_cons_self ..)
    have e1 : us[i]? = some us[i] := List.getElem?_eq_getElem h1.2
    have e2 : vs[i]? = some vs[i] := List.getElem?_eq_getElem h2.2
    rw [run_item d xs ys us[i] vs[i] i is W (by rw [h1.1, e1]; rfl) (by rw [h2.1, e2]; rfl), run_items d W is xs ys us vs (fun j hj => hx j (List.mem_cons_of_mem _ hj)) (fun j hj => hy j (List.mem_cons_of_mem _ hj))]
    by_cases h : us[i] = vs[i]
    · rw [if_pos h]
      congr 1
      have : us[i]? = vs[i]? := by rw [e1, e2, h]
      simp [this]
    · rw [if_neg h]
      congr 1
      have : us[i]? ≠ vs[i]? := by rw [e1, e2]; exact fun e => h (Option.some.inj e)
      simp [this]
theorem run_arr (t : TypeId) (n : Nat) (hu : Try.prog.underlying t = some (.array n 3)) (us vs : List Int) (h1 : us.length = n) (h2 : vs.length = n) (W : World) :
    (Op.equalIn 10000 t (.agg (us.map (Value.int .i64)).toArray) (.agg (vs.map (Value.int .i64)).toArray)).run Try.prog W = .ok (decide (us = vs)) W := by
  obtain ⟨i, hi⟩ : ∃ i, Try.prog.info? 3 = some i := Option.isSome_iff_exists.1 (by kernel_rfl)
  rw [show (10000 : Nat) = 9999 + 1 from rfl, run_equalIn_array W 9999 _ _ hu hi, show (9999 : Nat) = 9998 + 1 from rfl, run_items 9998 W (List.range n) _ _ us vs (fun j hj => ⟨by simp, by rw [List.mem_range] at hj; omega⟩) (fun j hj => ⟨by simp, by rw [List.mem_range] at hj; omega⟩)]
  congr 1
  refine decide_eq_decide.2 ⟨fun h => List.ext_getElem? fun j => ?_, fun h => by subst h; simp⟩
  rcases Nat.lt_or_ge j n with hj | hj
  · exact h j (List.mem_range.2 hj)
  · rw [List.getElem?_eq_none (by omega), List.getElem?_eq_none (by omega)]
/-- arrays of six -/
theorem eql_six (a0 a1 a2 a3 a4 a5 b0 b1 b2 b3 b4 b5 : Int) (W : World) : (binOp .eql 22 (.agg #[.int .i64 a0, .int .i64 a1, .int .i64 a2, .int .i64 a3, .int .i64 a4, .int .i64 a5]) (.agg #[.int .i64 b0, .int .i64 b1, .int .i64 b2, .int .i64 b3, .int .i64 b4, .int .i64 b5])).run Try.prog W =
    .ok (.bool (decide ([a0, a1, a2, a3, a4, a5] = [b0, b1, b2, b3, b4, b5]))) W := by
  have := run_arr 22 6 Try.underlying22 [a0, a1, a2, a3, a4, a5] [b0, b1, b2, b3, b4, b5] rfl rfl W
  rw [run_eql_struct]
  simp only [List.map_cons, List.map_nil] at this
  rw [this]
  rfl
theorem neq_six (a0 a1 a2 a3 a4 a5 b0 b1 b2 b3 b4 b5 : Int) (W : World) : (binOp .neq 22 (.agg #[.int .i64 a0, .int .i64 a1, .int .i64 a2, .int .i64 a3, .int .i64 a4, .int .i64 a5]) (.agg #[.int .i64 b0, .int .i64 b1, .int .i64 b2, .int .i64 b3, .int .i64 b4, .int .i64 b5])).run Try.prog W =
    .ok (.bool (!decide ([a0, a1, a2, a3, a4, a5] = [b0, b1, b2, b3, b4, b5]))) W := by
  have := run_arr 22 6 Try.underlying22 [a0, a1, a2, a3, a4, a5] [b0, b1, b2, b3, b4, b5] rfl rfl W
  rw [run_neq_struct]
  simp only [List.map_cons, List.map_nil] at this
  rw [this]
  rfl
/-- arrays of two -/
theorem neq_two (a0 a1 b0 b1 : Int) (W : World) : (binOp .neq 75 (.agg #[.int .i64 a0, .int .i64 a1]) (.agg #[.int .i64 b0, .int .i64 b1])).run Try.prog W = .ok (.bool (!decide ([a0, a1] = [b0, b1]))) W := by
  have := run_arr 75 2 Try.underlying75 [a0, a1] [b0, b1] rfl rfl W
  rw [run_neq_struct]
  simp only [List.map_cons, List.map_nil] at this
  rw [this]
  rfl
/-- points -/
theorem neq_pt (a0 a1 b0 b1 : Int) (W : World) : (binOp .neq 57 (.agg #[.int .i64 a0, .int .i64 a1]) (.agg #[.int .i64 b0, .int .i64 b1])).run Try.prog W = .ok (.bool (!decide ([a0, a1] = [b0, b1]))) W := by
  rw [run_neq_struct, show (10000 : Nat) = 9999 + 1 from rfl, run_equalIn_agg W 9999 57 _ _ (by kernel_rfl) (by kernel_rfl)]
  by_cases h1 : a0 = b0
  · by_cases h2 : a1 = b1
    · simp [Program.fieldsOf, Try.underlying57, Op.eqFields, part, go_sem, Try.sizeOf3, h1, h2]
    · simp [Program.fieldsOf, Try.underlying57, Op.eqFields, part, go_sem, Try.sizeOf3, h1, h2]
  · simp [Program.fieldsOf, Try.underlying57, Op.eqFields, part, go_sem, Try.sizeOf3, h1]
end Go.Proofs.Ytnbhiamnoapmlaa

namespace Go.Proofs.Ytnbhiamnoapmlaa
open Go.RowKit
set_option maxRecDepth 100000

theorem eqi_lens (a1 a2 : Option Addr) (n1 n2 c1 c2 : Nat) (w : World) (h : n1 ≠ n2) :
    Calls Try.prog 35 #[.slice a1 n1 c1, .slice a2 n2 c2] w fun e w' => e = .returned (.bool false) ∧ ∃ n, w' = w.drewN n := by
  have h2 : ((n1 : Int) != (n2 : Int)) = true := by simp; omega
  have h3 : ¬ (n1 : Int) = (n2 : Int) := by omega
  go_enter Try.func35, Try.ntmps35
  go_wp2
  go_ret
  exact ⟨rfl, 0, rfl⟩
theorem eqi_any (B : Nat) (a1 a2 : Option Addr) (n1 n2 c1 c2 : Nat) (xs ys : List Int) (w : World) (e1 : xs.length = n1) (e2 : ys.length = n2) (l1 : n1 ≤ 9223372036854775807) (h1 : Nums .i64 w B a1 xs) (h2 : Nums .i64 w B a2 ys) :
    Calls Try.prog 35 #[.slice a1 n1 c1, .slice a2 n2 c2] w fun e w' => e = .returned (.bool (decide (xs = ys))) ∧ ∃ n, w' = w.drewN n := by
  by_cases hl : n1 = n2
  · subst hl
    have HE1 := Lib.hid e1
    have HE2 := Lib.hid e2
    clear e1 e2
    go_enter Try.func35, Try.ntmps35
    go_wp2
    go_loopw [13] (fun i wr => ∃ k : Nat, k ≤ n1 ∧ i = .int .i64 k ∧ Hid (xs.take k = ys.take k) ∧ ∃ n, wr = w.drewN n) (fun i _ => n1 - (intOf i).toNat)
    case atStart => exact ⟨0, by omega, rfl, rfl, 0, rfl⟩
    case round =>
      obtain ⟨k, hk, rfl, HT, n, rfl⟩ := hrel
      by_cases hlt : k < n1
      · obtain ⟨x, hx⟩ : ∃ x, xs[k]? = some x := ⟨_, List.getElem?_eq_getElem (by rw [HE1.out]; exact hlt)⟩
        obtain ⟨y, hy⟩ : ∃ y, ys[k]? = some y := ⟨_, List.getElem?_eq_getElem (by rw [HE2.out]; exact hlt)⟩
        obtain ⟨b1, o1, rfl, hb1, hc1⟩ := h1.open hx
        obtain ⟨b2, o2, rfl, hb2, hc2⟩ := h2.open hy
        have HX := Lib.hid hx
        have HY := Lib.hid hy
        clear h1 h2 hx hy
        have hlt' : (k : Int) < (n1 : Int) := by omega
        by_cases hxy : x = y
        · have hq : (x != y) = false := by simp [hxy]
          have HQ : Hid (xs.take (k + 1) = ys.take (k + 1)) := by
            show _ = _
            rw [List.take_add_one, List.take_add_one, HT.out, HX.out, HY.out, hxy]
          subst hxy
          go_wp2
          go_quiet (fail)
          go_wp2
          go_roundw
          case rel => exact ⟨k + 1, by omega, by go_num, HQ, _, rfl⟩
          case measure => simp [intOf]; omega
        · have hq : (x != y) = true := by simp [hxy]
          have HQ : Hid (¬ xs = ys) := fun e => hxy (by
            have h3 := HX.out
            rw [e, HY.out] at h3
            exact (Option.some.inj h3).symm)
          clear hxy
          go_wp2
          go_quiet (fail)
          go_wp2
          go_ret
          exact ⟨by rw [decide_eq_false HQ.out]; rfl, n + nq, by simp [World.drewN, Nat.add_assoc]⟩
      · have hk' : k = n1 := by omega
        have HQ : Hid (xs = ys) := by
          have h3 := HT.out
          rw [List.take_of_length_le (by rw [HE1.out]; omega), List.take_of_length_le (by rw [HE2.out]; omega)] at h3
          exact h3
        go_wp2
        go_ret
        exact ⟨by rw [decide_eq_true HQ.out]; rfl, n, rfl⟩
  · refine (eqi_lens a1 a2 n1 n2 c1 c2 w hl).mono ?_
    rintro e w' ⟨rfl, hd⟩
    exact ⟨by rw [decide_eq_false (fun e => hl (by rw [← e1, ← e2, e]))], hd⟩
theorem rints_lens (a1 a2 : Option Addr) (n1 n2 c1 c2 : Nat) (w : World) (h : n1 ≠ n2) :
    Calls Try.prog 33 #[.slice a1 n1 c1, .slice a2 n2 c2] w fun e w' => e = .returned (.bool false) ∧ ∃ n, w' = w.drewN n := by
  have h2 : ((n1 : Int) != (n2 : Int)) = true := by simp; omega
  have h3 : ¬ (n1 : Int) = (n2 : Int) := by omega
  go_enter Try.func33, Try.ntmps33
  go_wp2
  go_ret
  exact ⟨rfl, 0, rfl⟩
theorem rints_any (B : Nat) (a1 a2 : Option Addr) (n1 n2 c1 c2 : Nat) (xs ys : List Int) (w : World) (e1 : xs.length = n1) (e2 : ys.length = n2) (l1 : n1 ≤ 9223372036854775807) (h1 : Nums .i64 w B a1 xs) (h2 : Nums .i64 w B a2 ys) :
    Calls Try.prog 33 #[.slice a1 n1 c1, .slice a2 n2 c2] w fun e w' => e = .returned (.bool (decide (xs = ys))) ∧ ∃ n, w' = w.drewN n := by
  by_cases hl : n1 = n2
  · subst hl
    have HE1 := Lib.hid e1
    have HE2 := Lib.hid e2
    clear e1 e2
    go_enter Try.func33, Try.ntmps33
    go_wp2
    go_loopw [5] (fun i wr => ∃ k : Nat, k ≤ n1 ∧ i = .int .i64 k ∧ Hid (xs.take k = ys.take k) ∧ ∃ n, wr = w.drewN n) (fun i _ => n1 - (intOf i).toNat)
    case atStart => exact ⟨0, by omega, rfl, rfl, 0, rfl⟩
    case round =>
      obtain ⟨k, hk, rfl, HT, n, rfl⟩ := hrel
      by_cases hlt : k < n1
      · obtain ⟨x, hx⟩ : ∃ x, xs[k]? = some x := ⟨_, List.getElem?_eq_getElem (by rw [HE1.out]; exact hlt)⟩
        obtain ⟨y, hy⟩ : ∃ y, ys[k]? = some y := ⟨_, List.getElem?_eq_getElem (by rw [HE2.out]; exact hlt)⟩
        obtain ⟨b1, o1, rfl, hb1, hc1⟩ := h1.open hx
        obtain ⟨b2, o2, rfl, hb2, hc2⟩ := h2.open hy
        have HX := Lib.hid hx
        have HY := Lib.hid hy
        clear h1 h2 hx hy
        have hlt' : (k : Int) < (n1 : Int) := by omega
        by_cases hxy : x = y
        · have hq : (x != y) = false := by simp [hxy]
          have HQ : Hid (xs.take (k + 1) = ys.take (k + 1)) := by
            show _ = _
            rw [List.take_add_one, List.take_add_one, HT.out, HX.out, HY.out, hxy]
          subst hxy
          go_wp2
          go_quiet (fail)
          go_wp2
          go_roundw
          case rel => exact ⟨k + 1, by omega, by go_num, HQ, _, rfl⟩
          case measure => simp [intOf]; omega
        · have hq : (x != y) = true := by simp [hxy]
          have HQ : Hid (¬ xs = ys) := fun e => hxy (by
            have h3 := HX.out
            rw [e, HY.out] at h3
            exact (Option.some.inj h3).symm)
          clear hxy
          go_wp2
          go_quiet (fail)
          go_wp2
          go_ret
          exact ⟨by rw [decide_eq_false HQ.out]; rfl, n + nq, by simp [World.drewN, Nat.add_assoc]⟩
      · have hk' : k = n1 := by omega
        have HQ : Hid (xs = ys) := by
          have h3 := HT.out
          rw [List.take_of_length_le (by rw [HE1.out]; omega), List.take_of_length_le (by rw [HE2.out]; omega)] at h3
          exact h3
        go_wp2
        go_ret
        exact ⟨by rw [decide_eq_true HQ.out]; rfl, n, rfl⟩
  · refine (rints_lens a1 a2 n1 n2 c1 c2 w hl).mono ?_
    rintro e w' ⟨rfl, hd⟩
    exact ⟨by rw [decide_eq_false (fun e => hl (by rw [← e1, ← e2, e]))], hd⟩
theorem eqp_lens (a1 a2 : Option Addr) (n1 n2 c1 c2 : Nat) (w : World) (h : n1 ≠ n2) :
    Calls Try.prog 34 #[.slice a1 n1 c1, .slice a2 n2 c2] w fun e w' => e = .returned (.bool false) ∧ ∃ n, w' = w.drewN n := by
  have h2 : ((n1 : Int) != (n2 : Int)) = true := by simp; omega
  have h3 : ¬ (n1 : Int) = (n2 : Int) := by omega
  go_enter Try.func34, Try.ntmps34
  go_wp2
  go_ret
  exact ⟨rfl, 0, rfl⟩
theorem eqp_any (B : Nat) (a1 a2 : Option Addr) (n1 n2 c1 c2 : Nat) (xs ys : List (Int × Int)) (w : World) (e1 : xs.length = n1) (e2 : ys.length = n2) (l1 : n1 ≤ 9223372036854775807) (h1 : Nums .i64 w B a1 (fl2 xs)) (h2 : Nums .i64 w B a2 (fl2 ys)) :
    Calls Try.prog 34 #[.slice a1 n1 c1, .slice a2 n2 c2] w fun e w' => e = .returned (.bool (decide (xs = ys))) ∧ ∃ n, w' = w.drewN n := by
  by_cases hl : n1 = n2
  · subst hl
    have HE1 := Lib.hid e1
    have HE2 := Lib.hid e2
    clear e1 e2
    go_enter Try.func34, Try.ntmps34
    go_wp2
    go_loopw [13] (fun i wr => ∃ k : Nat, k ≤ n1 ∧ i = .int .i64 k ∧ Hid (xs.take k = ys.take k) ∧ ∃ n, wr = w.drewN n) (fun i _ => n1 - (intOf i).toNat)
    case atStart => exact ⟨0, by omega, rfl, rfl, 0, rfl⟩
    case round =>
      obtain ⟨k, hk, rfl, HT, n, rfl⟩ := hrel
      by_cases hlt : k < n1
      · obtain ⟨⟨x, x2⟩, hx⟩ : ∃ x, xs[k]? = some x := ⟨_, List.getElem?_eq_getElem (by rw [HE1.out]; exact hlt)⟩
        obtain ⟨⟨y, y2⟩, hy⟩ : ∃ y, ys[k]? = some y := ⟨_, List.getElem?_eq_getElem (by rw [HE2.out]; exact hlt)⟩
        obtain ⟨b1, o1, rfl, hb1, hc1, hd1⟩ := pts_two h1 hx
        obtain ⟨b2, o2, rfl, hb2, hc2, hd2⟩ := pts_two h2 hy
        have HX := Lib.hid hx
        have HY := Lib.hid hy
        dsimp only at hc1 hd1 hc2 hd2
        clear h1 h2 hx hy
        have hlt' : (k : Int) < (n1 : Int) := by omega
        by_cases hxy : x = y ∧ x2 = y2
        · obtain ⟨rfl, rfl⟩ := hxy
          have hnp : ∀ W, (binOp .neq 57 (.agg #[.int .i64 x, .int .i64 x2]) (.agg #[.int .i64 x, .int .i64 x2])).run Try.prog W = .ok (.bool false) W := fun W => by rw [neq_pt]; simp
          have HQ : Hid (xs.take (k + 1) = ys.take (k + 1)) := by
            show _ = _
            rw [List.take_add_one, List.take_add_one, HT.out, HX.out, HY.out]
          go_wp2
          go_quiet (fail)
          go_wp2
          go_roundw
          case rel => exact ⟨k + 1, by omega, by go_num, HQ, _, rfl⟩
          case measure => simp [intOf]; omega
        · have hnp : ∀ W, (binOp .neq 57 (.agg #[.int .i64 x, .int .i64 x2]) (.agg #[.int .i64 y, .int .i64 y2])).run Try.prog W = .ok (.bool true) W := fun W => by rw [neq_pt, decide_eq_false (by simpa using hxy)]; rfl
          have HQ : Hid (¬ xs = ys) := fun e => hxy (by
            have h3 := HX.out
            rw [e, HY.out] at h3
            simp at h3
            exact ⟨h3.1.symm, h3.2.symm⟩)
          clear hxy
          go_wp2
          go_quiet (fail)
          go_wp2
          go_ret
          exact ⟨by rw [decide_eq_false HQ.out]; rfl, n + nq, by simp [World.drewN, Nat.add_assoc]⟩
      · have hk' : k = n1 := by omega
        have HQ : Hid (xs = ys) := by
          have h3 := HT.out
          rw [List.take_of_length_le (by rw [HE1.out]; omega), List.take_of_length_le (by rw [HE2.out]; omega)] at h3
          exact h3
        go_wp2
        go_ret
        exact ⟨by rw [decide_eq_true HQ.out]; rfl, n, rfl⟩
  · refine (eqp_lens a1 a2 n1 n2 c1 c2 w hl).mono ?_
    rintro e w' ⟨rfl, hd⟩
    exact ⟨by rw [decide_eq_false (fun e => hl (by rw [← e1, ← e2, e]))], hd⟩
end Go.Proofs.Ytnbhiamnoapmlaa

namespace Go.Proofs.Ytnbhiamnoapmlaa
open Go.RowKit Go.Shelf
set_option maxRecDepth 100000
attribute [local go_sem] Oper.semAt_some

/-- a message's cells, its lists' slices given -/
def mC (M : Mg) (P C : Value) : Array Value := #[.int .i64 M.k, .int .i64 M.n0, .int .i64 M.n1, .int .i64 M.n2, .int .i64 M.n3, .int .i64 M.n4, .int .i64 M.n5, P, C, .string M.tx, .string M.tg]
def mV (M : Mg) (P C : Value) : Value := .agg (mC M P C)
/-- its lists lie below B -/
structure MAt (w : World) (B : Nat) (M : Mg) (P C : Value) : Prop where
  p : ∃ a c, P = .slice a M.p.length c ∧ M.p.length ≤ c ∧ Nums .i64 w B a (fl2 M.p)
  c : ∃ a c, C = .slice a M.c.length c ∧ M.c.length ≤ c ∧ Nums .i64 w B a M.c
/-- it isn't large -/
structure Msm (M : Mg) : Prop where
  p : M.p.length ≤ 40
  c : M.c.length ≤ 40
  tx : M.tx.size ≤ 80
  tg : M.tg.size ≤ 80
section
variable {w w' : World} {B B' : Nat} {M : Mg} {P C : Value}
theorem MAt.below (h : MAt w B M P C) (hb : Below B w w') : MAt w' B M P C := by
  obtain ⟨⟨a, c, h1, h2, h3⟩, ⟨a', c', h4, h5, h6⟩⟩ := h
  exact ⟨⟨a, c, h1, h2, h3.below hb⟩, ⟨a', c', h4, h5, h6.below hb⟩⟩
theorem MAt.mono (h : MAt w B M P C) (hB : B ≤ B') : MAt w B' M P C := by
  obtain ⟨⟨a, c, h1, h2, h3⟩, ⟨a', c', h4, h5, h6⟩⟩ := h
  exact ⟨⟨a, c, h1, h2, h3.mono hB⟩, ⟨a', c', h4, h5, h6.mono hB⟩⟩
theorem MAt.later (h : MAt w w.heap.size M P C) (hb : Below w.heap.size w w') : MAt w' w'.heap.size M P C := (h.below hb).mono hb.size
end

theorem row_cell {w : World} {b : Nat} {cs : Array Value} {t : TypeId} (h : w.heap[b]? = some (.cells cs t (0, 0))) (j : Nat) (x : Value) (hx : cs[j]? = some x) : w.cell? ⟨b, j, none⟩ = some x := by simp [World.cell?, h, hx]
theorem below_of_drewN {B : Nat} (w : World) (n : Nat) : Below B w (w.drewN n) := below_drewN (Below.refl B w) n
set_option maxHeartbeats 4000000 in
theorem msame_any (M M' : Mg) (P C P' C' : Value) (w : World) (hs : Msm M) (h1 : MAt w w.heap.size M P C) (h2 : MAt w w.heap.size M' P' C') :
    Calls Try.prog 14 #[mV M P C, mV M' P' C'] w fun e w' => e = .returned (.bool (decide (M = M'))) ∧ Below w.heap.size w w' := by
  obtain ⟨w2, hw2⟩ : ∃ w2, w2 = (w.alloc (.cells (mC M P C) 26)).alloc (.cells (mC M' P' C') 26) := ⟨_, rfl⟩
  have hb2 : Below w.heap.size w w2 := by rw [hw2]; exact ((Below.refl _ w).alloc (Nat.le_refl _) _).alloc (by simp) _
  have HW := Lib.hid hw2
  have g1 := (h1.below hb2).mono hb2.size
  have g2 := (h2.below hb2).mono hb2.size
  obtain ⟨k, n0, n1, n2, n3, n4, n5, p, c, tx, tg⟩ := M
  obtain ⟨k', n0', n1', n2', n3', n4', n5', p', c', tx', tg'⟩ := M'
  obtain ⟨⟨a, cp, rfl, hcp, ha⟩, ⟨b, cb, rfl, hcb, hb⟩⟩ := g1
  obtain ⟨⟨a', cp', rfl, hcp', ha'⟩, ⟨b', cb', rfl, hcb', hb'⟩⟩ := g2
  dsimp only at *
  have hl1 := hs.p
  have hl2 := hs.c
  dsimp only at hl1 hl2
  obtain ⟨np, hnp⟩ : ∃ np, p.length = np := ⟨_, rfl⟩
  obtain ⟨nc, hnc⟩ : ∃ nc, c.length = nc := ⟨_, rfl⟩
  obtain ⟨np', hnp'⟩ : ∃ np', p'.length = np' := ⟨_, rfl⟩
  obtain ⟨nc', hnc'⟩ : ∃ nc', c'.length = nc' := ⟨_, rfl⟩
  rw [hnp] at hcp hl1
  rw [hnc] at hcb hl2
  rw [hnp'] at hcp'
  rw [hnc'] at hcb'
  have KP := Lib.hid (eqp_any w2.heap.size a a' np np' cp cp' p p' w2 hnp hnp' (by omega) ha ha')
  have KC := fun W (hW : Below w2.heap.size w2 W) => eqi_any w2.heap.size b b' nc nc' cb cb' c c' W hnc hnc' (by omega) (hb.below hW) (hb'.below hW)
  obtain ⟨DC, hDC⟩ : ∃ DC, decide (c = c') = DC := ⟨_, rfl⟩
  rw [hDC] at KC
  have KC := Lib.hid KC
  unfold mV
  unfold mC at HW ⊢
  dsimp only at HW ⊢
  rw [hnp, hnc, hnp', hnc'] at HW ⊢
  clear hw2 h1 h2 hb2 ha ha' hb hb' hs hnp hnc hnp' hnc'
  have hfin : ∀ W, Below w2.heap.size w2 W → Hid (Below w.heap.size w W) := fun W hW => by
    have hb2 : Below w.heap.size w w2 := by rw [HW.out]; exact ((Below.refl _ w).alloc (Nat.le_refl _) _).alloc (by simp) _
    exact Lib.hid (hb2.trans (hW.mono hb2.size))
  obtain ⟨D, hD⟩ : ∃ D, decide ((⟨k, n0, n1, n2, n3, n4, n5, p, c, tx, tg⟩ : Mg) = ⟨k', n0', n1', n2', n3', n4', n5', p', c', tx', tg'⟩) = D := ⟨_, rfl⟩
  rw [hD]
  by_cases hk : k = k'
  case neg =>
    have hk1 : (k == k') = false := by simpa using hk
    obtain rfl : D = false := by rw [← hD, decide_eq_false (fun e => hk (congrArg Mg.k e))]
    have HB := hfin w2 (Below.refl _ _)
    rw [HW.out] at HB
    clear hD KP KC hfin HW
    go_enter Try.func14, Try.ntmps14
    go_wp2
    go_ret
    exact ⟨rfl, HB.out⟩
  subst hk
  by_cases hN : [n0, n1, n2, n3, n4, n5] = [n0', n1', n2', n3', n4', n5']
  case neg =>
    have he : ∀ W, (binOp .eql 22 (.agg #[.int .i64 n0, .int .i64 n1, .int .i64 n2, .int .i64 n3, .int .i64 n4, .int .i64 n5]) (.agg #[.int .i64 n0', .int .i64 n1', .int .i64 n2', .int .i64 n3', .int .i64 n4', .int .i64 n5'])).run Try.prog W = .ok (.bool false) W := fun W => by rw [eql_six, decide_eq_false hN]
    obtain rfl : D = false := by
      rw [← hD, decide_eq_false (fun e => hN (by injection e with e0 e1 e2 e3 e4 e5 e6; rw [e1, e2, e3, e4, e5, e6]))]
    have HB := hfin w2 (Below.refl _ _)
    rw [HW.out] at HB
    clear hD KP KC hfin HW hN
    go_enter Try.func14, Try.ntmps14
    go_wp2
    go_ret
    exact ⟨rfl, HB.out⟩
  simp only [List.cons.injEq, and_true] at hN
  obtain ⟨rfl, rfl, rfl, rfl, rfl, rfl⟩ := hN
  have he : ∀ W, (binOp .eql 22 (.agg #[.int .i64 n0, .int .i64 n1, .int .i64 n2, .int .i64 n3, .int .i64 n4, .int .i64 n5]) (.agg #[.int .i64 n0, .int .i64 n1, .int .i64 n2, .int .i64 n3, .int .i64 n4, .int .i64 n5])).run Try.prog W = .ok (.bool true) W := fun W => by rw [eql_six, decide_eq_true rfl]
  have q1 : w2.heap[w.heap.size]? = some (.cells #[.int .i64 k, .int .i64 n0, .int .i64 n1, .int .i64 n2, .int .i64 n3, .int .i64 n4, .int .i64 n5, .slice a np cp, .slice b nc cb, .string tx, .string tg] 26 (0, 0)) := by
    rw [HW.out, Below.heap_alloc _ _ _ (by simp)]; exact World.alloc_heap_new _ _
  have q2 : w2.heap[w.heap.size + 1]? = some (.cells #[.int .i64 k, .int .i64 n0, .int .i64 n1, .int .i64 n2, .int .i64 n3, .int .i64 n4, .int .i64 n5, .slice a' np' cp', .slice b' nc' cb', .string tx', .string tg'] 26 (0, 0)) := by
    rw [HW.out, show w.heap.size + 1 = (w.alloc (.cells #[.int .i64 k, .int .i64 n0, .int .i64 n1, .int .i64 n2, .int .i64 n3, .int .i64 n4, .int .i64 n5, .slice a np cp, .slice b nc cb, .string tx, .string tg] 26)).heap.size by simp]; exact World.alloc_heap_new _ _
  have k1 := fun j x hx => row_cell q1 j x hx
  have k2 := fun j x hx => row_cell q2 j x hx
  have c8 := k1 8 _ rfl; have c9 := k1 9 _ rfl; have c10 := k1 10 _ rfl
  have d8 := k2 8 _ rfl; have d9 := k2 9 _ rfl; have d10 := k2 10 _ rfl
  clear k1 k2 q1 q2
  by_cases hp : p = p'
  case neg =>
    rw [decide_eq_false hp] at KP
    obtain rfl : D = false := by rw [← hD, decide_eq_false (fun e => hp (congrArg Mg.p e))]
    clear hD KC hp hDC
    go_enter Try.func14, Try.ntmps14
    go_wp2_with fail
    rw [← HW.out]
    refine KP.out.mono ?_
    rintro e W1 ⟨rfl, m1, rfl⟩
    go_wp2
    go_ret
    exact ⟨rfl, (hfin _ (below_of_drewN _ _)).out⟩
  rw [decide_eq_true hp] at KP
  subst hp
  by_cases hc : c = c'
  case neg =>
    obtain rfl : DC = false := by rw [← hDC, decide_eq_false hc]
    obtain rfl : D = false := by rw [← hD, decide_eq_false (fun e => hc (congrArg Mg.c e))]
    clear hD hc hDC
    go_enter Try.func14, Try.ntmps14
    go_wp2_with fail
    rw [← HW.out]
    refine KP.out.mono ?_
    rintro e W1 ⟨rfl, m1, rfl⟩
    go_wp2_with fail
    refine (KC.out _ (below_of_drewN _ _)).mono ?_
    rintro e W2 ⟨rfl, m2, rfl⟩
    go_wp2
    go_ret
    exact ⟨rfl, (hfin _ (below_of_drewN w2 _)).out⟩
  obtain rfl : DC = true := by rw [← hDC, decide_eq_true hc]
  subst hc
  clear hDC
  by_cases ht : tx = tx'
  case neg =>
    have hs := str_ne ht
    obtain rfl : D = false := by rw [← hD, decide_eq_false (fun e => ht (congrArg Mg.tx e))]
    clear hD ht
    go_enter Try.func14, Try.ntmps14
    go_wp2_with fail
    rw [← HW.out]
    refine KP.out.mono ?_
    rintro e W1 ⟨rfl, m1, rfl⟩
    go_wp2_with fail
    refine (KC.out _ (below_of_drewN _ _)).mono ?_
    rintro e W2 ⟨rfl, m2, rfl⟩
    go_wp2
    go_ret
    exact ⟨rfl, (hfin _ (below_of_drewN w2 _)).out⟩
  subst ht
  by_cases hg : tg = tg'
  case neg =>
    have hs := str_ne hg
    obtain rfl : D = false := by rw [← hD, decide_eq_false (fun e => hg (congrArg Mg.tg e))]
    clear hD hg
    go_enter Try.func14, Try.ntmps14
    go_wp2_with fail
    rw [← HW.out]
    refine KP.out.mono ?_
    rintro e W1 ⟨rfl, m1, rfl⟩
    go_wp2_with fail
    refine (KC.out _ (below_of_drewN _ _)).mono ?_
    rintro e W2 ⟨rfl, m2, rfl⟩
    go_wp2
    go_ret
    exact ⟨rfl, (hfin _ (below_of_drewN w2 _)).out⟩
  subst hg
  obtain rfl : D = true := by rw [← hD, decide_eq_true rfl]
  clear hD
  go_enter Try.func14, Try.ntmps14
  go_wp2_with fail
  rw [← HW.out]
  refine KP.out.mono ?_
  rintro e W1 ⟨rfl, m1, rfl⟩
  go_wp2_with fail
  refine (KC.out _ (below_of_drewN _ _)).mono ?_
  rintro e W2 ⟨rfl, m2, rfl⟩
  go_wp2
  go_ret
  exact ⟨rfl, (hfin _ (below_of_drewN w2 _)).out⟩
end Go.Proofs.Ytnbhiamnoapmlaa

namespace Go.Proofs.Ytnbhiamnoapmlaa
open Go.RowKit Go.ChangeShapes Go.WideShapes Go.Deep Go.ChangeMaps
set_option maxRecDepth 100000

section
variable {H : Type} {enc : TypeId × Value → H} {w : World}
theorem row_of {T E : TypeId} {k : IntKind} {fuel : Nat} {v : Value} {x : DataW H × List MemPlace} (ht : Try.prog.underlying T = some (.slice E)) (he : Try.prog.underlying E = some (.int k)) (hc : Try.prog.cellsOf E = 1)
    (h : DataW.trod enc Try.prog w 0 (fun _ => true) true fuel T [v] = some x) : ∃ a n c es, v = .slice a n c ∧ es.length = n ∧ n ≤ c ∧ Nums k w w.heap.size a es ∧ ∀ z ∈ es, (Lit.int k z).wf = true := by
  rcases open_ints ht he hc h with ⟨hcs, _⟩ | ⟨a, l, c, zs, hcs, _, hl, hm, hz, _, hcell, hwz⟩
  · injection hcs with hcs
    exact ⟨none, 0, 0, [], hcs, rfl, Nat.le_refl _, Nums.nil, fun z hz => by cases hz⟩
  · injection hcs with hcs
    obtain ⟨es, h1, h2, h3, h4, h5⟩ := IsRow.elems (k := k) (w := w) (a := some a) (len := l) (cap := c) (zs := zs) (.inr ⟨_, rfl, hl, hm, by simpa using hz, hcell, hwz⟩)
    exact ⟨some a, l, c, es, hcs, h1, h2, h4, h5⟩
theorem fl2_nums {w : World} {b : Nat} : ∀ (l : List (Int × Int)) (o : Nat), (∀ (j : Nat) q, l[j]? = some q → w.cell? ⟨b, o + j * 2, none⟩ = some (.int .i64 q.1) ∧ w.cell? ⟨b, o + j * 2 + 1, none⟩ = some (.int .i64 q.2)) →
    ∀ (j : Nat) z, (fl2 l)[j]? = some z → w.cell? ⟨b, o + j, none⟩ = some (.int .i64 z)
  | [], _, _, _, _, h => by simp [fl2] at h
  | q :: r, o, hq, 0, z, h => by
    simp only [fl2, List.getElem?_cons_zero, Option.some.injEq] at h
    have := (hq 0 q rfl).1
    rw [h] at this
    simpa using this
  | q :: r, o, hq, 1, z, h => by
    simp only [fl2, List.getElem?_cons_succ, List.getElem?_cons_zero, Option.some.injEq] at h
    have := (hq 0 q rfl).2
    rw [h] at this
    simpa using this
  | q :: r, o, hq, j + 2, z, h => by
    simp only [fl2, List.getElem?_cons_succ] at h
    have := fl2_nums r (o + 2) (fun j q hj => by
      have := hq (j + 1) q (by simpa using hj)
      rw [show o + 2 + j * 2 = o + (j + 1) * 2 by omega]
      exact this) j z h
    rw [show o + (j + 2) = o + 2 + j by omega]
    exact this
theorem pts_of {fuel : Nat} {v : Value} {x : DataW H × List MemPlace} (h : DataW.trod enc Try.prog w 0 (fun _ => true) true fuel 23 [v] = some x) :
    ∃ a c, ∃ l : List (Int × Int), v = .slice a l.length c ∧ l.length ≤ c ∧ Nums .i64 w w.heap.size a (fl2 l) := by
  rcases open_slice Try.underlying23 h with ⟨hcs, _⟩ | ⟨a, len, cap, m, n, D, Pl, hcs, _, hl, _, hmm, _, hx⟩
  · injection hcs with hcs
    exact ⟨none, 0, [], hcs, Nat.le_refl _, Nums.nil⟩
  · injection hcs with hcs
    have hmc : m = cap := by simpa using hmm
    have h2 : Try.prog.cellsOf 57 = 2 := by kernel_rfl
    have k0 : Try.prog.cellsOf 3 = 1 := by kernel_rfl
    have key : ∀ i, ∃ q : Int × Int, i < len → w.cell? (a.add (i * 2)) = some (.int .i64 q.1) ∧ w.cell? ((a.add (i * 2)).add 1) = some (.int .i64 q.2) := by
      intro i
      by_cases hil : i < len
      · obtain ⟨cs', hc', ht'⟩ := hx i (by omega)
        rw [h2] at hc'
        obtain ⟨_, hlen, hcell⟩ := World.cells?_some hc'
        obtain ⟨xs, n', _, _, _, hxl, hf⟩ := DataW.trod_struct Try.underlying57 ht'
        match cs', hlen with
        | [v0, v1], _ =>
          have hy : ∀ i, i < 2 → ∃ y, xs[i]? = some y := fun i hi => ⟨_, List.getElem?_eq_getElem (by rw [hxl]; exact hi)⟩
          obtain ⟨y0, e0⟩ := hy 0 (by decide)
          obtain ⟨y1, e1⟩ := hy 1 (by decide)
          have f0 : DataW.trod enc Try.prog w 0 (fun _ => true) true n' 3 (([v0, v1].drop 0).take (Try.prog.cellsOf 3)) = some y0 := (hf 0 _ rfl).trans e0
          rw [k0] at f0
          have f1 : DataW.trod enc Try.prog w 0 (fun _ => true) true n' 3 (([v0, v1].drop 1).take (Try.prog.cellsOf 3)) = some y1 := (hf 1 _ rfl).trans e1
          rw [k0] at f1
          obtain ⟨z0, g0, _⟩ := DataW.trod_int Try.underlying3 f0
          obtain ⟨z1, g1, _⟩ := DataW.trod_int Try.underlying3 f1
          injection g0 with g0
          injection g1 with g1
          subst g0 g1
          have c0 := hcell 0 (by decide)
          have c1 := hcell 1 (by decide)
          have hadd : ∀ a : Addr, a.add 0 = a := fun a => by unfold Addr.add; rw [if_pos rfl]
          rw [hadd] at c0
          exact ⟨(z0, z1), fun _ => ⟨c0, c1⟩⟩
      · exact ⟨(0, 0), fun h => absurd h hil⟩
    obtain ⟨g, hg⟩ := Classical.axiomOfChoice key
    refine ⟨some a, cap, (List.range len).map g, by simpa using hcs, by simpa using hl, fun hn => ?_⟩
    have hpos : 0 < len := by
      rcases Nat.eq_zero_or_pos len with h | h
      · subst h; simp [fl2] at hn
      · exact h
    have hz := (hg 0 hpos).1
    have hadd : ∀ a : Addr, a.add 0 = a := fun a => by unfold Addr.add; rw [if_pos rfl]
    rw [Nat.zero_mul, hadd] at hz
    obtain ⟨b, o, sp⟩ := a
    have hsp : sp = none := World.cell?_spot hz
    subst hsp
    have hb := block_of_cell hz
    refine ⟨b, o, rfl, hb, fun j c hj => fl2_nums _ o (fun j q hq => ?_) j c hj⟩
    rw [List.getElem?_map] at hq
    obtain ⟨i, hi, rfl⟩ := Option.map_eq_some_iff.1 hq
    have hil : j < len := by
      rcases Nat.lt_or_ge j len with h | h
      · exact h
      · rw [List.getElem?_eq_none (by simpa using h)] at hi; simp at hi
    rw [List.getElem?_range hil] at hi
    injection hi with hi
    subst hi
    have := hg j hil
    rw [Addr.add_lit, Addr.add_lit] at this
    exact this
/-- a message's cells -/
theorem msg_of {fuel : Nat} {cs : List Value} {x : DataW H × List MemPlace} (h : DataW.trod enc Try.prog w 0 (fun _ => true) true fuel 26 cs = some x) :
    ∃ (M : Mg) (P C : Value), cs = (mC M P C).toList ∧ MAt w w.heap.size M P C := by
  obtain ⟨xs, n, _, _, hlen, hxl, hf⟩ := DataW.trod_struct Try.underlying26 h
  have h11 : Try.prog.cellsOf 26 = 11 := by kernel_rfl
  have k0 : Try.prog.cellsOf 3 = 1 := by kernel_rfl
  have k1 : Try.prog.cellsOf 22 = 6 := by kernel_rfl
  have k2 : Try.prog.cellsOf 23 = 1 := by kernel_rfl
  have k3 : Try.prog.cellsOf 24 = 1 := by kernel_rfl
  have k4 : Try.prog.cellsOf 9 = 1 := by kernel_rfl
  rw [h11] at hlen
  match cs, hlen with
  | [c0, c1, c2, c3, c4, c5, c6, c7, c8, c9, c10], _ =>
    have hx : ∀ i, i < 6 → ∃ y, xs[i]? = some y := fun i hi => ⟨_, List.getElem?_eq_getElem (by rw [hxl]; exact hi)⟩
    obtain ⟨y0, e0⟩ := hx 0 (by decide)
    obtain ⟨y1, e1⟩ := hx 1 (by decide)
    obtain ⟨y2, e2⟩ := hx 2 (by decide)
    obtain ⟨y3, e3⟩ := hx 3 (by decide)
    obtain ⟨y4, e4⟩ := hx 4 (by decide)
    obtain ⟨y5, e5⟩ := hx 5 (by decide)
    have f0 : DataW.trod enc Try.prog w 0 (fun _ => true) true n 3 (([c0, c1, c2, c3, c4, c5, c6, c7, c8, c9, c10].drop 0).take (Try.prog.cellsOf 3)) = some y0 := (hf 0 _ rfl).trans e0
    rw [k0] at f0
    have f1 : DataW.trod enc Try.prog w 0 (fun _ => true) true n 22 (([c0, c1, c2, c3, c4, c5, c6, c7, c8, c9, c10].drop 1).take (Try.prog.cellsOf 22)) = some y1 := (hf 1 _ rfl).trans e1
    rw [k1] at f1
    have f2 : DataW.trod enc Try.prog w 0 (fun _ => true) true n 23 (([c0, c1, c2, c3, c4, c5, c6, c7, c8, c9, c10].drop 7).take (Try.prog.cellsOf 23)) = some y2 := (hf 2 _ rfl).trans e2
    rw [k2] at f2
    have f3 : DataW.trod enc Try.prog w 0 (fun _ => true) true n 24 (([c0, c1, c2, c3, c4, c5, c6, c7, c8, c9, c10].drop 8).take (Try.prog.cellsOf 24)) = some y3 := (hf 3 _ rfl).trans e3
    rw [k3] at f3
    have f4 : DataW.trod enc Try.prog w 0 (fun _ => true) true n 9 (([c0, c1, c2, c3, c4, c5, c6, c7, c8, c9, c10].drop 9).take (Try.prog.cellsOf 9)) = some y4 := (hf 4 _ rfl).trans e4
    rw [k4] at f4
    have f5 : DataW.trod enc Try.prog w 0 (fun _ => true) true n 9 (([c0, c1, c2, c3, c4, c5, c6, c7, c8, c9, c10].drop 10).take (Try.prog.cellsOf 9)) = some y5 := (hf 5 _ rfl).trans e5
    rw [k4] at f5
    obtain ⟨k, g0, _, _⟩ := DataW.trod_int Try.underlying3 f0
    obtain ⟨zs, m, _, _, hzl, hzx, hz⟩ := DataW.trod_array Try.underlying22 f1
    rw [k0] at hz
    have num : ∀ i, i < 6 → ∃ z, ((((([c0, c1, c2, c3, c4, c5, c6, c7, c8, c9, c10].drop 1).take 6)).drop (i * 1)).take 1) = [Value.int .i64 z] := fun i hi => by
      have h := hz i hi
      rw [List.getElem?_eq_getElem (by rw [hzx]; exact hi)] at h
      obtain ⟨z, g, _⟩ := DataW.trod_int Try.underlying3 h
      exact ⟨z, g⟩
    obtain ⟨z0, q0⟩ := num 0 (by decide)
    obtain ⟨z1, q1⟩ := num 1 (by decide)
    obtain ⟨z2, q2⟩ := num 2 (by decide)
    obtain ⟨z3, q3⟩ := num 3 (by decide)
    obtain ⟨z4, q4⟩ := num 4 (by decide)
    obtain ⟨z5, q5⟩ := num 5 (by decide)
    simp only [List.drop_zero, List.drop_succ_cons, List.take_succ_cons, List.take_zero, List.cons.injEq, and_true, Nat.mul_one] at g0 q0 q1 q2 q3 q4 q5 f2 f3 f4 f5
    subst g0 q0 q1 q2 q3 q4 q5
    obtain ⟨a, c, l, rfl, hl, hn⟩ := pts_of f2
    obtain ⟨a', n', c', es, rfl, r1, r2, r3, _⟩ := row_of Try.underlying24 Try.underlying3 (by kernel_rfl) f3
    obtain ⟨tx, s4, _, _⟩ := DataW.trod_string Try.underlying9 f4
    obtain ⟨tg, s5, _, _⟩ := DataW.trod_string Try.underlying9 f5
    injection s4 with s4
    injection s5 with s5
    subst s4 s5 r1
    exact ⟨⟨k, z0, z1, z2, z3, z4, z5, l, es, tx, tg⟩, .slice a l.length c, .slice a' es.length c', rfl, ⟨⟨a, c, rfl, hl, hn⟩, ⟨a', c', rfl, r2, r3⟩⟩⟩
theorem open_msg {r : Reach} {b0 : Nat} {x : Value} {d : DataW H} {p : List MemPlace} (hv : Value.okWide Try.prog w r b0 26 x) (h : DataW.Trod enc Try.prog w 0 (fun _ => true) true 26 x d p) :
    ∃ (M : Mg) (P C : Value), x = mV M P C ∧ MAt w w.heap.size M P C := by
  obtain ⟨⟨cs⟩, rfl, hsz⟩ := okWide_struct Try.underlying26 hv
  obtain ⟨fuel, hf⟩ := h
  obtain ⟨M, P, C, e, h1⟩ := msg_of hf
  simp only [Value.cells] at e
  refine ⟨M, P, C, ?_, h1⟩
  rw [e]
  rfl
end
end Go.Proofs.Ytnbhiamnoapmlaa

namespace Go.Proofs.Ytnbhiamnoapmlaa
open Go.RowKit

theorem wpList_append_any {P : Program} {w : World} {ops : Array Oper} {rest : List Oper} {o : Oper} {a : Act} {Q : Exit → Act → World → Prop} (hwt : Region.wanted o (yielded ops a.tmps) = true) (s x : Operand) (t : TypeId)
    (ho : o.op = .call { callee := .builtin .append, args := #[s, x], argTypes := #[t, t] })
    (base : Nat) (e : TypeId) (i : TypeInfo) (z : Value) (bytes : Nat) (ht : P.underlying t = some (.slice e)) (hi : P.info? e = some i) (hz : i.zero = some z) (hsize : i.size = 1) (hby : i.bytes = bytes) (hzs : z.cells.size = 1)
    (k : IntKind) (L zs : List Int) (v : Value) (hs : a.eval s = v) (hown : w.ownsRow base e 1 v L.length (L.map (Value.int k))) (A : Option Addr) (m c B : Nat) (hx : a.eval x = .slice A m c) (hm : zs.length = m) (hn : Nums k w B A zs)
    (h63 : L.length + m ≤ maxLen) (hbytes : (L.length + m) * bytes ≤ 140737488355328) (hbase : base ≤ w.heap.size)
    (h : ∀ v' w', w'.ownsRow base e 1 v' (L.length + zs.length) (L.map (Value.int k) ++ zs.map (Value.int k)) → w.grownBy w' v.ownBlock → wpList P ops Q rest (a.put o.dst v') w') : wpList P ops Q (o :: rest) a w := by
  subst hm
  simp only [wpList, hwt, if_true]
  left
  by_cases hz0 : zs = []
  · subst hz0
    have hv : ∃ b n cap, v = .slice b n cap ∧ n ≤ cap := by
      rcases hown.2 with ⟨rfl, _⟩ | ⟨g, cap, cur, rfl, _, _, hle, _⟩
      · exact ⟨_, _, _, rfl, Nat.le_refl _⟩
      · exact ⟨_, _, _, rfl, hle⟩
    obtain ⟨b, n, cap, rfl, hle⟩ := hv
    refine Lib.wp_append_run w s x t t ho _ _ hs hx _ w (run_append_nothing w t t o.type e i ht hi b n cap hle _ ?_) (h _ _ (by simpa using hown) ⟨rfl, rfl, rfl, Nat.le_refl _, fun _ _ _ => rfl⟩)
    cases A with
    | none => exact ⟨.inl ⟨e, ht⟩, fun _ => rfl, run_firstCells_none w i.size 0 0 c, run_firstCells_none w.drew i.size 0 0 c, by simp, fun _ h => by cases h⟩
    | some ad => exact Src.ofSlice w ht ad 0 c [] (by simp) (by simp) (fun _ h => by cases h)
  · obtain ⟨b1, o1, rfl, hb1, hc⟩ := hn hz0
    refine wp_append_own w s x t ho base e i z 1 bytes ht hi hz hsize hby hzs (by decide) v L.length _ hs hown ⟨b1, o1, none⟩ zs.length c (zs.map (Value.int k)) hx (by simp) (fun j u hj => ?_) (fun u hu => by obtain ⟨y, _, rfl⟩ := List.mem_map.1 hu; rfl) h63 hbytes hbase fun v' w' h1 h2 _ => h v' w' h1 h2
    rw [List.getElem?_map] at hj
    obtain ⟨y, hy, rfl⟩ := Option.map_eq_some_iff.1 hj
    rw [Addr.add_lit]
    exact hc j y hy

section
variable {e : TypeId} {k : IntKind} {w w1 w2 : World} {L zs : List Int} {v v' : Value}
theorem MadeK.more (h : MadeK e k w w1 L v) (hown : w2.ownsRow w.heap.size e 1 v' (L.length + zs.length) (L.map (Value.int k) ++ zs.map (Value.int k))) (hg : w1.grownBy w2 v.ownBlock) : MadeK e k w w2 (L ++ zs) v' :=
  ⟨by simpa using hown, h.2.grown hg (by have := h.2.size; omega) (fun g hk => (h.own_ge hk).1)⟩
/-- an empty literal -/
theorem MadeK.lit (e : TypeId) (k : IntKind) (h : Below w.heap.size w w1) : MadeK e k w (w1.alloc (.cells #[] e)) [] (.slice (some ⟨w1.heap.size, 0, none⟩) 0 0) :=
  ⟨World.ownsRow_made w1 #[] 0 h.size (Nat.zero_le _) rfl, h.alloc h.size _⟩
theorem MadeK.lit' {s : Nat} (e : TypeId) (k : IntKind) (hs : w1.heap.size = s) (h : Below w.heap.size w w1) : MadeK e k w (w1.alloc (.cells #[] e)) [] (.slice (some ⟨s, 0, none⟩) 0 0) := by
  subst hs; exact MadeK.lit e k h
/-- a store elsewhere, above -/
theorem MadeK.store {q : Addr} (h : MadeK e k w w1 L v) (hq : ∀ g, v.ownBlock = some g → g ≠ q.block) (hw : w.heap.size ≤ q.block) (u : Value) : MadeK e k w (w1.setCell q u) L v := by
  refine ⟨h.1.kept (row := some q.block) ⟨rfl, rfl, rfl, by simp [World.setCell], fun j _ hj => Below.heap_setCell _ _ _ _ (fun e => hj (by rw [e]))⟩ ?_, h.2.setCell hw u⟩
  right
  intro he
  exact hq _ he rfl
theorem MadeK.since {w0 : World} (h : MadeK e k w w1 L v) (hb : Below w0.heap.size w0 w) : MadeK e k w0 w1 L v := by
  have hs := hb.size
  refine ⟨⟨h.1.1, ?_⟩, hb.trans (h.2.mono hs)⟩
  rcases h.1.2 with h | ⟨g, cap, cur, hv, hg, rest⟩
  · exact .inl h
  · exact .inr ⟨g, cap, cur, hv, by omega, rest⟩
/-- the block of what was made -/
theorem MadeK.ge {A : Option Addr} {n c : Nat} (h : MadeK e k w w1 L (.slice A n c)) {q : Nat} (hq : blockOf A q) : w.heap.size ≤ q := by
  obtain ⟨o, s, rfl⟩ := hq
  exact (h.own_ge (g := q) rfl).1
end
end Go.Proofs.Ytnbhiamnoapmlaa

namespace Go.Proofs.Ytnbhiamnoapmlaa
open Go.RowKit

theorem wpList_append_szd {P : Program} {w : World} {ops : Array Oper} {rest : List Oper} {o : Oper} {a : Act} {Q : Exit → Act → World → Prop} (hwt : Region.wanted o (yielded ops a.tmps) = true) (s x : Operand) (t : TypeId)
    (ho : o.op = .call { callee := .builtin .append, args := #[s, x], argTypes := #[t, t] })
    (base : Nat) (e : TypeId) (i : TypeInfo) (z : Value) (size bytes : Nat) (ht : P.underlying t = some (.slice e)) (hi : P.info? e = some i) (hz : i.zero = some z) (hsize : i.size = size) (hby : i.bytes = bytes) (hzs : z.cells.size = size) (hsz : 0 < size)
    (k : IntKind) (n : Nat) (xs : List Value) (zs : List Int) (v : Value) (hs : a.eval s = v) (hown : w.ownsRow base e size v n xs) (A : Option Addr) (m c B : Nat) (hx : a.eval x = .slice A m c) (hm : zs.length = m * size) (hn : Nums k w B A zs)
    (h63 : n + m ≤ maxLen) (hbytes : (n + m) * bytes ≤ 140737488355328) (hbase : base ≤ w.heap.size)
    (h : ∀ v' w', w'.ownsRow base e size v' (n + m) (xs ++ zs.map (Value.int k)) → w.grownBy w' v.ownBlock → wpList P ops Q rest (a.put o.dst v') w') : wpList P ops Q (o :: rest) a w := by
  simp only [wpList, hwt, if_true]
  left
  by_cases hz0 : zs = []
  · subst hz0
    obtain rfl : m = 0 := by
      have h1 : m * size = 0 := by simpa using hm.symm
      rcases Nat.mul_eq_zero.1 h1 with h | h <;> omega
    have hv : ∃ b n cap, v = .slice b n cap ∧ n ≤ cap := by
      rcases hown.2 with ⟨rfl, _⟩ | ⟨g, cap, cur, rfl, _, _, hle, _⟩
      · exact ⟨_, _, _, rfl, Nat.le_refl _⟩
      · exact ⟨_, _, _, rfl, hle⟩
    obtain ⟨b, q, cap, rfl, hle⟩ := hv
    refine Lib.wp_append_run w s x t t ho _ _ hs hx _ w (run_append_nothing w t t o.type e i ht hi b q cap hle _ ?_) (h _ _ (by simpa using hown) ⟨rfl, rfl, rfl, Nat.le_refl _, fun _ _ _ => rfl⟩)
    cases A with
    | none => exact ⟨.inl ⟨e, ht⟩, fun _ => rfl, run_firstCells_none w i.size 0 0 c, run_firstCells_none w.drew i.size 0 0 c, by simp, fun _ h => by cases h⟩
    | some ad => exact Src.ofSlice w ht ad 0 c [] (by simp) (by simp) (fun _ h => by cases h)
  · obtain ⟨b1, o1, rfl, hb1, hc⟩ := hn hz0
    refine wp_append_own w s x t ho base e i z size bytes ht hi hz hsize hby hzs hsz v n xs hs hown ⟨b1, o1, none⟩ m c (zs.map (Value.int k)) hx (by simpa using hm) (fun j u hj => ?_) (fun u hu => by obtain ⟨y, _, rfl⟩ := List.mem_map.1 hu; rfl) h63 hbytes hbase fun v' w' h1 h2 _ => h v' w' h1 h2
    rw [List.getElem?_map] at hj
    obtain ⟨y, hy, rfl⟩ := Option.map_eq_some_iff.1 hj
    rw [Addr.add_lit]
    exact hc j y hy
/-- numbers of a row that the call made, elements of any size -/
theorem nums_of_own {w : World} {base e size n : Nat} {k : IntKind} {v : Value} {zs : List Int} (h : w.ownsRow base e size v n (zs.map (Value.int k))) (_hsz : 0 < size) : ∃ A c, v = .slice A n c ∧ n ≤ c ∧ Nums k w w.heap.size A zs := by
  have h1 := h.2
  rcases h1 with ⟨rfl, h0⟩ | ⟨g, cap, cur, rfl, hg, hh, hn, _⟩
  · subst h0
    have h2 := h.1
    rw [Nat.zero_mul] at h2
    have : zs = [] := by simpa using h2
    subst this
    exact ⟨none, 0, rfl, Nat.le_refl _, Nums.nil⟩
  · refine ⟨_, cap, rfl, hn, fun _ => ⟨g, 0, rfl, (Array.getElem?_eq_some_iff.1 hh).1, fun j c hj => ?_⟩⟩
    have := h.cells (g := g) rfl j (.int k c) (by rw [List.getElem?_map, hj]; rfl)
    rwa [Addr.add_lit] at this
end Go.Proofs.Ytnbhiamnoapmlaa

namespace Go.Proofs.Ytnbhiamnoapmlaa
open Go.RowKit

theorem run_append_any {P : Program} {w : World} (t ty : TypeId) (base : Nat) (e : TypeId) (i : TypeInfo) (z : Value) (bytes : Nat) (ht : P.underlying t = some (.slice e)) (hi : P.info? e = some i) (hz : i.zero = some z) (hsize : i.size = 1) (hby : i.bytes = bytes) (hzs : z.cells.size = 1)
    (k : IntKind) (n : Nat) (xs : List Value) (zs : List Int) (v : Value) (hown : w.ownsRow base e 1 v n xs) (A : Option Addr) (m c B : Nat) (hm : zs.length = m) (hn : Nums k w B A zs)
    (h63 : n + m ≤ maxLen) (hbytes : (n + m) * bytes ≤ 140737488355328) (hbase : base ≤ w.heap.size) :
    ∃ v' w', (Builtin.append_ #[t, t] ty #[v, .slice A m c]).run P w = .ok v' w' ∧ w'.ownsRow base e 1 v' (n + m) (xs ++ zs.map (Value.int k)) ∧ w.grownBy w' v.ownBlock := by
  subst hm
  by_cases hz0 : zs = []
  · subst hz0
    have hv : ∃ b n cap, v = .slice b n cap ∧ n ≤ cap := by
      rcases hown.2 with ⟨rfl, _⟩ | ⟨g, cap, cur, rfl, _, _, hle, _⟩
      · exact ⟨_, _, _, rfl, Nat.le_refl _⟩
      · exact ⟨_, _, _, rfl, hle⟩
    obtain ⟨b, q, cap, rfl, hle⟩ := hv
    refine ⟨_, _, run_append_nothing w t t ty e i ht hi b q cap hle _ ?_, by simpa using hown, ⟨rfl, rfl, rfl, Nat.le_refl _, fun _ _ _ => rfl⟩⟩
    cases A with
    | none => exact ⟨.inl ⟨e, ht⟩, fun _ => rfl, run_firstCells_none w i.size 0 0 c, run_firstCells_none w.drew i.size 0 0 c, by simp, fun _ h => by cases h⟩
    | some ad => exact Src.ofSlice w ht ad 0 c [] (by simp) (by simp) (fun _ h => by cases h)
  · obtain ⟨b1, o1, rfl, hb1, hc⟩ := hn hz0
    obtain ⟨v', w', h1, h2, h3, _⟩ := run_append_own (P := P) w base t ty e i z 1 bytes ht hi hz hsize hby hzs (by decide) v n xs hown ⟨b1, o1, none⟩ zs.length c (zs.map (Value.int k)) (by simp) (fun j u hj => by
      rw [List.getElem?_map] at hj
      obtain ⟨y, hy, rfl⟩ := Option.map_eq_some_iff.1 hj
      rw [Addr.add_lit]
      exact hc j y hy) (fun u hu => by obtain ⟨y, _, rfl⟩ := List.mem_map.1 hu; rfl) h63 hbytes hbase
    exact ⟨v', w', h1, h2, h3⟩

theorem wpListIn_append_any {F : Fence} {nF : Nat} {P : Program} {w : World} {ops : Array Oper} {rest : List Oper} {o : Oper} {a : Act} {Q : Exit → Act → World → Prop} (hg : o.guard = none) (s x : Operand) (t : TypeId)
    (hop : o.op = Op.call { callee := Callee.builtin Builtin.append, args := #[s, x], argTypes := #[t, t] })
    (base : Nat) (e : TypeId) (i : TypeInfo) (z : Value) (bytes : Nat) (ht : P.underlying t = some (.slice e)) (hi : P.info? e = some i) (hz : i.zero = some z) (hsize : i.size = 1) (hby : i.bytes = bytes) (hzs : z.cells.size = 1)
    (k : IntKind) (n : Nat) (xs : List Value) (zs : List Int) (v : Value) (hs : a.eval s = v) (hown : w.ownsRow base e 1 v n xs) (A : Option Addr) (m c B : Nat) (hx : a.eval x = .slice A m c) (hm : zs.length = m) (hn : Nums k w B A zs)
    (h63 : n + m ≤ maxLen) (hbytes : (n + m) * bytes ≤ 140737488355328) (hbase : base ≤ w.heap.size)
    (hK : ∀ v' w', w'.ownsRow base e 1 v' (n + m) (xs ++ zs.map (Value.int k)) → w.grownBy w' v.ownBlock → wpListIn F nF P ops Q rest (a.put o.dst v') w') :
    wpListIn F nF P ops Q (o :: rest) a w := by
  refine wpListIn_plain hg fun K hK' => ?_
  obtain ⟨v', w', hrun, r1, r2⟩ := run_append_any (P := P) (w := w) t o.type base e i z bytes ht hi hz hsize hby hzs k n xs zs v hown A m c B hm hn h63 hbytes hbase
  unfold Oper.wpIn
  refine ⟨?_, ?_⟩
  · simp [Oper.about, hop, resolve, Target.leads, Sem.run_pure]
  · rw [Oper.semAt_plain F _ _ (by rw [hop]; intro c hc'; cases hc')]
    simp [execOp, hop, resolve, invoke, builtin, hs, hx, hrun, Result.andThen]
    exact hK' _ _ (hK v' w' r1 r2)

/-- what has grown behind a new block has grown -/
theorem grown_of_alloc {W w1 : World} {o : Obj} {row : Option Nat} (h : (W.alloc o).grownBy w1 row) : W.grownBy w1 row :=
  ⟨h.os, h.tape, h.output, by have := h.size; rw [World.size_alloc] at this; omega, fun k hk hne => (h.block k (by rw [World.size_alloc]; omega) hne).trans (Below.heap_alloc W o k hk)⟩

/-- what a box that is appended to leaves -/
structure BoxApp (S : Nat → Prop) (base : Nat) (t e : TypeId) (Bo Bs : Nat) (v' u : Value) (m : Nat) (ys : List Value) (W W2 : World) : Prop where
  out : Boxed W2 Bo t v'
  src : Boxed W2 Bs t u
  row : W2.ownsRow base e 1 v' m ys
  others : KeepsOthers W W2
  below : Below base W W2
  keep : KeepS S W W2
theorem box_appended {W w1 : World} {base Bo Bs : Nat} {t e : TypeId} {v v' u : Value} {n m : Nat} {xs ys : List Value} {S : Nat → Prop} (hv : Boxed W Bo t v) (hs : Boxed W Bs t u) (hne : Bs ≠ Bo) (hte : t ≠ e) (hrow : W.ownsRow base e 1 v n xs) (hbase : base ≤ W.heap.size) (hBo : base ≤ Bo)
    (hS : ∀ k, S k → k < base ∨ k = Bs) (hown' : w1.ownsRow base e 1 v' m ys) (hg : W.grownBy w1 v.ownBlock) :
    Boxed w1 Bo t v ∧ BoxApp S base t e Bo Bs v' u m ys W (w1.setCell ⟨Bo, 0, none⟩ v') := by
  have hv1 : Boxed w1 Bo t v := hv.kept hg (hv.not_row hte hrow)
  have hs1 : Boxed w1 Bs t u := hs.kept hg (hs.not_row hte hrow)
  have hlt := hrow.lt
  have hSlt := hs.lt
  refine ⟨hv1, hv1.set v', hs1.other hne v', hown'.kept (grownBy_setCell' w1 Bo v') (.inr (hv1.not_row hte hown').symm), ?_, ?_, ?_⟩
  · refine (KeepsOthers.of_grownBy hg fun j o ej hj => ?_).trans (KeepsOthers.setCell _ _ _)
    rcases hrow.2 with ⟨rfl, _⟩ | ⟨g, cap, cur, rfl, _, hgb, _⟩
    · simp [Value.ownBlock] at ej
    · obtain rfl : g = j := by simpa [Value.ownBlock] using ej
      rw [hgb] at hj; cases hj; rfl
  · exact ((Below.refl base W).grown hg hbase (fun j ej => (hlt j ej).1)).setCell (p := ⟨Bo, 0, none⟩) hBo v'
  · refine KeepS.set (KeepS.grown (KeepS.refl S W) hg (fun k hk => ?_) (fun k hk hSk => ?_)) (fun h => ?_) v'
    · rcases hS k hk with h | h <;> omega
    · have h1 := (hlt k hk).1
      rcases hS k hSk with h | h
      · omega
      · subst h; exact hs.not_row hte hrow hk.symm
    · rcases hS Bo h with h | h <;> omega
end Go.Proofs.Ytnbhiamnoapmlaa

namespace Go.Proofs.Ytnbhiamnoapmlaa
open Go.RowKit Go.Shelf
set_option maxRecDepth 100000
attribute [local go_sem] Oper.semAt_some

theorem rfInfo : (Try.prog.info? 49).map (fun i => (i.zero, i.size, i.bytes)) = some (some (.agg #[.string ⟨#[]⟩, .int .i64 0, .int .i64 0, .int .i64 0, .int .i64 0, .int .i64 0, .int .i64 0]), 7, 64) := by kernel_rfl
/-- fields that lie in a row, at lo or above -/
def FdsIn (lo : Nat) (w : World) (A : Option Addr) (L : List Fd) : Prop := ∀ (j : Nat) (f : Fd), L[j]? = some f → ∃ g, A = some ⟨g, 0, none⟩ ∧ lo ≤ g ∧ g < w.heap.size ∧ ∀ (q : Nat) (u : Value), f.cs[q]? = some u → w.cell? ⟨g, j * 7 + q, none⟩ = some u
def OfI (L : List Fd) (w : World) (e : Ending) (w' : World) : Prop := ∃ A c, e = .returned (.slice A L.length c) ∧ L.length ≤ c ∧ FdsIn w.heap.size w' A L ∧ Below w.heap.size w w'
theorem FRow.lt {T : TypeId} {w : World} {g : Nat} {L : List Fd} (h : FRow T w g L) : g < w.heap.size := (Array.getElem?_eq_some_iff.1 h).1
theorem FRow.seven {T : TypeId} {w : World} {g : Nat} {L : List Fd} (h : FRow T w g L) {j : Nat} {f : Fd} (hj : L[j]? = some f) :
    w.cell? ⟨g, j * 7, none⟩ = some (.string f.nm) ∧ w.cell? ⟨g, j * 7 + 1, none⟩ = some (.int .i64 f.so) ∧ w.cell? ⟨g, j * 7 + 2, none⟩ = some (.int .i64 f.pl) ∧ w.cell? ⟨g, j * 7 + 3, none⟩ = some (.int .i64 f.le) ∧ w.cell? ⟨g, j * 7 + 4, none⟩ = some (.int .i64 f.mo) ∧ w.cell? ⟨g, j * 7 + 5, none⟩ = some (.int .i64 f.si) ∧ w.cell? ⟨g, j * 7 + 6, none⟩ = some (.int .i64 f.ab) :=
  ⟨h.cell hj (q := 0) (by omega), h.cell hj (q := 1) (by omega), h.cell hj (q := 2) (by omega), h.cell hj (q := 3) (by omega), h.cell hj (q := 4) (by omega), h.cell hj (q := 5) (by omega), h.cell hj (q := 6) (by omega)⟩
theorem own_below7 {W W' : World} {base e size n : Nat} {v : Value} {xs : List Value} (h : W.ownsRow base e size v n xs) (hb : Below W.heap.size W W') : W'.ownsRow base e size v n xs := by
  refine ⟨h.1, h.2.imp id ?_⟩
  rintro ⟨g, cap, cur, hv, hg, hh, r⟩
  exact ⟨g, cap, cur, hv, hg, (hb.block g (Array.getElem?_eq_some_iff.1 hh).1).trans hh, r⟩
theorem cells_newF {w : World} {cs cs2 : List Value} (t t2 : TypeId) : ∀ (j : Nat) (u : Value), cs2[j]? = some u → ((w.alloc (.cells cs.toArray t)).alloc (.cells cs2.toArray t2)).cell? ((⟨w.heap.size + 1, 0, none⟩ : Addr).add j) = some u := fun j u h => by
  rw [Addr.add_lit, Nat.zero_add, World.cell?_alloc_at _ _ _ _ (by simp)]
  simpa using h
theorem rall_step {T base g j : Nat} {w wr W4 : World} {u v' : Value} {L M : List Fd} {f' : Fd} {o1 o2 : Obj} (hb : Below w.heap.size w wr) (hF : FRow T wr g L) (hg : g < base) (hbw : w.heap.size ≤ base) (hown : wr.ownsRow base T 7 u j (flat7 M))
    (h4 : W4.ownsRow base T 7 v' (j + 1) (flat7 M ++ f'.cs.toList)) (hgr : ((wr.alloc o1).alloc o2).grownBy W4 u.ownBlock) : Below w.heap.size w W4 ∧ FRow T W4 g L ∧ W4.ownsRow base T 7 v' (j + 1) (flat7 (M ++ [f'])) := by
  have hs := hb.size
  have hlt := hF.lt
  refine ⟨((hb.alloc hs o1).alloc (by rw [World.size_alloc]; omega) o2).grown hgr (by rw [World.size_alloc, World.size_alloc]; omega) (fun k hk => by have := (hown.lt k hk).1; omega), ?_, ?_⟩
  · unfold FRow at hF ⊢
    rw [hgr.block g (by rw [World.size_alloc, World.size_alloc]; omega) (fun e => by have := (hown.lt g e.symm).1; omega), Below.heap_alloc _ _ _ (by rw [World.size_alloc]; omega), Below.heap_alloc _ _ _ hlt]
    exact hF
  · rw [flat7_app]
    simpa [flat7] using h4
theorem own_in {T base lo n : Nat} {w : World} {v : Value} {M : List Fd} (h : w.ownsRow base T 7 v n (flat7 M)) (hM : M.length = n) (hlo : lo ≤ base) : ∃ A c, v = .slice A n c ∧ n ≤ c ∧ FdsIn lo w A M := by
  have h1 := h.2
  rcases h1 with ⟨rfl, rfl⟩ | ⟨g, cap, cur, rfl, hg, hh, hc, _⟩
  · exact ⟨none, 0, rfl, Nat.le_refl _, fun j f hj => by rw [List.eq_nil_of_length_eq_zero hM] at hj; simp at hj⟩
  · refine ⟨some ⟨g, 0, none⟩, cap, rfl, hc, fun j f hj => ⟨g, rfl, by omega, (Array.getElem?_eq_some_iff.1 hh).1, fun q u hq => ?_⟩⟩
    have hq7 : q < 7 := by
      have := (Array.getElem?_eq_some_iff.1 hq).1
      simpa [Fd.cs] using this
    have := h.cells (g := g) rfl (j * 7 + q) u (by rw [flat7_get M j f hj q hq7]; exact hq)
    rwa [Addr.add_lit, Nat.zero_add] at this
theorem rall_fin {T base n : Nat} {w w' : World} {v : Value} {L : List Fd} (hL : L.length = n) (h : w'.ownsRow base T 7 v n (flat7 (L.take n))) (hb : Below w.heap.size w w') (hlo : w.heap.size ≤ base) : OfI L w (.returned v) w' := by
  rw [List.take_of_length_le (by omega)] at h
  obtain ⟨A, c, rfl, hc, hi⟩ := own_in h hL hlo
  subst hL
  exact ⟨A, c, rfl, hc, hi, hb⟩
theorem OfR.in {T : TypeId} {L : List Fd} {w w' : World} {e : Ending} (h : OfR T L w e w') : OfI L w e w' := by
  obtain ⟨A, c, rfl, hc, hA, hb⟩ := h
  refine ⟨A, c, rfl, hc, fun j f hj => ?_, hb⟩
  obtain ⟨g, rfl, hg, hF⟩ := hA (by intro e; subst e; simp at hj)
  refine ⟨g, rfl, hg, hF.lt, fun q u hq => ?_⟩
  have hq7 : q < 7 := by
    have := (Array.getElem?_eq_some_iff.1 hq).1
    simpa [Fd.cs] using this
  rw [hF.cell hj hq7]
  exact hq

set_option maxHeartbeats 8000000 in
theorem rall_any (k : Int) (w : World) : Calls Try.prog 19 #[.int .i64 k] w fun e w' => OfI (FD k) w e w' := by
  obtain ⟨f0, hf0, hf1, hf2, hf3⟩ := info_parts rfInfo
  rcases kind_ways k with rfl | rfl | rfl | rfl | rfl | ⟨h1, h2, h3, h4, h5⟩
  case' inr.inr.inr.inr.inr =>
    have n1 : (k == 1) = false := by simpa using h1
    have n2 : (k == 2) = false := by simpa using h2
    have n3 : (k == 3) = false := by simpa using h3
    have n4 : (k == 4) = false := by simpa using h4
    have n5 : (k == 5) = false := by simpa using h5
    have hFD : FD k = [] := by simp [FD, raw, h1, h2, h3, h4, h5, pls]
    clear h1 h2 h3 h4 h5
  all_goals
    go_enter Try.func19, Try.ntmps19
  · go_wp2_with fail
    go_loopw [3, 6] (fun v iv wr => v = .slice none 0 0 ∧ iv = .int .i64 0 ∧ Hid (Below w.heap.size w wr)) (fun _ _ _ => 0)
    case atStart => exact ⟨rfl, rfl, Lib.hid ((Below.refl _ w).alloc (Nat.le_refl _) _)⟩
    case round =>
      obtain ⟨rfl, rfl, HB⟩ := hrel
      go_wp2
      go_ret
      rw [hFD]
      exact ⟨none, 0, rfl, Nat.le_refl _, fun j f h => by simp at h, HB.out⟩
  · go_wp2_with fail
    go_loopw [3, 4, 6] (fun v x iv wr => ∃ (j : Nat) (u : Value), u = v ∧ j ≤ 5 ∧ iv = .int .i64 (j : Int) ∧ x = .int .i64 (nums3 ((raw 1).take j)) ∧ Hid (wr.ownsRow (w.heap.size + 2) 49 7 u j (flat7 ((FD 1).take j))) ∧ Hid (FRow 49 wr (w.heap.size + 1) (raw 1)) ∧ Hid (Below w.heap.size w wr)) (fun _ _ iv _ => 5 - (intOf iv).toNat)
    case atStart => exact ⟨0, _, rfl, by omega, rfl, rfl, Lib.hid (World.ownsRow_nil _ _ _ _), Lib.hid ((by rw [show w.heap.size + 1 = (w.alloc (.cells #[] 49)).heap.size by simp]; exact World.alloc_heap_new _ _)), Lib.hid (((Below.refl _ w).alloc (Nat.le_refl _) _).alloc (by simp) _)⟩
    case round =>
      obtain ⟨j, u, rfl, hj, rfl, rfl, HO, HR, HB⟩ := hrel
      rcases Nat.lt_or_ge j 5 with hlt | hge
      · obtain ⟨f, hf⟩ : ∃ f, (raw 1)[j]? = some f := ⟨_, List.getElem?_eq_getElem (by show j < 5; exact hlt)⟩
        have hs := raw_so 1 f (List.mem_of_getElem? hf)
        obtain ⟨d0, d1, d2, d3, d4, d5, d6⟩ := HR.out.seven hf
        obtain ⟨m, hm⟩ : ∃ m, nums3 ((raw 1).take j) = m := ⟨_, rfl⟩
        have hm2 := nums3_nonneg ((raw 1).take j)
        rw [hm, List.length_take] at hm2
        have ht := nums3_take (raw 1) j f hf
        have hp := pls_get (raw 1) 0 j f hf
        rw [hm] at ht hp
        rw [hm]
        have hmm : 0 ≤ m ∧ m ≤ 6 := by omega
        have HG := Lib.hid (And.intro ht hp)
        have HW := Lib.hid HB.out.size
        clear ht hp hm hm2 hf
        by_cases h3 : f.so < 3
        · rw [if_pos h3, if_pos h3, Int.zero_add] at HG
          go_wp2_with (at_builtin; refine wpList_append_own_at _ rfl (.tmp 67) (.tmp 69) 43 rfl (w.heap.size + 2) 49 f0 _ 7 64 Try.underlying43 hf0 hf1 hf2 hf3 rfl (by decide) _ _ _ rfl (own_below7 HO.out (((Below.refl _ wr).alloc (Nat.le_refl _) _).alloc (by simp) _)) ⟨wr.heap.size + 1, 0, none⟩ 1 1 [Value.string f.nm, .int .i64 f.so, .int .i64 m, .int .i64 f.le, .int .i64 f.mo, .int .i64 f.si, .int .i64 f.ab] rfl rfl (cells_newF _ _) (by simp [Value.oneCell']) (by unfold maxLen; omega) (by omega) (by have := HB.out.size; have := HO.out; have := HR.out.lt; simp; omega) ?_)
          intro v' W4 hown hg _ _
          have HX := Lib.hid (rall_step (f' := { f with pl := m }) HB.out HR.out (by omega) (by omega) HO.out hown hg)
          clear hown hg
          go_wp2
          obtain ⟨x1, x2, x3⟩ := HX.out
          obtain ⟨y1, y2⟩ := HG.out
          refine ⟨⟨j + 1, _, rfl, by omega, by go_num, by rw [y1], ?_, Lib.hid x2, Lib.hid x1⟩, by simp only [intOf]; omega⟩
          rw [List.take_add_one, show (FD 1)[j]? = _ from y2]
          exact Lib.hid x3
        · rw [if_neg h3, if_neg h3, Int.add_zero] at HG
          go_wp2_with (at_builtin; refine wpList_append_own_at _ rfl (.tmp 67) (.tmp 69) 43 rfl (w.heap.size + 2) 49 f0 _ 7 64 Try.underlying43 hf0 hf1 hf2 hf3 rfl (by decide) _ _ _ rfl (own_below7 HO.out (((Below.refl _ wr).alloc (Nat.le_refl _) _).alloc (by simp) _)) ⟨wr.heap.size + 1, 0, none⟩ 1 1 [Value.string f.nm, .int .i64 f.so, .int .i64 (-1), .int .i64 f.le, .int .i64 f.mo, .int .i64 f.si, .int .i64 f.ab] rfl rfl (cells_newF _ _) (by simp [Value.oneCell']) (by unfold maxLen; omega) (by omega) (by have := HB.out.size; have := HO.out; have := HR.out.lt; simp; omega) ?_)
          intro v' W4 hown hg _ _
          have HX := Lib.hid (rall_step (f' := { f with pl := -1 }) HB.out HR.out (by omega) (by omega) HO.out hown hg)
          clear hown hg
          go_wp2
          obtain ⟨x1, x2, x3⟩ := HX.out
          obtain ⟨y1, y2⟩ := HG.out
          refine ⟨⟨j + 1, _, rfl, by omega, by go_num, by rw [y1], ?_, Lib.hid x2, Lib.hid x1⟩, by simp only [intOf]; omega⟩
          rw [List.take_add_one, show (FD 1)[j]? = _ from y2]
          exact Lib.hid x3
      · obtain rfl : j = 5 := by omega
        go_wp2
        go_ret
        exact rall_fin (L := FD 1) (n := 5) rfl HO.out HB.out (by omega)
  · go_wp2_with fail
    go_loopw [3, 4, 6] (fun v x iv wr => ∃ (j : Nat) (u : Value), u = v ∧ j ≤ 3 ∧ iv = .int .i64 (j : Int) ∧ x = .int .i64 (nums3 ((raw 2).take j)) ∧ Hid (wr.ownsRow (w.heap.size + 2) 49 7 u j (flat7 ((FD 2).take j))) ∧ Hid (FRow 49 wr (w.heap.size + 1) (raw 2)) ∧ Hid (Below w.heap.size w wr)) (fun _ _ iv _ => 3 - (intOf iv).toNat)
    case atStart => exact ⟨0, _, rfl, by omega, rfl, rfl, Lib.hid (World.ownsRow_nil _ _ _ _), Lib.hid ((by rw [show w.heap.size + 1 = (w.alloc (.cells #[] 49)).heap.size by simp]; exact World.alloc_heap_new _ _)), Lib.hid (((Below.refl _ w).alloc (Nat.le_refl _) _).alloc (by simp) _)⟩
    case round =>
      obtain ⟨j, u, rfl, hj, rfl, rfl, HO, HR, HB⟩ := hrel
      rcases Nat.lt_or_ge j 3 with hlt | hge
      · obtain ⟨f, hf⟩ : ∃ f, (raw 2)[j]? = some f := ⟨_, List.getElem?_eq_getElem (by show j < 3; exact hlt)⟩
        have hs := raw_so 2 f (List.mem_of_getElem? hf)
        obtain ⟨d0, d1, d2, d3, d4, d5, d6⟩ := HR.out.seven hf
        obtain ⟨m, hm⟩ : ∃ m, nums3 ((raw 2).take j) = m := ⟨_, rfl⟩
        have hm2 := nums3_nonneg ((raw 2).take j)
        rw [hm, List.length_take] at hm2
        have ht := nums3_take (raw 2) j f hf
        have hp := pls_get (raw 2) 0 j f hf
        rw [hm] at ht hp
        rw [hm]
        have hmm : 0 ≤ m ∧ m ≤ 6 := by omega
        have HG := Lib.hid (And.intro ht hp)
        have HW := Lib.hid HB.out.size
        clear ht hp hm hm2 hf
        by_cases h3 : f.so < 3
        · rw [if_pos h3, if_pos h3, Int.zero_add] at HG
          go_wp2_with (at_builtin; refine wpList_append_own_at _ rfl (.tmp 67) (.tmp 69) 43 rfl (w.heap.size + 2) 49 f0 _ 7 64 Try.underlying43 hf0 hf1 hf2 hf3 rfl (by decide) _ _ _ rfl (own_below7 HO.out (((Below.refl _ wr).alloc (Nat.le_refl _) _).alloc (by simp) _)) ⟨wr.heap.size + 1, 0, none⟩ 1 1 [Value.string f.nm, .int .i64 f.so, .int .i64 m, .int .i64 f.le, .int .i64 f.mo, .int .i64 f.si, .int .i64 f.ab] rfl rfl (cells_newF _ _) (by simp [Value.oneCell']) (by unfold maxLen; omega) (by omega) (by have := HB.out.size; have := HO.out; have := HR.out.lt; simp; omega) ?_)
          intro v' W4 hown hg _ _
          have HX := Lib.hid (rall_step (f' := { f with pl := m }) HB.out HR.out (by omega) (by omega) HO.out hown hg)
          clear hown hg
          go_wp2
          obtain ⟨x1, x2, x3⟩ := HX.out
          obtain ⟨y1, y2⟩ := HG.out
          refine ⟨⟨j + 1, _, rfl, by omega, by go_num, by rw [y1], ?_, Lib.hid x2, Lib.hid x1⟩, by simp only [intOf]; omega⟩
          rw [List.take_add_one, show (FD 2)[j]? = _ from y2]
          exact Lib.hid x3
        · rw [if_neg h3, if_neg h3, Int.add_zero] at HG
          go_wp2_with (at_builtin; refine wpList_append_own_at _ rfl (.tmp 67) (.tmp 69) 43 rfl (w.heap.size + 2) 49 f0 _ 7 64 Try.underlying43 hf0 hf1 hf2 hf3 rfl (by decide) _ _ _ rfl (own_below7 HO.out (((Below.refl _ wr).alloc (Nat.le_refl _) _).alloc (by simp) _)) ⟨wr.heap.size + 1, 0, none⟩ 1 1 [Value.string f.nm, .int .i64 f.so, .int .i64 (-1), .int .i64 f.le, .int .i64 f.mo, .int .i64 f.si, .int .i64 f.ab] rfl rfl (cells_newF _ _) (by simp [Value.oneCell']) (by unfold maxLen; omega) (by omega) (by have := HB.out.size; have := HO.out; have := HR.out.lt; simp; omega) ?_)
          intro v' W4 hown hg _ _
          have HX := Lib.hid (rall_step (f' := { f with pl := -1 }) HB.out HR.out (by omega) (by omega) HO.out hown hg)
          clear hown hg
          go_wp2
          obtain ⟨x1, x2, x3⟩ := HX.out
          obtain ⟨y1, y2⟩ := HG.out
          refine ⟨⟨j + 1, _, rfl, by omega, by go_num, by rw [y1], ?_, Lib.hid x2, Lib.hid x1⟩, by simp only [intOf]; omega⟩
          rw [List.take_add_one, show (FD 2)[j]? = _ from y2]
          exact Lib.hid x3
      · obtain rfl : j = 3 := by omega
        go_wp2
        go_ret
        exact rall_fin (L := FD 2) (n := 3) rfl HO.out HB.out (by omega)
  · go_wp2_with fail
    go_loopw [3, 4, 6] (fun v x iv wr => ∃ (j : Nat) (u : Value), u = v ∧ j ≤ 4 ∧ iv = .int .i64 (j : Int) ∧ x = .int .i64 (nums3 ((raw 3).take j)) ∧ Hid (wr.ownsRow (w.heap.size + 2) 49 7 u j (flat7 ((FD 3).take j))) ∧ Hid (FRow 49 wr (w.heap.size + 1) (raw 3)) ∧ Hid (Below w.heap.size w wr)) (fun _ _ iv _ => 4 - (intOf iv).toNat)
    case atStart => exact ⟨0, _, rfl, by omega, rfl, rfl, Lib.hid (World.ownsRow_nil _ _ _ _), Lib.hid ((by rw [show w.heap.size + 1 = (w.alloc (.cells #[] 49)).heap.size by simp]; exact World.alloc_heap_new _ _)), Lib.hid (((Below.refl _ w).alloc (Nat.le_refl _) _).alloc (by simp) _)⟩
    case round =>
      obtain ⟨j, u, rfl, hj, rfl, rfl, HO, HR, HB⟩ := hrel
      rcases Nat.lt_or_ge j 4 with hlt | hge
      · obtain ⟨f, hf⟩ : ∃ f, (raw 3)[j]? = some f := ⟨_, List.getElem?_eq_getElem (by show j < 4; exact hlt)⟩
        have hs := raw_so 3 f (List.mem_of_getElem? hf)
        obtain ⟨d0, d1, d2, d3, d4, d5, d6⟩ := HR.out.seven hf
        obtain ⟨m, hm⟩ : ∃ m, nums3 ((raw 3).take j) = m := ⟨_, rfl⟩
        have hm2 := nums3_nonneg ((raw 3).take j)
        rw [hm, List.length_take] at hm2
        have ht := nums3_take (raw 3) j f hf
        have hp := pls_get (raw 3) 0 j f hf
        rw [hm] at ht hp
        rw [hm]
        have hmm : 0 ≤ m ∧ m ≤ 6 := by omega
        have HG := Lib.hid (And.intro ht hp)
        have HW := Lib.hid HB.out.size
        clear ht hp hm hm2 hf
        by_cases h3 : f.so < 3
        · rw [if_pos h3, if_pos h3, Int.zero_add] at HG
          go_wp2_with (at_builtin; refine wpList_append_own_at _ rfl (.tmp 67) (.tmp 69) 43 rfl (w.heap.size + 2) 49 f0 _ 7 64 Try.underlying43 hf0 hf1 hf2 hf3 rfl (by decide) _ _ _ rfl (own_below7 HO.out (((Below.refl _ wr).alloc (Nat.le_refl _) _).alloc (by simp) _)) ⟨wr.heap.size + 1, 0, none⟩ 1 1 [Value.string f.nm, .int .i64 f.so, .int .i64 m, .int .i64 f.le, .int .i64 f.mo, .int .i64 f.si, .int .i64 f.ab] rfl rfl (cells_newF _ _) (by simp [Value.oneCell']) (by unfold maxLen; omega) (by omega) (by have := HB.out.size; have := HO.out; have := HR.out.lt; simp; omega) ?_)
          intro v' W4 hown hg _ _
          have HX := Lib.hid (rall_step (f' := { f with pl := m }) HB.out HR.out (by omega) (by omega) HO.out hown hg)
          clear hown hg
          go_wp2
          obtain ⟨x1, x2, x3⟩ := HX.out
          obtain ⟨y1, y2⟩ := HG.out
          refine ⟨⟨j + 1, _, rfl, by omega, by go_num, by rw [y1], ?_, Lib.hid x2, Lib.hid x1⟩, by simp only [intOf]; omega⟩
          rw [List.take_add_one, show (FD 3)[j]? = _ from y2]
          exact Lib.hid x3
        · rw [if_neg h3, if_neg h3, Int.add_zero] at HG
          go_wp2_with (at_builtin; refine wpList_append_own_at _ rfl (.tmp 67) (.tmp 69) 43 rfl (w.heap.size + 2) 49 f0 _ 7 64 Try.underlying43 hf0 hf1 hf2 hf3 rfl (by decide) _ _ _ rfl (own_below7 HO.out (((Below.refl _ wr).alloc (Nat.le_refl _) _).alloc (by simp) _)) ⟨wr.heap.size + 1, 0, none⟩ 1 1 [Value.string f.nm, .int .i64 f.so, .int .i64 (-1), .int .i64 f.le, .int .i64 f.mo, .int .i64 f.si, .int .i64 f.ab] rfl rfl (cells_newF _ _) (by simp [Value.oneCell']) (by unfold maxLen; omega) (by omega) (by have := HB.out.size; have := HO.out; have := HR.out.lt; simp; omega) ?_)
          intro v' W4 hown hg _ _
          have HX := Lib.hid (rall_step (f' := { f with pl := -1 }) HB.out HR.out (by omega) (by omega) HO.out hown hg)
          clear hown hg
          go_wp2
          obtain ⟨x1, x2, x3⟩ := HX.out
          obtain ⟨y1, y2⟩ := HG.out
          refine ⟨⟨j + 1, _, rfl, by omega, by go_num, by rw [y1], ?_, Lib.hid x2, Lib.hid x1⟩, by simp only [intOf]; omega⟩
          rw [List.take_add_one, show (FD 3)[j]? = _ from y2]
          exact Lib.hid x3
      · obtain rfl : j = 4 := by omega
        go_wp2
        go_ret
        exact rall_fin (L := FD 3) (n := 4) rfl HO.out HB.out (by omega)
  · go_wp2_with fail
    go_loopw [3, 4, 6] (fun v x iv wr => ∃ (j : Nat) (u : Value), u = v ∧ j ≤ 6 ∧ iv = .int .i64 (j : Int) ∧ x = .int .i64 (nums3 ((raw 4).take j)) ∧ Hid (wr.ownsRow (w.heap.size + 2) 49 7 u j (flat7 ((FD 4).take j))) ∧ Hid (FRow 49 wr (w.heap.size + 1) (raw 4)) ∧ Hid (Below w.heap.size w wr)) (fun _ _ iv _ => 6 - (intOf iv).toNat)
    case atStart => exact ⟨0, _, rfl, by omega, rfl, rfl, Lib.hid (World.ownsRow_nil _ _ _ _), Lib.hid ((by rw [show w.heap.size + 1 = (w.alloc (.cells #[] 49)).heap.size by simp]; exact World.alloc_heap_new _ _)), Lib.hid (((Below.refl _ w).alloc (Nat.le_refl _) _).alloc (by simp) _)⟩
    case round =>
      obtain ⟨j, u, rfl, hj, rfl, rfl, HO, HR, HB⟩ := hrel
      rcases Nat.lt_or_ge j 6 with hlt | hge
      · obtain ⟨f, hf⟩ : ∃ f, (raw 4)[j]? = some f := ⟨_, List.getElem?_eq_getElem (by show j < 6; exact hlt)⟩
        have hs := raw_so 4 f (List.mem_of_getElem? hf)
        obtain ⟨d0, d1, d2, d3, d4, d5, d6⟩ := HR.out.seven hf
        obtain ⟨m, hm⟩ : ∃ m, nums3 ((raw 4).take j) = m := ⟨_, rfl⟩
        have hm2 := nums3_nonneg ((raw 4).take j)
        rw [hm, List.length_take] at hm2
        have ht := nums3_take (raw 4) j f hf
        have hp := pls_get (raw 4) 0 j f hf
        rw [hm] at ht hp
        rw [hm]
        have hmm : 0 ≤ m ∧ m ≤ 6 := by omega
        have HG := Lib.hid (And.intro ht hp)
        have HW := Lib.hid HB.out.size
        clear ht hp hm hm2 hf
        by_cases h3 : f.so < 3
        · rw [if_pos h3, if_pos h3, Int.zero_add] at HG
          go_wp2_with (at_builtin; refine wpList_append_own_at _ rfl (.tmp 67) (.tmp 69) 43 rfl (w.heap.size + 2) 49 f0 _ 7 64 Try.underlying43 hf0 hf1 hf2 hf3 rfl (by decide) _ _ _ rfl (own_below7 HO.out (((Below.refl _ wr).alloc (Nat.le_refl _) _).alloc (by simp) _)) ⟨wr.heap.size + 1, 0, none⟩ 1 1 [Value.string f.nm, .int .i64 f.so, .int .i64 m, .int .i64 f.le, .int .i64 f.mo, .int .i64 f.si, .int .i64 f.ab] rfl rfl (cells_newF _ _) (by simp [Value.oneCell']) (by unfold maxLen; omega) (by omega) (by have := HB.out.size; have := HO.out; have := HR.out.lt; simp; omega) ?_)
          intro v' W4 hown hg _ _
          have HX := Lib.hid (rall_step (f' := { f with pl := m }) HB.out HR.out (by omega) (by omega) HO.out hown hg)
          clear hown hg
          go_wp2
          obtain ⟨x1, x2, x3⟩ := HX.out
          obtain ⟨y1, y2⟩ := HG.out
          refine ⟨⟨j + 1, _, rfl, by omega, by go_num, by rw [y1], ?_, Lib.hid x2, Lib.hid x1⟩, by simp only [intOf]; omega⟩
          rw [List.take_add_one, show (FD 4)[j]? = _ from y2]
          exact Lib.hid x3
        · rw [if_neg h3, if_neg h3, Int.add_zero] at HG
          go_wp2_with (at_builtin; refine wpList_append_own_at _ rfl (.tmp 67) (.tmp 69) 43 rfl (w.heap.size + 2) 49 f0 _ 7 64 Try.underlying43 hf0 hf1 hf2 hf3 rfl (by decide) _ _ _ rfl (own_below7 HO.out (((Below.refl _ wr).alloc (Nat.le_refl _) _).alloc (by simp) _)) ⟨wr.heap.size + 1, 0, none⟩ 1 1 [Value.string f.nm, .int .i64 f.so, .int .i64 (-1), .int .i64 f.le, .int .i64 f.mo, .int .i64 f.si, .int .i64 f.ab] rfl rfl (cells_newF _ _) (by simp [Value.oneCell']) (by unfold maxLen; omega) (by omega) (by have := HB.out.size; have := HO.out; have := HR.out.lt; simp; omega) ?_)
          intro v' W4 hown hg _ _
          have HX := Lib.hid (rall_step (f' := { f with pl := -1 }) HB.out HR.out (by omega) (by omega) HO.out hown hg)
          clear hown hg
          go_wp2
          obtain ⟨x1, x2, x3⟩ := HX.out
          obtain ⟨y1, y2⟩ := HG.out
          refine ⟨⟨j + 1, _, rfl, by omega, by go_num, by rw [y1], ?_, Lib.hid x2, Lib.hid x1⟩, by simp only [intOf]; omega⟩
          rw [List.take_add_one, show (FD 4)[j]? = _ from y2]
          exact Lib.hid x3
      · obtain rfl : j = 6 := by omega
        go_wp2
        go_ret
        exact rall_fin (L := FD 4) (n := 6) rfl HO.out HB.out (by omega)
  · go_wp2_with fail
    go_loopw [3, 4, 6] (fun v x iv wr => ∃ (j : Nat) (u : Value), u = v ∧ j ≤ 6 ∧ iv = .int .i64 (j : Int) ∧ x = .int .i64 (nums3 ((raw 5).take j)) ∧ Hid (wr.ownsRow (w.heap.size + 2) 49 7 u j (flat7 ((FD 5).take j))) ∧ Hid (FRow 49 wr (w.heap.size + 1) (raw 5)) ∧ Hid (Below w.heap.size w wr)) (fun _ _ iv _ => 6 - (intOf iv).toNat)
    case atStart => exact ⟨0, _, rfl, by omega, rfl, rfl, Lib.hid (World.ownsRow_nil _ _ _ _), Lib.hid ((by rw [show w.heap.size + 1 = (w.alloc (.cells #[] 49)).heap.size by simp]; exact World.alloc_heap_new _ _)), Lib.hid (((Below.refl _ w).alloc (Nat.le_refl _) _).alloc (by simp) _)⟩
    case round =>
      obtain ⟨j, u, rfl, hj, rfl, rfl, HO, HR, HB⟩ := hrel
      rcases Nat.lt_or_ge j 6 with hlt | hge
      · obtain ⟨f, hf⟩ : ∃ f, (raw 5)[j]? = some f := ⟨_, List.getElem?_eq_getElem (by show j < 6; exact hlt)⟩
        have hs := raw_so 5 f (List.mem_of_getElem? hf)
        obtain ⟨d0, d1, d2, d3, d4, d5, d6⟩ := HR.out.seven hf
        obtain ⟨m, hm⟩ : ∃ m, nums3 ((raw 5).take j) = m := ⟨_, rfl⟩
        have hm2 := nums3_nonneg ((raw 5).take j)
        rw [hm, List.length_take] at hm2
        have ht := nums3_take (raw 5) j f hf
        have hp := pls_get (raw 5) 0 j f hf
        rw [hm] at ht hp
        rw [hm]
        have hmm : 0 ≤ m ∧ m ≤ 6 := by omega
        have HG := Lib.hid (And.intro ht hp)
        have HW := Lib.hid HB.out.size
        clear ht hp hm hm2 hf
        by_cases h3 : f.so < 3
        · rw [if_pos h3, if_pos h3, Int.zero_add] at HG
          go_wp2_with (at_builtin; refine wpList_append_own_at _ rfl (.tmp 67) (.tmp 69) 43 rfl (w.heap.size + 2) 49 f0 _ 7 64 Try.underlying43 hf0 hf1 hf2 hf3 rfl (by decide) _ _ _ rfl (own_below7 HO.out (((Below.refl _ wr).alloc (Nat.le_refl _) _).alloc (by simp) _)) ⟨wr.heap.size + 1, 0, none⟩ 1 1 [Value.string f.nm, .int .i64 f.so, .int .i64 m, .int .i64 f.le, .int .i64 f.mo, .int .i64 f.si, .int .i64 f.ab] rfl rfl (cells_newF _ _) (by simp [Value.oneCell']) (by unfold maxLen; omega) (by omega) (by have := HB.out.size; have := HO.out; have := HR.out.lt; simp; omega) ?_)
          intro v' W4 hown hg _ _
          have HX := Lib.hid (rall_step (f' := { f with pl := m }) HB.out HR.out (by omega) (by omega) HO.out hown hg)
          clear hown hg
          go_wp2
          obtain ⟨x1, x2, x3⟩ := HX.out
          obtain ⟨y1, y2⟩ := HG.out
          refine ⟨⟨j + 1, _, rfl, by omega, by go_num, by rw [y1], ?_, Lib.hid x2, Lib.hid x1⟩, by simp only [intOf]; omega⟩
          rw [List.take_add_one, show (FD 5)[j]? = _ from y2]
          exact Lib.hid x3
        · rw [if_neg h3, if_neg h3, Int.add_zero] at HG
          go_wp2_with (at_builtin; refine wpList_append_own_at _ rfl (.tmp 67) (.tmp 69) 43 rfl (w.heap.size + 2) 49 f0 _ 7 64 Try.underlying43 hf0 hf1 hf2 hf3 rfl (by decide) _ _ _ rfl (own_below7 HO.out (((Below.refl _ wr).alloc (Nat.le_refl _) _).alloc (by simp) _)) ⟨wr.heap.size + 1, 0, none⟩ 1 1 [Value.string f.nm, .int .i64 f.so, .int .i64 (-1), .int .i64 f.le, .int .i64 f.mo, .int .i64 f.si, .int .i64 f.ab] rfl rfl (cells_newF _ _) (by simp [Value.oneCell']) (by unfold maxLen; omega) (by omega) (by have := HB.out.size; have := HO.out; have := HR.out.lt; simp; omega) ?_)
          intro v' W4 hown hg _ _
          have HX := Lib.hid (rall_step (f' := { f with pl := -1 }) HB.out HR.out (by omega) (by omega) HO.out hown hg)
          clear hown hg
          go_wp2
          obtain ⟨x1, x2, x3⟩ := HX.out
          obtain ⟨y1, y2⟩ := HG.out
          refine ⟨⟨j + 1, _, rfl, by omega, by go_num, by rw [y1], ?_, Lib.hid x2, Lib.hid x1⟩, by simp only [intOf]; omega⟩
          rw [List.take_add_one, show (FD 5)[j]? = _ from y2]
          exact Lib.hid x3
      · obtain rfl : j = 6 := by omega
        go_wp2
        go_ret
        exact rall_fin (L := FD 5) (n := 6) rfl HO.out HB.out (by omega)
end Go.Proofs.Ytnbhiamnoapmlaa

namespace Go.Proofs.Ytnbhiamnoapmlaa
open Go.RowKit Go.Shelf
set_option maxRecDepth 100000
attribute [local go_sem] Oper.semAt_some

/-- a box B with a list of names, its row at base or above -/
structure Nm (tn ts : TypeId) (B base : Nat) (w4 : World) (l : List ByteArray) (V : World) : Prop where
  box : ∃ u n X, V.heap[B]? = some (.cells #[u] ts (0, 0)) ∧ V.ownsRow base tn 1 u n X ∧ n = l.length ∧ X = l.map Value.string
  off : Off (fun q => q = B) w4 V
section
variable {tn ts tf ti : TypeId} {B base g s n : Nat} {X : List Value} {w4 V V' W4 : World} {l : List ByteArray} {u v' : Value} {o : Obj} {x : ByteArray}
theorem Nm.putObj {q : Nat} {o o' : Obj} (h : Nm tn ts B base w4 l V) (hw : w4.heap.size ≤ q) (ho : V.heap[q]? = some o) (hc : o.isCells = false) : Nm tn ts B base w4 l (V.putObj q o') := by
  obtain ⟨u, n, X, h1, h2, h3⟩ := h.box
  refine ⟨⟨u, n, X, (World.putObj_heap_other (fun e => ?_)).trans h1, ownsRow_putObj h2 _ ho hc, h3⟩, off_below h.off (below_put V o' hw)⟩
  subst e
  rw [h1] at ho
  injection ho with ho
  subst ho
  cases hc
theorem Nm.later (h : Nm tn ts B base w4 l V) (hb : Below V.heap.size V V') : Nm tn ts B base w4 l V' := by
  obtain ⟨u, n, X, h1, h2, h3⟩ := h.box
  exact ⟨⟨u, n, X, (hb.block _ (Array.getElem?_eq_some_iff.1 h1).1).trans h1, own_below7 h2 hb, h3⟩, off_below h.off (hb.mono h.off.size)⟩
theorem Nm.start (h : w4.heap[B]? = some (.cells #[.slice none 0 0] ts (0, 0))) (o1 o2 : Obj) : Nm tn ts B base w4 [] ((w4.alloc o1).alloc o2) :=
  Nm.later (Nm.later (V := w4) ⟨⟨_, 0, [], h, World.ownsRow_nil _ _ _ _, rfl, rfl⟩, Off.refl _ _⟩ ((Below.refl _ w4).alloc (Nat.le_refl _) _)) ((Below.refl _ _).alloc (Nat.le_refl _) _)
theorem Nm.push (hB : B < base) (hbase : w4.heap.size ≤ base) (hBg : B < g) (hf : tn ≠ tf) (hi : tn ≠ ti) (h1 : V.heap[B]? = some (.cells #[u] ts (0, 0))) (h2 : V.ownsRow base tn 1 u n X) (hn : n = l.length) (hX : X = l.map Value.string) (hO : Off (fun q => q = B) w4 V)
    (h4 : W4.ownsRow base tn 1 v' (n + 1) (X ++ [.string x])) (hgr : (V.alloc o).grownBy W4 u.ownBlock) :
    W4.heap[B]? = some (.cells #[u] ts (0, 0)) ∧ Nm tn ts B base w4 (l ++ [x]) (W4.setCell ⟨B, 0, none⟩ v') ∧ KeepsFrom s V (W4.setCell ⟨B, 0, none⟩ v') ∧ KeT tf ti g V (W4.setCell ⟨B, 0, none⟩ v') := by
  have hlt := h2.lt
  have hsz := hgr.size
  rw [World.size_alloc] at hsz
  have hrow : ∀ q, u.ownBlock = some q → ∃ cur, V.heap[q]? = some (.cells cur tn (0, 0)) := fun q e => by
    rcases h2.2 with ⟨rfl, _⟩ | ⟨g, cap, cu, rfl, _, hh, _⟩
    · simp [Value.ownBlock] at e
    · simp only [Value.ownBlock, Option.some.injEq] at e
      subst e
      exact ⟨cu, hh⟩
  have hgq : ∀ q, q < V.heap.size → u.ownBlock ≠ some q → W4.heap[q]? = V.heap[q]? := fun q h6 h7 =>
    (hgr.block q (by rw [World.size_alloc]; omega) (fun e => h7 e.symm)).trans (Below.heap_alloc _ _ q h6)
  have key : ∀ q, q < V.heap.size → q ≠ B → u.ownBlock ≠ some q → (W4.setCell ⟨B, 0, none⟩ v').heap[q]? = V.heap[q]? := fun q h6 h7 h8 => (Below.heap_setCell W4 ⟨B, 0, none⟩ v' q h7).trans (hgq q h6 h8)
  have hBlt := (Array.getElem?_eq_some_iff.1 h1).1
  have b4 : W4.heap[B]? = some (.cells #[u] ts (0, 0)) := (hgq B hBlt (fun e => by have := (hlt B e).1; omega)).trans h1
  have hz : V.heap.size ≤ (W4.setCell ⟨B, 0, none⟩ v').heap.size := by simp only [World.setCell, Array.size_modify]; omega
  refine ⟨b4, ⟨⟨v', _, _, ?_, ownsRow_setCell_below h4 (a := ⟨B, 0, none⟩) hB v', by simp [hn], by simp [hX]⟩, ⟨?_, ?_, ?_, Nat.le_trans hO.size hz, fun q hq hne => ?_⟩⟩, ⟨hz, fun q o2 hs ho hc => ?_⟩, ⟨hz, fun q cs t hq ht hV => ?_⟩⟩
  · rw [setCell_at b4]; rfl
  · exact hgr.os.trans hO.os
  · exact hgr.tape.trans hO.tape
  · exact hgr.output.trans hO.output
  · exact (key q (by have := hO.size; omega) hne (fun e => by have := (hlt q e).1; omega)).trans (hO.block q hq hne)
  · refine (key q (Array.getElem?_eq_some_iff.1 ho).1 (fun e => ?_) (fun e => ?_)).trans ho
    · subst e; rw [h1] at ho; injection ho with ho; subst ho; cases hc
    · obtain ⟨cur, h⟩ := hrow q e; rw [h] at ho; injection ho with ho; subst ho; cases hc
  · refine key q (Array.getElem?_eq_some_iff.1 hV).1 (by omega) (fun e => ?_)
    obtain ⟨cur, h⟩ := hrow q e
    rw [h] at hV
    injection hV with hV
    injection hV with _ ht2
    rcases ht with rfl | rfl
    · exact hf ht2
    · exact hi ht2
end

theorem strInfo : (Try.prog.info? 9).map (fun i => (i.zero, i.size, i.bytes)) = some (some (.string ⟨#[]⟩), 1, 16) := by kernel_rfl
theorem FdsIn.seven {lo : Nat} {w : World} {A : Option Addr} {L : List Fd} (h : FdsIn lo w A L) {j : Nat} {f : Fd} (hj : L[j]? = some f) : ∃ g, A = some ⟨g, 0, none⟩ ∧ lo ≤ g ∧ g < w.heap.size ∧
    w.cell? ⟨g, j * 7, none⟩ = some (.string f.nm) ∧ w.cell? ⟨g, j * 7 + 1, none⟩ = some (.int .i64 f.so) ∧ w.cell? ⟨g, j * 7 + 2, none⟩ = some (.int .i64 f.pl) ∧ w.cell? ⟨g, j * 7 + 3, none⟩ = some (.int .i64 f.le) ∧ w.cell? ⟨g, j * 7 + 4, none⟩ = some (.int .i64 f.mo) ∧ w.cell? ⟨g, j * 7 + 5, none⟩ = some (.int .i64 f.si) ∧ w.cell? ⟨g, j * 7 + 6, none⟩ = some (.int .i64 f.ab) := by
  obtain ⟨g, hA, hlo, hlt, hc⟩ := h j f hj
  exact ⟨g, hA, hlo, hlt, hc 0 _ rfl, hc 1 _ rfl, hc 2 _ rfl, hc 3 _ rfl, hc 4 _ rfl, hc 5 _ rfl, hc 6 _ rfl⟩
theorem FdsIn.off {lo : Nat} {S : Nat → Prop} {w w' : World} {A : Option Addr} {L : List Fd} (h : FdsIn lo w A L) (ho : Off S w w') (hS : ∀ k, lo ≤ k → ¬ S k) : FdsIn lo w' A L := fun j f hj => by
  obtain ⟨g, hA, hlo, hlt, hc⟩ := h j f hj
  exact ⟨g, hA, hlo, Nat.lt_of_lt_of_le hlt ho.size, fun q u hq => ho.cell (hc q u hq) (hS g hlo)⟩

/-- the place of a name: -1 where there is none -/
def IdxAt (L : List Fd) (nm : ByteArray) (K : Int) : Prop := (∃ (j : Nat) (f : Fd), L[j]? = some f ∧ f.nm = nm ∧ (∀ g ∈ L.take j, g.nm ≠ nm) ∧ K = (j : Int)) ∨ ((∀ g ∈ L, g.nm ≠ nm) ∧ K = -1)
set_option maxHeartbeats 2000000 in
theorem rfind_any (A : Option Addr) (n c : Nat) (nm : ByteArray) (lo : Nat) (L : List Fd) (K : Int) (w : World) (hn : L.length = n) (h6 : n ≤ 6) (hA : FdsIn lo w A L) (hK : IdxAt L nm K) :
    Calls Try.prog 21 #[.slice A n c, .string nm] w fun e w' => e = .returned (.int .i64 K) ∧ w = w' := by
  have HN := Lib.hid hn
  have HA := Lib.hid hA
  have HK := Lib.hid hK
  clear hn hA hK
  go_enter Try.func21, Try.ntmps21
  go_wp2_with fail
  go_loopw [5] (fun iv wr => ∃ k : Nat, k ≤ n ∧ iv = .int .i64 (k : Int) ∧ Hid (∀ g ∈ L.take k, g.nm ≠ nm) ∧ wr = w) (fun iv _ => n - (intOf iv).toNat)
  case atStart => exact ⟨0, by omega, rfl, Lib.hid (by simp), rfl⟩
  case round =>
    obtain ⟨k, hk, rfl, HT, rfl⟩ := hrel
    rcases Nat.lt_or_ge k n with hlt | hge
    · obtain ⟨f, hf⟩ : ∃ f, L[k]? = some f := ⟨_, List.getElem?_eq_getElem (by rw [HN.out]; exact hlt)⟩
      obtain ⟨g, rfl, _, _, d0, _, _, _, _, _, _⟩ := HA.out.seven hf
      have HF := Lib.hid hf
      clear hf
      by_cases h : f.nm = nm
      · obtain rfl : K = (k : Int) := by
          rcases HK.out with ⟨j, f2, hj, h2, h3, h4⟩ | ⟨h1, _⟩
          · rcases Nat.lt_trichotomy j k with h5 | h5 | h5
            · exact absurd h2 (HT.out f2 (by rw [List.mem_take_iff_getElem]; exact ⟨j, by have := (List.getElem?_eq_some_iff.1 hj).1; omega, (List.getElem?_eq_some_iff.1 hj).2⟩))
            · omega
            · exact absurd h (h3 f (by rw [List.mem_take_iff_getElem]; exact ⟨k, by have := (List.getElem?_eq_some_iff.1 HF.out).1; omega, (List.getElem?_eq_some_iff.1 HF.out).2⟩))
          · exact absurd h (h1 f (List.mem_of_getElem? HF.out))
        rw [h] at d0
        clear h
        go_wp2
        go_ret
        exact ⟨rfl, rfl⟩
      · have hne := str_ne h
        have HT2 : Hid (∀ g ∈ L.take (k + 1), g.nm ≠ nm) := Lib.hid (fun g hg => by
          rw [List.take_add_one, HF.out, List.mem_append] at hg
          rcases hg with hg | hg
          · exact HT.out g hg
          · simp at hg; subst hg; exact h)
        go_wp2
        exact ⟨⟨k + 1, by omega, by go_num, HT2, trivial⟩, by simp only [intOf]; omega⟩
    · obtain rfl : k = n := by omega
      obtain rfl : K = -1 := by
        have h1 := HT.out
        rw [List.take_of_length_le (by rw [HN.out]; exact Nat.le_refl _)] at h1
        rcases HK.out with ⟨j, f2, hj, h2, _, _⟩ | ⟨_, h⟩
        · exact absurd h2 (h1 f2 (List.mem_of_getElem? hj))
        · exact h
      go_wp2
      go_ret
      exact ⟨rfl, rfl⟩
end Go.Proofs.Ytnbhiamnoapmlaa

namespace Go.Proofs.Ytnbhiamnoapmlaa
open Go.RowKit Go.Shelf
set_option maxRecDepth 100000
attribute [local go_sem] Oper.semAt_some

theorem mgInfo : (Try.prog.info? 26).map (·.size) = some 11 := by kernel_rfl
theorem ptInfo : (Try.prog.info? 57).map (fun i => (i.zero, i.size, i.bytes)) = some (some (.agg #[.int .i64 0, .int .i64 0]), 2, 16) := by kernel_rfl
theorem i64Info : (Try.prog.info? 3).map (fun i => (i.zero, i.size, i.bytes)) = some (some (.int .i64 0), 1, 8) := by kernel_rfl
theorem mg_one (M : Mg) (A1 A2 : Option Addr) (n1 n2 c1 c2 : Nat) : (mC M (.slice A1 n1 c1) (.slice A2 n2 c2)).all (·.oneCell') = true := by simp [mC, Value.oneCell']
theorem mg_block {W : World} {b : Nat} {M : Mg} {P C : Value} {t : TypeId} (h : W.heap[b]? = some (.cells (mC M P C) t (0, 0))) :
    W.cell? ⟨b, 0, none⟩ = some (.int .i64 M.k) ∧ W.cell? ⟨b, 1, none⟩ = some (.int .i64 M.n0) ∧ W.cell? ⟨b, 2, none⟩ = some (.int .i64 M.n1) ∧ W.cell? ⟨b, 3, none⟩ = some (.int .i64 M.n2) ∧ W.cell? ⟨b, 4, none⟩ = some (.int .i64 M.n3) ∧ W.cell? ⟨b, 5, none⟩ = some (.int .i64 M.n4) ∧ W.cell? ⟨b, 6, none⟩ = some (.int .i64 M.n5) ∧
      W.cell? ⟨b, 7, none⟩ = some P ∧ W.cell? ⟨b, 8, none⟩ = some C ∧ W.cell? ⟨b, 9, none⟩ = some (.string M.tx) ∧ W.cell? ⟨b, 10, none⟩ = some (.string M.tg) := by
  simp [World.cell?, h, mC]
theorem own_offM {S : Nat → Prop} {w w' : World} {base size n : Nat} {T : TypeId} {v : Value} {xs : List Value} (h : w.ownsRow base T size v n xs) (hf : Off S w w') (hn : ∀ g, v.ownBlock = some g → ¬ S g) : w'.ownsRow base T size v n xs := by
  refine ⟨h.1, h.2.imp id ?_⟩
  rintro ⟨g, cap, cur, hv, hg, hh, r⟩
  exact ⟨g, cap, cur, hv, hg, (hf.block g (Array.getElem?_eq_some_iff.1 hh).1 (hn g (by rw [hv]; rfl))).trans hh, r⟩
theorem off_grown {w w' : World} (h : w.grownBy w' (Value.slice none 0 0).ownBlock) : Off (fun _ => False) w w' := ⟨h.os, h.tape, h.output, h.size, fun k hk _ => h.block k hk (by simp [Value.ownBlock])⟩
/-- its lists lie in rows that were made at base or above -/
structure MOwn (base : Nat) (w : World) (M : Mg) (P C : Value) : Prop where
  p : w.ownsRow base 57 2 P M.p.length ((fl2 M.p).map (Value.int .i64))
  c : w.ownsRow base 3 1 C M.c.length (M.c.map (Value.int .i64))
section
variable {w w' : World} {base : Nat} {M : Mg} {P C : Value}
theorem MOwn.at (h : MOwn base w M P C) : MAt w w.heap.size M P C := by
  obtain ⟨a, c, h1, h2, h3⟩ := nums_of_own h.p (by omega)
  obtain ⟨a', c', h4, h5, h6⟩ := nums_of_own h.c (by omega)
  exact ⟨⟨a, c, h1, h2, h3⟩, ⟨a', c', h4, h5, h6⟩⟩
theorem MOwn.later (h : MOwn base w M P C) (hb : Below w.heap.size w w') : MOwn base w' M P C := ⟨own_below7 h.p hb, own_below7 h.c hb⟩
/-- blocks that are no row of its lists may turn -/
theorem MOwn.off {S : Nat → Prop} (h : MOwn base w M P C) (hf : Off S w w') (hp : ∀ g, P.ownBlock = some g → ¬ S g) (hc : ∀ g, C.ownBlock = some g → ¬ S g) : MOwn base w' M P C := ⟨own_offM h.p hf hp, own_offM h.c hf hc⟩
theorem MOwn.less {base' : Nat} (h : MOwn base w M P C) (hb : base' ≤ base) : MOwn base' w M P C := by
  refine ⟨⟨h.p.1, h.p.2.imp id ?_⟩, ⟨h.c.1, h.c.2.imp id ?_⟩⟩
  · rintro ⟨g, cap, cur, hv, hg, r⟩
    exact ⟨g, cap, cur, hv, by omega, r⟩
  · rintro ⟨g, cap, cur, hv, hg, r⟩
    exact ⟨g, cap, cur, hv, by omega, r⟩
end
/-- what a call answers that hands back a message in new memory -/
def MR (w : World) (M : Mg) (e : Ending) (w' : World) : Prop := ∃ P C, e = .returned (mV M P C) ∧ MOwn w.heap.size w' M P C ∧ Below w.heap.size w w'

set_option maxHeartbeats 4000000 in
theorem mcopy_any (M : Mg) (P C : Value) (w : World) (hs : Msm M) (h1 : MAt w w.heap.size M P C) : Calls Try.prog 18 #[mV M P C] w fun e w' => MR w M e w' := by
  obtain ⟨ip, hip, hzp, hzp1, hzp2⟩ := info_parts ptInfo
  obtain ⟨ii, hii, hzi, hzi1, hzi2⟩ := info_parts i64Info
  obtain ⟨w2, hw2⟩ : ∃ w2, w2 = (w.alloc (.cells (mC M P C) 26)).alloc (.cells (mC (Mg.zero 0) (.slice none 0 0) (.slice none 0 0)) 26) := ⟨_, rfl⟩
  have hs2 : w2.heap.size = w.heap.size + 2 := by rw [hw2]; simp
  have hb2 : Below w.heap.size w w2 := by rw [hw2]; exact ((Below.refl _ w).alloc (Nat.le_refl _) _).alloc (by simp) _
  have q1 : w2.heap[w.heap.size]? = some (.cells (mC M P C) 26 (0, 0)) := by
    rw [hw2, Below.heap_alloc _ _ _ (by simp)]; exact World.alloc_heap_new _ _
  have q2 : w2.heap[w.heap.size + 1]? = some (.cells (mC (Mg.zero 0) (.slice none 0 0) (.slice none 0 0)) 26 (0, 0)) := by
    have := World.alloc_heap_new (w.alloc (.cells (mC M P C) 26)) (.cells (mC (Mg.zero 0) (.slice none 0 0) (.slice none 0 0)) 26)
    rw [World.size_alloc] at this
    rw [hw2]; exact this
  obtain ⟨⟨a, cp, rfl, hcp, ha⟩, ⟨b, cb, rfl, hcb, hb⟩⟩ := h1
  have ha := ha.below hb2
  have hl1 := hs.p
  have hl2 := hs.c
  have hlen := fl2_len M.p
  simp only [mC, Mg.zero] at hw2 q1 q2
  subst hw2
  have HA := Lib.hid ha
  have HB := Lib.hid hb
  have HB2 := Lib.hid hb2
  have HQ := Lib.hid (And.intro q1 q2)
  obtain ⟨np, hnp⟩ : ∃ np, M.p.length = np := ⟨_, rfl⟩
  obtain ⟨nc, hnc⟩ : ∃ nc, M.c.length = nc := ⟨_, rfl⟩
  have HNP := Lib.hid hnp
  have HNC := Lib.hid hnc
  rw [hnp] at hl1 hlen
  rw [hnc] at hl2
  have HL := Lib.hid hlen
  clear ha hb hb2 q1 q2 hs hcp hcb hs2
  unfold MR mV mC
  simp only [hnp, hnc] at HA HB HB2 HQ ⊢
  clear hnp hnc hlen
  go_enter Try.func18, Try.ntmps18
  go_wp2_with (at_builtin; refine wpList_append_szd (by rfl) (.const (.slice none 0 0)) (.tmp 4) 23 rfl (w.heap.size + 2) 57 ip _ 2 16 Try.underlying23 hip hzp hzp1 hzp2 rfl (by decide) .i64 0 [] (fl2 M.p) (.slice none 0 0) rfl (World.ownsRow_nil _ _ _ _) a np cp _ rfl HL.out HA.out (by unfold maxLen; omega) (by omega) (by simp) ?_)
  intro v' W4 hown hgr
  obtain ⟨A', c', rfl, hc', hA'⟩ := nums_of_own hown (by omega)
  have ho4 := off_grown hgr
  have hs4 : w.heap.size + 2 ≤ W4.heap.size := by have := ho4.size; simpa using this
  have q1 := (ho4.block w.heap.size (by simp; omega) id).trans HQ.out.1
  have q2 := (ho4.block (w.heap.size + 1) (by simp) id).trans HQ.out.2
  have hb4 : Below w.heap.size w W4 := HB2.out.trans (ho4.below (fun k hk => hk.elim) (by simp; omega))
  have HV := Lib.hid (hb4.setCell (p := ⟨w.heap.size, 7, none⟩) (Nat.le_refl _) (.slice A' np c'))
  have HO := Lib.hid (ownsRow_setCell_below hown (a := ⟨w.heap.size, 7, none⟩) (by show w.heap.size < _; omega) (.slice A' np c'))
  have HQ1 := Lib.hid (setCell_at (j := 7) (u := .slice A' np c') q1)
  have HQ2 := Lib.hid ((Below.heap_setCell W4 ⟨w.heap.size, 7, none⟩ (.slice A' np c') (w.heap.size + 1) (by show _ ≠ w.heap.size; omega)).trans q2)
  have HSV := Lib.hid (show w.heap.size + 2 ≤ (W4.setCell ⟨w.heap.size, 7, none⟩ (.slice A' np c')).heap.size by simpa [World.setCell] using hs4)
  have HN := Lib.hid (HB.out.below HV.out)
  have e7 := row_cell q1 7 _ rfl
  have e8 := row_cell q1 8 _ rfl
  have z7 := frozen_of_row W4 w.heap.size 7 _ _ q1
  clear hown hgr ho4 q1 q2 hb4 hA' hs4 HQ HB2 HA
  go_wp2_with (at_builtin; refine wpList_append_szd (by rfl) (.const (.slice none 0 0)) (.tmp 8) 24 rfl (w.heap.size + 2) 3 ii _ 1 8 Try.underlying24 hii hzi hzi1 hzi2 rfl (by decide) .i64 0 [] M.c (.slice none 0 0) rfl (World.ownsRow_nil _ _ _ _) b nc cb _ rfl (HNC.out.trans (Nat.mul_one nc).symm) HN.out (by unfold maxLen; omega) (by omega) HSV.out ?_)
  intro v' W6 hown hgr
  obtain ⟨B', d', rfl, hd', hB'⟩ := nums_of_own hown (by omega)
  have ho6 := off_grown hgr
  have q1 := (ho6.block w.heap.size (by have := HSV.out; omega) id).trans HQ1.out
  have q2 := (ho6.block (w.heap.size + 1) (by have := HSV.out; omega) id).trans HQ2.out
  have hs6 : w.heap.size + 2 ≤ W6.heap.size := Nat.le_trans HSV.out ho6.size
  have hb6 : Below w.heap.size w W6 := HV.out.trans (ho6.below (fun k hk => hk.elim) (by have := HSV.out; omega))
  have hop := own_offM HO.out ho6 (fun g _ h => h)
  simp only [List.setIfInBounds_toArray, List.set_cons_succ, List.set_cons_zero] at q1
  obtain ⟨W7, hW7⟩ : ∃ W7, W7 = W6.setCell ⟨w.heap.size, 8, none⟩ (.slice B' nc d') := ⟨_, rfl⟩
  have r1 : W7.heap[w.heap.size]? = some (.cells #[.int .i64 M.k, .int .i64 M.n0, .int .i64 M.n1, .int .i64 M.n2, .int .i64 M.n3, .int .i64 M.n4, .int .i64 M.n5, .slice A' np c', .slice B' nc d', .string M.tx, .string M.tg] 26 (0, 0)) := by
    rw [hW7, setCell_at q1]; rfl
  have r2 : W7.heap[w.heap.size + 1]? = some (.cells #[.int .i64 0, .int .i64 0, .int .i64 0, .int .i64 0, .int .i64 0, .int .i64 0, .int .i64 0, .slice none 0 0, .slice none 0 0, .string ⟨#[]⟩, .string ⟨#[]⟩] 26 (0, 0)) := by
    rw [hW7]; exact (Below.heap_setCell W6 ⟨w.heap.size, 8, none⟩ (.slice B' nc d') (w.heap.size + 1) (by show _ ≠ w.heap.size; omega)).trans q2
  have hb7 : Below w.heap.size w W7 := by rw [hW7]; exact hb6.setCell (p := ⟨w.heap.size, 8, none⟩) (Nat.le_refl _) _
  have hop7 : W7.ownsRow (w.heap.size + 2) 57 2 (.slice A' np c') np ((fl2 M.p).map (Value.int .i64)) := by rw [hW7]; exact ownsRow_setCell_below hop (a := ⟨w.heap.size, 8, none⟩) (by show w.heap.size < _; omega) _
  have hoc7 : W7.ownsRow (w.heap.size + 2) 3 1 (.slice B' nc d') nc (M.c.map (Value.int .i64)) := by rw [hW7]; exact ownsRow_setCell_below hown (a := ⟨w.heap.size, 8, none⟩) (by show w.heap.size < _; omega) _
  have e8 := row_cell q1 8 _ rfl
  have z8 := frozen_of_row W6 w.heap.size 8 _ _ q1
  have HW := Lib.hid hW7
  have f := fun j x hx => row_cell r1 j x hx
  have f0 := f 0 _ rfl; have f1 := f 1 _ rfl; have f2 := f 2 _ rfl; have f3 := f 3 _ rfl; have f4 := f 4 _ rfl; have f5 := f 5 _ rfl
  have f6 := f 6 _ rfl; have f7 := f 7 _ rfl; have f8 := f 8 _ rfl; have f9 := f 9 _ rfl; have f10 := f 10 _ rfl
  rw [hW7] at f0 f1 f2 f3 f4 f5 f6 f7 f8 f9 f10
  have HR2 := Lib.hid (hW7 ▸ r2)
  clear f hW7 q1 q2 hown hgr ho6 hop hb6 hs6 hB' HV HO HQ1 HQ2 HSV HN HB
  go_wp2_with (refine wpList_store_row rfl 26 (.tmp 2) (.tmp 11) rfl (w.heap.size + 1) #[.int .i64 M.k, .int .i64 M.n0, .int .i64 M.n1, .int .i64 M.n2, .int .i64 M.n3, .int .i64 M.n4, .int .i64 M.n5, .slice A' np c', .slice B' nc d', .string M.tx, .string M.tg] rfl rfl 26 _ HR2.out mgInfo rfl (by simp [Value.oneCell']) ?_)
  rw [← HW.out]
  have hfin := setRow_heap W7 (w.heap.size + 1) _ #[.int .i64 M.k, .int .i64 M.n0, .int .i64 M.n1, .int .i64 M.n2, .int .i64 M.n3, .int .i64 M.n4, .int .i64 M.n5, .slice A' np c', .slice B' nc d', .string M.tx, .string M.tg] _ _ r2
  have hoff := Off.setRow (S := fun k => k = w.heap.size + 1) (Off.refl _ W7) rfl #[.int .i64 M.k, .int .i64 M.n0, .int .i64 M.n1, .int .i64 M.n2, .int .i64 M.n3, .int .i64 M.n4, .int .i64 M.n5, .slice A' np c', .slice B' nc d', .string M.tx, .string M.tg]
  have hbf := hb7.trans (hoff.below (B := w.heap.size) (fun k hk => by omega) hb7.size)
  have hpf := own_offM hop7 hoff (fun g hg e => by have := (hop7.lt g hg).1; omega)
  have hcf := own_offM hoc7 hoff (fun g hg e => by have := (hoc7.lt g hg).1; omega)
  generalize W7.setRow (w.heap.size + 1) _ = Wf at *
  have f := fun j x hx => row_cell hfin j x hx
  have y0 := f 0 _ rfl; have y1 := f 1 _ rfl; have y2 := f 2 _ rfl; have y3 := f 3 _ rfl; have y4 := f 4 _ rfl; have y5 := f 5 _ rfl
  have y6 := f 6 _ rfl; have y7 := f 7 _ rfl; have y8 := f 8 _ rfl; have y9 := f 9 _ rfl; have y10 := f 10 _ rfl
  refine bodyPost_ret (v := .agg #[.int .i64 M.k, .int .i64 M.n0, .int .i64 M.n1, .int .i64 M.n2, .int .i64 M.n3, .int .i64 M.n4, .int .i64 M.n5, .slice A' np c', .slice B' nc d', .string M.tx, .string M.tg]) (by simp [results, Try.results18, go_sem, y0, y1, y2, y3, y4, y5, y6, y7, y8, y9, y10]) rfl ?_
  refine ⟨_, _, rfl, MOwn.less (base := w.heap.size + 2) ⟨?_, ?_⟩ (by omega), hbf⟩
  · rw [HNP.out]; exact hpf
  · rw [HNC.out]; exact hcf
end Go.Proofs.Ytnbhiamnoapmlaa

namespace Go.Proofs.Ytnbhiamnoapmlaa
open Go.RowKit Go.Shelf
set_option maxRecDepth 100000
attribute [local go_sem] Oper.semAt_some

theorem start_any (f : Fd) (w : World) : Calls Try.prog 36 #[f.v] w fun e w' => e = .returned (.int .i64 (startV f)) ∧ Below w.heap.size w w' := by
  unfold Fd.v Fd.cs
  obtain ⟨R, hR⟩ : ∃ R, startV f = R := ⟨_, rfl⟩
  rw [hR]
  have HB := Lib.hid ((Below.refl _ w).alloc (Nat.le_refl _) (.cells #[.string f.nm, .int .i64 f.so, .int .i64 f.pl, .int .i64 f.le, .int .i64 f.mo, .int .i64 f.si, .int .i64 f.ab] 65))
  unfold startV at hR
  by_cases h1 : 1 < f.si
  · rw [if_pos h1] at hR
    subst hR
    go_enter Try.func36, Try.ntmps36
    go_wp2
    go_ret
    exact ⟨rfl, HB.out⟩
  · rw [if_neg h1] at hR
    subst hR
    go_enter Try.func36, Try.ntmps36
    go_wp2
    go_ret
    exact ⟨rfl, HB.out⟩

/-- what place answers -/
def plB (o : Option Fd) : Bool := o.isSome && decide (0 ≤ (o.getD Fd.zero).pl)
set_option maxHeartbeats 2000000 in
theorem mplace_any (k : Int) (nm : ByteArray) (w : World) : Calls Try.prog 38 #[.int .i64 k, .string nm] w fun e w' => e = .returned (.tuple #[.int .i64 ((fnd (FD k) nm).getD Fd.zero).pl, .bool (plB (fnd (FD k) nm))]) ∧ Below w.heap.size w w' := by
  have KF := Lib.hid (ffind_any k nm)
  obtain ⟨o, ho⟩ : ∃ o, fnd (FD k) nm = o := ⟨_, rfl⟩
  rw [ho] at KF ⊢
  clear ho
  unfold finR at KF
  obtain ⟨D, hD⟩ : ∃ D, plB o = D := ⟨_, rfl⟩
  rw [hD]
  unfold plB at hD
  obtain ⟨s, hs⟩ : ∃ s, o.isSome = s := ⟨_, rfl⟩
  obtain ⟨f, hf⟩ : ∃ f, o.getD Fd.zero = f := ⟨_, rfl⟩
  rw [hs, hf] at hD
  rw [hs, hf] at KF
  rw [hf]
  unfold Fd.v Fd.cs at KF
  clear hs hf
  have HD := Lib.hid hD
  clear hD
  go_enter Try.func38, Try.ntmps38
  go_wp2_with fail
  refine (KF.out w).mono ?_
  rintro e w1 ⟨rfl, hb⟩
  have HB := Lib.hid (hb.trans (((Below.refl w1.heap.size w1).alloc (Nat.le_refl _) (.cells #[.string f.nm, .int .i64 f.so, .int .i64 f.pl, .int .i64 f.le, .int .i64 f.mo, .int .i64 f.si, .int .i64 f.ab] 65)).mono hb.size))
  clear KF hb
  cases s
  · obtain rfl : false = D := HD.out
    go_wp2_with fail
    go_quiet (fail)
    go_wp2
    go_ret2
    exact ⟨rfl, below_drewN HB.out _⟩
  · by_cases hp : 0 ≤ f.pl
    · obtain rfl : true = D := by rw [← HD.out, decide_eq_true hp]; rfl
      go_wp2_with fail
      go_quiet (fail)
      go_wp2
      go_ret2
      exact ⟨rfl, below_drewN HB.out _⟩
    · obtain rfl : false = D := by rw [← HD.out, decide_eq_false hp]; rfl
      go_wp2_with fail
      go_quiet (fail)
      go_wp2
      go_ret2
      exact ⟨by show Ending.returned (.tuple #[.int .i64 f.pl, .bool (decide (0 ≤ f.pl))]) = _; rw [decide_eq_false (by omega)], below_drewN HB.out _⟩
end Go.Proofs.Ytnbhiamnoapmlaa

namespace Go.Proofs.Ytnbhiamnoapmlaa
open Go.RowKit Go.Shelf
set_option maxRecDepth 100000
attribute [local go_sem] Oper.semAt_some

theorem mC_put {j : Nat} (hj : j < 6) (M : Mg) (P C : Value) (v : Int) : (mC M P C).setIfInBounds (1 + j) (.int .i64 v) = mC (M.put j v) P C := by
  rcases j with _ | _ | _ | _ | _ | _ | j <;> first | rfl | omega
theorem mC_at {j : Nat} (hj : j < 6) (M : Mg) (P C : Value) : (mC M P C)[1 + j]? = some (.int .i64 (M.at' j)) := by
  rcases j with _ | _ | _ | _ | _ | _ | j <;> first | rfl | omega
theorem mg_at {W : World} {b : Nat} {M : Mg} {P C : Value} {t : TypeId} (h : W.heap[b]? = some (.cells (mC M P C) t (0, 0))) {j : Nat} (hj : j < 6) : W.cell? ⟨b, 1 + j, none⟩ = some (.int .i64 (M.at' j)) := row_cell h _ _ (mC_at hj M P C)
/-- the place that a name tells -/
theorem plB_at {k : Int} {nm : ByteArray} (h : plB (fnd (FD k) nm) = true) : ∃ (f : Fd) (j : Nat), fnd (FD k) nm = some f ∧ f ∈ FD k ∧ f.nm = nm ∧ f.so < 3 ∧ j < 6 ∧ f.pl = (j : Int) := by
  unfold plB at h
  rw [Bool.and_eq_true, decide_eq_true_eq] at h
  obtain ⟨f, hf⟩ := Option.isSome_iff_exists.1 h.1
  rw [hf, Option.getD_some] at h
  unfold fnd at hf
  have hm := List.mem_of_find?_eq_some hf
  have hn := List.find?_some hf
  have ok := FD_fdok k f hm
  by_cases h3 : f.so < 3
  · obtain ⟨j, hj, e⟩ := ok.pl h3
    exact ⟨f, j, hf, hm, by simpa using hn, h3, hj, e⟩
  · have := ok.no h3
    have := h.2
    omega
/-- what Get tells -/
def getM (M : Mg) (nm : ByteArray) : Int := if plB (fnd (FD M.k) nm) then M.at' ((fnd (FD M.k) nm).getD Fd.zero).pl.toNat else 0
/-- what Set makes -/
def setM (M : Mg) (nm : ByteArray) (v : Int) : Mg := if plB (fnd (FD M.k) nm) then M.put ((fnd (FD M.k) nm).getD Fd.zero).pl.toNat v else M
theorem setM_k (M : Mg) (nm : ByteArray) (v : Int) : (setM M nm v).k = M.k := by
  unfold setM
  split
  · exact Mg.put_k ..
  · rfl
theorem setM_p (M : Mg) (nm : ByteArray) (v : Int) : (setM M nm v).p = M.p := by
  unfold setM
  split
  · exact Mg.put_p ..
  · rfl
theorem setM_c (M : Mg) (nm : ByteArray) (v : Int) : (setM M nm v).c = M.c := by
  unfold setM
  split
  · exact Mg.put_c ..
  · rfl

set_option maxHeartbeats 4000000 in
theorem mget_any (M : Mg) (P C : Value) (nm : ByteArray) (w : World) : Calls Try.prog 22 #[mV M P C, .string nm] w fun e w' => e = .returned (.tuple #[.int .i64 (getM M nm), .bool (plB (fnd (FD M.k) nm))]) ∧ Below w.heap.size w w' := by
  obtain ⟨w2, hw2⟩ : ∃ w2, w2 = w.alloc (.cells (mC M P C) 26) := ⟨_, rfl⟩
  have hb2 : Below w.heap.size w w2 := by rw [hw2]; exact (Below.refl _ w).alloc (Nat.le_refl _) _
  have q1 : w2.heap[w.heap.size]? = some (.cells (mC M P C) 26 (0, 0)) := by rw [hw2]; exact World.alloc_heap_new _ _
  have hat := fun (W : World) (hW : Below w2.heap.size w2 W) (j : Nat) (hj : j < 6) => mg_at ((hW.block _ (Array.getElem?_eq_some_iff.1 q1).1).trans q1) hj
  have HAT := Lib.hid hat
  have HB2 := Lib.hid hb2
  have KP := Lib.hid (mplace_any M.k nm w2)
  obtain ⟨G, hG⟩ : ∃ G, getM M nm = G := ⟨_, rfl⟩
  rw [hG]
  obtain ⟨D, hD⟩ : ∃ D, plB (fnd (FD M.k) nm) = D := ⟨_, rfl⟩
  have hpl := fun h => plB_at (k := M.k) (nm := nm) (hD.trans h)
  unfold getM at hG
  obtain ⟨o, ho⟩ : ∃ o, fnd (FD M.k) nm = o := ⟨_, rfl⟩
  rw [ho] at KP hD hG hpl ⊢
  rw [hD] at KP hG ⊢
  clear ho q1 hb2 hat
  unfold mV
  unfold mC at hw2 ⊢
  have HW := Lib.hid hw2
  have HD := Lib.hid hD
  have HG := Lib.hid hG
  have HPL := Lib.hid hpl
  clear hw2 hD hG hpl
  go_enter Try.func22, Try.ntmps22
  go_wp2_with fail
  rw [← HW.out]
  refine KP.out.mono ?_
  rintro e w3 ⟨rfl, hb3⟩
  have HB3 := Lib.hid (HB2.out.trans (hb3.mono HB2.out.size))
  have HAT3 := Lib.hid (HAT.out w3 hb3)
  clear hb3 KP HB2 HAT HW
  cases D
  · obtain rfl : 0 = G := HG.out
    go_wp2
    go_ret2
    exact ⟨rfl, HB3.out⟩
  · obtain ⟨f, j, rfl, _, _, _, hj, hp⟩ := HPL.out rfl
    have hG := HG.out
    simp only [Option.getD_some, if_true] at hG ⊢
    rw [hp] at hG ⊢
    rw [Int.toNat_natCast] at hG
    have c := HAT3.out j hj
    rw [hG] at c
    clear hG
    go_wp2
    go_ret2
    exact ⟨rfl, HB3.out⟩

/-- what Set answers -/
def MSR (w : World) (M : Mg) (ok : Bool) (e : Ending) (w' : World) : Prop := ∃ P C, e = .returned (.tuple #[mV M P C, .bool ok]) ∧ MOwn w.heap.size w' M P C ∧ Below w.heap.size w w'
theorem mg_results {W : World} {b : Nat} {M : Mg} {P C : Value} {t : TypeId} (h : W.heap[b]? = some (.cells (mC M P C) t (0, 0))) : (loadCellsFrom ⟨b, 0, none⟩ 0 11 #[]).run Try.prog W = .ok (mC M P C) W := by
  obtain ⟨f0, f1, f2, f3, f4, f5, f6, f7, f8, f9, f10⟩ := mg_block h
  simp [loadCellsFrom, go_sem, f0, f1, f2, f3, f4, f5, f6, f7, f8, f9, f10, mC]
set_option maxHeartbeats 8000000 in
theorem mset_any (M : Mg) (P C : Value) (nm : ByteArray) (v : Int) (w : World) (hs : Msm M) (h1 : MAt w w.heap.size M P C) : Calls Try.prog 23 #[mV M P C, .string nm, .int .i64 v] w fun e w' => MSR w (setM M nm v) (plB (fnd (FD M.k) nm)) e w' := by
  obtain ⟨w2, hw2⟩ : ∃ w2, w2 = (w.alloc (.cells (mC M P C) 26)).alloc (.cells (mC (Mg.zero 0) (.slice none 0 0) (.slice none 0 0)) 26) := ⟨_, rfl⟩
  have hs2 : w2.heap.size = w.heap.size + 2 := by rw [hw2]; simp
  have hb2 : Below w.heap.size w w2 := by rw [hw2]; exact ((Below.refl _ w).alloc (Nat.le_refl _) _).alloc (by simp) _
  have q1 : w2.heap[w.heap.size]? = some (.cells (mC M P C) 26 (0, 0)) := by
    rw [hw2, Below.heap_alloc _ _ _ (by simp)]; exact World.alloc_heap_new _ _
  have q2 : w2.heap[w.heap.size + 1]? = some (.cells (mC (Mg.zero 0) (.slice none 0 0) (.slice none 0 0)) 26 (0, 0)) := by
    have := World.alloc_heap_new (w.alloc (.cells (mC M P C) 26)) (.cells (mC (Mg.zero 0) (.slice none 0 0) (.slice none 0 0)) 26)
    rw [World.size_alloc] at this
    rw [hw2]; exact this
  have KC := Lib.hid (mcopy_any M P C w2 hs ((h1.below hb2).mono hb2.size))
  have KP := Lib.hid (mplace_any M.k nm)
  have HS := Lib.hid (show ∃ D, plB (fnd (FD M.k) nm) = D from ⟨_, rfl⟩)
  obtain ⟨D, hD⟩ := HS.out
  obtain ⟨G, hG⟩ : ∃ G, setM M nm v = G := ⟨_, rfl⟩
  rw [hG]
  have hpl := fun h => plB_at (k := M.k) (nm := nm) (hD.trans h)
  unfold setM at hG
  obtain ⟨o, ho⟩ : ∃ o, fnd (FD M.k) nm = o := ⟨_, rfl⟩
  rw [ho] at KP hD hG hpl ⊢
  rw [hD] at KP hG ⊢
  clear HS ho h1 hs
  unfold MSR
  unfold mV at KC ⊢
  simp only [mC, Mg.zero] at hw2 KC q1 q2 ⊢
  have HW := Lib.hid hw2
  have HD := Lib.hid hD
  have HG := Lib.hid hG
  have HPL := Lib.hid hpl
  have HB2 := Lib.hid hb2
  have HQ2 := Lib.hid q2
  have HQ1 := Lib.hid q1
  clear hw2 hD hG hpl hb2 q2 q1
  go_enter Try.func23, Try.ntmps23
  go_wp2_with fail
  rw [← HW.out]
  refine KC.out.mono ?_
  intro e w3 hMR
  unfold MR at hMR
  obtain ⟨P3, C3, rfl, ho3, hb3⟩ := hMR
  obtain ⟨⟨a3, cp3, rfl, _, _⟩, ⟨b3, cb3, rfl, _, _⟩⟩ := ho3.at
  obtain ⟨np, hnp⟩ : ∃ np, M.p.length = np := ⟨_, rfl⟩
  obtain ⟨nc, hnc⟩ : ∃ nc, M.c.length = nc := ⟨_, rfl⟩
  unfold mV mC
  rw [hnp, hnc] at ho3 ⊢
  have HLT := Lib.hid (And.intro ho3.p.lt ho3.c.lt)
  obtain ⟨w4, hw4⟩ : ∃ w4, w3.alloc (.cells #[.int .i64 M.k, .int .i64 M.n0, .int .i64 M.n1, .int .i64 M.n2, .int .i64 M.n3, .int .i64 M.n4, .int .i64 M.n5, .slice a3 np cp3, .slice b3 nc cb3, .string M.tx, .string M.tg] 26) = w4 := ⟨_, rfl⟩
  have hs4 : w4.heap.size = w3.heap.size + 1 := by rw [← hw4]; simp
  have hb34 : Below w3.heap.size w3 w4 := by rw [← hw4]; exact (Below.refl _ w3).alloc (Nat.le_refl _) _
  have r4 : w4.heap[w3.heap.size]? = some (.cells (mC M (.slice a3 np cp3) (.slice b3 nc cb3)) 26 (0, 0)) := by rw [← hw4]; exact World.alloc_heap_new _ _
  have ho4 := ho3.later hb34
  have hs3 := hb3.size
  have hb24 : Below w2.heap.size w2 w4 := hb3.trans (hb34.mono hs3)
  have p1 := (hb24.block w.heap.size (by omega)).trans HQ1.out
  have p2 := (hb24.block (w.heap.size + 1) (by omega)).trans HQ2.out
  have kk := row_cell p1 0 _ rfl
  rw [← hw4] at kk
  have HW4 := Lib.hid hw4
  have HO4 := Lib.hid ho4
  have HR4 := Lib.hid r4
  have HP2 := Lib.hid p2
  have HB4 := Lib.hid (HB2.out.trans (hb24.mono HB2.out.size))
  have HS4 := Lib.hid (And.intro hs2 (And.intro hs3 hs4))
  clear KC HW hw4 ho3 ho4 r4 p1 p2 hb3 hb34 hb24 HQ1 HQ2 HB2 hs2 hs3 hs4
  go_wp2_with fail
  rw [HW4.out]
  refine (KP.out w4).mono ?_
  rintro e w5 ⟨rfl, hb5⟩
  have HB5 := Lib.hid (HB4.out.trans (hb5.mono HB4.out.size))
  have HR5 := Lib.hid ((hb5.block _ (by have := HS4.out; omega)).trans HR4.out)
  have HO5 := Lib.hid (HO4.out.later hb5)
  have HP5 := Lib.hid ((hb5.block _ (by have := HS4.out; omega)).trans HP2.out)
  have hge : w.heap.size + 2 ≤ w3.heap.size := by have := HS4.out; omega
  have HSZ := Lib.hid (show w.heap.size + 2 = w2.heap.size by have := HS4.out; omega)
  clear KP HR4 HO4 HP2 HB4 hb5 HS4
  cases D
  · obtain rfl : M = G := HG.out
    have f := fun j x hx => row_cell HR5.out j x hx
    have f0 := f 0 _ rfl; have f1 := f 1 _ rfl; have f2 := f 2 _ rfl; have f3 := f 3 _ rfl; have f4 := f 4 _ rfl; have f5 := f 5 _ rfl
    have f6 := f 6 _ rfl; have f7 := f 7 _ rfl; have f8 := f 8 _ rfl; have f9 := f 9 _ rfl; have f10 := f 10 _ rfl
    clear f
    go_wp2_with (refine wpList_store_row rfl 26 (.tmp 6) (.tmp 25) rfl (w.heap.size + 1) #[.int .i64 M.k, .int .i64 M.n0, .int .i64 M.n1, .int .i64 M.n2, .int .i64 M.n3, .int .i64 M.n4, .int .i64 M.n5, .slice a3 np cp3, .slice b3 nc cb3, .string M.tx, .string M.tg] rfl rfl 26 _ HP5.out mgInfo rfl (by simp [Value.oneCell']) ?_)
    have hfin := setRow_heap w5 (w.heap.size + 1) _ #[.int .i64 M.k, .int .i64 M.n0, .int .i64 M.n1, .int .i64 M.n2, .int .i64 M.n3, .int .i64 M.n4, .int .i64 M.n5, .slice a3 np cp3, .slice b3 nc cb3, .string M.tx, .string M.tg] _ _ HP5.out
    have hoff := Off.setRow (S := fun k => k = w.heap.size + 1) (Off.refl _ w5) rfl #[.int .i64 M.k, .int .i64 M.n0, .int .i64 M.n1, .int .i64 M.n2, .int .i64 M.n3, .int .i64 M.n4, .int .i64 M.n5, .slice a3 np cp3, .slice b3 nc cb3, .string M.tx, .string M.tg]
    have hbf := HB5.out.trans (hoff.below (B := w.heap.size) (fun k hk => by omega) HB5.out.size)
    have hof := HO5.out.off hoff (fun g hg e => by have := (HLT.out.1 g hg).1; have := HSZ.out; omega) (fun g hg e => by have := (HLT.out.2 g hg).1; have := HSZ.out; omega)
    generalize w5.setRow (w.heap.size + 1) _ = Wf at *
    have y := fun j x hx => row_cell hfin j x hx
    have y0 := y 0 _ rfl; have y1 := y 1 _ rfl; have y2 := y 2 _ rfl; have y3 := y 3 _ rfl; have y4 := y 4 _ rfl; have y5 := y 5 _ rfl
    have y6 := y 6 _ rfl; have y7 := y 7 _ rfl; have y8 := y 8 _ rfl; have y9 := y 9 _ rfl; have y10 := y 10 _ rfl
    refine bodyPost_ret (v := .tuple #[.agg #[.int .i64 M.k, .int .i64 M.n0, .int .i64 M.n1, .int .i64 M.n2, .int .i64 M.n3, .int .i64 M.n4, .int .i64 M.n5, .slice a3 np cp3, .slice b3 nc cb3, .string M.tx, .string M.tg], .bool false]) (by simp [results, Try.results23, go_sem, y0, y1, y2, y3, y4, y5, y6, y7, y8, y9, y10]) rfl ?_
    exact ⟨_, _, rfl, hof.less (by have := HSZ.out; omega), hbf⟩
  · obtain ⟨f, j, rfl, _, _, _, hj, hp⟩ := HPL.out rfl
    have hG := HG.out
    simp only [Option.getD_some, if_true] at hG ⊢
    rw [hp] at hG ⊢
    rw [Int.toNat_natCast] at hG
    have z := frozen_of_row w5 w3.heap.size (1 + j) _ _ HR5.out
    have c := mg_at HR5.out hj
    obtain ⟨w6, hw6⟩ : ∃ w6, w5.setCell ⟨w3.heap.size, 1 + j, none⟩ (.int .i64 v) = w6 := ⟨_, rfl⟩
    have r6 : w6.heap[w3.heap.size]? = some (.cells (mC G (.slice a3 np cp3) (.slice b3 nc cb3)) 26 (0, 0)) := by rw [← hw6, setCell_at HR5.out, mC_put hj, hG]
    have HP6 := Lib.hid ((Below.heap_setCell w5 ⟨w3.heap.size, 1 + j, none⟩ (.int .i64 v) (w.heap.size + 1) (by show _ ≠ w3.heap.size; omega)).trans HP5.out)
    have HB6 := Lib.hid (HB5.out.setCell (p := ⟨w3.heap.size, 1 + j, none⟩) (by show w.heap.size ≤ w3.heap.size; omega) (.int .i64 v))
    have ho6 : MOwn w2.heap.size w6 M (.slice a3 np cp3) (.slice b3 nc cb3) := by
      rw [← hw6]
      exact HO5.out.off ((Off.refl (fun g => g = w3.heap.size) w5).setCell (p := ⟨w3.heap.size, 1 + j, none⟩) rfl _) (fun g hg e => by have := (HLT.out.1 g hg).2; omega) (fun g hg e => by have := (HLT.out.2 g hg).2; omega)
    have ho6' : MOwn w2.heap.size w6 G (.slice a3 np cp3) (.slice b3 nc cb3) := by
      rw [← hG]
      exact ⟨by rw [Mg.put_p]; exact ho6.p, by rw [Mg.put_c]; exact ho6.c⟩
    rw [hw6] at HP6 HB6
    have HR6 := Lib.hid r6
    have HO6 := Lib.hid ho6'
    have HW6 := Lib.hid hw6
    obtain ⟨f0, f1, f2, f3, f4, f5, f6, f7, f8, f9, f10⟩ := mg_block r6
    rw [← hw6] at f0 f1 f2 f3 f4 f5 f6 f7 f8 f9 f10
    clear hG hw6 r6 ho6 ho6' hp
    have HP6' := Lib.hid (HW6.out ▸ HP6.out)
    go_wp2_with (refine wpList_store_row rfl 26 (.tmp 6) (.tmp 25) rfl (w.heap.size + 1) #[.int .i64 G.k, .int .i64 G.n0, .int .i64 G.n1, .int .i64 G.n2, .int .i64 G.n3, .int .i64 G.n4, .int .i64 G.n5, .slice a3 np cp3, .slice b3 nc cb3, .string G.tx, .string G.tg] rfl rfl 26 _ HP6'.out mgInfo rfl (by simp [Value.oneCell']) ?_)
    rw [HW6.out]
    have hfin := setRow_heap w6 (w.heap.size + 1) _ #[.int .i64 G.k, .int .i64 G.n0, .int .i64 G.n1, .int .i64 G.n2, .int .i64 G.n3, .int .i64 G.n4, .int .i64 G.n5, .slice a3 np cp3, .slice b3 nc cb3, .string G.tx, .string G.tg] _ _ HP6.out
    have hoff := Off.setRow (S := fun k => k = w.heap.size + 1) (Off.refl _ w6) rfl #[.int .i64 G.k, .int .i64 G.n0, .int .i64 G.n1, .int .i64 G.n2, .int .i64 G.n3, .int .i64 G.n4, .int .i64 G.n5, .slice a3 np cp3, .slice b3 nc cb3, .string G.tx, .string G.tg]
    have hbf := HB6.out.trans (hoff.below (B := w.heap.size) (fun k hk => by omega) HB6.out.size)
    have hof := HO6.out.off hoff (fun g hg e => by have := (HLT.out.1 g hg).1; have := HSZ.out; omega) (fun g hg e => by have := (HLT.out.2 g hg).1; have := HSZ.out; omega)
    generalize w6.setRow (w.heap.size + 1) _ = Wf at *
    have y := fun j x hx => row_cell hfin j x hx
    have y0 := y 0 _ rfl; have y1 := y 1 _ rfl; have y2 := y 2 _ rfl; have y3 := y 3 _ rfl; have y4 := y 4 _ rfl; have y5 := y 5 _ rfl
    have y6 := y 6 _ rfl; have y7 := y 7 _ rfl; have y8 := y 8 _ rfl; have y9 := y 9 _ rfl; have y10 := y 10 _ rfl
    refine bodyPost_ret (v := .tuple #[.agg #[.int .i64 G.k, .int .i64 G.n0, .int .i64 G.n1, .int .i64 G.n2, .int .i64 G.n3, .int .i64 G.n4, .int .i64 G.n5, .slice a3 np cp3, .slice b3 nc cb3, .string G.tx, .string G.tg], .bool true]) (by simp [results, Try.results23, go_sem, y0, y1, y2, y3, y4, y5, y6, y7, y8, y9, y10]) rfl ?_
    exact ⟨_, _, rfl, hof.less (by have := HSZ.out; omega), hbf⟩
end Go.Proofs.Ytnbhiamnoapmlaa
