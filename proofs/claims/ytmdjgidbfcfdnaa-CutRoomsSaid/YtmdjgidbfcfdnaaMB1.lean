/-
  A part of the texts of one proof, put together: HdN, Given, Stops, Mem, Row, Keep, HdP, HdI, StopA, KpC, Ld, HdC, HdMt, Bts, CrcN, CrcA, CrcW, FrC, CrcF, CrcD, CrcS, Byte, CrcE, FrS, Same, Num, NumGet, Put, Grow, LInfo, CobN, Idx, CobI, CobP, CobZ, App, ApN, CobE, Lists, RbB, In, RbE, Cat, HdB, CrcO, Q2.
-/
import Derived.WalkKit
import Derived.Below
import Derived.RangeFuncBox
import Derived.RangeFuncNested
import Derived.RangeFuncWrites
import Derived.RangeFuncLeaves
import Derived.OwnWalkIn
import Derived.Deep.Draws
import Derived.Laws.OwnMore
import Derived.Deep.AppendLies
import Derived.OpenShut
import Derived.Maps.AppendAt
import Derived.BigQuiet
import Derived.Laws.CopyOwn
import Derived.Lib.AppendZerosOnto
import Derived.RangeFuncKeeps
import Derived.Test.YtmdjgidbfcfdnaaRows
import Derived.WalkLawsBesides
import Derived.WalkMore
import Derived.Lib.Hide
import Derived.WalkSpells
import Derived.RangeFuncBound
import Derived.RangeFuncCalls
import Derived.Shelf.Abstract
import Derived.Shelf.RegionOpen
import Derived.TacticsInMore
import Derived.LoopNIn
import Derived.LoopIn
import Derived.ProofKit
import Derived.Deep.QuietTactic
import Derived.Deep.LoopGhost
import Derived.Deep.WholeRow
import Derived.ArgAppend
import Derived.Lib.Strings
import Derived.Lib.Slices
import Derived.Lib.Walk
import Derived.Lib.Bytes
import Derived.Laws.BitsAllLaws
import Derived.Laws.BitsLemmas
import Derived.Lib.MinMax
import Derived.Lib.BytesEntry
import Derived.Laws.Externs
import Derived.Deep.Upon
import Derived.Lib.AppendZeros
import Derived.Laws.MakeOwn
import Derived.Deep.Quiet
namespace Go.Proofs.Ytmdjgidbfcfdnaa
open Go.RowKit

/-- a head, as a value -/
def hdV (v k s i c : Int) : Value := .agg #[.int .i64 v, .int .i64 k, .int .u32 s, .int .i64 i, .int .i64 c]
/-- what is wrong with a head -/
def chk (v k i c : Int) : Int := if v < 1 ∨ 2 < v then 10 else if k < 1 ∨ 5 < k then 9 else if c < 1 ∨ 255 < c ∨ i < 0 ∨ c ≤ i then 3 else 0
theorem chk_zero {v k i c : Int} (h : chk v k i c = 0) : (v = 1 ∨ v = 2) ∧ 1 ≤ k ∧ k ≤ 5 ∧ 1 ≤ c ∧ c ≤ 255 ∧ 0 ≤ i ∧ i < c := by
  unfold chk at h
  split at h
  · omega
  · split at h
    · omega
    · split at h <;> omega
theorem chk_cases (v k i c : Int) : (chk v k i c = 10 ∧ (v < 1 ∨ 2 < v)) ∨ (chk v k i c = 9 ∧ 1 ≤ v ∧ v ≤ 2 ∧ (k < 1 ∨ 5 < k)) ∨ (chk v k i c = 3 ∧ 1 ≤ v ∧ v ≤ 2 ∧ 1 ≤ k ∧ k ≤ 5 ∧ (c < 1 ∨ 255 < c)) ∨
    (chk v k i c = 3 ∧ 1 ≤ v ∧ v ≤ 2 ∧ 1 ≤ k ∧ k ≤ 5 ∧ 1 ≤ c ∧ c ≤ 255 ∧ (i < 0 ∨ c ≤ i)) ∨ (chk v k i c = 0 ∧ 1 ≤ v ∧ v ≤ 2 ∧ 1 ≤ k ∧ k ≤ 5 ∧ 1 ≤ c ∧ c ≤ 255 ∧ 0 ≤ i ∧ i < c) := by
  unfold chk
  split
  · omega
  · split
    · omega
    · split <;> omega
/-- the cells of a head that has been boxed, in a later world -/
theorem hd_cells {w w1 : World} {v k s i c : Int} {t : TypeId} (hb : Below (w.alloc (.cells #[.int .i64 v, .int .i64 k, .int .u32 s, .int .i64 i, .int .i64 c] t)).heap.size (w.alloc (.cells #[.int .i64 v, .int .i64 k, .int .u32 s, .int .i64 i, .int .i64 c] t)) w1) :
    w1.cell? ⟨w.heap.size, 0, none⟩ = some (.int .i64 v) ∧ w1.cell? ⟨w.heap.size, 1, none⟩ = some (.int .i64 k) ∧ w1.cell? ⟨w.heap.size, 2, none⟩ = some (.int .u32 s) ∧ w1.cell? ⟨w.heap.size, 3, none⟩ = some (.int .i64 i) ∧ w1.cell? ⟨w.heap.size, 4, none⟩ = some (.int .i64 c) := by
  have h : w1.heap[w.heap.size]? = some (.cells #[.int .i64 v, .int .i64 k, .int .u32 s, .int .i64 i, .int .i64 c] t (0, 0)) := (hb.block _ (by simp)).trans (World.alloc_heap_new _ _)
  simp [World.cell?, h]
theorem hd_block {W : World} {b : Nat} {v k s i c : Int} {t : TypeId} (h : W.heap[b]? = some (.cells #[.int .i64 v, .int .i64 k, .int .u32 s, .int .i64 i, .int .i64 c] t (0, 0))) :
    W.cell? ⟨b, 0, none⟩ = some (.int .i64 v) ∧ W.cell? ⟨b, 1, none⟩ = some (.int .i64 k) ∧ W.cell? ⟨b, 2, none⟩ = some (.int .u32 s) ∧ W.cell? ⟨b, 3, none⟩ = some (.int .i64 i) ∧ W.cell? ⟨b, 4, none⟩ = some (.int .i64 c) := by
  simp [World.cell?, h]
end Go.Proofs.Ytmdjgidbfcfdnaa

namespace Go.Proofs.Ytmdjgidbfcfdnaa
open Go.RowKit

/-- whatever is no cells, lies from B on and is not l lies as it lay -/
structure KeepsBut (B l : Nat) (W W' : World) : Prop where
  size : W.heap.size ≤ W'.heap.size
  same : ∀ (k : Nat) (o : Obj), k ≠ l → B ≤ k → W.heap[k]? = some o → o.isCells = false → W'.heap[k]? = some o

section
variable {F : Fence} {n : Nat} {P : Program} {g : Operand} {ps : Array Tmp} {assign body : Code} {Q : Exit → Act → World → Prop} {a : Act} {w : World}
theorem range_given {α : Type} (hro : F.round = none) (h1 : 1 ≤ n) {gf : Nat} {lb : Array Value} (hg : a.eval g = .func (.func gf) #[] lb) (hFg : F.fn gf) (eg : ∀ args w, (callFunc gf args).run P w = .ok (.enter gf args) w)
    (enc : α → Array Value) (hps : ∀ x, (enc x).size = ps.size) (Rd : Nat → α → World → Prop) (Dn : Nat → World → Prop) (Kp : World → World → Prop) (N : Nat)
    (hRp : ∀ j x W l o o', Rd j x W → w.heap.size ≤ l → W.heap[l]? = some o → o.isCells = false → Rd j x (W.putObj l o'))
    (hDp : ∀ j W l o o', Dn j W → w.heap.size ≤ l → W.heap[l]? = some o → o.isCells = false → Dn j (W.putObj l o'))
    (hKt : ∀ A B C, Kp A B → Kp B C → Kp A C)
    (hKp : ∀ W l o o', w.heap.size ≤ l → W.heap[l]? = some o → o.isCells = false → Kp W (W.putObj l o'))
    (hD0 : ∀ o, Dn 0 ((w.alloc (.deferred (some []))).alloc o)) (a₁ : α → Act)
    (hassign : ∀ (l : Nat) (x : α) (W : World) (K : Act → World → Prop), K (a₁ x) W → assign.wpIn (F.inRound l) (n - 1 - 1) P (Exit.then K (fun _ _ _ => False)) { tmps := (ps.zip (enc x)).foldl (fun t (p, v) => t.setIfInBounds p v) a.tmps, defers := [] } W)
    (hbody : ∀ (l j : Nat) (x : α) (W : World), w.heap.size ≤ l → Rd j x W → j < N → body.wpIn (F.inRound l) (n - 1 - 1) P (fun e _ W' => e = .normal ∧ KeepsFrom w.heap.size W W' ∧ Dn (j + 1) W' ∧ Kp W W') (a₁ x) W)
    (hiter : ∀ (Bk : World → Prop) (l : Nat) (W : World), (∀ A B, Bk A → A.heap.size ≤ B.heap.size → (∀ k, w.heap.size ≤ k → k < w.heap.size + 2 → B.heap[k]? = A.heap[k]?) → Bk B) → (∀ A, Bk A → w.heap.size + 2 ≤ A.heap.size) → l < w.heap.size + 2 → Dn 0 W → Bk W →
      (∀ j x W1, Rd j x W1 → Bk W1 → j < N → YieldAt F (n - 1 - 1) P l (enc x) W1 fun e W2 => e = .returned (.bool true) ∧ Dn (j + 1) W2 ∧ Bk W2 ∧ Kp W1 W2 ∧ KeepsBut w.heap.size l W1 W2) →
      CallsIn F (n - 1) P gf (#[.func (.yield l) #[] #[]] ++ lb) W fun e W' => (∃ v, e = .returned v) ∧ Dn N W' ∧ Bk W')
    (hdone : ∀ (D : Nat) (W : World), w.heap.size ≤ D → Dn N W → W.heap[D]? = some (.deferred (some [])) → Q .normal { a with defers := { target := .collected D, args := #[] } :: a.defers } W) :
    (Code.rangeFunc g ps assign body).wpIn F n P Q a w := by
  apply wpIn_rangeFunc
  intro fn hfn
  rw [hro]
  have hent := run_enterLoop_outer (P := P) (w := w) fn a.tmps ps assign body
  obtain ⟨lp, hlp⟩ : ∃ lp : LoopState → Option Code → Loop, lp = fun st pe => { state := st, pending := pe, fn := fn, tmps := a.tmps, params := ps, assign := assign, body := body, defers := w.heap.size } := ⟨_, rfl⟩
  have hlp0 : ({ state := .ready, pending := none, fn, tmps := a.tmps, params := ps, assign, body, defers := w.heap.size } : Loop) = lp .ready none := by rw [hlp]
  rw [hlp0] at hent
  have hD0' := hD0 (.loop (lp .ready none))
  have hl0 : ((w.alloc (.deferred (some []))).alloc (.loop (lp .ready none))).heap[w.heap.size + 1]? = some (.loop (lp .ready none)) := by
    have h := World.alloc_heap_new (w.alloc (.deferred (some []))) (.loop (lp .ready none))
    rwa [World.size_alloc] at h
  have hd0 : ((w.alloc (.deferred (some []))).alloc (.loop (lp .ready none))).heap[w.heap.size]? = some (.deferred (some [])) := (Below.heap_alloc _ _ _ (by simp)).trans (World.alloc_heap_new w _)
  generalize (w.alloc (.deferred (some []))).alloc (.loop (lp .ready none)) = W0 at *
  refine ⟨_, _, _, { target := .fn (.func gf) lb, args := #[.func (.yield (w.heap.size + 1)) #[] #[]] }, W0, gf, #[.func (.yield (w.heap.size + 1)) #[] #[]] ++ lb, W0, hent, ?_, ?_, ?_, fun _ => h1, ?_⟩
  · simp only [resolve, hg]
    simp [go_sem]
  · intro f' hf'
    simp [Target.leads] at hf'
    subst hf'
    exact hFg
  · simp [invoke, go_sem, eg]
  let Bk : World → Prop := fun W => W.heap[w.heap.size + 1]? = some (.loop (lp .ready none)) ∧ W.heap[w.heap.size]? = some (.deferred (some []))
  have hBlt : ∀ A, Bk A → w.heap.size + 2 ≤ A.heap.size := fun A h => (Array.getElem?_eq_some_iff.1 h.1).1
  refine (hiter Bk (w.heap.size + 1) W0 (fun A B hA _ hAB => ⟨(hAB _ (by omega) (by omega)).trans hA.1, (hAB _ (by omega) (by omega)).trans hA.2⟩) hBlt (by omega) hD0' ⟨hl0, hd0⟩ ?_).mono ?_
  · rintro j x W1 hR hB hj
    have hsz := hBlt W1 hB
    have hy := run_yield (P := P) (args := enc x) hB.1 (by rw [hlp]; exact hps x)
    have hbeg := run_beginRound (P := P) hB.1 (by rw [hlp])
    rw [hlp] at hy hbeg
    refine ⟨fn, _, assign, body, hy, roundIn_of_wpIn hfn (hassign _ x W1 _ ⟨_, hbeg, ?_⟩)⟩
    refine wpIn_mono (hbody _ j x _ (by omega) (hRp j x W1 _ _ _ hR (by omega) hB.1 rfl) hj) ?_
    rintro e a3 W3 ⟨rfl, hk, hDn, hKp3⟩
    have b1 : (W1.putObj (w.heap.size + 1) (.loop { lp .ready none with state := .busy })).heap[w.heap.size + 1]? = some (.loop { lp .ready none with state := .busy }) := World.putObj_heap_same (by omega)
    have b2 : (W1.putObj (w.heap.size + 1) (.loop { lp .ready none with state := .busy })).heap[w.heap.size]? = some (.deferred (some [])) := (World.putObj_heap_other (by omega)).trans hB.2
    have hK1 := hKp W1 (w.heap.size + 1) _ (.loop { lp .ready none with state := .busy }) (by omega) hB.1 rfl
    rw [hlp] at b1 b2 hK1
    have c1 := hk.same _ _ (by omega) b1 rfl
    have c2 := hk.same _ _ (Nat.le_refl _) b2 rfl
    have hend := run_endRound (P := P) none c1
    refine ⟨_, _, hend, rfl, hDp _ _ _ _ _ hDn (by omega) c1 rfl, ?_, hKt _ _ _ hK1 (hKt _ _ _ hKp3 (hKp W3 _ _ _ (by omega) c1 rfl)), ?_, ?_⟩
    · refine ⟨?_, (World.putObj_heap_other (by omega)).trans c2⟩
      rw [hlp]
      exact World.putObj_heap_same (Array.getElem?_eq_some_iff.1 c1).1
    · have h1 := hk.size
      simp only [World.putObj, Array.size_setIfInBounds] at h1 ⊢
      exact h1
    · intro k o hkl hk2 ho hc
      exact (World.putObj_heap_other (by omega)).trans (hk.same k o hk2 ((World.putObj_heap_other (by omega)).trans ho) hc)
  · rintro e W2 ⟨⟨v, rfl⟩, hDN, hB⟩
    have hend := run_endLoop (P := P) hB.1 (by rw [hlp]; simp)
    rw [hlp] at hend
    exact ⟨none, _, hend, hdone _ _ (Nat.le_refl _) (hDp _ _ _ _ _ hDN (by omega) hB.1 rfl) ((World.putObj_heap_other (by omega)).trans hB.2)⟩
end

theorem yield_any {m : Nat} (m' : Nat) {P : Program} {l : Nat} {args : Array Value} {W : World} {R : Ending → World → Prop} (h : YieldAt Fence.wide m P l args W R) : YieldAt Fence.wide m' P l args W R := by
  obtain ⟨fn, tmps, assign, body, hy, hR⟩ := h
  exact ⟨fn, tmps, assign, body, hy, hR.1, fun c cs _ => hR.2 c cs (fun d hd => by cases hd)⟩
end Go.Proofs.Ytmdjgidbfcfdnaa

namespace Go.Proofs.Ytmdjgidbfcfdnaa
open Go.RowKit

/-- what a round's body leaves: it goes on (D), or it leaves by a code (X) -/
def stopPost (B : Nat) (Kp : World → World → Prop) (D : World → Prop) (X : Code → World → Prop) (W : World) : Exit → Act → World → Prop
  | .normal, _, W' => KeepsFrom B W W' ∧ D W' ∧ Kp W W'
  | .ret, _, W' => KeepsFrom B W W' ∧ X .ret W'
  | .exit id, _, W' => KeepsFrom B W W' ∧ X (.exit id) W'
  | _, _, _ => False
/-- what a yield answers, as the iterator sees it -/
def YPost (B l : Nat) (Kp : World → World → Prop) (D X : World → Prop) (W1 : World) (e : Ending) (W2 : World) : Prop :=
  (e = .returned (.bool true) ∧ D W2 ∧ Kp W1 W2 ∧ KeepsBut B l W1 W2) ∨ (e = .returned (.bool false) ∧ X W2 ∧ KeepsBut B l W1 W2)

section
variable {F : Fence} {n : Nat} {P : Program} {g : Operand} {ps : Array Tmp} {assign body : Code} {Q : Exit → Act → World → Prop} {a : Act} {w : World}
theorem range_stops {α : Type} (hro : F.round = none) (h1 : 1 ≤ n) {gf : Nat} {lb : Array Value} (hg : a.eval g = .func (.func gf) #[] lb) (hFg : F.fn gf) (eg : ∀ args w, (callFunc gf args).run P w = .ok (.enter gf args) w)
    (enc : α → Array Value) (hps : ∀ x, (enc x).size = ps.size) (Rd : Nat → α → World → Prop) (Dn : Nat → World → Prop) (Sx : Code → World → Prop) (Kp : World → World → Prop) (N : Nat)
    (hRp : ∀ j x W l o o', Rd j x W → w.heap.size ≤ l → W.heap[l]? = some o → o.isCells = false → Rd j x (W.putObj l o'))
    (hDp : ∀ j W l o o', Dn j W → w.heap.size ≤ l → W.heap[l]? = some o → o.isCells = false → Dn j (W.putObj l o'))
    (hSp : ∀ c W l o o', Sx c W → w.heap.size ≤ l → W.heap[l]? = some o → o.isCells = false → Sx c (W.putObj l o'))
    (hKt : ∀ A B C, Kp A B → Kp B C → Kp A C)
    (hKp : ∀ W l o o', w.heap.size ≤ l → W.heap[l]? = some o → o.isCells = false → Kp W (W.putObj l o'))
    (hD0 : ∀ o, Dn 0 ((w.alloc (.deferred (some []))).alloc o)) (a₁ : α → Act)
    (hassign : ∀ (l : Nat) (x : α) (W : World) (K : Act → World → Prop), K (a₁ x) W → assign.wpIn (F.inRound l) (n - 1 - 1) P (Exit.then K (fun _ _ _ => False)) { tmps := (ps.zip (enc x)).foldl (fun t (p, v) => t.setIfInBounds p v) a.tmps, defers := [] } W)
    (hbody : ∀ (l j : Nat) (x : α) (W : World), w.heap.size ≤ l → Rd j x W → j < N → body.wpIn (F.inRound l) (n - 1 - 1) P (stopPost w.heap.size Kp (Dn (j + 1)) Sx W) (a₁ x) W)
    (hiter : ∀ (Bk : World → Prop) (X : World → Prop) (l : Nat) (W : World), (∀ A B, Bk A → A.heap.size ≤ B.heap.size → (∀ k, w.heap.size ≤ k → k < w.heap.size + 2 → B.heap[k]? = A.heap[k]?) → Bk B) → (∀ A, Bk A → w.heap.size + 2 ≤ A.heap.size) →
      (∀ A l' o o', X A → w.heap.size + 2 ≤ l' → A.heap[l']? = some o → o.isCells = false → X (A.putObj l' o')) → l < w.heap.size + 2 → Dn 0 W → Bk W →
      (∀ j x W1, Rd j x W1 → Bk W1 → j < N → YieldAt F (n - 1 - 1) P l (enc x) W1 (YPost w.heap.size l Kp (fun W2 => Dn (j + 1) W2 ∧ Bk W2) X W1)) →
      CallsIn F (n - 1) P gf (#[.func (.yield l) #[] #[]] ++ lb) W fun e W' => (∃ v, e = .returned v) ∧ ((Dn N W' ∧ Bk W') ∨ X W'))
    (hdone : ∀ (D : Nat) (W : World), w.heap.size ≤ D → Dn N W → W.heap[D]? = some (.deferred (some [])) → Q .normal { a with defers := { target := .collected D, args := #[] } :: a.defers } W)
    (hstop : ∀ (D : Nat) (c : Code) (W : World), w.heap.size ≤ D → Sx c W → W.heap[D]? = some (.deferred (some [])) → c.wpIn F n P Q { a with defers := { target := .collected D, args := #[] } :: a.defers } W) :
    (Code.rangeFunc g ps assign body).wpIn F n P Q a w := by
  apply wpIn_rangeFunc
  intro fn hfn
  rw [hro]
  have hent := run_enterLoop_outer (P := P) (w := w) fn a.tmps ps assign body
  obtain ⟨lp, hlp⟩ : ∃ lp : LoopState → Option Code → Loop, lp = fun st pe => { state := st, pending := pe, fn := fn, tmps := a.tmps, params := ps, assign := assign, body := body, defers := w.heap.size } := ⟨_, rfl⟩
  have hlp0 : ({ state := .ready, pending := none, fn, tmps := a.tmps, params := ps, assign, body, defers := w.heap.size } : Loop) = lp .ready none := by rw [hlp]
  rw [hlp0] at hent
  have hD0' := hD0 (.loop (lp .ready none))
  have hl0 : ((w.alloc (.deferred (some []))).alloc (.loop (lp .ready none))).heap[w.heap.size + 1]? = some (.loop (lp .ready none)) := by
    have h := World.alloc_heap_new (w.alloc (.deferred (some []))) (.loop (lp .ready none))
    rwa [World.size_alloc] at h
  have hd0 : ((w.alloc (.deferred (some []))).alloc (.loop (lp .ready none))).heap[w.heap.size]? = some (.deferred (some [])) := (Below.heap_alloc _ _ _ (by simp)).trans (World.alloc_heap_new w _)
  generalize (w.alloc (.deferred (some []))).alloc (.loop (lp .ready none)) = W0 at *
  refine ⟨_, _, _, { target := .fn (.func gf) lb, args := #[.func (.yield (w.heap.size + 1)) #[] #[]] }, W0, gf, #[.func (.yield (w.heap.size + 1)) #[] #[]] ++ lb, W0, hent, ?_, ?_, ?_, fun _ => h1, ?_⟩
  · simp only [resolve, hg]
    simp [go_sem]
  · intro f' hf'
    simp [Target.leads] at hf'
    subst hf'
    exact hFg
  · simp [invoke, go_sem, eg]
  let Bk : World → Prop := fun W => W.heap[w.heap.size + 1]? = some (.loop (lp .ready none)) ∧ W.heap[w.heap.size]? = some (.deferred (some []))
  let X : World → Prop := fun W => ∃ c, Sx c W ∧ W.heap[w.heap.size + 1]? = some (.loop (lp .done (some c))) ∧ W.heap[w.heap.size]? = some (.deferred (some []))
  have hBlt : ∀ A, Bk A → w.heap.size + 2 ≤ A.heap.size := fun A h => (Array.getElem?_eq_some_iff.1 h.1).1
  refine (hiter Bk X (w.heap.size + 1) W0 (fun A B hA _ hAB => ⟨(hAB _ (by omega) (by omega)).trans hA.1, (hAB _ (by omega) (by omega)).trans hA.2⟩) hBlt
    (fun A l' o o' hA hl' ho hc => by
      obtain ⟨c, h1, h2, h3⟩ := hA
      exact ⟨c, hSp c A l' o o' h1 (by omega) ho hc, (World.putObj_heap_other (by omega)).trans h2, (World.putObj_heap_other (by omega)).trans h3⟩) (by omega) hD0' ⟨hl0, hd0⟩ ?_).mono ?_
  · rintro j x W1 hR hB hj
    have hsz := hBlt W1 hB
    have hy := run_yield (P := P) (args := enc x) hB.1 (by rw [hlp]; exact hps x)
    have hbeg := run_beginRound (P := P) hB.1 (by rw [hlp])
    rw [hlp] at hy hbeg
    refine ⟨fn, _, assign, body, hy, roundIn_of_wpIn hfn (hassign _ x W1 _ ⟨_, hbeg, ?_⟩)⟩
    refine wpIn_mono (hbody _ j x _ (by omega) (hRp j x W1 _ _ _ hR (by omega) hB.1 rfl) hj) ?_
    have b1 : (W1.putObj (w.heap.size + 1) (.loop { lp .ready none with state := .busy })).heap[w.heap.size + 1]? = some (.loop { lp .ready none with state := .busy }) := World.putObj_heap_same (by omega)
    have b2 : (W1.putObj (w.heap.size + 1) (.loop { lp .ready none with state := .busy })).heap[w.heap.size]? = some (.deferred (some [])) := (World.putObj_heap_other (by omega)).trans hB.2
    have hK1 := hKp W1 (w.heap.size + 1) _ (.loop { lp .ready none with state := .busy }) (by omega) hB.1 rfl
    rw [hlp] at b1 b2 hK1
    have fin : ∀ (jump : Option Code) (W3 : World), KeepsFrom w.heap.size (W1.putObj (w.heap.size + 1) (.loop { lp .ready none with state := .busy })) W3 →
        (Instr.endRound (w.heap.size + 1) jump).run P W3 = .ok (.bool jump.isNone) (W3.putObj (w.heap.size + 1) (.loop (lp (if jump.isNone then .ready else .done) jump))) ∧
        W3.heap[w.heap.size + 1]? = some (.loop { lp .ready none with state := .busy }) ∧
        (W3.putObj (w.heap.size + 1) (.loop (lp (if jump.isNone then .ready else .done) jump))).heap[w.heap.size + 1]? = some (.loop (lp (if jump.isNone then .ready else .done) jump)) ∧
        (W3.putObj (w.heap.size + 1) (.loop (lp (if jump.isNone then .ready else .done) jump))).heap[w.heap.size]? = some (.deferred (some [])) ∧
        KeepsBut w.heap.size (w.heap.size + 1) W1 (W3.putObj (w.heap.size + 1) (.loop (lp (if jump.isNone then .ready else .done) jump))) := fun jump W3 hk => by
      rw [hlp] at hk ⊢
      have c1 := hk.same _ _ (by omega) b1 rfl
      have c2 := hk.same _ _ (Nat.le_refl _) b2 rfl
      have hend := run_endRound (P := P) jump c1
      refine ⟨hend, c1, World.putObj_heap_same (Array.getElem?_eq_some_iff.1 c1).1, (World.putObj_heap_other (by omega)).trans c2, ?_, ?_⟩
      · have h1 := hk.size
        simp only [World.putObj, Array.size_setIfInBounds] at h1 ⊢
        exact h1
      · intro k o hkl hk2 ho hc
        exact (World.putObj_heap_other (by omega)).trans (hk.same k o hk2 ((World.putObj_heap_other (by omega)).trans ho) hc)
    rintro e a3 W3 hp
    rw [hlp] at fin
    cases e with
    | normal =>
      obtain ⟨hk, hDn, hKp3⟩ := hp
      obtain ⟨hend, c1, d1, d2, hkb⟩ := fin none W3 hk
      exact ⟨_, _, hend, .inl ⟨rfl, ⟨hDp _ _ _ _ _ hDn (by omega) c1 rfl, by rw [hlp]; exact d1, d2⟩, hKt _ _ _ hK1 (hKt _ _ _ hKp3 (hKp W3 _ _ _ (by omega) c1 rfl)), hkb⟩⟩
    | ret =>
      obtain ⟨hk, hx⟩ := hp
      obtain ⟨hend, c1, d1, d2, hkb⟩ := fin (some .ret) W3 hk
      exact ⟨_, _, hend, .inr ⟨rfl, ⟨.ret, hSp _ _ _ _ _ hx (by omega) c1 rfl, by rw [hlp]; exact d1, d2⟩, hkb⟩⟩
    | exit id =>
      obtain ⟨hk, hx⟩ := hp
      obtain ⟨hend, c1, d1, d2, hkb⟩ := fin (some (.exit id)) W3 hk
      exact ⟨_, _, hend, .inr ⟨rfl, ⟨.exit id, hSp _ _ _ _ _ hx (by omega) c1 rfl, by rw [hlp]; exact d1, d2⟩, hkb⟩⟩
    | goto t => exact hp.elim
    | panic ch => exact hp.elim
    | outgrown => exact hp.elim
  · rintro e W2 ⟨⟨v, rfl⟩, ⟨hDN, hB⟩ | ⟨c, hc, hl, hd⟩⟩
    · have hend := run_endLoop (P := P) hB.1 (by rw [hlp]; simp)
      rw [hlp] at hend
      exact ⟨none, _, hend, hdone _ _ (Nat.le_refl _) (hDp _ _ _ _ _ hDN (by omega) hB.1 rfl) ((World.putObj_heap_other (by omega)).trans hB.2)⟩
    · have hend := run_endLoop (P := P) hl (by rw [hlp]; simp)
      rw [hlp] at hend
      exact ⟨some c, _, hend, hstop _ c _ (Nat.le_refl _) (hSp _ _ _ _ _ hc (by omega) hl rfl) ((World.putObj_heap_other (by omega)).trans hd)⟩
end
end Go.Proofs.Ytmdjgidbfcfdnaa

namespace Go.Proofs.Ytmdjgidbfcfdnaa
open Go.RowKit

/-- the numbers zs, of kind k, lie at the slice's address, below block B; where there are none the address is whatever it is -/
def Nums (k : IntKind) (w : World) (B : Nat) (a : Option Addr) (zs : List Int) : Prop :=
  zs ≠ [] → ∃ b off, a = some ⟨b, off, none⟩ ∧ b < B ∧ ∀ j c, zs[j]? = some c → w.cell? ⟨b, off + j, none⟩ = some (.int k c)

theorem below_drewN {B : Nat} {a w : World} (h : Below B a w) (n : Nat) : Below B a (w.drewN n) := ⟨h.os, h.tape, h.output, h.size, h.block⟩

section
variable {k : IntKind} {w w' : World} {B B' : Nat} {a : Option Addr} {zs : List Int}
theorem Nums.nil : Nums k w B a [] := fun h => absurd rfl h
theorem Nums.open (h : Nums k w B a zs) {j : Nat} {c : Int} (hj : zs[j]? = some c) : ∃ b off, a = some ⟨b, off, none⟩ ∧ b < B ∧ w.cell? ⟨b, off + j, none⟩ = some (.int k c) := by
  obtain ⟨b, off, e, hb, hc⟩ := h (by intro e; subst e; simp at hj)
  exact ⟨b, off, e, hb, hc j c hj⟩
theorem Nums.kept (h : Nums k w B a zs) (hk : ∀ p : Addr, p.block < B → w'.cell? p = w.cell? p) : Nums k w' B a zs := fun hn => by
  obtain ⟨b, off, e, hb, hc⟩ := h hn
  exact ⟨b, off, e, hb, fun j c hj => (hk ⟨b, off + j, none⟩ hb).trans (hc j c hj)⟩
theorem Nums.below (h : Nums k w B a zs) (hb : Below B w w') : Nums k w' B a zs := h.kept fun _ hp => hb.cell hp
theorem Nums.mono (h : Nums k w B a zs) (hB : B ≤ B') : Nums k w B' a zs := fun hn => by
  obtain ⟨b, off, e, hb, hc⟩ := h hn
  exact ⟨b, off, e, by omega, hc⟩
theorem Nums.take (h : Nums k w B a zs) (n : Nat) : Nums k w B a (zs.take n) := fun hn => by
  obtain ⟨b, off, e, hb, hc⟩ := h (by intro e; subst e; simp at hn)
  refine ⟨b, off, e, hb, fun j c hj => hc j c ?_⟩
  rw [List.getElem?_take] at hj
  by_cases hlt : j < n
  · simpa [hlt] using hj
  · simp [hlt] at hj
/-- 's[i:]' of a slice, as the model spells its address -/
theorem Nums.drop (h : Nums k w B a zs) {i cap : Nat} (hc : zs.length ≤ cap) : Nums k w B (if cap = i then a else a.map (·.add i)) (zs.drop i) := fun hn => by
  have hi : i < zs.length := by
    rcases Nat.lt_or_ge i zs.length with h1 | h1
    · exact h1
    · exact absurd (List.drop_eq_nil_of_le h1) hn
  obtain ⟨b, off, rfl, hb, hcell⟩ := h (by intro e; subst e; simp at hi)
  refine ⟨b, off + i, ?_, hb, fun j c hj => ?_⟩
  · rw [if_neg (by omega)]; simp [Addr.add]

  · rw [Nat.add_assoc]
    exact hcell (i + j) c (by rw [← hj, List.getElem?_drop])
theorem Nums.of_own {base e : Nat} {c : Nat} (h : w.ownsRow base e 1 (.slice a zs.length c) zs.length (zs.map (Value.int k))) : Nums k w w.heap.size a zs := fun hn => by
  have hp : 0 < zs.length := by
    rcases Nat.eq_zero_or_pos zs.length with h0 | h0
    · exact absurd (List.eq_nil_of_length_eq_zero h0) hn
    · exact h0
  obtain ⟨g, cap, hv, _, hlt⟩ := h.form hp
  have ha : a = some ⟨g, 0, none⟩ := by injection hv
  subst ha
  refine ⟨g, 0, rfl, hlt, fun j c hj => ?_⟩
  have := h.cells (g := g) rfl j (.int k c) (by rw [List.getElem?_map, hj]; rfl)
  rw [Nat.zero_add]
  by_cases h0 : j = 0
  · subst h0; simpa [Addr.add] using this
  · simpa [Addr.add, h0] using this
/-- one number at a place -/
theorem Nums.one {k : IntKind} {w : World} {B b off : Nat} {z : Int} (hb : b < B) (hc : w.cell? ⟨b, off, none⟩ = some (.int k z)) : Nums k w B (some ⟨b, off, none⟩) [z] := fun _ =>
  ⟨b, off, rfl, hb, fun j c hj => by
    cases j with
    | zero => simp at hj; subst hj; exact hc
    | succ j => simp at hj⟩
/-- a slice that has just been laid -/
theorem Nums.new (k : IntKind) (w : World) (t : TypeId) (zs : List Int) (cs : Array Value) (h : cs = (zs.map (Value.int k)).toArray) : Nums k (w.alloc (.cells cs t)) (w.heap.size + 1) (some ⟨w.heap.size, 0, none⟩) zs := fun _ => by
  refine ⟨w.heap.size, 0, rfl, by omega, fun j c hj => ?_⟩
  rw [World.cell?_alloc_at _ _ _ _ rfl, h]
  simp [hj]
end

/-- a slice of integers that came in: nil, or a row of 'cap' cells with the numbers zs, of which the first len are its elements -/
def IsRow (k : IntKind) (w : World) (a : Option Addr) (len cap : Nat) (zs : List Int) : Prop :=
  (a = none ∧ len = 0 ∧ cap = 0 ∧ zs = []) ∨
  ∃ x, a = some x ∧ len ≤ cap ∧ cap ≤ maxLen ∧ zs.length = cap ∧ (∀ i, i < zs.length → w.cell? (x.add i) = some (.int k (zs.getD i 0))) ∧ ∀ n ∈ zs, (Lit.int k n).wf = true
theorem block_of_cell {w : World} {p : Addr} {v : Value} (h : w.cell? p = some v) : p.block < w.heap.size := by
  rcases Nat.lt_or_ge p.block w.heap.size with h1 | h1
  · exact h1
  · simp [World.cell?, Array.getElem?_eq_none h1] at h
/-- .. as its elements lie -/
theorem IsRow.elems {k : IntKind} {w : World} {a : Option Addr} {len cap : Nat} {zs : List Int} (h : IsRow k w a len cap zs) :
    ∃ es : List Int, es.length = len ∧ len ≤ cap ∧ cap ≤ maxLen ∧ Nums k w w.heap.size a es ∧ ∀ n ∈ es, (Lit.int k n).wf = true := by
  rcases h with ⟨rfl, rfl, rfl, rfl⟩ | ⟨x, rfl, hl, hm, hz, hc, hw⟩
  · exact ⟨[], rfl, by omega, by omega, Nums.nil, by simp⟩
  · refine ⟨zs.take len, by rw [List.length_take]; omega, hl, hm, ?_, fun n hn => hw n (List.mem_of_mem_take hn)⟩
    refine Nums.take (fun hn => ?_) len
    have h0 : 0 < zs.length := by
      rcases Nat.eq_zero_or_pos zs.length with h | h
      · exact absurd (List.eq_nil_of_length_eq_zero h) hn
      · exact h
    obtain ⟨b, off, spot⟩ := x
    have hc0 := hc 0 h0
    have hspot : spot = none := by simpa [Addr.add] using World.cell?_spot hc0
    subst hspot
    refine ⟨b, off, rfl, by simpa [Addr.add] using block_of_cell hc0, fun j c hj => ?_⟩
    have hlt : j < zs.length := by
      rcases Nat.lt_or_ge j zs.length with h | h
      · exact h
      · rw [List.getElem?_eq_none h] at hj; simp at hj
    have hcj := hc j hlt
    rw [List.getD, hj] at hcj
    by_cases hj0 : j = 0
    · subst hj0; simpa [Addr.add] using hcj
    · simpa [Addr.add, hj0] using hcj

/-- a drawn region whose operations each yield one value in every world that is as a0 was below B: one walk of the text's order; its calls may make memory -/
theorem wp_region_below {P : Program} {id : Nat} {Q : Exit → Act → World → Prop} {a : Act} {w a0 : World} {B : Nat} {l : List Oper} (hm : P.follows .mixedOrders = true) (hB : Region.lexB .any l.toArray = true) (hC : Below B a0 w)
    (h : wpQuiet P l.toArray (fun W => Below B a0 W) (fun a' => ∀ w', Below B a0 w' → Q .normal a' w') l a) : (Code.region id l.toArray true).wp P Q a w :=
  wp_region_quiet (C := fun W => Below B a0 W) hm hB hC.drew (by simpa using h)
/-- a call in it, by a contract that says its one value -/
theorem calls_below {P : Program} {f : FuncId} {args : Array Value} {W a0 : World} {B : Nat} {v : Value} (hC : Below B a0 W) (hs : B ≤ W.heap.size)
    (h : Calls P f args W fun e w' => e = .returned v ∧ Below W.heap.size W w') : Calls P f args W fun e w' => e = .returned v ∧ Below B a0 w' :=
  h.mono fun _ _ ⟨he, hb⟩ => ⟨he, hC.trans (hb.mono hs)⟩

/-! ### numbers that a call has made, of an element type e and a kind k -/
def MadeK (e : TypeId) (k : IntKind) (w w' : World) (L : List Int) (v : Value) : Prop := w'.ownsRow w.heap.size e 1 v L.length (L.map (Value.int k)) ∧ Below w.heap.size w w'
section
variable {e : TypeId} {k : IntKind} {w w1 w2 : World} {L : List Int} {v v' : Value}
theorem MadeK.nil (e : TypeId) (k : IntKind) (h : Below w.heap.size w w1) : MadeK e k w w1 [] (.slice none 0 0) := ⟨World.ownsRow_nil _ _ _ _, h⟩
theorem MadeK.slice (h : MadeK e k w w1 L v) : ∃ A c, v = .slice A L.length c ∧ L.length ≤ c ∧ Nums k w1 w1.heap.size A L := by
  have h1 := h.1
  obtain ⟨_, h2⟩ := h1
  rcases h2 with ⟨rfl, h0⟩ | ⟨g, cap, cur, rfl, hg, hh, hn, _⟩
  · have : L = [] := List.eq_nil_of_length_eq_zero h0
    subst this
    exact ⟨none, 0, rfl, by simp, Nums.nil⟩
  · exact ⟨some ⟨g, 0, none⟩, cap, rfl, hn, Nums.of_own h.1⟩
theorem MadeK.own_ge (h : MadeK e k w w1 L v) {g : Nat} (hg : v.ownBlock = some g) : w.heap.size ≤ g ∧ ∃ cur, w1.heap[g]? = some (.cells cur e (0, 0)) := by
  have hv := h.1
  obtain ⟨_, h2⟩ := hv
  rcases h2 with ⟨rfl, h0⟩ | ⟨g', cap, cur, rfl, hg', hh, hn, _⟩
  · simp [Value.ownBlock] at hg
  · simp [Value.ownBlock] at hg; subst hg; exact ⟨hg', cur, hh⟩
theorem MadeK.app {x y : Int} {o : Obj} (h : MadeK e k w w1 L v) (hown : w2.ownsRow w.heap.size e 1 v' (L.length + 1) (L.map (Value.int k) ++ [.int k x])) (hg : (w1.alloc o).grownBy w2 v.ownBlock) (hx : x = y) : MadeK e k w w2 (L ++ [y]) v' := by
  subst hx
  exact ⟨by simpa using hown, ((h.2.alloc h.2.size o).grown hg (by have := h.2.size; simp; omega) (fun g hk => (h.own_ge hk).1))⟩
/-- another row, of another element type, has grown -/
theorem MadeK.far {e2 : TypeId} {k2 : IntKind} {L2 : List Int} {v2 : Value} {o : Obj} (h : MadeK e k w w1 L v) (h2 : MadeK e2 k2 w w1 L2 v2) (hne : e ≠ e2) (hg : (w1.alloc o).grownBy w2 v2.ownBlock) (hb : Below w.heap.size w w2) : MadeK e k w w2 L v := by
  refine ⟨(h.1.alloc o).kept hg ?_, hb⟩
  cases hv : v.ownBlock with
  | none => exact .inl rfl
  | some g =>
    right
    intro he
    obtain ⟨_, cur, hc⟩ := h.own_ge hv
    obtain ⟨_, cur2, hc2⟩ := h2.own_ge he.symm
    rw [hc] at hc2
    injection hc2 with hc2
    injection hc2 with _ ht
    exact hne ht
theorem MadeK.later (h : MadeK e k w w1 L v) (o : Obj) : MadeK e k w (w1.alloc o) L v := ⟨h.1.alloc o, h.2.alloc h.2.size o⟩
end
end Go.Proofs.Ytmdjgidbfcfdnaa

namespace Go.Proofs.Ytmdjgidbfcfdnaa
open Go.RowKit

/-- of the blocks that are there, those outside S are as they were -/
structure Off (S : Nat → Prop) (w w' : World) : Prop where
  os : w'.os = w.os
  tape : w'.tape = w.tape
  output : w'.output = w.output
  size : w.heap.size ≤ w'.heap.size
  block : ∀ k, k < w.heap.size → ¬ S k → w'.heap[k]? = w.heap[k]?
section
variable {S S' : Nat → Prop} {w w1 w' : World} {B : Nat}
theorem Off.refl (S : Nat → Prop) (w : World) : Off S w w := ⟨rfl, rfl, rfl, Nat.le_refl _, fun _ _ _ => rfl⟩
theorem Off.trans (h : Off S w w1) (k : Off S' w1 w') (hS : ∀ j, j < w.heap.size → S' j → S j) : Off S w w' :=
  ⟨k.os.trans h.os, k.tape.trans h.tape, k.output.trans h.output, Nat.le_trans h.size k.size, fun i hi hn => (k.block i (Nat.lt_of_lt_of_le hi h.size) (fun hs => hn (hS i hi hs))).trans (h.block i hi hn)⟩
theorem Off.mono (h : Off S w w') (hS : ∀ j, j < w.heap.size → S j → S' j) : Off S' w w' := ⟨h.os, h.tape, h.output, h.size, fun k hk hn => h.block k hk fun hs => hn (hS k hk hs)⟩
theorem Off.of_below (h : Below w.heap.size w w') : Off S w w' := ⟨h.os, h.tape, h.output, h.size, fun k hk _ => h.block k hk⟩
theorem Off.below (h : Off S w w') (hS : ∀ k, S k → B ≤ k) (hB : B ≤ w.heap.size) : Below B w w' := ⟨h.os, h.tape, h.output, h.size, fun k hk => h.block k (by omega) (fun hs => by have := hS k hs; omega)⟩
theorem Off.cell (h : Off S w w') {p : Addr} {v : Value} (hv : w.cell? p = some v) (hn : ¬ S p.block) : w'.cell? p = some v :=
  (World.cell?_of_block (h.block p.block (World.block_lt_of_cell? w p hv) hn)).trans hv
theorem Off.setCell (h : Off S w w') {p : Addr} (hp : S p.block) (u : Value) : Off S w (w'.setCell p u) :=
  ⟨h.os, h.tape, h.output, by simpa [World.setCell] using h.size, fun k hk hn => (Below.heap_setCell _ _ _ _ (fun e => hn (by subst e; exact hp))).trans (h.block k hk hn)⟩
theorem Off.setRow (h : Off S w w') {g : Nat} (hp : S g) (cs : Array Value) : Off S w (w'.setRow g cs) :=
  ⟨h.os, h.tape, h.output, by simpa [World.setRow] using h.size, fun k hk hn => (setRow_other _ _ _ _ (fun e => hn (by subst e; exact hp))).trans (h.block k hk hn)⟩
end

/-- the block of a slice's address -/
def blockOf (A : Option Addr) (g : Nat) : Prop := ∃ o s, A = some ⟨g, o, s⟩

theorem Nums.off {S : Nat → Prop} {k : IntKind} {w w' : World} {B : Nat} {A : Option Addr} {zs : List Int} (h : Nums k w B A zs) (hf : Off S w w') (hn : zs ≠ [] → ∀ g, blockOf A g → ¬ S g) : Nums k w' B A zs := fun h0 => by
  obtain ⟨b, off, e, hb, hc⟩ := h h0
  exact ⟨b, off, e, hb, fun j c hj => hf.cell (hc j c hj) (hn h0 b ⟨_, _, e⟩)⟩

/-- a row that the call made, known whole: nil, or cap cells of type T, the numbers cur -/
def KRow (T : TypeId) (k : IntKind) (w : World) (A : Option Addr) (cap : Nat) (cur : List Int) : Prop :=
  cur.length = cap ∧ ((A = none ∧ cap = 0) ∨ ∃ g, A = some ⟨g, 0, none⟩ ∧ cap ≤ maxLen ∧ w.heap[g]? = some (.cells (cur.map (Value.int k)).toArray T (0, 0)))
section
variable {T : TypeId} {k : IntKind} {w w' : World} {A : Option Addr} {cap : Nat} {cur : List Int}
theorem KRow.nil (T : TypeId) (k : IntKind) (w : World) : KRow T k w none 0 [] := ⟨rfl, .inl ⟨rfl, rfl⟩⟩
theorem KRow.lt (h : KRow T k w A cap cur) {g : Nat} (hg : blockOf A g) : g < w.heap.size := by
  obtain ⟨o, s, rfl⟩ := hg
  rcases h.2 with ⟨h0, _⟩ | ⟨g', e, _, hh⟩
  · simp at h0
  · injection e with e; injection e with e1; subst e1
    exact (Array.getElem?_eq_some_iff.1 hh).1
theorem KRow.off {S : Nat → Prop} (h : KRow T k w A cap cur) (hf : Off S w w') (hn : ∀ g, blockOf A g → ¬ S g) : KRow T k w' A cap cur := by
  refine ⟨h.1, ?_⟩
  rcases h.2 with h0 | ⟨g, rfl, hm, hh⟩
  · exact .inl h0
  · exact .inr ⟨g, rfl, hm, by rw [hf.block g (Array.getElem?_eq_some_iff.1 hh).1 (hn g ⟨_, _, rfl⟩)]; exact hh⟩
theorem KRow.cells (h : KRow T k w A cap cur) {g o : Nat} (hA : A = some ⟨g, o, none⟩) : o = 0 ∧ w.heap[g]? = some (.cells (cur.map (Value.int k)).toArray T (0, 0)) := by
  rcases h.2 with ⟨h0, _⟩ | ⟨g', e, _, hh⟩
  · rw [hA] at h0; simp at h0
  · rw [hA] at e; injection e with e; injection e with e1 e2; subst e1; exact ⟨e2, hh⟩
theorem KRow.cell (h : KRow T k w A cap cur) {g o : Nat} (hA : A = some ⟨g, o, none⟩) {j : Nat} {c : Int} (hj : cur[j]? = some c) : w.cell? ⟨g, j, none⟩ = some (.int k c) := by
  obtain ⟨_, hh⟩ := h.cells hA
  simp [World.cell?, hh, hj]
theorem KRow.nums (h : KRow T k w A cap cur) (n : Nat) : Nums k w w.heap.size A (cur.take n) := by
  refine Nums.take (fun hn => ?_) n
  rcases h.2 with ⟨_, h1⟩ | ⟨g, rfl, _, hh⟩
  · exact absurd (List.eq_nil_of_length_eq_zero (h.1.trans h1)) hn
  · exact ⟨g, 0, rfl, (Array.getElem?_eq_some_iff.1 hh).1, fun j c hj => by rw [Nat.zero_add]; exact h.cell rfl hj⟩
theorem zeroCells_int (k : IntKind) (n : Nat) : Builtin.zeroCells #[.int k 0] n = ((List.replicate n (0 : Int)).map (Value.int k)).toArray := by
  apply Array.ext
  · simp [Builtin.zeroCells]
  · intro i h1 h2
    simp [Builtin.zeroCells, Nat.mod_one]
end
theorem setCell_at {w : World} {b j : Nat} {cs : Array Value} {t : TypeId} {u : Value} (h : w.heap[b]? = some (.cells cs t (0, 0))) : (w.setCell ⟨b, j, none⟩ u).heap[b]? = some (.cells (cs.setIfInBounds j u) t (0, 0)) := by
  have hlt := (Array.getElem?_eq_some_iff.1 h).1
  have hv := (Array.getElem?_eq_some_iff.1 h).2
  simp [World.setCell, Array.getElem?_modify, h]
end Go.Proofs.Ytmdjgidbfcfdnaa

namespace Go.Proofs.Ytmdjgidbfcfdnaa
open Go.RowKit

/-- the blocks of S are as they were -/
def KeepS (S : Nat → Prop) (W W' : World) : Prop := W.heap.size ≤ W'.heap.size ∧ ∀ k, S k → W'.heap[k]? = W.heap[k]?
section
variable {S S' : Nat → Prop} {A B C : World}
theorem KeepS.refl (S : Nat → Prop) (W : World) : KeepS S W W := ⟨Nat.le_refl _, fun _ _ => rfl⟩
theorem KeepS.trans (h : KeepS S A B) (k : KeepS S B C) : KeepS S A C := ⟨Nat.le_trans h.1 k.1, fun i h1 => (k.2 i h1).trans (h.2 i h1)⟩
theorem KeepS.of_below {n : Nat} (h : Below n A B) (hS : ∀ k, S k → k < n) : KeepS S A B := ⟨h.size, fun k h1 => h.block k (hS k h1)⟩
theorem KeepS.cell (h : KeepS S A B) {p : Addr} (h1 : S p.block) : B.cell? p = A.cell? p := World.cell?_of_block (h.2 p.block h1)
theorem KeepS.less (h : KeepS S A B) (hS : ∀ k, S' k → S k) : KeepS S' A B := ⟨h.1, fun k hk => h.2 k (hS k hk)⟩
theorem KeepS.set (h : KeepS S A B) {b : Nat} (hb : ¬ S b) (v : Value) : KeepS S A (B.setCell ⟨b, 0, none⟩ v) :=
  ⟨by simpa [World.setCell] using h.1, fun k hk => (Below.heap_setCell B ⟨b, 0, none⟩ v k (fun e => by subst e; exact hb hk)).trans (h.2 k hk)⟩
theorem KeepS.grown {row : Option Nat} (h : KeepS S A B) (hg : B.grownBy C row) (hS : ∀ k, S k → k < B.heap.size) (hr : ∀ k, row = some k → ¬ S k) : KeepS S A C :=
  ⟨Nat.le_trans h.1 hg.size, fun k hk => (hg.block k (hS k hk) (fun e => hr k e.symm hk)).trans (h.2 k hk)⟩
theorem keepS_t (h : KeepS S A B) (k : KeepS S B C) : KeepS S A C := h.trans k
theorem keepS_b {w : World} (hh : ∀ k, S k → k < w.heap.size) (W : World) (l : Nat) (o o' : Obj) (hl : w.heap.size ≤ l) (_ho : W.heap[l]? = some o) (_h1 : o.isCells = false) (_h2 : o.isWalk = false) : KeepS S W (W.putObj l o') := by
  refine ⟨by simp [World.putObj], fun k hk => ?_⟩
  have := hh k hk
  simp only [World.putObj]
  rw [Array.getElem?_setIfInBounds]
  rw [if_neg (by omega)]
end

/-- the numbers zs lie at a, in a block of S -/
def NumsS (k : IntKind) (w : World) (S : Nat → Prop) (a : Option Addr) (zs : List Int) : Prop :=
  zs ≠ [] → ∃ b off, a = some ⟨b, off, none⟩ ∧ S b ∧ ∀ j c, zs[j]? = some c → w.cell? ⟨b, off + j, none⟩ = some (.int k c)
section
variable {k : IntKind} {S S' : Nat → Prop} {w w' : World} {B : Nat} {a : Option Addr} {zs : List Int}
theorem NumsS.nil : NumsS k w S a [] := fun h => absurd rfl h
theorem NumsS.keeps (h : NumsS k w S a zs) (hk : KeepS S w w') : NumsS k w' S a zs := fun hn => by
  obtain ⟨b, off, e, h1, hc⟩ := h hn
  exact ⟨b, off, e, h1, fun j c hj => (hk.cell (p := ⟨b, off + j, none⟩) h1).trans (hc j c hj)⟩
theorem NumsS.nums (h : NumsS k w S a zs) (hS : ∀ k, S k → k < B) : Nums k w B a zs := fun hn => by
  obtain ⟨b, off, e, h1, hc⟩ := h hn
  exact ⟨b, off, e, hS b h1, hc⟩
theorem NumsS.more (h : NumsS k w S a zs) (hS : ∀ k, S k → S' k) : NumsS k w S' a zs := fun hn => by
  obtain ⟨b, off, e, h1, hc⟩ := h hn
  exact ⟨b, off, e, hS b h1, hc⟩
theorem Nums.numsS (h : Nums k w B a zs) (hS : ∀ k, k < B → S k) : NumsS k w S a zs := fun hn => by
  obtain ⟨b, off, e, h1, hc⟩ := h hn
  exact ⟨b, off, e, hS b h1, hc⟩
theorem NumsS.take (h : NumsS k w S a zs) (n : Nat) : NumsS k w S a (zs.take n) := fun hn => by
  obtain ⟨b, off, e, h1, hc⟩ := h (by intro e; subst e; simp at hn)
  refine ⟨b, off, e, h1, fun j c hj => hc j c ?_⟩
  rw [List.getElem?_take] at hj
  by_cases hlt : j < n
  · simpa [hlt] using hj
  · simp [hlt] at hj
/-- cut ahead twice: the address as the walk spells it -/
theorem NumsS.drop2 {a' : Option Addr} (h : NumsS k w S a zs) {i j : Nat} (ha : i + j < zs.length → ∀ b o, a = some ⟨b, o, none⟩ → a' = some ⟨b, o + i + j, none⟩) : NumsS k w S a' (zs.drop (i + j)) := fun hn => by
  have hi' : i + j < zs.length := by
    rcases Nat.lt_or_ge (i + j) zs.length with h1 | h1
    · exact h1
    · exact absurd (List.drop_eq_nil_of_le h1) hn
  obtain ⟨b, off, rfl, hb, hcell⟩ := h (by intro e; subst e; simp at hi')
  refine ⟨b, off + i + j, ha hi' b off rfl, hb, fun q c hj => ?_⟩
  rw [Nat.add_assoc, Nat.add_assoc, ← Nat.add_assoc i j q]
  exact hcell (i + j + q) c (by rw [← hj, List.getElem?_drop])
end
theorem MadeK.numsS {e : TypeId} {k : IntKind} {w w1 : World} {L : List Int} {A : Option Addr} {n c : Nat} (h : MadeK e k w w1 L (.slice A n c)) (hn : L.length = n) : NumsS k w1 (fun b => w.heap.size ≤ b ∧ b < w1.heap.size) A L := fun h0 => by
  subst hn
  obtain ⟨b, off, rfl, hb, hc⟩ := Nums.of_own h.1 h0
  exact ⟨b, off, rfl, ⟨(h.own_ge (g := b) rfl).1, hb⟩, hc⟩
end Go.Proofs.Ytmdjgidbfcfdnaa

namespace Go.Proofs.Ytmdjgidbfcfdnaa
open Go.RowKit Go.Shelf
set_option maxRecDepth 100000
attribute [local go_sem] Oper.semAt_some

/-- the cells of the four parts -/
def ptC (v k i c m : Int) : Array Value := #[.int .i64 v, .int .i64 1, .int .i64 2, .int .i64 10, .int .i64 k, .int .i64 1, .int .i64 5, .int .i64 9, .int .i64 c, .int .i64 1, .int .i64 255, .int .i64 3, .int .i64 i, .int .i64 0, .int .i64 m, .int .i64 3]

theorem hparts_any (v k s i c : Int) (w : World) :
    Calls Try.prog 23 #[hdV v k s i c] w fun e w' => ∃ g, e = .returned (.func (.func 28) #[] #[.pointer (some ⟨g, 0, none⟩)]) ∧ w.heap.size ≤ g ∧ w'.heap[g]? = some (.cells (ptC v k i c (wrap64 (c - 1))) 70 (0, 0)) ∧ Below w.heap.size w w' := by
  unfold hdV
  go_enter Try.func23, Try.ntmps23
  go_wp2
  go_ret
  exact ⟨_, rfl, Nat.le_succ _, by rw [show w.heap.size + 1 = (w.alloc (.cells #[.int .i64 v, .int .i64 k, .int .u32 s, .int .i64 i, .int .i64 c] 24)).heap.size by simp]; exact World.alloc_heap_new _ _, ((Below.refl _ w).alloc (Nat.le_refl _) _).alloc (by simp) _⟩

end Go.Proofs.Ytmdjgidbfcfdnaa

namespace Go.Proofs.Ytmdjgidbfcfdnaa
open Go.RowKit Go.Shelf
set_option maxRecDepth 100000
attribute [local go_sem] Oper.semAt_some

/-- the j-th part -/
def ptCs (v k i c m : Int) : Nat → Array Value
  | 0 => #[.int .i64 v, .int .i64 1, .int .i64 2, .int .i64 10]
  | 1 => #[.int .i64 k, .int .i64 1, .int .i64 5, .int .i64 9]
  | 2 => #[.int .i64 c, .int .i64 1, .int .i64 255, .int .i64 3]
  | _ => #[.int .i64 i, .int .i64 0, .int .i64 m, .int .i64 3]
def ptV (v k i c m : Int) (j : Nat) : Value := .agg (ptCs v k i c m j)

theorem idx_part (v k i c m : Int) (W : World) :
    (Instr.index 70 (.agg (ptC v k i c m)) (.int .i64 0)).run Try.prog W = .ok (.agg (ptCs v k i c m 0)) W ∧ (Instr.index 70 (.agg (ptC v k i c m)) (.int .i64 1)).run Try.prog W = .ok (.agg (ptCs v k i c m 1)) W ∧
    (Instr.index 70 (.agg (ptC v k i c m)) (.int .i64 2)).run Try.prog W = .ok (.agg (ptCs v k i c m 2)) W ∧ (Instr.index 70 (.agg (ptC v k i c m)) (.int .i64 3)).run Try.prog W = .ok (.agg (ptCs v k i c m 3)) W := by
  refine ⟨?_, ?_, ?_, ?_⟩ <;> simp [Instr.index, run_underlying Try.underlying70, asIntOf, part, go_sem, Try.sizeOf66, ptC, ptCs]

set_option maxHeartbeats 2000000 in
theorem hparts_in (n : Nat) (hn : 1 ≤ n) (m' l g : Nat) (v k i c m : Int) (J : Nat → World → Prop) (Jx : World → Prop) (hJ : ∀ j A cs t, J j A → J j (A.alloc (.cells cs t)))
    (hY : ∀ j W, J j W → j < 4 → YieldAt Fence.wide m' Try.prog l #[ptV v k i c m j] W fun e W' => (e = .returned (.bool true) ∧ J (j + 1) W') ∨ (e = .returned (.bool false) ∧ Jx W'))
    (W : World) (hg : W.heap[g]? = some (.cells (ptC v k i c m) 70 (0, 0))) (h0 : J 0 W) :
    CallsIn Fence.wide n Try.prog 28 #[.func (.yield l) #[] #[], .pointer (some ⟨g, 0, none⟩)] W fun e W' => (∃ v, e = .returned v) ∧ (J 4 W' ∨ Jx W') := by
  have hc : ∀ j x, (ptC v k i c m)[j]? = some x → W.cell? ⟨g, j, none⟩ = some x := fun j x hx => by simp [World.cell?, hg, hx]
  unfold ptC at hc
  have c0 := hc 0 _ rfl; have c1 := hc 1 _ rfl; have c2 := hc 2 _ rfl; have c3 := hc 3 _ rfl
  have c4 := hc 4 _ rfl; have c5 := hc 5 _ rfl; have c6 := hc 6 _ rfl; have c7 := hc 7 _ rfl
  have c8 := hc 8 _ rfl; have c9 := hc 9 _ rfl; have c10 := hc 10 _ rfl; have c11 := hc 11 _ rfl
  have c12 := hc 12 _ rfl; have c13 := hc 13 _ rfl; have c14 := hc 14 _ rfl; have c15 := hc 15 _ rfl
  clear hc hg
  refine callsIn_of_wp Try.func28 rfl trivial ?_ rfl
  simp only [Try.ntmps28, List.size_toArray, List.length_cons, List.length_nil, Nat.reduceAdd, Nat.reduceSub, Array.replicate_succ, Array.replicate_zero, List.push_toArray, List.append_toArray, List.nil_append, List.cons_append]
  gi_wp2
  clear c0 c1 c2 c3 c4 c5 c6 c7 c8 c9 c10 c11 c12 c13 c14 c15
  gi_loopw [6] (fun x wr => ∃ j : Nat, j ≤ 4 ∧ x = .int .i64 (j : Int) ∧ J j wr) (fun x _ => 4 - (intOf x).toNat)
  case atStart => exact ⟨0, by omega, rfl, h0⟩
  case round =>
    obtain ⟨j, hj, rfl, hJj⟩ := hrel
    by_cases h4 : j = 4
    · subst h4
      gi_wp2
      go_end0
      exact ⟨⟨_, rfl⟩, .inl hJj⟩
    · have HYa := Lib.hid (fun cs t => hY j _ (hJ j _ cs t hJj) (by omega))
      clear hJj
      obtain rfl | rfl | rfl | rfl : j = 0 ∨ j = 1 ∨ j = 2 ∨ j = 3 := by omega
      · have HY0 := HYa.out (ptCs v k i c m 0) 66
        have hix := fun W => (idx_part v k i c m W).1
        simp only [ptC, ptCs] at hix
        clear HYa
        simp only [ptV, ptCs] at HY0
        obtain ⟨fn, tmps, assign, body, hy, hR⟩ := yield_any (n - 1) HY0
        have HR := Lib.hid hR
        clear hR HY0
        gi_wp2_with fail
        refine HR.out.mono ?_
        rintro e W3 (⟨rfl, hJ3⟩ | ⟨rfl, hJx3⟩)
        · gi_wp2
          go_roundw
          case rel => exact ⟨1, by omega, by go_num, hJ3⟩
          case measure => simp [intOf]
        · gi_wp2
          refine bodyPost_ret (results_none rfl _ _ _) rfl ?_
          exact ⟨⟨_, rfl⟩, .inr hJx3⟩
      · have HY0 := HYa.out (ptCs v k i c m 1) 66
        have hix := fun W => (idx_part v k i c m W).2.1
        simp only [ptC, ptCs] at hix
        clear HYa
        simp only [ptV, ptCs] at HY0
        obtain ⟨fn, tmps, assign, body, hy, hR⟩ := yield_any (n - 1) HY0
        have HR := Lib.hid hR
        clear hR HY0
        gi_wp2_with fail
        refine HR.out.mono ?_
        rintro e W3 (⟨rfl, hJ3⟩ | ⟨rfl, hJx3⟩)
        · gi_wp2
          go_roundw
          case rel => exact ⟨2, by omega, by go_num, hJ3⟩
          case measure => simp [intOf]
        · gi_wp2
          refine bodyPost_ret (results_none rfl _ _ _) rfl ?_
          exact ⟨⟨_, rfl⟩, .inr hJx3⟩
      · have HY0 := HYa.out (ptCs v k i c m 2) 66
        have hix := fun W => (idx_part v k i c m W).2.2.1
        simp only [ptC, ptCs] at hix
        clear HYa
        simp only [ptV, ptCs] at HY0
        obtain ⟨fn, tmps, assign, body, hy, hR⟩ := yield_any (n - 1) HY0
        have HR := Lib.hid hR
        clear hR HY0
        gi_wp2_with fail
        refine HR.out.mono ?_
        rintro e W3 (⟨rfl, hJ3⟩ | ⟨rfl, hJx3⟩)
        · gi_wp2
          go_roundw
          case rel => exact ⟨3, by omega, by go_num, hJ3⟩
          case measure => simp [intOf]
        · gi_wp2
          refine bodyPost_ret (results_none rfl _ _ _) rfl ?_
          exact ⟨⟨_, rfl⟩, .inr hJx3⟩
      · have HY0 := HYa.out (ptCs v k i c m 3) 66
        have hix := fun W => (idx_part v k i c m W).2.2.2
        simp only [ptC, ptCs] at hix
        clear HYa
        simp only [ptV, ptCs] at HY0
        obtain ⟨fn, tmps, assign, body, hy, hR⟩ := yield_any (n - 1) HY0
        have HR := Lib.hid hR
        clear hR HY0
        gi_wp2_with fail
        refine HR.out.mono ?_
        rintro e W3 (⟨rfl, hJ3⟩ | ⟨rfl, hJx3⟩)
        · gi_wp2
          go_roundw
          case rel => exact ⟨4, by omega, by go_num, hJ3⟩
          case measure => simp [intOf]
        · gi_wp2
          refine bodyPost_ret (results_none rfl _ _ _) rfl ?_
          exact ⟨⟨_, rfl⟩, .inr hJx3⟩
end Go.Proofs.Ytmdjgidbfcfdnaa

namespace Go.Proofs.Ytmdjgidbfcfdnaa
open Go.RowKit

section
variable {F : Fence} {n : Nat} {P : Program} {g : Operand} {ps : Array Tmp} {assign body : Code} {Q : Exit → Act → World → Prop} {a : Act} {w : World}
theorem range_stopa {α : Type} (hro : F.round = none) (h1 : 1 ≤ n) {gf : Nat} {lb : Array Value} (hg : a.eval g = .func (.func gf) #[] lb) (hFg : F.fn gf) (eg : ∀ args w, (callFunc gf args).run P w = .ok (.enter gf args) w)
    (enc : α → Array Value) (hps : ∀ x, (enc x).size = ps.size) (Rd : Nat → α → World → Prop) (Ra : Nat → α → Act → World → Prop) (Dn : Nat → World → Prop) (Sx : Code → World → Prop) (Kp : World → World → Prop) (N : Nat)
    (hRp : ∀ j x b W l o o', Ra j x b W → w.heap.size ≤ l → W.heap[l]? = some o → o.isCells = false → Ra j x b (W.putObj l o'))
    (hDp : ∀ j W l o o', Dn j W → w.heap.size ≤ l → W.heap[l]? = some o → o.isCells = false → Dn j (W.putObj l o'))
    (hSp : ∀ c W l o o', Sx c W → w.heap.size ≤ l → W.heap[l]? = some o → o.isCells = false → Sx c (W.putObj l o'))
    (hKt : ∀ A B C, Kp A B → Kp B C → Kp A C)
    (hKp : ∀ W l o o', w.heap.size ≤ l → W.heap[l]? = some o → o.isCells = false → Kp W (W.putObj l o'))
    (hD0 : ∀ o, Dn 0 ((w.alloc (.deferred (some []))).alloc o))
    (hassign : ∀ (l j : Nat) (x : α) (W : World) (K : Act → World → Prop), Rd j x W → j < N → (∀ b W', Ra j x b W' → KeepsFrom w.heap.size W W' → Kp W W' → K b W') →
      assign.wpIn (F.inRound l) (n - 1 - 1) P (Exit.then K (fun _ _ _ => False)) { tmps := (ps.zip (enc x)).foldl (fun t (p, v) => t.setIfInBounds p v) a.tmps, defers := [] } W)
    (hbody : ∀ (l j : Nat) (x : α) (b : Act) (W : World), w.heap.size ≤ l → Ra j x b W → j < N → body.wpIn (F.inRound l) (n - 1 - 1) P (stopPost w.heap.size Kp (Dn (j + 1)) Sx W) b W)
    (hiter : ∀ (Bk : World → Prop) (X : World → Prop) (l : Nat) (W : World), (∀ A B, Bk A → A.heap.size ≤ B.heap.size → (∀ k, w.heap.size ≤ k → k < w.heap.size + 2 → B.heap[k]? = A.heap[k]?) → Bk B) → (∀ A, Bk A → w.heap.size + 2 ≤ A.heap.size) →
      (∀ A l' o o', X A → w.heap.size + 2 ≤ l' → A.heap[l']? = some o → o.isCells = false → X (A.putObj l' o')) → l < w.heap.size + 2 → Dn 0 W → Bk W →
      (∀ j x W1, Rd j x W1 → Bk W1 → j < N → YieldAt F (n - 1 - 1) P l (enc x) W1 (YPost w.heap.size l Kp (fun W2 => Dn (j + 1) W2 ∧ Bk W2) X W1)) →
      CallsIn F (n - 1) P gf (#[.func (.yield l) #[] #[]] ++ lb) W fun e W' => (∃ v, e = .returned v) ∧ ((Dn N W' ∧ Bk W') ∨ X W'))
    (hdone : ∀ (D : Nat) (W : World), w.heap.size ≤ D → Dn N W → W.heap[D]? = some (.deferred (some [])) → Q .normal { a with defers := { target := .collected D, args := #[] } :: a.defers } W)
    (hstop : ∀ (D : Nat) (c : Code) (W : World), w.heap.size ≤ D → Sx c W → W.heap[D]? = some (.deferred (some [])) → c.wpIn F n P Q { a with defers := { target := .collected D, args := #[] } :: a.defers } W) :
    (Code.rangeFunc g ps assign body).wpIn F n P Q a w := by
  apply wpIn_rangeFunc
  intro fn hfn
  rw [hro]
  have hent := run_enterLoop_outer (P := P) (w := w) fn a.tmps ps assign body
  obtain ⟨lp, hlp⟩ : ∃ lp : LoopState → Option Code → Loop, lp = fun st pe => { state := st, pending := pe, fn := fn, tmps := a.tmps, params := ps, assign := assign, body := body, defers := w.heap.size } := ⟨_, rfl⟩
  have hlp0 : ({ state := .ready, pending := none, fn, tmps := a.tmps, params := ps, assign, body, defers := w.heap.size } : Loop) = lp .ready none := by rw [hlp]
  rw [hlp0] at hent
  have hD0' := hD0 (.loop (lp .ready none))
  have hl0 : ((w.alloc (.deferred (some []))).alloc (.loop (lp .ready none))).heap[w.heap.size + 1]? = some (.loop (lp .ready none)) := by
    have h := World.alloc_heap_new (w.alloc (.deferred (some []))) (.loop (lp .ready none))
    rwa [World.size_alloc] at h
  have hd0 : ((w.alloc (.deferred (some []))).alloc (.loop (lp .ready none))).heap[w.heap.size]? = some (.deferred (some [])) := (Below.heap_alloc _ _ _ (by simp)).trans (World.alloc_heap_new w _)
  generalize (w.alloc (.deferred (some []))).alloc (.loop (lp .ready none)) = W0 at *
  refine ⟨_, _, _, { target := .fn (.func gf) lb, args := #[.func (.yield (w.heap.size + 1)) #[] #[]] }, W0, gf, #[.func (.yield (w.heap.size + 1)) #[] #[]] ++ lb, W0, hent, ?_, ?_, ?_, fun _ => h1, ?_⟩
  · simp only [resolve, hg]
    simp [go_sem]
  · intro f' hf'
    simp [Target.leads] at hf'
    subst hf'
    exact hFg
  · simp [invoke, go_sem, eg]
  let Bk : World → Prop := fun W => W.heap[w.heap.size + 1]? = some (.loop (lp .ready none)) ∧ W.heap[w.heap.size]? = some (.deferred (some []))
  let X : World → Prop := fun W => ∃ c, Sx c W ∧ W.heap[w.heap.size + 1]? = some (.loop (lp .done (some c))) ∧ W.heap[w.heap.size]? = some (.deferred (some []))
  have hBlt : ∀ A, Bk A → w.heap.size + 2 ≤ A.heap.size := fun A h => (Array.getElem?_eq_some_iff.1 h.1).1
  refine (hiter Bk X (w.heap.size + 1) W0 (fun A B hA _ hAB => ⟨(hAB _ (by omega) (by omega)).trans hA.1, (hAB _ (by omega) (by omega)).trans hA.2⟩) hBlt
    (fun A l' o o' hA hl' ho hc => by
      obtain ⟨c, h1, h2, h3⟩ := hA
      exact ⟨c, hSp c A l' o o' h1 (by omega) ho hc, (World.putObj_heap_other (by omega)).trans h2, (World.putObj_heap_other (by omega)).trans h3⟩) (by omega) hD0' ⟨hl0, hd0⟩ ?_).mono ?_
  · rintro j x W1 hR hB hj
    have hsz := hBlt W1 hB
    have hy := run_yield (P := P) (args := enc x) hB.1 (by rw [hlp]; exact hps x)
    rw [hlp] at hy
    refine ⟨fn, _, assign, body, hy, roundIn_of_wpIn hfn (hassign _ j x W1 _ hR hj (fun b2 W2 hR2 hkf hKp2 => ?_))⟩
    have hB2 : Bk W2 := ⟨hkf.same _ _ (by omega) hB.1 rfl, hkf.same _ _ (Nat.le_refl _) hB.2 rfl⟩
    have hsz2 := hBlt W2 hB2
    have hbeg := run_beginRound (P := P) hB2.1 (by rw [hlp])
    rw [hlp] at hbeg
    refine ⟨_, hbeg, ?_⟩
    refine wpIn_mono (hbody _ j x b2 _ (by omega) (hRp j x b2 W2 _ _ _ hR2 (by omega) hB2.1 rfl) hj) ?_
    have b1 : (W2.putObj (w.heap.size + 1) (.loop { lp .ready none with state := .busy })).heap[w.heap.size + 1]? = some (.loop { lp .ready none with state := .busy }) := World.putObj_heap_same (by omega)
    have b2 : (W2.putObj (w.heap.size + 1) (.loop { lp .ready none with state := .busy })).heap[w.heap.size]? = some (.deferred (some [])) := (World.putObj_heap_other (by omega)).trans hB2.2
    have hK1 := hKp W2 (w.heap.size + 1) _ (.loop { lp .ready none with state := .busy }) (by omega) hB2.1 rfl
    rw [hlp] at b1 b2 hK1
    have fin : ∀ (jump : Option Code) (W3 : World), KeepsFrom w.heap.size (W2.putObj (w.heap.size + 1) (.loop { lp .ready none with state := .busy })) W3 →
        (Instr.endRound (w.heap.size + 1) jump).run P W3 = .ok (.bool jump.isNone) (W3.putObj (w.heap.size + 1) (.loop (lp (if jump.isNone then .ready else .done) jump))) ∧
        W3.heap[w.heap.size + 1]? = some (.loop { lp .ready none with state := .busy }) ∧
        (W3.putObj (w.heap.size + 1) (.loop (lp (if jump.isNone then .ready else .done) jump))).heap[w.heap.size + 1]? = some (.loop (lp (if jump.isNone then .ready else .done) jump)) ∧
        (W3.putObj (w.heap.size + 1) (.loop (lp (if jump.isNone then .ready else .done) jump))).heap[w.heap.size]? = some (.deferred (some [])) ∧
        KeepsBut w.heap.size (w.heap.size + 1) W1 (W3.putObj (w.heap.size + 1) (.loop (lp (if jump.isNone then .ready else .done) jump))) := fun jump W3 hk => by
      rw [hlp] at hk ⊢
      have c1 := hk.same _ _ (by omega) b1 rfl
      have c2 := hk.same _ _ (Nat.le_refl _) b2 rfl
      have hend := run_endRound (P := P) jump c1
      refine ⟨hend, c1, World.putObj_heap_same (Array.getElem?_eq_some_iff.1 c1).1, (World.putObj_heap_other (by omega)).trans c2, ?_, ?_⟩
      · have h1 := hk.size
        have h2 := hkf.size
        simp only [World.putObj, Array.size_setIfInBounds] at h1 ⊢
        omega
      · intro k o hkl hk2 ho hc
        exact (World.putObj_heap_other (by omega)).trans (hk.same k o hk2 ((World.putObj_heap_other (by omega)).trans (hkf.same k o hk2 ho hc)) hc)
    rintro e a3 W3 hp
    rw [hlp] at fin
    cases e with
    | normal =>
      obtain ⟨hk, hDn, hKp3⟩ := hp
      obtain ⟨hend, c1, d1, d2, hkb⟩ := fin none W3 hk
      exact ⟨_, _, hend, .inl ⟨rfl, ⟨hDp _ _ _ _ _ hDn (by omega) c1 rfl, by rw [hlp]; exact d1, d2⟩, hKt _ _ _ hKp2 (hKt _ _ _ hK1 (hKt _ _ _ hKp3 (hKp W3 _ _ _ (by omega) c1 rfl))), hkb⟩⟩
    | ret =>
      obtain ⟨hk, hx⟩ := hp
      obtain ⟨hend, c1, d1, d2, hkb⟩ := fin (some .ret) W3 hk
      exact ⟨_, _, hend, .inr ⟨rfl, ⟨.ret, hSp _ _ _ _ _ hx (by omega) c1 rfl, by rw [hlp]; exact d1, d2⟩, hkb⟩⟩
    | exit id =>
      obtain ⟨hk, hx⟩ := hp
      obtain ⟨hend, c1, d1, d2, hkb⟩ := fin (some (.exit id)) W3 hk
      exact ⟨_, _, hend, .inr ⟨rfl, ⟨.exit id, hSp _ _ _ _ _ hx (by omega) c1 rfl, by rw [hlp]; exact d1, d2⟩, hkb⟩⟩
    | goto t => exact hp.elim
    | panic ch => exact hp.elim
    | outgrown => exact hp.elim
  · rintro e W2 ⟨⟨v, rfl⟩, ⟨hDN, hB⟩ | ⟨c, hc, hl, hd⟩⟩
    · have hend := run_endLoop (P := P) hB.1 (by rw [hlp]; simp)
      rw [hlp] at hend
      exact ⟨none, _, hend, hdone _ _ (Nat.le_refl _) (hDp _ _ _ _ _ hDN (by omega) hB.1 rfl) ((World.putObj_heap_other (by omega)).trans hB.2)⟩
    · have hend := run_endLoop (P := P) hl (by rw [hlp]; simp)
      rw [hlp] at hend
      exact ⟨some c, _, hend, hstop _ c _ (Nat.le_refl _) (hSp _ _ _ _ _ hc (by omega) hl rfl) ((World.putObj_heap_other (by omega)).trans hd)⟩
end
end Go.Proofs.Ytmdjgidbfcfdnaa

namespace Go.Proofs.Ytmdjgidbfcfdnaa
open Go.RowKit

/-- whatever is cells, but block b, is as it was -/
structure KpC (b : Nat) (W W' : World) : Prop where
  size : W.heap.size ≤ W'.heap.size
  same : ∀ (k : Nat) (o : Obj), k ≠ b → W.heap[k]? = some o → o.isCells = true → W'.heap[k]? = some o
theorem KpC.trans {b : Nat} {A B C : World} (h : KpC b A B) (k : KpC b B C) : KpC b A C := ⟨Nat.le_trans h.size k.size, fun i o hi ho hc => k.same i o hi (h.same i o hi ho hc) hc⟩
theorem KpC.putObj {b l : Nat} {W : World} {o o' : Obj} (ho : W.heap[l]? = some o) (hc : o.isCells = false) : KpC b W (W.putObj l o') := by
  refine ⟨by simp [World.putObj], fun k p hk hp hpc => (World.putObj_heap_other (fun e => ?_)).trans hp⟩
  subst e
  rw [hp] at ho
  injection ho with ho
  subst ho
  rw [hpc] at hc; cases hc
theorem KpC.of_below {b : Nat} {W W' : World} (h : Below W.heap.size W W') : KpC b W W' := ⟨h.size, fun k _ _ ho _ => (h.block k (Array.getElem?_eq_some_iff.1 ho).1).trans ho⟩
theorem KpC.set {b : Nat} {W W' : World} (h : KpC b W W') (v : Value) : KpC b W (W'.setCell ⟨b, 0, none⟩ v) :=
  ⟨by simpa [World.setCell] using h.size, fun k _ hk ho hc => (Below.heap_setCell W' ⟨b, 0, none⟩ v k (fun e => hk (by simpa using e))).trans (h.same k _ hk ho hc)⟩

theorem below_put {B l : Nat} (W : World) (o' : Obj) (h : B ≤ l) : Below B W (W.putObj l o') := ⟨rfl, rfl, rfl, by simp [World.putObj], fun k hk => World.putObj_heap_other (by omega)⟩
end Go.Proofs.Ytmdjgidbfcfdnaa

namespace Go.Proofs.Ytmdjgidbfcfdnaa
open Go.RowKit

theorem cells_of_cell {W : World} {p : Addr} {v : Value} (h : W.cell? p = some v) : ∃ o : Obj, W.heap[p.block]? = some o ∧ o.isCells = true := by
  unfold World.cell? at h
  cases ho : W.heap[p.block]? with
  | none => simp [ho] at h
  | some o => exact ⟨o, rfl, by cases o <;> simp_all [Obj.isCells]⟩
theorem Nums.putObj {k : IntKind} {V : World} {B l : Nat} {a : Option Addr} {zs : List Int} {o : Obj} (h : Nums k V B a zs) (ho : V.heap[l]? = some o) (hc : o.isCells = false) (o' : Obj) : Nums k (V.putObj l o') B a zs := fun hn => by
  obtain ⟨b, off, e, hb, hcl⟩ := h hn
  refine ⟨b, off, e, hb, fun j c hj => ?_⟩
  have h1 := hcl j c hj
  obtain ⟨o2, h2, h3⟩ := cells_of_cell h1
  refine (World.cell?_of_block (World.putObj_heap_other (fun e => ?_))).trans h1
  simp only at h2 e
  subst e
  rw [ho] at h2
  injection h2 with h2
  subst h2
  rw [hc] at h3; cases h3
theorem off_below {S : Nat → Prop} {w V V' : World} (h : Off S w V) (hb : Below w.heap.size V V') : Off S w V' :=
  ⟨hb.os.trans h.os, hb.tape.trans h.tape, hb.output.trans h.output, Nat.le_trans h.size hb.size, fun k hk hn => (hb.block k hk).trans (h.block k hk hn)⟩
/-- behind j rounds of the law's loop: the box b holds j, all else is as it was -/
def Ld (w : World) (b : Nat) (t : TypeId) (j : Nat) (V : World) : Prop := Boxed V b t (.int .i64 ((j : Nat) : Int)) ∧ Off (fun k => k = b) w V
theorem Ld.below {w V V' : World} {b : Nat} {t : TypeId} {j : Nat} (h : Ld w b t j V) (hb : b < w.heap.size) (hB : Below w.heap.size V V') : Ld w b t j V' :=
  ⟨(hB.block b hb).trans h.1, off_below h.2 hB⟩
theorem Ld.next {w V V1 : World} {b : Nat} {t : TypeId} {j : Nat} (h : Ld w b t j V) (hb : b < w.heap.size) (h1 : Below w.heap.size V V1) : Ld w b t (j + 1) (V1.setCell ⟨b, 0, none⟩ (.int .i64 ((j : Int) + 1))) :=
  ⟨by have := Boxed.set (.int .i64 ((j : Int) + 1)) ((h1.block b hb).trans h.1 : Boxed V1 b t _); rw [Int.natCast_succ]; exact this, (off_below h.2 h1).setCell (p := ⟨b, 0, none⟩) rfl _⟩
theorem Ld.keepS {S : Nat → Prop} {V : World} {b : Nat} (hb : ¬ S b) (v : Value) : KeepS S V (V.setCell ⟨b, 0, none⟩ v) := (KeepS.refl S V).set hb v
end Go.Proofs.Ytmdjgidbfcfdnaa

namespace Go.Proofs.Ytmdjgidbfcfdnaa
open Go.RowKit Go.Shelf
set_option maxRecDepth 100000
attribute [local go_sem] Oper.semAt_some

/-- the parts ahead of the j-th are as they may be -/
def okTo (v k i c : Int) (j : Nat) : Prop := (0 < j → 1 ≤ v ∧ v ≤ 2) ∧ (1 < j → 1 ≤ k ∧ k ≤ 5) ∧ (2 < j → 1 ≤ c ∧ c ≤ 255) ∧ (3 < j → 0 ≤ i ∧ i < c)

theorem part_at {v k i c : Int} {j : Nat} (hj : j < 4) (h : okTo v k i c j) : ∃ x le mo wr : Int, ptCs v k i c (wrap64 (c - 1)) j = #[.int .i64 x, .int .i64 le, .int .i64 mo, .int .i64 wr] ∧
    (le ≤ x → x ≤ mo → okTo v k i c (j + 1)) ∧ (x < le ∨ mo < x → chk v k i c = wr) := by
  obtain ⟨h0, h1, h2, h3⟩ := h
  obtain rfl | rfl | rfl | rfl : j = 0 ∨ j = 1 ∨ j = 2 ∨ j = 3 := by omega
  · exact ⟨_, _, _, _, rfl, fun a b => ⟨fun _ => ⟨a, b⟩, by omega, by omega, by omega⟩, fun h => by unfold chk; rw [if_pos h]⟩
  · have := h0 (by omega)
    exact ⟨_, _, _, _, rfl, fun a b => ⟨fun _ => h0 (by omega), fun _ => ⟨a, b⟩, by omega, by omega⟩, fun h => by unfold chk; rw [if_neg (by omega), if_pos h]⟩
  · have := h0 (by omega)
    have := h1 (by omega)
    exact ⟨_, _, _, _, rfl, fun a b => ⟨fun _ => h0 (by omega), fun _ => h1 (by omega), fun _ => ⟨a, b⟩, by omega⟩, fun h => by unfold chk; rw [if_neg (by omega), if_neg (by omega), if_pos (by omega)]⟩
  · have := h0 (by omega)
    have := h1 (by omega)
    have := h2 (by omega)
    have hw : wrap64 (c - 1) = c - 1 := by unfold wrap64; omega
    rw [hw]
    exact ⟨_, _, _, _, rfl, fun a b => ⟨fun _ => h0 (by omega), fun _ => h1 (by omega), fun _ => h2 (by omega), fun _ => ⟨a, by omega⟩⟩, fun h => by unfold chk; rw [if_neg (by omega), if_neg (by omega), if_pos (by omega)]⟩

set_option maxHeartbeats 4000000 in
theorem check_any (v k s i c : Int) (w : World) :
    Calls Try.prog 16 #[hdV v k s i c] w fun e w' => e = .returned (.int .i64 (chk v k i c)) ∧ Below w.heap.size w w' := by
  obtain ⟨w0, hw0⟩ : ∃ w0, (w.alloc (.cells #[.int .i64 v, .int .i64 k, .int .u32 s, .int .i64 i, .int .i64 c] 24)).alloc (.cells #[.int .i64 0] 27) = w0 := ⟨_, rfl⟩
  have hs0 : w0.heap.size = w.heap.size + 2 := by rw [← hw0]; simp
  have hb0 : Below w.heap.size w w0 := by rw [← hw0]; exact ((Below.refl _ w).alloc (Nat.le_refl _) _).alloc (by simp) _
  have bF0 : Boxed w0 (w.heap.size + 1) 27 (.int .i64 0) := by
    rw [← hw0]
    have := Boxed.new (w.alloc (.cells #[.int .i64 v, .int .i64 k, .int .u32 s, .int .i64 i, .int .i64 c] 24)) 27 (.int .i64 0)
    rwa [World.size_alloc] at this
  have HP := Lib.hid (hparts_any v k s i c)
  have HW := Lib.hid hw0
  clear hw0
  unfold hdV at HP ⊢
  refine (callsIn_wide (n := 9)).1 ?_
  refine callsIn_of_wp_marks Try.func16 rfl trivial ?_ rfl
  simp only [Try.ntmps16, List.size_toArray, List.length_cons, List.length_nil, Nat.reduceAdd, Nat.reduceSub, Array.replicate_succ, Array.replicate_zero, List.push_toArray, List.append_toArray, List.nil_append, List.cons_append]
  gi_wp2_with fail
  refine wpIn_wide.2 (wp_scope_straight ((wpIn_wide (n := 9)).1 ?_))
  gi_wp2_with fail
  apply wpIn_label
  gi_wp2_with fail
  refine ⟨trivial, ?_⟩
  rw [HW.out]
  refine (callsIn_wide.2 (HP.out w0)).mono ?_
  rintro e w1 ⟨g, rfl, hg0, hg, hb1⟩
  clear HP
  have hs1 := hb1.size
  have hgl : g < w1.heap.size := (Array.getElem?_eq_some_iff.1 hg).1
  have bF1 : Boxed w1 (w.heap.size + 1) 27 (.int .i64 0) := (hb1.block _ (by omega)).trans bF0
  have hb01 := hb0.trans (hb1.mono (by omega))
  clear HW bF0
  have hF : w.heap.size + 1 < w1.heap.size := by omega
  gi_wp2_with fail
  refine range_stopa rfl (by omega) (gf := 28) (lb := #[.pointer (some ⟨g, 0, none⟩)]) rfl trivial (enters_of Try.func28 (by kernel_rfl) rfl)
    (fun x : Nat => #[ptV v k i c (wrap64 (c - 1)) x]) (fun _ => rfl)
    (fun j x V => x = j ∧ okTo v k i c j ∧ Below w1.heap.size w1 V)
    (fun j x b V => x = j ∧ okTo v k i c j ∧ Below w1.heap.size w1 V ∧ ∃ q, b = { tmps := #[.agg #[.int .i64 v, .int .i64 k, .int .u32 s, .int .i64 i, .int .i64 c], .pointer (some ⟨w.heap.size, 0, none⟩), .int .i64 0, .pointer (some ⟨w.heap.size + 1, 0, none⟩), .pointer (some ⟨q, 0, none⟩),
        .agg #[.int .i64 v, .int .i64 k, .int .u32 s, .int .i64 i, .int .i64 c], .func (.func 28) #[] #[.pointer (some ⟨g, 0, none⟩)], ptV v k i c (wrap64 (c - 1)) x, undef, undef, undef, undef, undef, undef, undef, undef, undef, undef, undef, undef, undef, undef], defers := [] } ∧
      w1.heap.size ≤ q ∧ V.heap[q]? = some (.cells (ptCs v k i c (wrap64 (c - 1)) j) 66 (0, 0)))
    (fun j V => okTo v k i c j ∧ Below w1.heap.size w1 V)
    (fun cd V => cd = .exit 0 ∧ Boxed V (w.heap.size + 1) 27 (.int .i64 (chk v k i c)) ∧ Off (fun q => q = w.heap.size + 1) w1 V) (fun _ _ => True) 4
    (fun j x b V l o o' h hl ho hc' => ⟨h.1, h.2.1, h.2.2.1.trans ⟨rfl, rfl, rfl, by simp [World.putObj], fun k hk => World.putObj_heap_other (by omega)⟩, by
      obtain ⟨q, h1, h2, h3⟩ := h.2.2.2
      exact ⟨q, h1, h2, (World.putObj_heap_other (fun e => by subst e; rw [h3] at ho; injection ho with ho; subst ho; cases hc')).trans h3⟩⟩)
    (fun j V l o o' h hl _ _ => ⟨h.1, h.2.trans ⟨rfl, rfl, rfl, by simp [World.putObj], fun k hk => World.putObj_heap_other (by omega)⟩⟩)
    (fun cd V l o o' h hl _ _ => ⟨h.1, (World.putObj_heap_other (by omega)).trans h.2.1, off_below h.2.2 (below_put V o' hl)⟩)
    (fun _ _ _ _ _ => trivial) (fun _ _ _ _ _ _ _ => trivial)
    (fun o => ⟨⟨by omega, by omega, by omega, by omega⟩, ((Below.refl w1.heap.size w1).alloc (Nat.le_refl _) _).alloc (by simp) _⟩) ?assign ?body ?iter ?done ?stop
  case assign =>
    rintro l j x V K ⟨rfl, hok, hbV⟩ hj hK
    obtain ⟨y, le, mo, wr, hcs, _⟩ := part_at hj hok
    have hK' := Lib.hid (hK { tmps := #[.agg #[.int .i64 v, .int .i64 k, .int .u32 s, .int .i64 i, .int .i64 c], .pointer (some ⟨w.heap.size, 0, none⟩), .int .i64 0, .pointer (some ⟨w.heap.size + 1, 0, none⟩), .pointer (some ⟨V.heap.size, 0, none⟩),
        .agg #[.int .i64 v, .int .i64 k, .int .u32 s, .int .i64 i, .int .i64 c], .func (.func 28) #[] #[.pointer (some ⟨g, 0, none⟩)], ptV v k i c (wrap64 (c - 1)) x, undef, undef, undef, undef, undef, undef, undef, undef, undef, undef, undef, undef, undef, undef], defers := [] }
      (V.alloc (.cells (ptCs v k i c (wrap64 (c - 1)) x) 66)) ⟨rfl, hok, hbV.alloc hbV.size _, V.heap.size, rfl, hbV.size, World.alloc_heap_new _ _⟩ ⟨by simp, fun q o _ ho _ => (Below.heap_alloc _ _ _ (Array.getElem?_eq_some_iff.1 ho).1).trans ho⟩ trivial)
    clear hK
    unfold ptV at hK' ⊢
    rw [hcs] at hK' ⊢
    gi_wp2
    exact hK'.out
  case body =>
    rintro l j x b V hl ⟨rfl, hok, hbV, q, rfl, hq, hcell⟩ hj
    obtain ⟨y, le, mo, wr, hcs, hin, hout⟩ := part_at hj hok
    rw [hcs] at hcell
    have d0 : V.cell? ⟨q, 0, none⟩ = some (.int .i64 y) := by simp [World.cell?, hcell]
    have d1 : V.cell? ⟨q, 1, none⟩ = some (.int .i64 le) := by simp [World.cell?, hcell]
    have d2 : V.cell? ⟨q, 2, none⟩ = some (.int .i64 mo) := by simp [World.cell?, hcell]
    have d3 : V.cell? ⟨q, 3, none⟩ = some (.int .i64 wr) := by simp [World.cell?, hcell]
    have bFV : Boxed V (w.heap.size + 1) 27 (.int .i64 0) := (hbV.block _ hF).trans bF1
    have e0 := bFV.cell
    have e1 := bFV.frozen
    have hgo := Lib.hid (fun h1 h2 => (⟨⟨Nat.le_refl _, fun _ _ _ ho _ => ho⟩, ⟨hin h1 h2, hbV⟩, trivial⟩ : KeepsFrom w1.heap.size V V ∧ (okTo v k i c (x + 1) ∧ Below w1.heap.size w1 V) ∧ True))
    have hst := Lib.hid (fun h => (⟨(KeepsOthers.setCell _ _ _).from _, by rw [hout h]; exact bFV.set _, (off_below (Off.refl (fun q => q = w.heap.size + 1) w1) hbV).setCell (p := ⟨w.heap.size + 1, 0, none⟩) rfl _⟩ :
      KeepsFrom w1.heap.size V (V.setCell ⟨w.heap.size + 1, 0, none⟩ (.int .i64 wr)) ∧ Boxed (V.setCell ⟨w.heap.size + 1, 0, none⟩ (.int .i64 wr)) (w.heap.size + 1) 27 (.int .i64 (chk v k i c)) ∧ Off (fun q => q = w.heap.size + 1) w1 (V.setCell ⟨w.heap.size + 1, 0, none⟩ (.int .i64 wr))))
    clear hok hbV hcell hin hout hcs bFV
    by_cases h1 : y < le
    · gi_wp2
      exact ⟨(hst.out (.inl h1)).1, rfl, (hst.out (.inl h1)).2⟩
    · by_cases h2 : mo < y
      · gi_wp2
        exact ⟨(hst.out (.inr h2)).1, rfl, (hst.out (.inr h2)).2⟩
      · gi_wp2
        exact hgo.out (by omega) (by omega)
  case iter =>
    intro Bk X l V hBk hBlt hX hl hD hB hY
    exact hparts_in 8 (by omega) 7 l g v k i c (wrap64 (c - 1)) (fun j V => (okTo v k i c j ∧ Below w1.heap.size w1 V) ∧ Bk V) X
      (fun j A cs t h => ⟨⟨h.1.1, h.1.2.alloc h.1.2.size _⟩, hBk A _ h.2 (by simp) (fun q h1 h2 => by have := hBlt A h.2; exact Below.heap_alloc _ _ _ (by omega))⟩)
      (fun j W h hj => (hY j j W ⟨rfl, h.1⟩ h.2 hj).mono (fun e W2 h => h.elim (fun h => .inl ⟨h.1, h.2.1⟩) (fun h => .inr ⟨h.1, h.2.1⟩)))
      V ((hD.2.block g hgl).trans hg) ⟨hD, hB⟩
  case done =>
    rintro D V hD ⟨hok, hbV⟩ hK
    have hz : chk v k i c = 0 := by
      have h0 := hok.1 (by omega); have h1 := hok.2.1 (by omega); have h2 := hok.2.2.1 (by omega); have h3 := hok.2.2.2 (by omega)
      unfold chk; rw [if_neg (by omega), if_neg (by omega), if_neg (by omega)]
    have bFV : Boxed V (w.heap.size + 1) 27 (.int .i64 0) := (hbV.block _ hF).trans bF1
    have e0 := bFV.cell
    have HB := Lib.hid (hb01.trans (hbV.mono hb01.size))
    gi_wp2
    simp only [Exit.noGoto]
    refine ⟨by simp, .inl ⟨_, _, rfl, run_takeDeferred hK, ?_⟩⟩
    rw [hz]
    refine ⟨.int .i64 0, ?_, rfl, HB.out.trans (below_put _ _ (by omega))⟩
    simp [results, Try.f16, go_sem]
  case stop =>
    rintro D cd V hD ⟨rfl, bF, hO⟩ hK
    have e0 := bF.cell
    have HB := Lib.hid (hb01.trans (hO.below (B := w.heap.size) (fun k hk => by omega) hb01.size))
    gi_wp2
    simp only [Exit.noGoto]
    refine ⟨by simp, .inl ⟨_, _, rfl, run_takeDeferred hK, ?_⟩⟩
    refine ⟨.int .i64 (chk v k i c), ?_, rfl, HB.out.trans (below_put _ _ (by omega))⟩
    simp [results, Try.f16, go_sem]
end Go.Proofs.Ytmdjgidbfcfdnaa

namespace Go.Proofs.Ytmdjgidbfcfdnaa
open Go.RowKit
set_option maxRecDepth 100000

theorem ret_boolM {a b : Bool} (h : a = b) : Ending.returned (.bool a) = Ending.returned (.bool b) := by rw [h]
/-- whether two heads are alike but for the index -/
def mateZ (v k s c v' k' s' c' : Int) : Bool := decide (v = v' ∧ k = k' ∧ s = s' ∧ c = c')
theorem mates_any (v k s i c v' k' s' i' c' : Int) (w : World) :
    Calls Try.prog 27 #[hdV v k s i c, hdV v' k' s' i' c'] w fun e w' => e = .returned (.bool (mateZ v k s c v' k' s' c')) ∧ Below w.heap.size w w' := by
  unfold hdV
  go_enter Try.func27, Try.ntmps27
  go_wp2
  all_goals
    go_ret
    exact ⟨ret_boolM (by simp [mateZ, *]), ((Below.refl _ w).alloc (Nat.le_refl _) _).alloc (by simp) _⟩
end Go.Proofs.Ytmdjgidbfcfdnaa

namespace Go.Proofs.Ytmdjgidbfcfdnaa
open Go.RowKit

/-- bytes -/
def Bytes (zs : List Int) : Prop := ∀ z ∈ zs, 0 ≤ z ∧ z < 256
theorem Bytes.take {zs : List Int} (h : Bytes zs) (n : Nat) : Bytes (zs.take n) := fun z hz => h z (List.mem_of_mem_take hz)
theorem Bytes.drop {zs : List Int} (h : Bytes zs) (n : Nat) : Bytes (zs.drop n) := fun z hz => h z (List.mem_of_mem_drop hz)
theorem Bytes.append {x y : List Int} (hx : Bytes x) (hy : Bytes y) : Bytes (x ++ y) := fun z hz => by
  rcases List.mem_append.1 hz with h | h
  · exact hx z h
  · exact hy z h
theorem Bytes.lt {zs : List Int} (h : Bytes zs) : ∀ z ∈ zs, z < 256 := fun z hz => (h z hz).2
theorem bytes_of {es : List Int} (h : ∀ n ∈ es, (Lit.int .u8 n).wf = true) : Bytes es := fun z hz => by
  have := bounds_u8 (h z hz)
  omega
theorem ret_int {k : IntKind} {a b : Int} (h : a = b) : Ending.returned (.int k a) = .returned (.int k b) := by rw [h]
end Go.Proofs.Ytmdjgidbfcfdnaa

namespace Go.Proofs.Ytmdjgidbfcfdnaa
namespace Cr
def poly : Nat := 3988292384
def ones : Nat := 4294967295
/-- a word by one shift -/
def sh1 (n : Nat) : Nat := (n / 2) ^^^ (if n % 2 = 1 then poly else 0)
/-- .. by k shifts -/
def shn : Nat → Nat → Nat
  | 0, n => n
  | k + 1, n => shn k (sh1 n)
/-- the state behind bytes -/
def crc (s : Nat) (zs : List Int) : Nat := zs.foldl (fun s b => shn 8 (s ^^^ b.toNat)) s
/-- the sum of bytes -/
def sum (zs : List Int) : Nat := ones - crc ones zs
/-- a word's bytes, the lowest one first -/
def le4 (n : Nat) : List Int := [((n % 256 : Nat) : Int), ((n / 256 % 256 : Nat) : Int), ((n / 65536 % 256 : Nat) : Int), ((n / 16777216 % 256 : Nat) : Int)]

theorem xor_self (a : Nat) : a ^^^ a = 0 := Nat.xor_self a
theorem xor_div (a b k : Nat) : (a ^^^ b) / 2 ^ k = (a / 2 ^ k) ^^^ (b / 2 ^ k) := by
  rw [← Nat.shiftRight_eq_div_pow, ← Nat.shiftRight_eq_div_pow, ← Nat.shiftRight_eq_div_pow, Nat.shiftRight_xor_distrib]
theorem xor_mod (a b k : Nat) : (a ^^^ b) % 2 ^ k = (a % 2 ^ k) ^^^ (b % 2 ^ k) := Nat.xor_mod_two_pow
theorem xor_lt {a b : Nat} (k : Nat) (ha : a < 2 ^ k) (hb : b < 2 ^ k) : a ^^^ b < 2 ^ k := Nat.xor_lt_two_pow ha hb
theorem xor_left4 (a b c d : Nat) : (a ^^^ b) ^^^ (c ^^^ d) = (a ^^^ c) ^^^ (b ^^^ d) := by
  rw [Nat.xor_assoc, Nat.xor_assoc, ← Nat.xor_assoc b, Nat.xor_comm b, Nat.xor_assoc c]

theorem sh1_xor (a b : Nat) : sh1 (a ^^^ b) = sh1 a ^^^ sh1 b := by
  have h2 := xor_div a b 1
  have hm := xor_mod a b 1
  simp only [Nat.pow_one] at h2 hm
  unfold sh1
  rw [h2, xor_left4]
  congr 1
  rcases Nat.mod_two_eq_zero_or_one a with ha | ha <;> rcases Nat.mod_two_eq_zero_or_one b with hb | hb <;> simp [hm, ha, hb]
theorem sh1_zero : sh1 0 = 0 := by decide
theorem sh1_two (y : Nat) : sh1 (y * 2) = y := by unfold sh1; simp
theorem sh1_lt {n : Nat} (h : n < 2 ^ 32) : sh1 n < 2 ^ 32 := by
  unfold sh1
  refine xor_lt 32 (by omega) ?_
  split <;> simp [poly]
theorem sh1_pos {n : Nat} (h0 : n ≠ 0) (h : n < 2 ^ 32) : sh1 n ≠ 0 := by
  unfold sh1
  split
  · intro e
    have e2 : n / 2 = poly := by
      have h2 := congrArg (· ^^^ poly) e
      simpa [Nat.xor_assoc] using h2
    rw [poly] at e2
    omega
  · simp; omega

theorem shn_add (a b n : Nat) : shn (a + b) n = shn b (shn a n) := by
  induction a generalizing n with
  | zero => simp [shn]
  | succ a ih => rw [Nat.succ_add]; simp only [shn]; exact ih _
theorem shn_xor (k a b : Nat) : shn k (a ^^^ b) = shn k a ^^^ shn k b := by
  induction k generalizing a b with
  | zero => rfl
  | succ k ih => simp only [shn]; rw [sh1_xor, ih]
theorem shn_zero (k : Nat) : shn k 0 = 0 := by
  induction k with
  | zero => rfl
  | succ k ih => simp only [shn]; rw [sh1_zero, ih]
theorem shn_pow (k y : Nat) : shn k (y * 2 ^ k) = y := by
  induction k generalizing y with
  | zero => simp [shn]
  | succ k ih => simp only [shn]; rw [Nat.pow_succ, ← Nat.mul_assoc, sh1_two, ih]
theorem shn_lt {n : Nat} (k : Nat) (h : n < 2 ^ 32) : shn k n < 2 ^ 32 := by
  induction k generalizing n with
  | zero => exact h
  | succ k ih => exact ih (sh1_lt h)
theorem shn_pos {n : Nat} (k : Nat) (h0 : n ≠ 0) (h : n < 2 ^ 32) : shn k n ≠ 0 := by
  induction k generalizing n with
  | zero => exact h0
  | succ k ih => exact ih (sh1_pos h0 h) (sh1_lt h)
theorem add_xor (a b k : Nat) (h : a < 2 ^ k) : a ^^^ (b * 2 ^ k) = b * 2 ^ k + a := by
  apply Nat.eq_of_testBit_eq
  intro i
  rw [Nat.testBit_xor, Nat.mul_comm b, Nat.testBit_two_pow_mul, Nat.testBit_two_pow_mul_add _ h]
  by_cases hi : i < k
  · have : ¬ k ≤ i := by omega
    simp [hi, this]
  · have h1 : k ≤ i := by omega
    have h2 : a.testBit i = false := Nat.testBit_lt_two_pow (Nat.lt_of_lt_of_le h (Nat.pow_le_pow_right (by omega) h1))
    simp [hi, h1, h2]
theorem split (k n : Nat) : (n % 2 ^ k) ^^^ ((n / 2 ^ k) * 2 ^ k) = n := by
  rw [add_xor _ _ _ (Nat.mod_lt _ (Nat.two_pow_pos k))]
  exact Nat.div_add_mod' n (2 ^ k)
theorem shn_split (k n : Nat) : shn k n = shn k (n % 2 ^ k) ^^^ (n / 2 ^ k) := by
  have h := congrArg (shn k) (split k n)
  rw [shn_xor, shn_pow] at h
  exact h.symm

/-- a step by the table -/
theorem step (s : Nat) (b : Nat) (hb : b < 256) : shn 8 (s ^^^ b) = shn 8 ((s % 256) ^^^ b) ^^^ (s / 256) := by
  have h := shn_split 8 (s ^^^ b)
  rw [xor_mod, xor_div] at h
  simp only [Nat.reducePow] at h
  rw [Nat.mod_eq_of_lt hb, Nat.div_eq_of_lt hb, Nat.xor_zero] at h
  exact h
/-- four bytes at a time -/
theorem four (s a b c d : Nat) : shn 8 (shn 8 (shn 8 (shn 8 (s ^^^ a) ^^^ b) ^^^ c) ^^^ d) = shn 32 (s ^^^ (a ^^^ (b * 256) ^^^ (c * 65536) ^^^ (d * 16777216))) := by
  have hb : shn 8 b = shn 16 (b * 256) := by rw [show (16 : Nat) = 8 + 8 from rfl, shn_add, shn_pow 8 b]
  have hc : shn 8 c = shn 24 (c * 65536) := by rw [show (24 : Nat) = 16 + 8 from rfl, shn_add, shn_pow 16 c]
  have hd : shn 8 d = shn 32 (d * 16777216) := by rw [show (32 : Nat) = 24 + 8 from rfl, shn_add, shn_pow 24 d]
  rw [shn_xor 8 _ d, hd, shn_xor 8 _ c, hc, shn_xor 8 _ b, hb]
  simp only [← shn_add, shn_xor 8, Nat.reduceAdd]
  simp only [← shn_xor, Nat.xor_assoc]
theorem tables (x : Nat) : shn 32 x = shn 32 (x % 256) ^^^ shn 24 (x / 256 % 256) ^^^ shn 16 (x / 65536 % 256) ^^^ shn 8 (x / 16777216 % 256) ^^^ (x / 4294967296) := by
  have h1 := shn_split 8 x
  have h2 := shn_split 8 (x / 256)
  have h3 := shn_split 8 (x / 65536)
  have h4 := shn_split 8 (x / 16777216)
  simp only [Nat.reducePow, Nat.div_div_eq_div_mul, Nat.reduceMul] at h1 h2 h3 h4
  have e1 : shn 32 x = shn 32 (x % 256) ^^^ shn 24 (x / 256) := by
    rw [show (32 : Nat) = 8 + 24 from rfl, shn_add, h1, shn_xor, ← shn_add]
  have e2 : shn 24 (x / 256) = shn 24 (x / 256 % 256) ^^^ shn 16 (x / 65536) := by
    rw [show (24 : Nat) = 8 + 16 from rfl, shn_add, h2, shn_xor, ← shn_add]
  have e3 : shn 16 (x / 65536) = shn 16 (x / 65536 % 256) ^^^ shn 8 (x / 16777216) := by
    rw [show (16 : Nat) = 8 + 8 from rfl, shn_add, h3, shn_xor, ← shn_add]
  rw [e1, e2, e3, h4]
  simp only [Nat.xor_assoc]

theorem crc_nil (s : Nat) : crc s [] = s := rfl
theorem crc_cons (s : Nat) (b : Int) (zs : List Int) : crc s (b :: zs) = crc (shn 8 (s ^^^ b.toNat)) zs := rfl
theorem crc_append (s : Nat) (x y : List Int) : crc s (x ++ y) = crc (crc s x) y := by simp [crc]
theorem byte_xor_lt {s : Nat} {b : Nat} (hs : s < 2 ^ 32) (hb : b < 256) : s ^^^ b < 2 ^ 32 := xor_lt 32 hs (by omega)
theorem crc_lt {s : Nat} {zs : List Int} (hs : s < 2 ^ 32) (hz : ∀ z ∈ zs, z < 256) : crc s zs < 2 ^ 32 := by
  induction zs generalizing s with
  | nil => exact hs
  | cons b zs ih =>
    rw [crc_cons]
    refine ih (shn_lt 8 (byte_xor_lt hs ?_)) (fun z h => hz z (List.mem_cons_of_mem _ h))
    have := hz b (List.mem_cons_self ..)
    omega
theorem not_xor {s : Nat} (h : s < 2 ^ 32) : ones - s = s ^^^ ones := by
  have hx := congrArg BitVec.toNat (BitVec.xor_allOnes (x := BitVec.ofNat 32 s))
  rw [BitVec.toNat_xor, BitVec.toNat_not, BitVec.toNat_allOnes, BitVec.toNat_ofNat, Nat.mod_eq_of_lt h] at hx
  simp only [ones]
  rw [show (4294967295 : Nat) = 2 ^ 32 - 1 from rfl, hx]
theorem ones_lt : ones < 2 ^ 32 := by decide
theorem sum_lt (zs : List Int) : sum zs < 2 ^ 32 := by unfold sum ones; omega

/-- three lists, xored -/
def xor3 (x y z : List Int) : List Int := (x.zip (y.zip z)).map fun t => ((t.1.toNat ^^^ t.2.1.toNat ^^^ t.2.2.toNat : Nat) : Int)
theorem crc_xor3 (s1 s2 s3 : Nat) : ∀ x y z : List Int, x.length = y.length → y.length = z.length → crc (s1 ^^^ s2 ^^^ s3) (xor3 x y z) = crc s1 x ^^^ crc s2 y ^^^ crc s3 z := by
  intro x
  induction x generalizing s1 s2 s3 with
  | nil =>
    intro y z h1 h2
    obtain rfl : y = [] := List.eq_nil_of_length_eq_zero (by simpa using h1.symm)
    obtain rfl : z = [] := List.eq_nil_of_length_eq_zero (by simpa using h2.symm)
    rfl
  | cons a x ih =>
    intro y z h1 h2
    cases y with
    | nil => simp at h1
    | cons b y =>
      cases z with
      | nil => simp at h2
      | cons c z =>
        have h := ih (shn 8 (s1 ^^^ a.toNat)) (shn 8 (s2 ^^^ b.toNat)) (shn 8 (s3 ^^^ c.toNat)) y z (by simpa using h1) (by simpa using h2)
        rw [crc_cons, crc_cons, crc_cons, ← h]
        show crc _ (xor3 (a :: x) (b :: y) (c :: z)) = _
        rw [show xor3 (a :: x) (b :: y) (c :: z) = ((a.toNat ^^^ b.toNat ^^^ c.toNat : Nat) : Int) :: xor3 x y z from rfl, crc_cons, Int.toNat_natCast]
        congr 1
        rw [← shn_xor, ← shn_xor]
        congr 1
        rw [xor_left4 (s1 ^^^ s2) s3, xor_left4 s1 s2, ← xor_left4 (s1 ^^^ a.toNat)]
theorem sum_xor3 (x y z : List Int) (h1 : x.length = y.length) (h2 : y.length = z.length) (hx : ∀ v ∈ x, v < 256) (hy : ∀ v ∈ y, v < 256) (hz : ∀ v ∈ z, v < 256) (hw : ∀ v ∈ xor3 x y z, v < 256) :
    sum (xor3 x y z) = sum x ^^^ sum y ^^^ sum z := by
  unfold sum
  rw [not_xor (crc_lt ones_lt hx), not_xor (crc_lt ones_lt hy), not_xor (crc_lt ones_lt hz), not_xor (crc_lt ones_lt hw)]
  have h := crc_xor3 ones ones ones x y z h1 h2
  rw [Nat.xor_self, Nat.zero_xor] at h
  rw [h]
  generalize crc ones x = a
  generalize crc ones y = b
  generalize crc ones z = c
  rw [xor_left4 a ones b ones, Nat.xor_self, Nat.xor_zero, Nat.xor_assoc (a ^^^ b)]

/-! ### turned bits -/
theorem crc_lin (s e : Nat) (zs : List Int) : crc (s ^^^ e) zs = crc s zs ^^^ shn (8 * zs.length) e := by
  induction zs generalizing s e with
  | nil => rfl
  | cons b zs ih =>
    rw [crc_cons, crc_cons, Nat.xor_assoc, Nat.xor_comm e, ← Nat.xor_assoc, shn_xor, ih, ← shn_add]
    congr 2
    simp; omega
theorem shn_bit {b k : Nat} (h : b ≤ k) : shn k (2 ^ b) = shn (k - b) 1 := by
  have e := shn_add b (k - b) (2 ^ b)
  rw [show b + (k - b) = k by omega] at e
  have h1 := shn_pow b 1
  rw [Nat.one_mul] at h1
  rw [e, h1]
/-- a bit turned in a byte -/
theorem crc_flip (s : Nat) (zs : List Int) (j b : Nat) (c : Int) (hb : b < 8) (hj : zs[j]? = some c) :
    crc s (zs.set j ((c.toNat ^^^ 2 ^ b : Nat) : Int)) = crc s zs ^^^ shn (8 * (zs.length - j) - b) 1 := by
  induction zs generalizing s j with
  | nil => simp at hj
  | cons z zs ih =>
    cases j with
    | zero =>
      obtain rfl : z = c := by simpa using hj
      rw [List.set_cons_zero, crc_cons, crc_cons, Int.toNat_natCast, ← Nat.xor_assoc, shn_xor, crc_lin, shn_bit (show b ≤ 8 by omega), ← shn_add]
      congr 2
      simp; omega
    | succ j =>
      rw [List.set_cons_succ, crc_cons, crc_cons, ih _ j (by simpa using hj)]
      congr 2
      simp
/-- what is kept while bits are turned one by one: p is what is left of the pattern, i how many bits are gone by -/
theorem turn_even (i p : Nat) (hp : p % 2 = 0) : p * 2 ^ i = p / 2 * 2 ^ (i + 1) := by
  obtain ⟨q, rfl⟩ : ∃ q, p = 2 * q := ⟨p / 2, by omega⟩
  rw [Nat.mul_div_cancel_left _ (by omega), Nat.pow_succ, Nat.mul_comm 2 q, Nat.mul_assoc, Nat.mul_comm 2]
theorem turn_odd {M i p : Nat} (hp : p % 2 = 1) (hi : i ≤ M) : shn M (p * 2 ^ i) = shn M (p / 2 * 2 ^ (i + 1)) ^^^ shn (M - i) 1 := by
  have e : p * 2 ^ i = 2 ^ i ^^^ (p / 2 * 2 ^ (i + 1)) := by
    rw [add_xor _ _ _ (Nat.pow_lt_pow_right (by omega) (by omega)), Nat.pow_succ]
    obtain ⟨q, rfl⟩ : ∃ q, p = 2 * q + 1 := ⟨p / 2, by omega⟩
    rw [show (2 * q + 1) / 2 = q by omega, Nat.add_mul, Nat.one_mul, Nat.mul_comm 2 q, Nat.mul_assoc, Nat.mul_comm 2]
  rw [e, shn_xor, shn_bit hi, Nat.xor_comm]
theorem le4_crc (s c : Nat) (hc : c < 2 ^ 32) : crc s (le4 c) = shn 32 (s ^^^ c) := by
  simp only [le4, crc_cons, crc_nil, Int.toNat_natCast]
  rw [four]
  congr 2
  have h1 := split 8 c
  have h2 := split 8 (c / 256)
  have h3 := split 8 (c / 65536)
  simp only [Nat.reducePow] at h1 h2 h3
  have a1 := add_xor (c % 256) (c / 256 % 256) 8 (Nat.mod_lt _ (by decide))
  have a2 := add_xor (c / 256 % 256 * 256 + c % 256) (c / 65536 % 256) 16 (by simp only [Nat.reducePow]; omega)
  have a3 := add_xor (c / 65536 % 256 * 65536 + (c / 256 % 256 * 256 + c % 256)) (c / 16777216 % 256) 24 (by simp only [Nat.reducePow]; omega)
  simp only [Nat.reducePow] at a1 a2 a3
  rw [a1, a2, a3]
  omega
theorem sum_xor (zs : List Int) (hz : ∀ z ∈ zs, z < 256) : sum zs = crc ones zs ^^^ ones := not_xor (crc_lt ones_lt hz)
/-- the state behind sealed bytes is always one -/
theorem sealed (zs : List Int) (hz : ∀ z ∈ zs, z < 256) : crc ones (zs ++ le4 (sum zs)) = shn 32 ones := by
  rw [crc_append, le4_crc _ _ (sum_lt zs), sum_xor zs hz, ← Nat.xor_assoc, Nat.xor_self, Nat.zero_xor]
theorem turned {zs cur : List Int} {M t : Nat} (hz : ∀ z ∈ zs, z < 256) (ht : t ≠ 0) (ht2 : t < 2 ^ 32) (h : crc ones cur = crc ones (zs ++ le4 (sum zs)) ^^^ shn M t) (xs : List Int) (hx : ∀ z ∈ xs, z < 256) : xs ++ le4 (sum xs) ≠ cur := by
  intro e
  rw [← e, sealed xs hx, sealed zs hz] at h
  have h2 := congrArg (shn 32 ones ^^^ ·) h
  simp only [← Nat.xor_assoc, Nat.xor_self, Nat.zero_xor] at h2
  exact shn_pos M ht ht2 h2.symm
theorem le4_len (n : Nat) : (le4 n).length = 4 := rfl
theorem le4_lt (n : Nat) : ∀ z ∈ le4 n, z < 256 := by
  intro z hz
  simp only [le4, List.mem_cons, List.not_mem_nil, or_false] at hz
  omega
theorem le4_ge (n : Nat) : ∀ z ∈ le4 n, 0 ≤ z := by
  intro z hz
  simp only [le4, List.mem_cons, List.not_mem_nil, or_false] at hz
  omega
end Cr
end Go.Proofs.Ytmdjgidbfcfdnaa

namespace Go.Proofs.Ytmdjgidbfcfdnaa
open Go.RowKit
set_option maxRecDepth 100000

theorem u32_not (n : Nat) (h : n < 4294967296) : bits .xor .u32 4294967295 (n : Int) = ((Cr.ones - n : Nat) : Int) := by
  rw [show (4294967295 : Int) = ((4294967295 : Nat) : Int) from rfl, u32_xor_nat _ _ (by omega) h, Cr.not_xor h, Nat.xor_comm]
  rfl
theorem sh1_odd (n : Nat) (h : n < 4294967296) (ho : n % 2 = 1) : bits .xor .u32 ((n / 2 : Nat) : Int) 3988292384 = ((Cr.sh1 n : Nat) : Int) := by
  rw [show (3988292384 : Int) = ((3988292384 : Nat) : Int) from rfl, u32_xor_nat _ _ (by omega) (by omega), Cr.sh1, if_pos ho]
  rfl
theorem sh1_even (n : Nat) (ho : n % 2 = 0) : n / 2 = Cr.sh1 n := by
  rw [Cr.sh1, if_neg (by omega)]
  simp
theorem and1 (n : Nat) (h : n < 4294967296) : bits .and .u32 (n : Int) 1 = ((n % 2 : Nat) : Int) := by
  rw [show (1 : Int) = ((1 : Nat) : Int) from rfl, u32_and_nat _ _ h (by omega), Nat.and_one_is_mod]

/-- the table lies in block b, below B -/
def TabAt (w : World) (B b : Nat) : Prop := b < B ∧ ∀ k i : Nat, k < 4 → i < 256 → w.cell? ⟨b, k * 256 + i, none⟩ = some (.int .u32 ((Cr.shn (8 * (k + 1)) i : Nat) : Int))
theorem TabAt.below {w w' : World} {B b : Nat} (h : TabAt w B b) (hb : Below B w w') : TabAt w' B b := ⟨h.1, fun k i hk hi => (hb.cell (p := ⟨b, k * 256 + i, none⟩) h.1).trans (h.2 k i hk hi)⟩
theorem TabAt.mono {w : World} {B B' b : Nat} (h : TabAt w B b) (hB : B ≤ B') : TabAt w B' b := ⟨Nat.lt_of_lt_of_le h.1 hB, h.2⟩
theorem take_more {zs : List Int} {k : Nat} {z : Int} (h : zs[k]? = some z) : zs.take (k + 1) = zs.take k ++ [z] := by
  have hk : k < zs.length := by
    rcases Nat.lt_or_ge k zs.length with h1 | h1
    · exact h1
    · rw [List.getElem?_eq_none h1] at h; simp at h
  rw [List.getElem?_eq_getElem hk] at h
  injection h with h
  rw [List.take_succ_eq_append_getElem hk, h]
theorem crc_more {zs : List Int} {k : Nat} {z : Int} (s : Nat) (h : zs[k]? = some z) : Cr.crc s (zs.take (k + 1)) = Cr.shn 8 (Cr.crc s (zs.take k) ^^^ z.toNat) := by
  rw [take_more h, Cr.crc_append]
  rfl
theorem u32_xor_byte (s : Nat) (z : Int) (hs : s < 4294967296) (h0 : 0 ≤ z) (h1 : z < 256) : bits .xor .u32 (s : Int) z = ((s ^^^ z.toNat : Nat) : Int) := by
  obtain ⟨m, rfl⟩ := Int.eq_ofNat_of_zero_le h0
  rw [u32_xor_nat s m hs (by omega), Int.toNat_natCast]

end Go.Proofs.Ytmdjgidbfcfdnaa

namespace Go.Proofs.Ytmdjgidbfcfdnaa
open Go.RowKit
set_option maxRecDepth 100000

/-- what of the table is told: the columns below i, and of column i the rows below k -/
def TabTo (cs : Array Value) (i k : Nat) : Prop := cs.size = 1024 ∧ ∀ k' i' : Nat, k' < 4 → i' < 256 → (i' < i ∨ (i' = i ∧ k' < k)) → cs[k' * 256 + i']? = some (.int .u32 ((Cr.shn (8 * (k' + 1)) i' : Nat) : Int))
theorem TabTo.next {cs : Array Value} {i k : Nat} (h : TabTo cs i k) (hk : k < 4) (hi : i < 256) : TabTo (cs.setIfInBounds (k * 256 + i) (.int .u32 ((Cr.shn (8 * (k + 1)) i : Nat) : Int))) i (k + 1) := by
  refine ⟨by simp [h.1], fun k' i' hk' hi' hd => ?_⟩
  rw [Array.getElem?_setIfInBounds]
  by_cases he : k * 256 + i = k' * 256 + i'
  · have e1 : k = k' := by omega
    have e2 : i = i' := by omega
    subst e1 e2
    rw [if_pos rfl, if_pos (by rw [h.1]; omega)]
  · rw [if_neg he]
    exact h.2 k' i' hk' hi' (by omega)
theorem TabTo.col {cs : Array Value} {i : Nat} (h : TabTo cs i 4) : TabTo cs (i + 1) 0 := ⟨h.1, fun k' i' hk' hi' hd => h.2 k' i' hk' hi' (by omega)⟩

end Go.Proofs.Ytmdjgidbfcfdnaa

namespace Go.Proofs.Ytmdjgidbfcfdnaa
open Go.RowKit Go.Shelf
set_option maxRecDepth 100000
attribute [local go_sem] Oper.semAt_some

/-- a frame as a value -/
def frC (v k s i c : Int) (p : Value) : Array Value := #[.int .i64 v, .int .i64 k, .int .u32 s, .int .i64 i, .int .i64 c, p]
def frV (v k s i c : Int) (p : Value) : Value := .agg (frC v k s i c p)
/-- a codec lies there, and its table -/
def CodAt (w : World) (B b : Nat) : Prop := ∃ t, b < B ∧ w.cell? ⟨b, 0, none⟩ = some (.pointer (some ⟨t, 0, none⟩)) ∧ TabAt w B t
theorem CodAt.below {w w' : World} {B b : Nat} (h : CodAt w B b) (hb : Below B w w') : CodAt w' B b := by
  obtain ⟨t, h1, h2, h3⟩ := h
  exact ⟨t, h1, (hb.cell (p := ⟨b, 0, none⟩) h1).trans h2, h3.below hb⟩
theorem CodAt.mono {w : World} {B B' b : Nat} (h : CodAt w B b) (hB : B ≤ B') : CodAt w B' b := by
  obtain ⟨t, h1, h2, h3⟩ := h
  exact ⟨t, by omega, h2, h3.mono hB⟩

/-- what Check tells -/
def fchk (v k i c : Int) (n : Nat) : Int := if chk v k i c ≠ 0 then chk v k i c else if n = 0 then 13 else if 242 < n then 2 else 0
theorem fchk_zero {v k i c : Int} {n : Nat} (h : fchk v k i c n = 0) : chk v k i c = 0 ∧ 1 ≤ n ∧ n ≤ 242 := by
  unfold fchk at h
  by_cases h0 : chk v k i c = 0
  · rw [if_neg (by simpa using h0)] at h
    by_cases h1 : n = 0
    · rw [if_pos h1] at h; omega
    · rw [if_neg h1] at h
      by_cases h2 : 242 < n
      · rw [if_pos h2] at h; omega
      · exact ⟨h0, by omega, by omega⟩
  · rw [if_pos h0] at h; exact absurd h h0
theorem fr_cells {w w1 : World} {v k s i c : Int} {p : Value} {t : TypeId} (hb : Below (w.alloc (.cells (frC v k s i c p) t)).heap.size (w.alloc (.cells (frC v k s i c p) t)) w1) :
    w1.heap[w.heap.size]? = some (.cells (frC v k s i c p) t (0, 0)) := (hb.block _ (by simp)).trans (World.alloc_heap_new _ _)
theorem fr_block {W : World} {b : Nat} {v k s i c : Int} {p : Value} {t : TypeId} (h : W.heap[b]? = some (.cells (frC v k s i c p) t (0, 0))) :
    W.cell? ⟨b, 0, none⟩ = some (.int .i64 v) ∧ W.cell? ⟨b, 1, none⟩ = some (.int .i64 k) ∧ W.cell? ⟨b, 2, none⟩ = some (.int .u32 s) ∧ W.cell? ⟨b, 3, none⟩ = some (.int .i64 i) ∧ W.cell? ⟨b, 4, none⟩ = some (.int .i64 c) ∧ W.cell? ⟨b, 5, none⟩ = some p := by
  simp [World.cell?, h, frC]
end Go.Proofs.Ytmdjgidbfcfdnaa

namespace Go.Proofs.Ytmdjgidbfcfdnaa
open Go.RowKit
set_option maxRecDepth 100000

theorem four_word (s z0 z1 z2 z3 : Nat) (hs : s < 4294967296) (h0 : z0 < 256) (h1 : z1 < 256) (h2 : z2 < 256) (h3 : z3 < 256) :
    ∃ x : Nat, x < 4294967296 ∧ bits .xor .u32 (s : Int) (bits .or .u32 (bits .or .u32 (bits .or .u32 (z0 : Int) ((z1 : Int) * 256)) ((z2 : Int) * 65536)) ((z3 : Int) * 16777216)) = (x : Int) ∧
      x = s ^^^ (z0 ^^^ (z1 * 256) ^^^ (z2 * 65536) ^^^ (z3 * 16777216)) := by
  have a1 := Cr.add_xor z0 z1 8 (by omega)
  have a2 := Cr.add_xor (z1 * 256 + z0) z2 16 (by simp only [Nat.reducePow]; omega)
  have a3 := Cr.add_xor (z2 * 65536 + (z1 * 256 + z0)) z3 24 (by simp only [Nat.reducePow]; omega)
  have o1 := Nat.two_pow_add_eq_or_of_lt (i := 8) (show z0 < 2 ^ 8 by omega) z1
  have o2 := Nat.two_pow_add_eq_or_of_lt (i := 16) (show z1 * 256 + z0 < 2 ^ 16 by simp only [Nat.reducePow]; omega) z2
  have o3 := Nat.two_pow_add_eq_or_of_lt (i := 24) (show z2 * 65536 + (z1 * 256 + z0) < 2 ^ 24 by simp only [Nat.reducePow]; omega) z3
  simp only [Nat.reducePow] at a1 a2 a3 o1 o2 o3
  refine ⟨_, ?_, ?_, rfl⟩
  · rw [a1, a2, a3]
    exact Cr.xor_lt 32 hs (by omega)
  · rw [show (z1 : Int) * 256 = ((z1 * 256 : Nat) : Int) by omega, show (z2 : Int) * 65536 = ((z2 * 65536 : Nat) : Int) by omega, show (z3 : Int) * 16777216 = ((z3 * 16777216 : Nat) : Int) by omega]
    rw [u32_or_nat _ _ (by omega) (by omega), Nat.or_comm, Nat.mul_comm z1, ← o1, Nat.mul_comm 256 z1]
    rw [u32_or_nat _ _ (by omega) (by omega), Nat.or_comm, Nat.mul_comm z2, ← o2, Nat.mul_comm 65536 z2]
    rw [u32_or_nat _ _ (by omega) (by omega), Nat.or_comm, Nat.mul_comm z3, ← o3, Nat.mul_comm 16777216 z3]
    rw [u32_xor_nat _ _ hs (by omega), a1, a2, a3]
theorem xor_chain (a b c d : Nat) (ha : a < 4294967296) (hb : b < 4294967296) (hc : c < 4294967296) (hd : d < 4294967296) :
    bits .xor .u32 (bits .xor .u32 (bits .xor .u32 (a : Int) (b : Int)) (c : Int)) (d : Int) = ((a ^^^ b ^^^ c ^^^ d : Nat) : Int) := by
  have h1 := Cr.xor_lt 32 (show a < 2 ^ 32 by omega) (show b < 2 ^ 32 by omega)
  have h2 := Cr.xor_lt 32 h1 (show c < 2 ^ 32 by omega)
  rw [u32_xor_nat _ _ ha hb, u32_xor_nat _ _ (by omega) hc, u32_xor_nat _ _ (by omega) hd]

end Go.Proofs.Ytmdjgidbfcfdnaa

namespace Go.Proofs.Ytmdjgidbfcfdnaa
open Go.RowKit
set_option maxRecDepth 100000

theorem crc_four (s : Nat) (zs : List Int) (z0 z1 z2 z3 : Int) (j : Nat) (h0 : (zs.drop j)[0]? = some z0) (h1 : (zs.drop j)[1]? = some z1) (h2 : (zs.drop j)[2]? = some z2) (h3 : (zs.drop j)[3]? = some z3) :
    Cr.crc s (zs.take (j + 4)) = Cr.shn 8 (Cr.shn 8 (Cr.shn 8 (Cr.shn 8 (Cr.crc s (zs.take j) ^^^ z0.toNat) ^^^ z1.toNat) ^^^ z2.toNat) ^^^ z3.toNat) := by
  rw [List.getElem?_drop] at h0 h1 h2 h3
  rw [show j + 4 = j + 3 + 1 from rfl, crc_more s h3, show j + 3 = j + 2 + 1 from rfl, crc_more s h2, show j + 2 = j + 1 + 1 from rfl, crc_more s h1, crc_more s (k := j) (z := z0) (by simpa using h0)]
/-- the place of what is left behind i elements -/
theorem addr_drop (b1 o1 c i : Nat) (h : i ≠ 0) : (if c = i then (some ⟨b1, o1, none⟩ : Option Addr) else (some ⟨b1, o1, none⟩ : Option Addr).map (·.add i)) = if c = i then some ⟨b1, o1, none⟩ else some ⟨b1, o1 + i, none⟩ := by
  simp [Addr.add, h]

theorem byte_step (m n0 : Nat) (hm : m < 4294967296) (h0 : n0 < 256) : ∃ q : Nat, q < 256 ∧ bits .xor .u8 (IntKind.u8.wrap (m : Int)) (n0 : Int) = (q : Int) ∧ bits .xor .u32 ((Cr.shn 8 q : Nat) : Int) ((m : Int) / 256) = ((Cr.shn 8 (m ^^^ n0) : Nat) : Int) := by
  have hq : m % 256 ^^^ n0 < 2 ^ 8 := Cr.xor_lt 8 (by omega) (by omega)
  refine ⟨m % 256 ^^^ n0, by omega, ?_, ?_⟩
  · rw [IntKind.wrap_u8, show (m : Int) % 256 = ((m % 256 : Nat) : Int) by omega, u8_xor_nat _ _ (by omega) h0]
  · have hl := Cr.shn_lt (n := m % 256 ^^^ n0) 8 (by omega)
    rw [show (m : Int) / 256 = ((m / 256 : Nat) : Int) by omega, u32_xor_nat _ _ (by omega) (by omega), Cr.step m n0 h0]

end Go.Proofs.Ytmdjgidbfcfdnaa

namespace Go.Proofs.Ytmdjgidbfcfdnaa
open Go.RowKit
set_option maxRecDepth 100000

/-- a part: where its bytes lie, its room, its bytes -/
structure Part where
  a : Option Addr
  c : Nat
  zs : List Int
/-- a part as it is in a world -/
structure Part.At (w : World) (B : Nat) (p : Part) : Prop where
  room : p.zs.length ≤ p.c
  few : p.zs.length ≤ 9223372036854775807
  byte : Bytes p.zs
  nums : Nums .u8 w B p.a p.zs
theorem Part.At.below {w w' : World} {B : Nat} {p : Part} (h : p.At w B) (hb : Below B w w') : p.At w' B := ⟨h.room, h.few, h.byte, h.nums.below hb⟩
theorem Part.At.mono {w : World} {B B' : Nat} {p : Part} (h : p.At w B) (hB : B ≤ B') : p.At w B' := ⟨h.room, h.few, h.byte, h.nums.mono hB⟩
/-- parts that lie at a place -/
def Parts (w : World) (B : Nat) (a : Option Addr) (ps : List Part) : Prop :=
  (∀ p ∈ ps, p.At w B) ∧ (ps ≠ [] → ∃ b off, a = some ⟨b, off, none⟩ ∧ ∀ (j : Nat) (p : Part), ps[j]? = some p → w.cell? ⟨b, off + j, none⟩ = some (.slice p.a p.zs.length p.c))
theorem Parts.nil (w : World) (B : Nat) (a : Option Addr) : Parts w B a [] := ⟨by simp, fun h => absurd rfl h⟩
/-- parts that have just been laid -/
theorem Parts.new {w : World} {B : Nat} {ps : List Part} (t : TypeId) (cs : Array Value) (h : ∀ p ∈ ps, p.At w B) (hB : B ≤ w.heap.size) (hc : cs = (ps.map fun p => Value.slice p.a p.zs.length p.c).toArray) : Parts (w.alloc (.cells cs t)) B (some ⟨w.heap.size, 0, none⟩) ps := by
  refine ⟨fun p hp => (h p hp).below ((Below.refl B w).alloc hB _), fun _ => ⟨w.heap.size, 0, rfl, fun j p hj => ?_⟩⟩
  rw [World.cell?_alloc_at _ _ _ _ rfl, hc]
  simp [hj]
def flat (ps : List Part) : List Int := ps.flatMap Part.zs
theorem flat_bytes {w : World} {B : Nat} {ps : List Part} (h : ∀ p ∈ ps, p.At w B) : Bytes (flat ps) := by
  intro z hz
  obtain ⟨p, hp, hz⟩ := List.mem_flatMap.1 hz
  exact (h p hp).byte z hz
theorem flat_more {ps : List Part} {k : Nat} {p : Part} (s : Nat) (h : ps[k]? = some p) : Cr.crc s (flat (ps.take (k + 1))) = Cr.crc (Cr.crc s (flat (ps.take k))) p.zs := by
  have hk : k < ps.length := by
    rcases Nat.lt_or_ge k ps.length with h1 | h1
    · exact h1
    · rw [List.getElem?_eq_none h1] at h; simp at h
  rw [List.getElem?_eq_getElem hk] at h
  injection h with h
  rw [List.take_succ_eq_append_getElem hk, h, ← Cr.crc_append]
  simp [flat]

end Go.Proofs.Ytmdjgidbfcfdnaa

namespace Go.Proofs.Ytmdjgidbfcfdnaa
open Go.RowKit
set_option maxRecDepth 100000
theorem byteInfo : (Try.prog.info? 5).map (fun i => (i.zero, i.size, i.bytes)) = some (some (.int .u8 0), 1, 1) := by kernel_rfl
end Go.Proofs.Ytmdjgidbfcfdnaa

namespace Go.Proofs.Ytmdjgidbfcfdnaa
open Go.RowKit
set_option maxRecDepth 100000

/-- 'string(b)' of bytes that lie somewhere -/
theorem conv_nums (B : Nat) (a : Option Addr) (n c : Nat) (zs : List Int) (w : World) (hn : zs.length = n) (h1 : Nums .u8 w B a zs) :
    (convert 25 9 (.slice a n c)).run Try.prog w = .ok (.string (strOfNums zs)) w := by
  subst hn
  by_cases hz : zs = []
  · subst hz
    rw [run_convert_bytes_string w _ _ _ _ _ _ Try.underlying25 Try.underlying5 Try.underlying9]
    cases a <;> simp [Conv.bytesToString, loadCells] <;> rfl
  · obtain ⟨b, o, rfl, _, hc⟩ := h1 hz
    exact run_convert_bytes_arg (P := Try.prog) w _ _ Try.underlying25 Try.underlying5 b o _ c zs rfl (fun i hi => by
      rw [hc i zs[i] (List.getElem?_eq_getElem hi)]
      simp [List.getElem?_eq_getElem hi]) _ Try.underlying9
theorem bytesOf_inj {xs ys : List Int} (hx : Bytes xs) (hy : Bytes ys) (h : Lib.bytesOf xs = Lib.bytesOf ys) : xs = ys := by
  have hl := congrArg List.length h
  rw [Lib.bytesOf_length, Lib.bytesOf_length] at hl
  apply List.ext_getElem hl
  intro i h1 h2
  have h3 : (Lib.bytesOf xs)[i]? = (Lib.bytesOf ys)[i]? := by rw [h]
  simp only [Lib.bytesOf, List.getElem?_map, List.getElem?_eq_getElem h1, List.getElem?_eq_getElem h2, Option.map_some, Option.some.injEq] at h3
  have b1 := hx _ (List.getElem_mem h1)
  have b2 := hy _ (List.getElem_mem h2)
  have h4 := congrArg UInt8.toNat h3
  rw [UInt8.toNat_ofNat', UInt8.toNat_ofNat'] at h4
  omega
theorem le4_is (S : Nat) (h : S < 4294967296) : Cr.le4 S = [(S : Int) % 256, (S : Int) / 256 % 256, (S : Int) / 65536 % 256, (S : Int) / 16777216] := by
  simp only [Cr.le4, List.cons.injEq, and_true]
  omega
/-- a row that was made later -/
theorem ownsRow_lower {w : World} {e : TypeId} {s n : Nat} {v : Value} {xs : List Value} {b b' : Nat} (h : w.ownsRow b e s v n xs) (hb : b' ≤ b) : w.ownsRow b' e s v n xs := by
  refine ⟨h.1, ?_⟩
  rcases h.2 with h | ⟨g, cap, cur, hv, hg, rest⟩
  · exact .inl h
  · exact .inr ⟨g, cap, cur, hv, by omega, rest⟩

end Go.Proofs.Ytmdjgidbfcfdnaa

namespace Go.Proofs.Ytmdjgidbfcfdnaa
open Go.RowKit Go.Shelf
set_option maxRecDepth 100000
attribute [local go_sem] Oper.semAt_some

/-- what sum answers -/
def SumR (w w' : World) (L : List Int) (e : Ending) : Prop := ∃ g, w.heap.size ≤ g ∧ e = .returned (.slice (some ⟨g, 0, none⟩) 4 4) ∧ Nums .u8 w' w'.heap.size (some ⟨g, 0, none⟩) L
end Go.Proofs.Ytmdjgidbfcfdnaa

namespace Go.Proofs.Ytmdjgidbfcfdnaa
open Go.RowKit
set_option maxRecDepth 100000

/-- Same, of lists that are the same -/
theorem same_eq (B : Nat) (a1 a2 : Option Addr) (c1 c2 : Nat) (zs : List Int) (w : World) (hl : zs.length ≤ 9223372036854775807) (h1 : Nums .u8 w B a1 zs) (h2 : Nums .u8 w B a2 zs) :
    Calls Try.prog 11 #[.slice a1 zs.length c1, .slice a2 zs.length c2] w fun e w' => e = .returned (.bool true) ∧ ∃ n, w' = w.drewN n := by
  go_enter Try.func11, Try.ntmps11
  go_wp2
  go_loopw [5] (fun i wr => ∃ k : Nat, k ≤ zs.length ∧ i = .int .i64 k ∧ ∃ n, wr = w.drewN n) (fun i _ => zs.length - (intOf i).toNat)
  case atStart => exact ⟨0, by omega, rfl, 0, rfl⟩
  case round =>
    obtain ⟨k, hk, rfl, n, rfl⟩ := hrel
    by_cases hlt : k < zs.length
    · obtain ⟨c, hc⟩ : ∃ c, zs[k]? = some c := ⟨_, List.getElem?_eq_getElem hlt⟩
      obtain ⟨b1, o1, rfl, hb1, hc1⟩ := h1.open hc
      obtain ⟨b2, o2, rfl, hb2, hc2⟩ := h2.open hc
      clear h1 h2 hc
      have hlt' : (k : Int) < (zs.length : Int) := by omega
      go_wp2
      go_quiet (fail)
      go_wp2
      go_roundw
      case rel => exact ⟨k + 1, by omega, by go_num, _, rfl⟩
      case measure => simp [intOf]; omega
    · go_wp2
      go_ret
      exact ⟨rfl, n, rfl⟩

theorem same_len (B : Nat) (a1 a2 : Option Addr) (n1 n2 c1 c2 : Nat) (x y : List Int) (w : World) (hxy : x = y) (hn1 : x.length = n1) (hn2 : y.length = n2) (hl : n1 ≤ 9223372036854775807) (h1 : Nums .u8 w B a1 x) (h2 : Nums .u8 w B a2 y) :
    Calls Try.prog 11 #[.slice a1 n1 c1, .slice a2 n2 c2] w fun e w' => e = .returned (.bool true) ∧ ∃ n, w' = w.drewN n := by
  subst hxy hn1 hn2; exact same_eq B a1 a2 c1 c2 x w hl h1 h2

end Go.Proofs.Ytmdjgidbfcfdnaa

namespace Go.Proofs.Ytmdjgidbfcfdnaa
namespace Vi

/-- the bytes of a number: seven bits each, the lowest first -/
def enc (n : Nat) : List Int := if n < 128 then [(n : Int)] else ((n % 128 + 128 : Nat) : Int) :: enc (n / 128)
termination_by n
decreasing_by omega

theorem enc_small {n : Nat} (h : n < 128) : enc n = [(n : Int)] := by rw [enc, if_pos h]
theorem enc_big {n : Nat} (h : 128 ≤ n) : enc n = ((n % 128 + 128 : Nat) : Int) :: enc (n / 128) := by rw [enc, if_neg (by omega)]

theorem enc_pos (n : Nat) : 0 < (enc n).length := by
  by_cases h : n < 128
  · simp [enc_small h]
  · simp [enc_big (Nat.le_of_not_lt h)]

theorem enc_le (k : Nat) : ∀ n : Nat, n < 128 ^ (k + 1) → (enc n).length ≤ k + 1 := by
  induction k with
  | zero => intro n h; rw [enc_small (by simpa using h)]; simp
  | succ k ih =>
    intro n h
    by_cases hn : n < 128
    · simp [enc_small hn]
    · rw [enc_big (Nat.le_of_not_lt hn)]
      have := ih (n / 128) (by rw [Nat.pow_succ] at h; omega)
      simp only [List.length_cons]; omega

theorem enc_le10 {n : Nat} (h : n < 18446744073709551616) : (enc n).length ≤ 10 := enc_le 9 n (by omega)

/-- n has k bytes: then n < 128 ^ k, and at k > 1 at least 128 ^ (k - 1) -/
theorem enc_lt (n : Nat) : n < 128 ^ (enc n).length := by
  induction n using Nat.strongRecOn with
  | _ n ih =>
    by_cases hn : n < 128
    · simp [enc_small hn]; exact hn
    · have h := ih (n / 128) (by omega)
      rw [enc_big (Nat.le_of_not_lt hn), List.length_cons, Nat.pow_succ]
      omega

theorem enc_ge (n : Nat) (h : 1 < (enc n).length) : 128 ^ ((enc n).length - 1) ≤ n := by
  induction n using Nat.strongRecOn with
  | _ n ih =>
    by_cases hn : n < 128
    · simp [enc_small hn] at h
    · have hb := enc_big (Nat.le_of_not_lt hn)
      rw [hb, List.length_cons, Nat.add_sub_cancel]
      by_cases h1 : 1 < (enc (n / 128)).length
      · have hi := ih (n / 128) (by omega) h1
        have hp := enc_pos (n / 128)
        have e : (enc (n / 128)).length = (enc (n / 128)).length - 1 + 1 := by omega
        rw [e, Nat.pow_succ]; omega
      · have hp := enc_pos (n / 128)
        have e : (enc (n / 128)).length = 1 := by omega
        rw [e]; omega

theorem enc_mono {a b : Nat} (h : a ≤ b) : (enc a).length ≤ (enc b).length := by
  by_cases h1 : 1 < (enc a).length
  · have h2 := enc_ge a h1
    have h3 := enc_lt b
    have h4 : 128 ^ ((enc a).length - 1) < 128 ^ (enc b).length := by omega
    have := (Nat.pow_lt_pow_iff_right (by decide : 1 < 128)).1 h4
    omega
  · have := enc_pos b; omega

theorem enc_byte (n : Nat) : ∀ c ∈ enc n, 0 ≤ c ∧ c ≤ 255 := by
  induction n using Nat.strongRecOn with
  | _ n ih =>
    by_cases hn : n < 128
    · rw [enc_small hn]; intro c hc; simp at hc; subst hc; omega
    · rw [enc_big (Nat.le_of_not_lt hn)]
      intro c hc
      simp only [List.mem_cons] at hc
      rcases hc with rfl | hc
      · omega
      · exact ih (n / 128) (by omega) c hc

/-! ### sizes by the length of the bits -/
theorem log2_div128 {n : Nat} (h : 128 ≤ n) : n.log2 = (n / 128).log2 + 7 := by
  have hd : 1 ≤ n / 128 := by omega
  have e : ∀ m : Nat, 2 ≤ m → m.log2 = (m / 2).log2 + 1 := fun m hm => by rw [Nat.log2_def, if_pos hm]
  rw [e n (by omega), e (n / 2) (by omega), e (n / 2 / 2) (by omega), e (n / 2 / 2 / 2) (by omega), e (n / 2 / 2 / 2 / 2) (by omega), e (n / 2 / 2 / 2 / 2 / 2) (by omega), e (n / 2 / 2 / 2 / 2 / 2 / 2) (by omega)]
  rw [show n / 2 / 2 / 2 / 2 / 2 / 2 / 2 = n / 128 by omega]

theorem log2_small {n : Nat} (h : n < 128) : n.log2 ≤ 6 := by
  by_cases h0 : n = 0
  · subst h0; decide
  · have := (Nat.log2_lt h0).2 (show n < 2 ^ 7 by omega); omega

theorem enc_log2 (n : Nat) : (enc n).length = n.log2 / 7 + 1 := by
  induction n using Nat.strongRecOn with
  | _ n ih =>
    by_cases hn : n < 128
    · have := log2_small hn
      rw [enc_small hn]; simp only [List.length_singleton]; omega
    · have h := ih (n / 128) (by omega)
      rw [enc_big (Nat.le_of_not_lt hn), List.length_cons, h, log2_div128 (Nat.le_of_not_lt hn)]
      omega

theorem or_one (n : Nat) : n ||| 1 = n + (1 - n % 2) := by
  have h : n ||| 1 = n / 2 * 2 + 1 := by
    have h1 : n ||| 1 = (n / 2 * 2) ||| 1 := by
      apply Nat.eq_of_testBit_eq
      intro i
      cases i with
      | zero => simp
      | succ i =>
        rw [Nat.testBit_or, Nat.testBit_or, Nat.testBit_succ, Nat.testBit_succ (n / 2 * 2)]
        rw [show n / 2 * 2 / 2 = n / 2 by omega]
    rw [h1]
    exact nat_join 1 (n / 2 * 2) 1 (by omega) (by omega)
  omega

theorem enc_or_one (n : Nat) : (enc (n ||| 1)).length = (enc n).length := by
  have h := or_one n
  by_cases hn : n < 128
  · rw [enc_small hn, enc_small (by omega)]; rfl
  · rw [enc_big (Nat.le_of_not_lt hn), enc_big (by omega), List.length_cons, List.length_cons, show (n ||| 1) / 128 = n / 128 by omega]

theorem size_log2 (n : Nat) : ((n ||| 1).log2 + 1 + 7 - 1) / 7 = (enc n).length := by
  rw [← enc_or_one, enc_log2]; omega

theorem log2_lt64 {n : Nat} (h : n < 18446744073709551616) : n.log2 ≤ 63 := by
  by_cases h0 : n = 0
  · subst h0; decide
  · have := (Nat.log2_lt h0).2 (show n < 2 ^ 64 by omega); omega

end Vi
end Go.Proofs.Ytmdjgidbfcfdnaa

namespace Go.Proofs.Ytmdjgidbfcfdnaa
namespace Vi

/-- how many bytes with the highest bit set come first -/
def high : List Int → Nat
  | [] => 0
  | c :: r => if 128 ≤ c then high r + 1 else 0

/-- the number of bytes: seven bits each, the lowest first -/
def val : List Int → Nat
  | [] => 0
  | c :: r => c.toNat % 128 + 128 * val r

/-- the number that bytes begin with, how many bytes it has, the error (the document's P1.2) -/
def get (l : List Int) : Nat × Nat × Nat :=
  if 10 ≤ high l then (0, 0, 3)
  else if l.length ≤ high l then (0, 0, 4)
  else if 18446744073709551616 ≤ val (l.take (high l + 1)) ∨ (0 < high l ∧ l.getD (high l) 0 = 0) then (0, 0, 3)
  else (val (l.take (high l + 1)), high l + 1, 0)

theorem high_all {p : List Int} (hp : ∀ c ∈ p, 128 ≤ c) (r : List Int) : high (p ++ r) = p.length + high r := by
  induction p with
  | nil => simp
  | cons c p ih =>
    rw [List.cons_append, high, if_pos (hp c (by simp)), ih (fun d hd => hp d (by simp [hd])), List.length_cons]; omega

theorem val_append (p r : List Int) : val (p ++ r) = val p + 128 ^ p.length * val r := by
  induction p with
  | nil => simp [val]
  | cons c p ih =>
    rw [List.cons_append, val, ih, val, List.length_cons, Nat.pow_succ, Nat.mul_add]
    rw [show 128 ^ p.length * 128 * val r = 128 * (128 ^ p.length * val r) by rw [Nat.mul_comm (128 ^ p.length) 128, Nat.mul_assoc]]
    omega

theorem val_lt (p : List Int) : val p < 128 ^ p.length := by
  induction p with
  | nil => simp [val]
  | cons c p ih => rw [val, List.length_cons, Nat.pow_succ]; omega

theorem get_end {p : List Int} (hp : ∀ c ∈ p, 128 ≤ c) (hl : p.length ≤ 9) : get p = (0, 0, 4) := by
  have h := high_all hp []
  simp only [List.append_nil, high, Nat.add_zero] at h
  unfold get
  rw [if_neg (by omega), if_pos (by omega)]

theorem get_long {p r : List Int} (hp : ∀ c ∈ p, 128 ≤ c) (hl : 10 ≤ p.length) : get (p ++ r) = (0, 0, 3) := by
  have h := high_all hp r
  unfold get
  rw [if_pos (by omega)]

theorem take_mid (p : List Int) (c : Int) (r : List Int) : (p ++ c :: r).take (p.length + 1) = p ++ [c] := by
  rw [List.take_append, List.take_of_length_le (by omega)]; simp

theorem get_mid {p r : List Int} {c : Int} (hp : ∀ c ∈ p, 128 ≤ c) (hl : p.length ≤ 9) (hc : c < 128) :
    get (p ++ c :: r) = if 18446744073709551616 ≤ val (p ++ [c]) ∨ (0 < p.length ∧ c = 0) then (0, 0, 3) else (val (p ++ [c]), p.length + 1, 0) := by
  have h : high (p ++ c :: r) = p.length := by
    rw [high_all hp]; simp [high, show ¬ 128 ≤ c by omega]
  have hg : (p ++ c :: r).getD p.length 0 = c := by simp [List.getD]
  unfold get
  rw [h, hg, take_mid, if_neg (by omega), if_neg (by simp)]

theorem get_bad {p r : List Int} {c : Int} (hp : ∀ c ∈ p, 128 ≤ c) (hl : p.length ≤ 9) (hc : c < 128) (hb : 18446744073709551616 ≤ val (p ++ [c]) ∨ (0 < p.length ∧ c = 0)) : get (p ++ c :: r) = (0, 0, 3) := by
  rw [get_mid hp hl hc, if_pos hb]
theorem get_ok {p r : List Int} {c : Int} (hp : ∀ c ∈ p, 128 ≤ c) (hl : p.length ≤ 9) (hc : c < 128) (hb : val (p ++ [c]) < 18446744073709551616) (h0 : p.length = 0 ∨ c ≠ 0) : get (p ++ c :: r) = (val (p ++ [c]), p.length + 1, 0) := by
  rw [get_mid hp hl hc, if_neg (by omega)]

/-- the parts of any list: the high bytes that come first, and what is behind them -/
theorem parts (l : List Int) : ∃ p r, l = p ++ r ∧ (∀ c ∈ p, 128 ≤ c) ∧ (r = [] ∨ ∃ c r', r = c :: r' ∧ c < 128) := by
  induction l with
  | nil => exact ⟨[], [], rfl, by simp, .inl rfl⟩
  | cons c l ih =>
    by_cases hc : 128 ≤ c
    · obtain ⟨p, r, e, hp, hr⟩ := ih
      refine ⟨c :: p, r, by rw [e]; rfl, ?_, hr⟩
      intro d hd
      simp only [List.mem_cons] at hd
      rcases hd with rfl | hd
      · exact hc
      · exact hp d hd
    · exact ⟨[], c :: l, rfl, by simp, .inr ⟨c, l, rfl, by omega⟩⟩

/-- what is told is put as it was -/
theorem enc_val {p : List Int} {c : Int} (hp : ∀ d ∈ p, 128 ≤ d ∧ d ≤ 255) (h0 : 0 ≤ c) (hc : c < 128) (hz : p.length = 0 ∨ c ≠ 0) : enc (val (p ++ [c])) = p ++ [c] := by
  induction p with
  | nil =>
    have e : val ([] ++ [c]) = c.toNat := by simp [val]; omega
    rw [e, enc_small (by omega)]; simp; omega
  | cons d p ih =>
    have hd := hp d (by simp)
    have hi := ih (fun x hx => hp x (by simp [hx])) (.inr (by simpa using hz))
    have hc0 : c ≠ 0 := by simpa using hz
    have hv : 1 ≤ val (p ++ [c]) := by
      rw [val_append]
      have h1 : 1 ≤ val [c] := by simp [val]; omega
      have h2 : 1 ≤ 128 ^ p.length := Nat.one_le_pow _ _ (by decide)
      have := Nat.mul_le_mul h2 h1
      omega
    have e : val (d :: p ++ [c]) = d.toNat % 128 + 128 * val (p ++ [c]) := rfl
    rw [e, enc_big (by omega), show (d.toNat % 128 + 128 * val (p ++ [c])) / 128 = val (p ++ [c]) by omega, hi]
    simp only [List.cons_append, List.cons.injEq, and_true]
    omega

/-- a number's bytes: high ones, and a last one -/
theorem enc_parts (n : Nat) : ∃ p c, enc n = p ++ [c] ∧ (∀ d ∈ p, 128 ≤ d ∧ d ≤ 255) ∧ 0 ≤ c ∧ c < 128 ∧ (p.length = 0 ∨ c ≠ 0) ∧ val (p ++ [c]) = n := by
  induction n using Nat.strongRecOn with
  | _ n ih =>
    by_cases hn : n < 128
    · refine ⟨[], n, by rw [enc_small hn]; rfl, by simp, by omega, by omega, .inl rfl, ?_⟩
      simp [val]; omega
    · obtain ⟨p, c, e, hp, h0, hc, hz, hv⟩ := ih (n / 128) (by omega)
      refine ⟨((n % 128 + 128 : Nat) : Int) :: p, c, by rw [enc_big (by omega), e]; rfl, ?_, h0, hc, .inr ?_, ?_⟩
      · intro d hd
        simp only [List.mem_cons] at hd
        rcases hd with rfl | hd
        · omega
        · exact hp d hd
      · rcases hz with hz | hz
        · have : p = [] := List.eq_nil_of_length_eq_zero hz
          subst this
          simp [val] at hv
          intro hc0
          subst hc0
          simp at hv
          omega
        · exact hz
      · have e2 : val ((((n % 128 + 128 : Nat) : Int) :: p) ++ [c]) = ((n % 128 + 128 : Nat) : Int).toNat % 128 + 128 * val (p ++ [c]) := rfl
        rw [e2, hv, Int.toNat_natCast]; omega

/-- what was put is told as it was -/
theorem get_enc {n : Nat} (hn : n < 18446744073709551616) (r : List Int) : get (enc n ++ r) = (n, (enc n).length, 0) := by
  obtain ⟨p, c, e, hp, h0, hc, hz, hv⟩ := enc_parts n
  have hl := enc_le10 hn
  rw [e] at hl ⊢
  simp only [List.length_append, List.length_singleton] at hl ⊢
  rw [List.append_assoc, List.singleton_append, get_ok (fun d hd => (hp d hd).1) (by omega) hc (by omega) hz, hv]

/-- what Get tells: the size, and its bytes -/
theorem get_put {l : List Int} (hl : ∀ c ∈ l, 0 ≤ c ∧ c ≤ 255) (h : (get l).2.2 = 0) :
    (get l).1 < 18446744073709551616 ∧ 0 < (get l).2.1 ∧ (get l).2.1 ≤ l.length ∧ enc (get l).1 = l.take (get l).2.1 ∧ (enc (get l).1).length = (get l).2.1 := by
  obtain ⟨p, r, rfl, hp, hr⟩ := parts l
  by_cases h10 : 10 ≤ p.length
  · rw [get_long hp h10] at h; simp at h
  · rcases hr with rfl | ⟨c, r', rfl, hc⟩
    · rw [List.append_nil, get_end hp (by omega)] at h; simp at h
    · by_cases hb : 18446744073709551616 ≤ val (p ++ [c]) ∨ (0 < p.length ∧ c = 0)
      · rw [get_bad hp (by omega) hc hb] at h; simp at h
      · have hz : p.length = 0 ∨ c ≠ 0 := by omega
        have hc0 := hl c (by simp)
        have he := enc_val (fun d hd => ⟨hp d hd, (hl d (by simp [hd])).2⟩) hc0.1 hc hz
        rw [get_ok hp (by omega) hc (by omega) hz]
        simp only
        rw [he, take_mid]
        refine ⟨by omega, by omega, by simp, rfl, by simp⟩

/-- what is not told is nought -/
theorem get_err {l : List Int} (h : (get l).2.2 ≠ 0) : (get l).1 = 0 ∧ (get l).2.1 = 0 := by
  unfold get at h ⊢
  split
  · exact ⟨rfl, rfl⟩
  · split
    · exact ⟨rfl, rfl⟩
    · split
      · exact ⟨rfl, rfl⟩
      · rename_i h1 h2 h3
        rw [if_neg h1, if_neg h2, if_neg h3] at h
        exact absurd rfl h

theorem get_le (l : List Int) : (get l).1 < 18446744073709551616 ∧ (get l).2.1 ≤ 10 ∧ (get l).2.1 ≤ l.length ∧ (get l).2.2 ≤ 4 := by
  unfold get
  split
  · simp
  · split
    · simp
    · split
      · simp
      · simp only; omega

/-! ### one byte more, in the model's own words -/
theorem or_join (x c k : Nat) (hx : x < 128 ^ k) (hk : k ≤ 9) (hc : c < 128) (h9 : k = 9 → c ≤ 1) :
    bits .or .u64 (x : Int) (IntKind.u64.wrap ((c : Int) * 2 ^ (7 * k))) = ((x + 128 ^ k * c : Nat) : Int) := by
  have e : (128 : Nat) ^ k = 2 ^ (7 * k) := by rw [show (128 : Nat) = 2 ^ 7 from rfl, ← Nat.pow_mul]
  have hp : c * 2 ^ (7 * k) < 18446744073709551616 := by
    have : k = 0 ∨ k = 1 ∨ k = 2 ∨ k = 3 ∨ k = 4 ∨ k = 5 ∨ k = 6 ∨ k = 7 ∨ k = 8 ∨ k = 9 := by omega
    rcases this with rfl | rfl | rfl | rfl | rfl | rfl | rfl | rfl | rfl | rfl <;> (simp only [Nat.reduceMul, Nat.reducePow]; omega)
  have hx2 : x < 18446744073709551616 := by
    have : k = 0 ∨ k = 1 ∨ k = 2 ∨ k = 3 ∨ k = 4 ∨ k = 5 ∨ k = 6 ∨ k = 7 ∨ k = 8 ∨ k = 9 := by omega
    rcases this with rfl | rfl | rfl | rfl | rfl | rfl | rfl | rfl | rfl | rfl <;> (simp only [Nat.reducePow] at hx; omega)
  have ec : (c : Int) * 2 ^ (7 * k) = ((c * 2 ^ (7 * k) : Nat) : Int) := by push_cast; rfl
  rw [ec, IntKind.wrap_u64, Int.emod_eq_of_lt (by omega) (by omega), u64_or_nat x _ hx2 hp, Nat.or_comm, nat_join (7 * k) _ x (Nat.mul_mod_left _ _) (by rw [← e]; exact hx), e, Nat.mul_comm, Nat.add_comm]

end Vi
end Go.Proofs.Ytmdjgidbfcfdnaa

namespace Go.Proofs.Ytmdjgidbfcfdnaa
open Go.RowKit
set_option maxRecDepth 100000

/-- the bytes of numbers, one behind the other -/
def puts (zs : List Int) : List Int := zs.flatMap fun z => Vi.enc z.toNat
theorem puts_nil : puts [] = [] := rfl
theorem puts_append (a b : List Int) : puts (a ++ b) = puts a ++ puts b := by simp [puts]
theorem puts_one (z : Int) : puts [z] = Vi.enc z.toNat := by simp [puts]
theorem puts_byte (zs : List Int) : ∀ c ∈ puts zs, 0 ≤ c ∧ c ≤ 255 := by
  intro c hc
  simp only [puts, List.mem_flatMap] at hc
  obtain ⟨z, _, hc⟩ := hc
  exact Vi.enc_byte _ c hc
theorem puts_length (zs : List Int) (h : ∀ z ∈ zs, 0 ≤ z ∧ z ≤ 18446744073709551615) : (puts zs).length ≤ 10 * zs.length := by
  induction zs with
  | nil => simp [puts]
  | cons z zs ih =>
    have h1 := ih (fun x hx => h x (by simp [hx]))
    have h2 := Vi.enc_le10 (n := z.toNat) (by have := h z (by simp); omega)
    rw [show z :: zs = [z] ++ zs from rfl, puts_append, puts_one, List.length_append, List.length_append, List.length_singleton]
    omega
theorem ptake_more {zs : List Int} {k : Nat} {z : Int} (h : zs[k]? = some z) : zs.take (k + 1) = zs.take k ++ [z] := by
  have hk : k < zs.length := by
    rcases Nat.lt_or_ge k zs.length with h1 | h1
    · exact h1
    · rw [List.getElem?_eq_none h1] at h; simp at h
  rw [List.getElem?_eq_getElem hk] at h
  injection h with h
  rw [List.take_succ_eq_append_getElem hk, h]

theorem or128 (m : Nat) : bits .or .u8 (IntKind.u8.wrap (m : Int)) 128 = ((m % 128 + 128 : Nat) : Int) := by
  rw [IntKind.wrap_u8, show (m : Int) % 256 = ((m % 256 : Nat) : Int) by omega, show (128 : Int) = ((128 : Nat) : Int) from rfl, u8_or_nat _ _ (by omega) (by omega)]
  have h : m % 256 ||| 128 = m % 128 + 128 := by
    have h1 : ∀ i : Fin 256, i.val ||| 128 = i.val % 128 + 128 := by decide +kernel
    have := h1 ⟨m % 256, by omega⟩
    simp only at this
    omega
  rw [h]

/-- bytes that a call has made -/
def Made (w w' : World) (L : List Int) (v : Value) : Prop := w'.ownsRow w.heap.size 5 1 v L.length (L.map (Value.int .u8)) ∧ Below w.heap.size w w'
theorem Made.nil (w : World) : Made w w [] (.slice none 0 0) := ⟨World.ownsRow_nil _ _ _ _, Below.refl _ _⟩
theorem Made.slice {w w' : World} {L : List Int} {v : Value} (h : Made w w' L v) : ∃ A c, v = .slice A L.length c ∧ L.length ≤ c ∧ Nums .u8 w' w'.heap.size A L := by
  have h1 := h.1
  obtain ⟨_, h2⟩ := h1
  rcases h2 with ⟨rfl, h0⟩ | ⟨g, cap, cur, rfl, hg, hh, hn, _⟩
  · have : L = [] := List.eq_nil_of_length_eq_zero h0
    subst this
    exact ⟨none, 0, rfl, by simp, Nums.nil⟩
  · exact ⟨some ⟨g, 0, none⟩, cap, rfl, hn, Nums.of_own h.1⟩
theorem Made.app {w w1 w2 : World} {L : List Int} {v v' : Value} {x y : Int} {o : Obj} (h : Made w w1 L v) (hown : w2.ownsRow w.heap.size 5 1 v' (L.length + 1) (L.map (Value.int .u8) ++ [.int .u8 x])) (hg : (w1.alloc o).grownBy w2 v.ownBlock) (hx : x = y) : Made w w2 (L ++ [y]) v' := by
  subst hx
  refine ⟨by simpa using hown, ((h.2.alloc h.2.size o).grown hg (by have := h.2.size; simp; omega) (fun k hk => ?_))⟩
  have hv := h.1
  obtain ⟨_, h2⟩ := hv
  rcases h2 with ⟨rfl, h0⟩ | ⟨g, cap, cur, rfl, hg, hh, hn, _⟩
  · simp [Value.ownBlock] at hk
  · simp [Value.ownBlock] at hk; omega



end Go.Proofs.Ytmdjgidbfcfdnaa

namespace Go.Proofs.Ytmdjgidbfcfdnaa
open Go.RowKit
set_option maxRecDepth 100000

/-- what Grow answers -/
def GrowR (A : Option Addr) (l n : Nat) (cur : List Int) (w : World) (e : Ending) (w' : World) : Prop :=
  ∃ A' cap' cur', e = .returned (.slice A' l cap') ∧ l + n ≤ cap' ∧ KRow 5 .u8 w' A' cap' cur' ∧ cur'.take l = cur.take l ∧ Below w.heap.size w w' ∧ (A' = A ∨ ∃ g, A' = some ⟨g, 0, none⟩ ∧ w.heap.size ≤ g)

end Go.Proofs.Ytmdjgidbfcfdnaa

namespace Go.Proofs.Ytmdjgidbfcfdnaa
open Go.RowKit
set_option maxRecDepth 100000
theorem listInfo : (Try.prog.info? 25).map (fun i => (i.zero, i.size, i.bytes)) = some (some (.slice none 0 0), 1, 24) := by kernel_rfl
theorem own_slice {w : World} {base : Nat} {e : TypeId} {size n : Nat} {v : Value} {xs : List Value} (h : w.ownsRow base e size v n xs) : ∃ A c, v = .slice A n c := by
  rcases h.2 with ⟨rfl, h0⟩ | ⟨g, cap, cur, rfl, _⟩
  · subst h0; exact ⟨none, 0, rfl⟩
  · exact ⟨_, cap, rfl⟩
end Go.Proofs.Ytmdjgidbfcfdnaa

namespace Go.Proofs.Ytmdjgidbfcfdnaa
namespace Cb

/-- how many numbers stand ahead of the first 0 -/
def nz : List Int → Nat
  | [] => 0
  | z :: r => if z = 0 then 0 else nz r + 1
def NZ (b : List Int) : Prop := ∀ c ∈ b, c ≠ 0
theorem nz_le (l : List Int) : nz l ≤ l.length := by
  induction l with
  | nil => simp [nz]
  | cons z r ih => simp only [nz, List.length_cons]; split <;> omega
theorem nz_take (l : List Int) : NZ (l.take (nz l)) := by
  induction l with
  | nil => intro c hc; simp at hc
  | cons z r ih =>
    simp only [nz]
    split
    · intro c hc; simp at hc
    · rename_i h
      rw [List.take_succ_cons]
      intro c hc
      rcases List.mem_cons.1 hc with rfl | hc
      · exact h
      · exact ih c hc
theorem nz_at (l : List Int) (h : nz l < l.length) : l[nz l]? = some 0 := by
  induction l with
  | nil => simp at h
  | cons z r ih =>
    simp only [nz] at h ⊢
    split
    · rename_i h0; simp [h0]
    · rename_i h0
      rw [if_neg h0] at h
      rw [List.getElem?_cons_succ]
      exact ih (by simp only [List.length_cons] at h; omega)
theorem nz_all {b : List Int} (h : NZ b) : nz b = b.length := by
  induction b with
  | nil => rfl
  | cons z r ih =>
    simp only [nz, List.length_cons]
    rw [if_neg (h z (by simp)), ih fun c hc => h c (by simp [hc])]
theorem nz_nought {b r : List Int} (h : NZ b) : nz (b ++ 0 :: r) = b.length := by
  induction b with
  | nil => simp [nz]
  | cons z r ih =>
    simp only [nz, List.length_cons, List.cons_append]
    rw [if_neg (h z (by simp)), ih fun c hc => h c (by simp [hc])]
theorem NZ.append {x y : List Int} (hx : NZ x) (hy : NZ y) : NZ (x ++ y) := fun c hc => by
  rcases List.mem_append.1 hc with h | h
  · exact hx c h
  · exact hy c h
theorem NZ.take {x : List Int} (h : NZ x) (n : Nat) : NZ (x.take n) := fun c hc => h c (List.mem_of_mem_take hc)

/-- how many bytes the first block has -/
def fst (l : List Int) : Nat := nz (l.take 254)
theorem fst_le (l : List Int) : fst l ≤ l.length := by have := nz_le (l.take 254); rw [List.length_take] at this; unfold fst; omega
theorem fst_254 (l : List Int) : fst l ≤ 254 := by have := nz_le (l.take 254); rw [List.length_take] at this; unfold fst; omega
theorem fst_nz (l : List Int) : NZ (l.take (fst l)) := by
  have := nz_take (l.take 254)
  rw [List.take_take] at this
  rw [show min (nz (l.take 254)) 254 = fst l from Nat.min_eq_left (fst_254 l)] at this
  exact this
theorem fst_at (l : List Int) (h : fst l < 254) (h2 : fst l < l.length) : l[fst l]? = some 0 := by
  have := nz_at (l.take 254) (by rw [List.length_take]; have : nz (l.take 254) = fst l := rfl; omega)
  rw [List.getElem?_take] at this
  rw [show nz (l.take 254) = fst l from rfl, if_pos h] at this
  exact this
theorem fst_last {b : List Int} (h : NZ b) (hl : b.length ≤ 254) : fst b = b.length := by
  unfold fst; rw [List.take_of_length_le hl]; exact nz_all h
theorem fst_nought {b r : List Int} (h : NZ b) (hl : b.length < 254) : fst (b ++ 0 :: r) = b.length := by
  unfold fst
  have e : (b ++ 0 :: r).take 254 = b ++ 0 :: r.take (253 - b.length) := by
    rw [List.take_append, List.take_of_length_le (by omega), show 254 - b.length = (253 - b.length) + 1 by omega, List.take_succ_cons]
  rw [e]; exact nz_nought h
theorem fst_full {b r : List Int} (h : NZ b) (hl : b.length = 254) : fst (b ++ r) = 254 := by
  unfold fst
  have e : (b ++ r).take 254 = b := by rw [← hl]; simp
  rw [e, nz_all h, hl]

/-- the blocks of bytes -/
def blocks (l : List Int) : List (List Int) :=
  if h : l.drop (fst l) = [] then [l.take (fst l)]
  else if h2 : fst l < 254 then l.take (fst l) :: blocks (l.drop (fst l + 1))
  else l.take (fst l) :: blocks (l.drop (fst l))
termination_by l.length
decreasing_by
  · have h3 : fst l < l.length := by
      rcases Nat.lt_or_ge (fst l) l.length with h' | h'
      · exact h'
      · exact absurd (List.drop_eq_nil_of_le h') h
    rw [List.length_drop]; omega
  · have h3 : fst l < l.length := by
      rcases Nat.lt_or_ge (fst l) l.length with h' | h'
      · exact h'
      · exact absurd (List.drop_eq_nil_of_le h') h
    rw [List.length_drop]; omega
theorem blocks_end {l : List Int} (h : l.length ≤ fst l) : blocks l = [l.take (fst l)] := by
  rw [blocks, dif_pos (List.drop_eq_nil_of_le h)]
theorem drop_ne {l : List Int} {n : Nat} (h : n < l.length) : l.drop n ≠ [] := fun e => by
  have := congrArg List.length e; rw [List.length_drop] at this; simp at this; omega
theorem blocks_short {l : List Int} (h : fst l < l.length) (h2 : fst l < 254) : blocks l = l.take (fst l) :: blocks (l.drop (fst l + 1)) := by
  rw [blocks, dif_neg (drop_ne h), dif_pos h2]
theorem blocks_long {l : List Int} (h : fst l < l.length) (h2 : ¬ fst l < 254) : blocks l = l.take (fst l) :: blocks (l.drop (fst l)) := by
  rw [blocks, dif_neg (drop_ne h), dif_neg h2]
theorem blocks_last {b : List Int} (h : NZ b) (hl : b.length ≤ 254) : blocks b = [b] := by
  rw [blocks_end (by rw [fst_last h hl]; exact Nat.le_refl _), fst_last h hl, List.take_length]
theorem blocks_nought {b r : List Int} (h : NZ b) (hl : b.length < 254) : blocks (b ++ 0 :: r) = b :: blocks r := by
  have e := fst_nought (r := r) h hl
  rw [blocks_short (by rw [e]; simp) (by rw [e]; exact hl), e]
  congr 1
  · simp
  · congr 1
    rw [List.drop_append]
    simp
theorem blocks_full {b r : List Int} (h : NZ b) (hl : b.length = 254) (hr : r ≠ []) : blocks (b ++ r) = b :: blocks r := by
  have e := fst_full (r := r) h hl
  have hp : 0 < r.length := List.length_pos_iff.2 hr
  rw [blocks_long (by rw [e, List.length_append]; omega) (by rw [e]; omega), e, ← hl]
  congr 1
  · simp
  · congr 1
    simp
/-- bytes are one block; or one, a 0, and others; or one of 254 and others -/
theorem shape (l : List Int) : (NZ l ∧ l.length ≤ 254) ∨ (∃ b r, NZ b ∧ b.length < 254 ∧ l = b ++ 0 :: r) ∨ (∃ b r, NZ b ∧ b.length = 254 ∧ r ≠ [] ∧ l = b ++ r) := by
  have h1 := fst_nz l
  have h2 := fst_254 l
  have h3 := fst_le l
  rcases Nat.lt_or_ge (fst l) l.length with h | h
  · by_cases h4 : fst l < 254
    · have h5 := fst_at l h4 h
      refine .inr (.inl ⟨l.take (fst l), l.drop (fst l + 1), h1, by rw [List.length_take]; omega, ?_⟩)
      rw [List.getElem?_eq_getElem h] at h5
      injection h5 with h5
      rw [← h5, List.getElem_cons_drop, List.take_append_drop]
    · exact .inr (.inr ⟨l.take (fst l), l.drop (fst l), h1, by rw [List.length_take]; omega, drop_ne h, (List.take_append_drop _ _).symm⟩)
  · rw [List.take_of_length_le h] at h1
    exact .inl ⟨h1, by omega⟩

/-- a block, stuffed -/
def one (b : List Int) : List Int := ((b.length + 1 : Nat) : Int) :: b
/-- bytes, stuffed -/
def join (bs : List (List Int)) : List Int := bs.flatMap one
def enc (l : List Int) : List Int := join (blocks l)
theorem join_append (a b : List (List Int)) : join (a ++ b) = join a ++ join b := by simp [join]
theorem enc_last {b : List Int} (h : NZ b) (hl : b.length ≤ 254) : enc b = one b := by simp [enc, join, blocks_last h hl]
theorem enc_nought {b r : List Int} (h : NZ b) (hl : b.length < 254) : enc (b ++ 0 :: r) = one b ++ enc r := by simp [enc, join, blocks_nought h hl]
theorem enc_full {b r : List Int} (h : NZ b) (hl : b.length = 254) (hr : r ≠ []) : enc (b ++ r) = one b ++ enc r := by simp [enc, join, blocks_full h hl hr]
theorem one_len (b : List Int) : (one b).length = b.length + 1 := rfl

/-- an induction along the blocks -/
theorem along {p : List Int → Prop} (h1 : ∀ b, NZ b → b.length ≤ 254 → p b) (h2 : ∀ b r, NZ b → b.length < 254 → p r → p (b ++ 0 :: r)) (h3 : ∀ b r, NZ b → b.length = 254 → r ≠ [] → p r → p (b ++ r)) (l : List Int) : p l := by
  suffices H : ∀ n (l : List Int), l.length ≤ n → p l from H l.length l (Nat.le_refl _)
  intro n
  induction n with
  | zero =>
    intro l hl
    obtain rfl : l = [] := List.length_eq_zero_iff.1 (by omega)
    exact h1 [] (fun c hc => by simp at hc) (by simp)
  | succ n ih =>
    intro l hl
    rcases shape l with ⟨ha, hb⟩ | ⟨b, r, ha, hb, rfl⟩ | ⟨b, r, ha, hb, hc, rfl⟩
    · exact h1 l ha hb
    · exact h2 b r ha hb (ih r (by simp only [List.length_append, List.length_cons] at hl; omega))
    · exact h3 b r ha hb hc (ih r (by simp only [List.length_append] at hl; omega))

theorem one_nz {b : List Int} (h : NZ b) : NZ (one b) := fun c hc => by
  rcases List.mem_cons.1 hc with rfl | hc
  · omega
  · exact h c hc
/-- what is stuffed has no 0 -/
theorem enc_nz (l : List Int) : NZ (enc l) := by
  refine along (p := fun l => NZ (enc l)) ?_ ?_ ?_ l
  · intro b h hl; rw [enc_last h hl]; exact one_nz h
  · intro b r h hl ih; rw [enc_nought h hl]; exact (one_nz h).append ih
  · intro b r h hl hr ih; rw [enc_full h hl hr]; exact (one_nz h).append ih
theorem enc_ne (l : List Int) : enc l ≠ [] := by
  rcases shape l with ⟨ha, hb⟩ | ⟨b, r, ha, hb, rfl⟩ | ⟨b, r, ha, hb, hc, rfl⟩
  · rw [enc_last ha hb]; simp [one]
  · rw [enc_nought ha hb]; simp [one]
  · rw [enc_full ha hb hc]; simp [one]
/-- how many bytes there are, stuffed -/
theorem enc_len (l : List Int) : l.length + 1 ≤ (enc l).length ∧ (enc l).length ≤ l.length + max 1 ((l.length + 253) / 254) ∧ (l.length ≤ 254 → (enc l).length = l.length + 1) ∧ (NZ l → (enc l).length = l.length + max 1 ((l.length + 253) / 254)) := by
  refine along (p := fun l => l.length + 1 ≤ (enc l).length ∧ (enc l).length ≤ l.length + max 1 ((l.length + 253) / 254) ∧ (l.length ≤ 254 → (enc l).length = l.length + 1) ∧ (NZ l → (enc l).length = l.length + max 1 ((l.length + 253) / 254))) ?_ ?_ ?_ l
  · intro b h hl
    rw [enc_last h hl, one_len]
    refine ⟨by omega, by omega, fun _ => rfl, fun _ => by omega⟩
  · intro b r h hl ⟨i1, i2, i3, _⟩
    rw [enc_nought h hl]
    simp only [List.length_append, List.length_cons, one_len] at *
    refine ⟨by omega, by omega, fun hh => by have := i3 (by omega); omega, fun hn => absurd rfl (hn 0 (by simp))⟩
  · intro b r h hl hr ⟨i1, i2, i3, i4⟩
    have hp : 0 < r.length := List.length_pos_iff.2 hr
    rw [enc_full h hl hr]
    simp only [List.length_append, one_len] at *
    refine ⟨by omega, by omega, fun hh => by omega, fun hn => ?_⟩
    have := i4 fun c hc => hn c (by simp [hc])
    omega
theorem enc_bytes {l : List Int} (h : ∀ z ∈ l, 0 ≤ z ∧ z < 256) : ∀ z ∈ enc l, 0 ≤ z ∧ z < 256 := by
  have ho : ∀ b : List Int, b.length ≤ 254 → (∀ z ∈ b, 0 ≤ z ∧ z < 256) → ∀ z ∈ one b, 0 ≤ z ∧ z < 256 := by
    intro b hl hb z hz
    rcases List.mem_cons.1 hz with rfl | hz
    · omega
    · exact hb z hz
  revert h
  refine along (p := fun l => (∀ z ∈ l, 0 ≤ z ∧ z < 256) → ∀ z ∈ enc l, 0 ≤ z ∧ z < 256) ?_ ?_ ?_ l
  · intro b h hl hb; rw [enc_last h hl]; exact ho b hl hb
  · intro b r h hl ih hb z hz
    rw [enc_nought h hl] at hz
    rcases List.mem_append.1 hz with hz | hz
    · exact ho b (by omega) (fun z hz => hb z (by simp [hz])) z hz
    · exact ih (fun z hz => hb z (by simp [hz])) z hz
  · intro b r h hl hr ih hb z hz
    rw [enc_full h hl hr] at hz
    rcases List.mem_append.1 hz with hz | hz
    · exact ho b (by omega) (fun z hz => hb z (by simp [hz])) z hz
    · exact ih (fun z hz => hb z (by simp [hz])) z hz

/-! ### decoding, as the program goes -/
/-- what is ahead has been decoded, and its last block has been full or not: what is behind -/
def dec (full : Bool) (s : List Int) : Option (List Int) :=
  match s with
  | [] => none
  | c :: r =>
    if c ≤ 0 ∨ (r.length : Int) + 1 < c then none
    else if nz (r.take (c.toNat - 1)) < c.toNat - 1 then none
    else if r.length ≤ c.toNat - 1 then (if full = true ∧ c.toNat - 1 = 0 then none else some (r.take (c.toNat - 1)))
    else (dec (decide (c.toNat - 1 = 254)) (r.drop (c.toNat - 1))).map fun x => r.take (c.toNat - 1) ++ (if c.toNat - 1 = 254 then x else 0 :: x)
termination_by s.length
decreasing_by
  simp only [List.length_drop, List.length_cons]
  omega

theorem dec_nil (f : Bool) : dec f [] = none := by rw [dec]
theorem dec_bad {f : Bool} {c : Int} {r : List Int} (h : c ≤ 0 ∨ (r.length : Int) + 1 < c) : dec f (c :: r) = none := by rw [dec, if_pos h]
/-- a code of n bytes, n no more than there are -/
theorem dec_zero {f : Bool} {n : Nat} {r : List Int} (h : n ≤ r.length) (hz : nz (r.take n) < n) : dec f (((n + 1 : Nat) : Int) :: r) = none := by
  rw [dec, if_neg (by omega), if_pos (by simpa using hz)]
theorem dec_last {f : Bool} {n : Nat} {r : List Int} (h : n = r.length) (hz : n ≤ nz (r.take n)) : dec f (((n + 1 : Nat) : Int) :: r) = if f = true ∧ n = 0 then none else some (r.take n) := by
  rw [dec, if_neg (by omega), if_neg (by simpa using hz), if_pos (by simp; omega)]
  simp
theorem dec_more {f : Bool} {n : Nat} {r : List Int} (h : n < r.length) (hz : n ≤ nz (r.take n)) : dec f (((n + 1 : Nat) : Int) :: r) = (dec (decide (n = 254)) (r.drop n)).map fun x => r.take n ++ (if n = 254 then x else 0 :: x) := by
  rw [dec, if_neg (by omega), if_neg (by simpa using hz), if_neg (by simp; omega)]
  simp
/-- a block, and what is behind -/
theorem dec_one {f : Bool} {b s : List Int} (hb : NZ b) (hs : s ≠ []) : dec f (one b ++ s) = (dec (decide (b.length = 254)) s).map fun x => b ++ (if b.length = 254 then x else 0 :: x) := by
  have hp : 0 < s.length := List.length_pos_iff.2 hs
  have h := dec_more (f := f) (n := b.length) (r := b ++ s) (by simp; omega) (by simp [nz_all hb])
  simpa [one] using h
theorem dec_end {f : Bool} {b : List Int} (hb : NZ b) : dec f (one b) = if f = true ∧ b.length = 0 then none else some b := by
  have h := dec_last (f := f) (n := b.length) (r := b) rfl (by simp [nz_all hb])
  simpa [one] using h
theorem dec_enc (l : List Int) : ∀ f : Bool, (f = true → l ≠ []) → dec f (enc l) = some l := by
  refine along (p := fun l => ∀ f : Bool, (f = true → l ≠ []) → dec f (enc l) = some l) ?_ ?_ ?_ l
  · intro b h hl f hf
    rw [enc_last h hl, dec_end h, if_neg]
    rintro ⟨h1, h2⟩
    exact hf h1 (List.length_eq_zero_iff.1 h2)
  · intro b r h hl ih f hf
    rw [enc_nought h hl, dec_one h (enc_ne r), ih _ (by simp; omega)]
    simp
    omega
  · intro b r h hl hr ih f hf
    rw [enc_full h hl hr, dec_one h (enc_ne r), ih _ (fun _ => hr)]
    simp [hl]
theorem NZ_of_nz {l : List Int} {n : Nat} (h : n ≤ nz (l.take n)) : NZ (l.take n) := by
  have h1 := nz_take (l.take n)
  rw [List.take_take, Nat.min_eq_right h] at h1
  exact h1
theorem enc_dec : ∀ (n : Nat) (s : List Int) (f : Bool) (x : List Int), s.length ≤ n → (∀ z ∈ s, z < 256) → dec f s = some x → enc x = s ∧ (f = true → x ≠ []) := by
  intro n
  induction n with
  | zero =>
    intro s f x hl _ h
    obtain rfl : s = [] := List.length_eq_zero_iff.1 (by omega)
    rw [dec_nil] at h; simp at h
  | succ n ih =>
    intro s f x hl hb h
    cases s with
    | nil => rw [dec_nil] at h; simp at h
    | cons c r =>
      by_cases h1 : c ≤ 0 ∨ (r.length : Int) + 1 < c
      · rw [dec_bad h1] at h; simp at h
      · obtain ⟨m, rfl⟩ : ∃ m : Nat, c = ((m + 1 : Nat) : Int) := ⟨(c - 1).toNat, by omega⟩
        have hm := hb ((m + 1 : Nat) : Int) (by simp)
        have hmr : m ≤ r.length := by omega
        by_cases h2 : nz (r.take m) < m
        · rw [dec_zero hmr h2] at h; simp at h
        · have hN : NZ (r.take m) := NZ_of_nz (by omega)
          have hlen : (r.take m).length = m := by rw [List.length_take]; omega
          have hone : one (r.take m) = ((m + 1 : Nat) : Int) :: r.take m := by rw [one, hlen]
          rcases Nat.lt_or_ge m r.length with h3 | h3
          · rw [dec_more h3 (by omega)] at h
            obtain ⟨y, hy, rfl⟩ := Option.map_eq_some_iff.1 h
            obtain ⟨i1, i2⟩ := ih _ _ _ (by simp only [List.length_drop, List.length_cons] at *; omega) (fun z hz => hb z (List.mem_cons_of_mem _ (List.mem_of_mem_drop hz))) hy
            by_cases h4 : m = 254
            · rw [if_pos h4, enc_full hN (by omega) (i2 (by simp [h4])), i1, hone, List.cons_append, List.take_append_drop]
              refine ⟨rfl, fun _ e => ?_⟩
              have := congrArg List.length e
              rw [List.length_append] at this
              simp only [List.length_nil] at this
              omega
            · rw [if_neg h4, enc_nought hN (by omega), i1, hone, List.cons_append, List.take_append_drop]
              exact ⟨rfl, fun _ e => by simp at e⟩
          · rw [dec_last (by omega) (by omega)] at h
            split at h
            · simp at h
            · rename_i h5
              injection h with h
              subst h
              rw [enc_last hN (by omega), hone]
              have e : r.take m = r := List.take_of_length_le h3
              rw [e] at hlen ⊢
              refine ⟨rfl, fun h6 h7 => h5 ⟨h6, ?_⟩⟩
              rw [h7] at hlen
              simpa using hlen.symm
/-- of which bytes these are the stuffed ones, if of some -/
theorem dec_iff {s x : List Int} (hb : ∀ z ∈ s, z < 256) : dec false s = some x ↔ enc x = s :=
  ⟨fun h => (enc_dec s.length s false x (Nat.le_refl _) hb h).1, fun h => by rw [← h]; exact dec_enc x false (by simp)⟩
theorem enc_inj {x y : List Int} (h : enc x = enc y) : x = y := by
  have h1 := dec_enc x false (by simp)
  rw [h, dec_enc y false (by simp)] at h1
  exact (Option.some.inj h1).symm

/-! ### blocks, as the document's answer goes -/
/-- what is left of the blocks, N the block that is open -/
def rem (e : Bool) (l : List Int) : List (List Int) := if e = true ∧ l = [] then [] else blocks l
theorem rem_false (l : List Int) : rem false l = blocks l := by simp [rem]
theorem rem_cons (e : Bool) (l : List Int) (h : l ≠ []) : rem e l = blocks l := by simp [rem, h]
theorem rem_full {b r : List Int} (h : NZ b) (hl : b.length = 254) : blocks (b ++ r) = b :: rem true r := by
  by_cases hr : r = []
  · subst hr
    simp [rem, blocks_last h (by omega : b.length ≤ 254)]
  · rw [blocks_full h hl hr, rem_cons _ _ hr]

/-! ### decoding, as the document's answer goes -/
/-- at a place of stuffed bytes: what has been decoded, and what is left; behind a block of 254 something is left -/
def At (x out rest : List Int) : Prop := x = out ++ rest
end Cb
end Go.Proofs.Ytmdjgidbfcfdnaa

namespace Go.Proofs.Ytmdjgidbfcfdnaa
open Go.RowKit
set_option maxRecDepth 100000

/-- the place of the first 0, or -1 -/
def idx (zs : List Int) : Int := if Cb.nz zs < zs.length then (Cb.nz zs : Int) else -1
theorem lib_index (zs : List Int) (hz : Bytes zs) : Lib.indexByte (Lib.bytesOf zs) 0 = idx zs := by
  induction zs with
  | nil => rfl
  | cons z r ih =>
    have hr := ih fun c hc => hz c (by simp [hc])
    have hb := hz z (by simp)
    have hc : Lib.bytesOf (z :: r) = z.toNat.toUInt8 :: Lib.bytesOf r := rfl
    rw [hc, Lib.indexByte, hr]
    by_cases h0 : z = 0
    · subst h0
      simp [idx, Cb.nz]
    · have h1 : (z.toNat.toUInt8 == (0 : UInt8)) = false := by
        rw [beq_eq_false_iff_ne]
        intro e
        have e2 := congrArg UInt8.toNat e
        have : z.toNat.toUInt8.toNat = z.toNat % 256 := by simp [Nat.toUInt8]
        rw [this] at e2
        have e3 : (0 : UInt8).toNat = 0 := rfl
        rw [e3] at e2
        omega
      rw [h1]
      by_cases h2 : Cb.nz r < r.length
      · have e1 : idx r = (Cb.nz r : Int) := by unfold idx; rw [if_pos h2]
        have e2 : idx (z :: r) = ((Cb.nz r + 1 : Nat) : Int) := by unfold idx; rw [Cb.nz, if_neg h0, List.length_cons, if_pos (by omega)]
        have e3 : ((Cb.nz r : Int) == -1) = false := by rw [beq_eq_false_iff_ne]; omega
        rw [e1, e2, e3]
        simp
      · have e1 : idx r = -1 := by unfold idx; rw [if_neg h2]
        have e2 : idx (z :: r) = -1 := by unfold idx; rw [Cb.nz, if_neg h0, List.length_cons, if_neg (by omega)]
        rw [e1, e2]
        simp

theorem index_run (P : Program) (B : Nat) (a : Option Addr) (n c : Nat) (zs : List Int) (w : World) (hn : zs.length = n) (hz : Bytes zs) (h1 : Nums .u8 w B a zs) :
    (Extern.BytealgIndexByte.indexByte #[.slice a n c, .int .u8 0]).run P w = .ok (.int .i64 (idx zs)) w := by
  subst hn
  by_cases h0 : zs = []
  · subst h0
    cases a with
    | none => exact Lib.run_indexByteNil w 0 c 0
    | some x =>
      have hs := Lib.run_indexByteString (P := P) .empty 0 w
      exact hs
  · obtain ⟨b, o, rfl, _, hc⟩ := h1 h0
    have h := Lib.run_indexByteSlice (P := P) w b o zs.length c zs rfl (fun i hi => by
      rw [hc i zs[i] (List.getElem?_eq_getElem hi)]
      simp [List.getElem?_eq_getElem hi]) 0
    rw [← lib_index zs hz]
    exact h

end Go.Proofs.Ytmdjgidbfcfdnaa

namespace Go.Proofs.Ytmdjgidbfcfdnaa
open Go.RowKit
set_option maxRecDepth 100000

end Go.Proofs.Ytmdjgidbfcfdnaa

namespace Go.Proofs.Ytmdjgidbfcfdnaa
open Go.RowKit Go.Shelf
set_option maxRecDepth 100000
attribute [local go_sem] Oper.semAt_some

/-- a block as the closure hands it on: where it lies, its bytes -/
abbrev Blk (w : World) (S : Nat → Prop) := { x : Option Addr × List Int // NumsS .u8 w S x.1 x.2 ∧ Bytes x.2 ∧ x.2.length ≤ 254 }
section
variable {w : World} {S : Nat → Prop}
def bbare (l : List (Blk w S)) : List (List Int) := l.map fun x => x.1.2
theorem bbare_append (a b : List (Blk w S)) : bbare (a ++ b) = bbare a ++ bbare b := by simp [bbare]
theorem bbare_length (a : List (Blk w S)) : (bbare a).length = a.length := by simp [bbare]
def bargs (x : Blk w S) : Array Value := #[Value.slice x.1.1 x.1.2.length x.1.2.length]
end
def sliceLen : Value → Nat
  | .slice _ n _ => n
  | _ => 0

end Go.Proofs.Ytmdjgidbfcfdnaa

namespace Go.Proofs.Ytmdjgidbfcfdnaa
open Go.RowKit Go.Shelf
set_option maxRecDepth 100000
attribute [local go_sem] Oper.semAt_some

/-! ### only one block has turned -/
theorem ownFrom_grown {β : Type} {B : Nat} {w0 : World} {row : Nat} (hB : B = w0.heap.size) : OwnFrom B (fun (_ : β) W => w0.grownBy W (some row)) := by
  subst hB
  intro _ W W' r hs hg hr
  refine ⟨hg.os.trans hs.os, hg.tape.trans hs.tape, hg.output.trans hs.output, Nat.le_trans hs.size hg.size, fun k hk hne => ?_⟩
  refine (hg.block k (Nat.lt_of_lt_of_le hk hs.size) (fun e => ?_)).trans (hs.block k hk hne)
  have := (hr k e.symm).1
  omega
theorem grown_boxed {w0 W : World} {row b : Nat} {t : TypeId} {v : Value} (h : w0.grownBy W (some row)) (hb : Boxed w0 b t v) (hne : b ≠ row) : Boxed W b t v := hb.kept h (fun e => by injection e with e; exact hne e)
theorem grown_below {w0 W : World} {row B : Nat} (h : w0.grownBy W (some row)) (hB : B ≤ w0.heap.size) (hr : B ≤ row) : Below B w0 W := (Below.refl B w0).grown h hB (fun k e => by injection e with e; omega)
theorem grown_set {w0 W : World} {row : Nat} (h : w0.grownBy W (some row)) (v : Value) : w0.grownBy (W.setCell ⟨row, 0, none⟩ v) (some row) :=
  ⟨h.os, h.tape, h.output, by simpa [World.setCell] using h.size, fun k hk hne => (Below.heap_setCell W ⟨row, 0, none⟩ v k (fun e => hne (by simp at e; rw [e]))).trans (h.block k hk hne)⟩

theorem join_size (bs : List (List Int)) (b : List Int) : (Cb.join (bs ++ [b])).length = (Cb.join bs).length + (1 + b.length) := by
  rw [Cb.join_append, List.length_append]
  simp [Cb.join, Cb.one]
  omega
theorem join_most {w : World} {S : Nat → Prop} (pre : List (Blk w S)) : (Cb.join (bbare pre)).length ≤ 255 * pre.length := by
  induction pre with
  | nil => simp [bbare, Cb.join]
  | cons x pre ih =>
    have h : (Cb.join (bbare (x :: pre))).length = (x.1.2.length + 1) + (Cb.join (bbare pre)).length := by simp [bbare, Cb.join, Cb.one]; omega
    have hx := x.2.2.2
    rw [h, List.length_cons]
    omega
theorem blocks_most (bs : List (List Int)) : bs.length ≤ (Cb.join bs).length := by
  induction bs with
  | nil => simp
  | cons b bs ih =>
    have h : (Cb.join (b :: bs)).length = (b.length + 1) + (Cb.join bs).length := by simp [Cb.join, Cb.one]; omega
    rw [h, List.length_cons]
    omega
theorem blocks_many (zs : List Int) : (Cb.blocks zs).length ≤ 2 * zs.length + 1 := by
  have h1 := blocks_most (Cb.blocks zs)
  have h2 := (Cb.enc_len zs).2.1
  have h3 : Cb.join (Cb.blocks zs) = Cb.enc zs := rfl
  rw [h3] at h1
  omega

end Go.Proofs.Ytmdjgidbfcfdnaa

namespace Go.Proofs.Ytmdjgidbfcfdnaa
open Go.RowKit

theorem wpList_append_any {P : Program} {w : World} {ops : Array Oper} {rest : List Oper} {o : Oper} {a : Act} {Q : Exit → Act → World → Prop} (hwt : Region.wanted o (yielded ops a.tmps) = true) (s x : Operand) (t : TypeId)
    (ho : o.op = .call { callee := .builtin .append, args := #[s, x], argTypes := #[t, t] })
    (base : Nat) (e : TypeId) (i : TypeInfo) (z : Value) (bytes : Nat) (ht : P.underlying t = some (.slice e)) (hi : P.info? e = some i) (hz : i.zero = some z) (hsize : i.size = 1) (hby : i.bytes = bytes) (hzs : z.cells.size = 1)
    (k : IntKind) (L zs : List Int) (v : Value) (hs : a.eval s = v) (hown : w.ownsRow base e 1 v L.length (L.map (Value.int k))) (A : Option Addr) (m c B : Nat) (hx : a.eval x = .slice A m c) (hm : zs.length = m) (hn : Nums k w B A zs)
    (h63 : L.length + m ≤ maxLen) (hbytes : (L.length + m) * bytes ≤ 140737488355328) (hbase : base ≤ w.heap.size)
    (h : ∀ v' w', w'.ownsRow base e 1 v' (L.length + zs.length) (L.map (Value.int k) ++ zs.map (Value.int k)) → w.grownBy w' v.ownBlock → wpList P ops Q rest (a.put o.dst v') w') : wpList P ops Q (o :: rest) a w := by
  subst hm
  simp only [wpList, hwt, if_true]
  left
  by_cases hz0 : zs = []
  · subst hz0
    have hv : ∃ b n cap, v = .slice b n cap ∧ n ≤ cap := by
      rcases hown.2 with ⟨rfl, _⟩ | ⟨g, cap, cur, rfl, _, _, hle, _⟩
      · exact ⟨_, _, _, rfl, Nat.le_refl _⟩
      · exact ⟨_, _, _, rfl, hle⟩
    obtain ⟨b, n, cap, rfl, hle⟩ := hv
    refine Lib.wp_append_run w s x t t ho _ _ hs hx _ w (run_append_nothing w t t o.type e i ht hi b n cap hle _ ?_) (h _ _ (by simpa using hown) ⟨rfl, rfl, rfl, Nat.le_refl _, fun _ _ _ => rfl⟩)
    cases A with
    | none => exact ⟨.inl ⟨e, ht⟩, fun _ => rfl, run_firstCells_none w i.size 0 0 c, run_firstCells_none w.drew i.size 0 0 c, by simp, fun _ h => by cases h⟩
    | some ad => exact Src.ofSlice w ht ad 0 c [] (by simp) (by simp) (fun _ h => by cases h)
  · obtain ⟨b1, o1, rfl, hb1, hc⟩ := hn hz0
    refine wp_append_own w s x t ho base e i z 1 bytes ht hi hz hsize hby hzs (by decide) v L.length _ hs hown ⟨b1, o1, none⟩ zs.length c (zs.map (Value.int k)) hx (by simp) (fun j u hj => ?_) (fun u hu => by obtain ⟨y, _, rfl⟩ := List.mem_map.1 hu; rfl) h63 hbytes hbase fun v' w' h1 h2 _ => h v' w' h1 h2
    rw [List.getElem?_map] at hj
    obtain ⟨y, hy, rfl⟩ := Option.map_eq_some_iff.1 hj
    rw [Addr.add_lit]
    exact hc j y hy

section
variable {e : TypeId} {k : IntKind} {w w1 w2 : World} {L zs : List Int} {v v' : Value}
theorem MadeK.more (h : MadeK e k w w1 L v) (hown : w2.ownsRow w.heap.size e 1 v' (L.length + zs.length) (L.map (Value.int k) ++ zs.map (Value.int k))) (hg : w1.grownBy w2 v.ownBlock) : MadeK e k w w2 (L ++ zs) v' :=
  ⟨by simpa using hown, h.2.grown hg (by have := h.2.size; omega) (fun g hk => (h.own_ge hk).1)⟩
/-- an empty literal -/
theorem MadeK.lit (e : TypeId) (k : IntKind) (h : Below w.heap.size w w1) : MadeK e k w (w1.alloc (.cells #[] e)) [] (.slice (some ⟨w1.heap.size, 0, none⟩) 0 0) :=
  ⟨World.ownsRow_made w1 #[] 0 h.size (Nat.zero_le _) rfl, h.alloc h.size _⟩
theorem MadeK.lit' {s : Nat} (e : TypeId) (k : IntKind) (hs : w1.heap.size = s) (h : Below w.heap.size w w1) : MadeK e k w (w1.alloc (.cells #[] e)) [] (.slice (some ⟨s, 0, none⟩) 0 0) := by
  subst hs; exact MadeK.lit e k h
/-- a store elsewhere, above -/
theorem MadeK.store {q : Addr} (h : MadeK e k w w1 L v) (hq : ∀ g, v.ownBlock = some g → g ≠ q.block) (hw : w.heap.size ≤ q.block) (u : Value) : MadeK e k w (w1.setCell q u) L v := by
  refine ⟨h.1.kept (row := some q.block) ⟨rfl, rfl, rfl, by simp [World.setCell], fun j _ hj => Below.heap_setCell _ _ _ _ (fun e => hj (by rw [e]))⟩ ?_, h.2.setCell hw u⟩
  right
  intro he
  exact hq _ he rfl
theorem MadeK.since {w0 : World} (h : MadeK e k w w1 L v) (hb : Below w0.heap.size w0 w) : MadeK e k w0 w1 L v := by
  have hs := hb.size
  refine ⟨⟨h.1.1, ?_⟩, hb.trans (h.2.mono hs)⟩
  rcases h.1.2 with h | ⟨g, cap, cur, hv, hg, rest⟩
  · exact .inl h
  · exact .inr ⟨g, cap, cur, hv, by omega, rest⟩
/-- the block of what was made -/
theorem MadeK.ge {A : Option Addr} {n c : Nat} (h : MadeK e k w w1 L (.slice A n c)) {q : Nat} (hq : blockOf A q) : w.heap.size ≤ q := by
  obtain ⟨o, s, rfl⟩ := hq
  exact (h.own_ge (g := q) rfl).1
end
end Go.Proofs.Ytmdjgidbfcfdnaa

namespace Go.Proofs.Ytmdjgidbfcfdnaa
open Go.RowKit

theorem run_append_any {P : Program} {w : World} (t ty : TypeId) (base : Nat) (e : TypeId) (i : TypeInfo) (z : Value) (bytes : Nat) (ht : P.underlying t = some (.slice e)) (hi : P.info? e = some i) (hz : i.zero = some z) (hsize : i.size = 1) (hby : i.bytes = bytes) (hzs : z.cells.size = 1)
    (k : IntKind) (n : Nat) (xs : List Value) (zs : List Int) (v : Value) (hown : w.ownsRow base e 1 v n xs) (A : Option Addr) (m c B : Nat) (hm : zs.length = m) (hn : Nums k w B A zs)
    (h63 : n + m ≤ maxLen) (hbytes : (n + m) * bytes ≤ 140737488355328) (hbase : base ≤ w.heap.size) :
    ∃ v' w', (Builtin.append_ #[t, t] ty #[v, .slice A m c]).run P w = .ok v' w' ∧ w'.ownsRow base e 1 v' (n + m) (xs ++ zs.map (Value.int k)) ∧ w.grownBy w' v.ownBlock := by
  subst hm
  by_cases hz0 : zs = []
  · subst hz0
    have hv : ∃ b n cap, v = .slice b n cap ∧ n ≤ cap := by
      rcases hown.2 with ⟨rfl, _⟩ | ⟨g, cap, cur, rfl, _, _, hle, _⟩
      · exact ⟨_, _, _, rfl, Nat.le_refl _⟩
      · exact ⟨_, _, _, rfl, hle⟩
    obtain ⟨b, q, cap, rfl, hle⟩ := hv
    refine ⟨_, _, run_append_nothing w t t ty e i ht hi b q cap hle _ ?_, by simpa using hown, ⟨rfl, rfl, rfl, Nat.le_refl _, fun _ _ _ => rfl⟩⟩
    cases A with
    | none => exact ⟨.inl ⟨e, ht⟩, fun _ => rfl, run_firstCells_none w i.size 0 0 c, run_firstCells_none w.drew i.size 0 0 c, by simp, fun _ h => by cases h⟩
    | some ad => exact Src.ofSlice w ht ad 0 c [] (by simp) (by simp) (fun _ h => by cases h)
  · obtain ⟨b1, o1, rfl, hb1, hc⟩ := hn hz0
    obtain ⟨v', w', h1, h2, h3, _⟩ := run_append_own (P := P) w base t ty e i z 1 bytes ht hi hz hsize hby hzs (by decide) v n xs hown ⟨b1, o1, none⟩ zs.length c (zs.map (Value.int k)) (by simp) (fun j u hj => by
      rw [List.getElem?_map] at hj
      obtain ⟨y, hy, rfl⟩ := Option.map_eq_some_iff.1 hj
      rw [Addr.add_lit]
      exact hc j y hy) (fun u hu => by obtain ⟨y, _, rfl⟩ := List.mem_map.1 hu; rfl) h63 hbytes hbase
    exact ⟨v', w', h1, h2, h3⟩

theorem wpListIn_append_any {F : Fence} {nF : Nat} {P : Program} {w : World} {ops : Array Oper} {rest : List Oper} {o : Oper} {a : Act} {Q : Exit → Act → World → Prop} (hg : o.guard = none) (s x : Operand) (t : TypeId)
    (hop : o.op = Op.call { callee := Callee.builtin Builtin.append, args := #[s, x], argTypes := #[t, t] })
    (base : Nat) (e : TypeId) (i : TypeInfo) (z : Value) (bytes : Nat) (ht : P.underlying t = some (.slice e)) (hi : P.info? e = some i) (hz : i.zero = some z) (hsize : i.size = 1) (hby : i.bytes = bytes) (hzs : z.cells.size = 1)
    (k : IntKind) (n : Nat) (xs : List Value) (zs : List Int) (v : Value) (hs : a.eval s = v) (hown : w.ownsRow base e 1 v n xs) (A : Option Addr) (m c B : Nat) (hx : a.eval x = .slice A m c) (hm : zs.length = m) (hn : Nums k w B A zs)
    (h63 : n + m ≤ maxLen) (hbytes : (n + m) * bytes ≤ 140737488355328) (hbase : base ≤ w.heap.size)
    (hK : ∀ v' w', w'.ownsRow base e 1 v' (n + m) (xs ++ zs.map (Value.int k)) → w.grownBy w' v.ownBlock → wpListIn F nF P ops Q rest (a.put o.dst v') w') :
    wpListIn F nF P ops Q (o :: rest) a w := by
  refine wpListIn_plain hg fun K hK' => ?_
  obtain ⟨v', w', hrun, r1, r2⟩ := run_append_any (P := P) (w := w) t o.type base e i z bytes ht hi hz hsize hby hzs k n xs zs v hown A m c B hm hn h63 hbytes hbase
  unfold Oper.wpIn
  refine ⟨?_, ?_⟩
  · simp [Oper.about, hop, resolve, Target.leads, Sem.run_pure]
  · rw [Oper.semAt_plain F _ _ (by rw [hop]; intro c hc'; cases hc')]
    simp [execOp, hop, resolve, invoke, builtin, hs, hx, hrun, Result.andThen]
    exact hK' _ _ (hK v' w' r1 r2)

/-- what has grown behind a new block has grown -/
theorem grown_of_alloc {W w1 : World} {o : Obj} {row : Option Nat} (h : (W.alloc o).grownBy w1 row) : W.grownBy w1 row :=
  ⟨h.os, h.tape, h.output, by have := h.size; rw [World.size_alloc] at this; omega, fun k hk hne => (h.block k (by rw [World.size_alloc]; omega) hne).trans (Below.heap_alloc W o k hk)⟩

/-- what a box that is appended to leaves -/
structure BoxApp (S : Nat → Prop) (base : Nat) (t e : TypeId) (Bo Bs : Nat) (v' u : Value) (m : Nat) (ys : List Value) (W W2 : World) : Prop where
  out : Boxed W2 Bo t v'
  src : Boxed W2 Bs t u
  row : W2.ownsRow base e 1 v' m ys
  others : KeepsOthers W W2
  below : Below base W W2
  keep : KeepS S W W2
theorem box_appended {W w1 : World} {base Bo Bs : Nat} {t e : TypeId} {v v' u : Value} {n m : Nat} {xs ys : List Value} {S : Nat → Prop} (hv : Boxed W Bo t v) (hs : Boxed W Bs t u) (hne : Bs ≠ Bo) (hte : t ≠ e) (hrow : W.ownsRow base e 1 v n xs) (hbase : base ≤ W.heap.size) (hBo : base ≤ Bo)
    (hS : ∀ k, S k → k < base ∨ k = Bs) (hown' : w1.ownsRow base e 1 v' m ys) (hg : W.grownBy w1 v.ownBlock) :
    Boxed w1 Bo t v ∧ BoxApp S base t e Bo Bs v' u m ys W (w1.setCell ⟨Bo, 0, none⟩ v') := by
  have hv1 : Boxed w1 Bo t v := hv.kept hg (hv.not_row hte hrow)
  have hs1 : Boxed w1 Bs t u := hs.kept hg (hs.not_row hte hrow)
  have hlt := hrow.lt
  have hSlt := hs.lt
  refine ⟨hv1, hv1.set v', hs1.other hne v', hown'.kept (grownBy_setCell' w1 Bo v') (.inr (hv1.not_row hte hown').symm), ?_, ?_, ?_⟩
  · refine (KeepsOthers.of_grownBy hg fun j o ej hj => ?_).trans (KeepsOthers.setCell _ _ _)
    rcases hrow.2 with ⟨rfl, _⟩ | ⟨g, cap, cur, rfl, _, hgb, _⟩
    · simp [Value.ownBlock] at ej
    · obtain rfl : g = j := by simpa [Value.ownBlock] using ej
      rw [hgb] at hj; cases hj; rfl
  · exact ((Below.refl base W).grown hg hbase (fun j ej => (hlt j ej).1)).setCell (p := ⟨Bo, 0, none⟩) hBo v'
  · refine KeepS.set (KeepS.grown (KeepS.refl S W) hg (fun k hk => ?_) (fun k hk hSk => ?_)) (fun h => ?_) v'
    · rcases hS k hk with h | h <;> omega
    · have h1 := (hlt k hk).1
      rcases hS k hSk with h | h
      · omega
      · subst h; exact hs.not_row hte hrow hk.symm
    · rcases hS Bo h with h | h <;> omega
end Go.Proofs.Ytmdjgidbfcfdnaa

namespace Go.Proofs.Ytmdjgidbfcfdnaa
open Go.RowKit Go.Shelf
set_option maxRecDepth 100000
attribute [local go_sem] Oper.semAt_some

theorem ownFrom_keepS {β : Type} {B : Nat} {w0 : World} {S : Nat → Prop} (hS : ∀ k, S k → k < B) (hB : B ≤ w0.heap.size) : OwnFrom B (fun (_ : β) W => KeepS S w0 W) := by
  intro _ W W' r hs hg hr
  refine ⟨Nat.le_trans hs.1 hg.size, fun k hk => (hg.block k (by have := hS k hk; have := hs.1; omega) (fun e => ?_)).trans (hs.2 k hk)⟩
  have h1 := (hr k e.symm).1
  have := hS k hk
  omega

/-- the set of blocks that the iterator reads -/
def Src2 (base Bs : Nat) (k : Nat) : Prop := k < base ∨ k = Bs

end Go.Proofs.Ytmdjgidbfcfdnaa

namespace Go.Proofs.Ytmdjgidbfcfdnaa
open Go.RowKit

/-- x is a slice of the numbers b, in a block of the call's own with elements of type te, which is not u's -/
def El (te : TypeId) (k : IntKind) (base : Nat) (W : World) (u x : Value) (b : List Int) : Prop :=
  ∃ (A : Option Addr) (c : Nat), x = .slice A b.length c ∧ b.length ≤ c ∧ (b ≠ [] → ∃ (g : Nat) (cur : Array Value), A = some ⟨g, 0, none⟩ ∧ base ≤ g ∧ W.heap[g]? = some (.cells cur te (0, 0)) ∧ u.ownBlock ≠ some g ∧ ∀ (j : Nat) (z : Int), b[j]? = some z → cur[j]? = some (Value.int k z))
/-- the slice v of slices, the lists O; the row u, the numbers N -/
structure Ls (te tl : TypeId) (k : IntKind) (base : Nat) (W : World) (v u : Value) (xs : List Value) (O : List (List Int)) (N : List Int) : Prop where
  out : W.ownsRow base tl 1 v O.length xs
  els : ∀ (i : Nat) (b : List Int), O[i]? = some b → ∃ x, xs[i]? = some x ∧ El te k base W u x b
  now : W.ownsRow base te 1 u N.length (N.map (Value.int k))
section
variable {te tl : TypeId} {k : IntKind} {base : Nat} {W w1 : World} {v v' u u' x : Value} {xs : List Value} {O : List (List Int)} {N b : List Int} {o : Obj}
theorem own_far {e e2 : TypeId} {n m : Nat} {ys : List Value} (h : W.ownsRow base e 1 v n xs) (h2 : W.ownsRow base e2 1 u m ys) (hne : e ≠ e2) : v.ownBlock = none ∨ v.ownBlock ≠ u.ownBlock := by
  rcases h.2 with ⟨rfl, _⟩ | ⟨g, cap, cur, rfl, _, hh, _⟩
  · exact .inl rfl
  · right
    rcases h2.2 with ⟨rfl, _⟩ | ⟨g2, cap2, cur2, rfl, _, hh2, _⟩
    · simp [Value.ownBlock]
    · intro e
      simp only [Value.ownBlock, Option.some.injEq] at e
      subst e
      rw [hh] at hh2
      injection hh2 with hh2
      injection hh2 with _ ht
      exact hne ht
theorem Ls.start (te tl : TypeId) (k : IntKind) (base : Nat) (W : World) : Ls te tl k base W (.slice none 0 0) (.slice none 0 0) [] [] [] :=
  ⟨World.ownsRow_nil _ _ _ _, fun i b h => by simp at h, World.ownsRow_nil _ _ _ _⟩
/-- a number more in the row -/
theorem Ls.grow {z : Int} (h : Ls te tl k base W v u xs O N) (hne : te ≠ tl) (hown : w1.ownsRow base te 1 u' (N.length + 1) (N.map (Value.int k) ++ [.int k z])) (hg : (W.alloc o).grownBy w1 u.ownBlock) (hat : u'.ownBlock = u.ownBlock ∨ u'.ownBlock = some (W.alloc o).heap.size) :
    Ls te tl k base w1 v u' xs O (N ++ [z]) := by
  refine ⟨(h.out.alloc o).kept hg (own_far h.out h.now (Ne.symm hne)), fun i b hb => ?_, by simpa using hown⟩
  obtain ⟨x, hx, A, c, rfl, hc, hcell⟩ := h.els i b hb
  refine ⟨_, hx, A, c, rfl, hc, fun hn => ?_⟩
  obtain ⟨g, cur, rfl, hbg, hh, hu, hz⟩ := hcell hn
  have hlt := (Array.getElem?_eq_some_iff.1 hh).1
  refine ⟨g, cur, rfl, hbg, ?_, ?_, hz⟩
  · rw [hg.block g (by rw [World.size_alloc]; omega) (fun e => hu e.symm)]
    exact (Below.heap_alloc W o g hlt).trans hh
  · rcases hat with e | e
    · rw [e]; exact hu
    · rw [e, World.size_alloc]; intro e2; injection e2 with e2; omega
/-- the row is put to the lists, and begun anew -/
theorem Ls.push (h : Ls te tl k base W v u xs O N) (hne : te ≠ tl) (hown : w1.ownsRow base tl 1 v' (O.length + 1) (xs ++ [u])) (hg : (W.alloc o).grownBy w1 v.ownBlock) :
    Ls te tl k base w1 v' (.slice none 0 0) (xs ++ [u]) (O ++ [N]) [] := by
  have hxl : xs.length = O.length := by have := h.out.1; omega
  have hfar : ∀ (g : Nat) (cur : Array Value), W.heap[g]? = some (Obj.cells cur te (0, 0)) → w1.heap[g]? = some (Obj.cells cur te (0, 0)) := fun g cur hh => by
    have hlt := (Array.getElem?_eq_some_iff.1 hh).1
    rw [hg.block g (by rw [World.size_alloc]; omega) (fun e => ?_)]
    · exact (Below.heap_alloc W o g hlt).trans hh
    · rcases h.out.2 with ⟨rfl, _⟩ | ⟨g2, cap2, cur2, rfl, _, hh2, _⟩
      · simp [Value.ownBlock] at e
      · simp only [Value.ownBlock, Option.some.injEq] at e
        subst e
        rw [hh] at hh2
        injection hh2 with hh2
        injection hh2 with _ ht
        exact hne ht
  refine ⟨by simpa using hown, fun i b hb => ?_, World.ownsRow_nil _ _ _ _⟩
  rcases Nat.lt_or_ge i O.length with hi | hi
  · rw [List.getElem?_append_left hi] at hb
    obtain ⟨x, hx, A, c, rfl, hc, hcell⟩ := h.els i b hb
    refine ⟨_, by rw [List.getElem?_append_left (by omega)]; exact hx, A, c, rfl, hc, fun hn => ?_⟩
    obtain ⟨g, cur, rfl, hbg, hh, hu, hz⟩ := hcell hn
    exact ⟨g, cur, rfl, hbg, hfar g cur hh, by simp [Value.ownBlock], hz⟩
  · rw [List.getElem?_append_right hi] at hb
    have hi0 : i - O.length = 0 := by
      rcases Nat.eq_zero_or_pos (i - O.length) with h0 | h0
      · exact h0
      · rw [List.getElem?_eq_none (by simp only [List.length_singleton]; omega)] at hb; simp at hb
    rw [hi0] at hb
    simp only [List.getElem?_cons_zero, Option.some.injEq] at hb
    subst hb
    refine ⟨u, by rw [List.getElem?_append_right (by omega), show i - xs.length = 0 by omega]; rfl, ?_⟩
    rcases h.now.2 with ⟨rfl, h0⟩ | ⟨g, cap, cur, rfl, hbg, hh, hle, _, _, htk⟩
    · rw [List.eq_nil_of_length_eq_zero h0]
      exact ⟨none, 0, rfl, Nat.le_refl _, fun hn => absurd rfl hn⟩
    · refine ⟨_, cap, rfl, hle, fun _ => ⟨g, cur, rfl, hbg, hfar g cur hh, by simp [Value.ownBlock], fun j z hj => ?_⟩⟩
      have h1 : (N.map (Value.int k))[j]? = some (.int k z) := by rw [List.getElem?_map, hj]; rfl
      rw [← htk, List.getElem?_take] at h1
      split at h1
      · rw [← Array.getElem?_toList]; exact h1
      · simp at h1
end

/-- a slice of slices of numbers that lies at A, below B -/
def ListAt (k : IntKind) (w : World) (B : Nat) (A : Option Addr) (bl : List (List Int)) : Prop :=
  ∀ (i : Nat) (b : List Int), bl[i]? = some b → ∃ (g : Nat) (Ai : Option Addr) (ci : Nat), A = some ⟨g, 0, none⟩ ∧ g < B ∧ w.cell? ⟨g, i, none⟩ = some (.slice Ai b.length ci) ∧ b.length ≤ ci ∧ Nums k w B Ai b
theorem ListAt.below {k : IntKind} {w w' : World} {B : Nat} {A : Option Addr} {bl : List (List Int)} (h : ListAt k w B A bl) (hb : Below B w w') : ListAt k w' B A bl := fun i b hi => by
  obtain ⟨g, Ai, ci, e, hg, hc, hl, hn⟩ := h i b hi
  exact ⟨g, Ai, ci, e, hg, (hb.cell (p := ⟨g, i, none⟩) hg).trans hc, hl, hn.below hb⟩
theorem ListAt.mono {k : IntKind} {w : World} {B B' : Nat} {A : Option Addr} {bl : List (List Int)} (h : ListAt k w B A bl) (hB : B ≤ B') : ListAt k w B' A bl := fun i b hi => by
  obtain ⟨g, Ai, ci, e, hg, hc, hl, hn⟩ := h i b hi
  exact ⟨g, Ai, ci, e, Nat.lt_of_lt_of_le hg hB, hc, hl, hn.mono hB⟩
theorem Ls.lies {te tl : TypeId} {k : IntKind} {base : Nat} {W : World} {v u : Value} {xs : List Value} {O : List (List Int)} {N : List Int} (h : Ls te tl k base W v u xs O N) : ∃ A c, v = .slice A O.length c ∧ O.length ≤ c ∧ ListAt k W W.heap.size A O := by
  rcases h.out.2 with ⟨rfl, h0⟩ | ⟨g, cap, cur, rfl, hbg, hh, hle, _⟩
  · rw [List.eq_nil_of_length_eq_zero h0]
    exact ⟨none, 0, rfl, Nat.le_refl _, fun i b hi => by simp at hi⟩
  · refine ⟨_, cap, rfl, hle, fun i b hi => ?_⟩
    obtain ⟨x, hx, A, c, rfl, hc, hcell⟩ := h.els i b hi
    have h1 := h.out.cells (g := g) rfl i _ hx
    rw [Addr.add_lit, Nat.zero_add] at h1
    refine ⟨g, A, c, rfl, (Array.getElem?_eq_some_iff.1 hh).1, h1, hc, fun hn => ?_⟩
    obtain ⟨g2, cur2, rfl, _, hh2, _, hz⟩ := hcell hn
    refine ⟨g2, 0, rfl, (Array.getElem?_eq_some_iff.1 hh2).1, fun j z hj => ?_⟩
    rw [Nat.zero_add]
    simp [World.cell?, hh2, hz j z hj]
end Go.Proofs.Ytmdjgidbfcfdnaa

namespace Go.Proofs.Ytmdjgidbfcfdnaa
open Go.RowKit
set_option maxRecDepth 100000

/-- what the document's Blocks leaves -/
def RBlk (w : World) (bl : List (List Int)) (e : Ending) (w' : World) : Prop := ∃ A c, e = .returned (.slice A bl.length c) ∧ bl.length ≤ c ∧ ListAt .u8 w' w'.heap.size A bl ∧ Below w.heap.size w w'
theorem RBlk.of {w w' : World} {bl O : List (List Int)} {N : List Int} {v u : Value} {xs : List Value} {te tl : TypeId} {base : Nat} (h : Ls te tl .u8 base w' v u xs O N) (he : bl = O) (hb : Below w.heap.size w w') : RBlk w bl (.returned v) w' := by
  subst he
  obtain ⟨A, c, rfl, hc, hl⟩ := h.lies
  exact ⟨A, c, rfl, hc, hl, hb⟩

end Go.Proofs.Ytmdjgidbfcfdnaa

namespace Go.Proofs.Ytmdjgidbfcfdnaa
open Go.RowKit

/-- the numbers zs lie at a, in a block from lo on, below hi -/
def NumsIn (k : IntKind) (w : World) (lo hi : Nat) (a : Option Addr) (zs : List Int) : Prop :=
  zs ≠ [] → ∃ b off, a = some ⟨b, off, none⟩ ∧ lo ≤ b ∧ b < hi ∧ ∀ j c, zs[j]? = some c → w.cell? ⟨b, off + j, none⟩ = some (.int k c)
/-- the blocks from lo on, below hi, are as they were -/
def Keeps (lo hi : Nat) (W W' : World) : Prop := W.heap.size ≤ W'.heap.size ∧ ∀ k, lo ≤ k → k < hi → W'.heap[k]? = W.heap[k]?
theorem Keeps.refl (lo hi : Nat) (W : World) : Keeps lo hi W W := ⟨Nat.le_refl _, fun _ _ _ => rfl⟩
theorem Keeps.trans {lo hi : Nat} {A B C : World} (h : Keeps lo hi A B) (k : Keeps lo hi B C) : Keeps lo hi A C := ⟨Nat.le_trans h.1 k.1, fun i h1 h2 => (k.2 i h1 h2).trans (h.2 i h1 h2)⟩
theorem Keeps.of_below {lo hi : Nat} {A B : World} (h : Below hi A B) : Keeps lo hi A B := ⟨h.size, fun k _ h2 => h.block k h2⟩
theorem Keeps.of_off {S : Nat → Prop} {lo hi : Nat} {A B : World} (h : Off S A B) (hh : hi ≤ A.heap.size) (hS : ∀ k, lo ≤ k → k < hi → ¬ S k) : Keeps lo hi A B := ⟨h.size, fun k h1 h2 => h.block k (by omega) (hS k h1 h2)⟩
theorem Keeps.cell {lo hi : Nat} {A B : World} (h : Keeps lo hi A B) {p : Addr} (h1 : lo ≤ p.block) (h2 : p.block < hi) : B.cell? p = A.cell? p := World.cell?_of_block (h.2 p.block h1 h2)
section
variable {k : IntKind} {lo lo' hi hi' : Nat} {A B : World} {a : Option Addr} {zs : List Int}
theorem NumsIn.keeps (h : NumsIn k A lo hi a zs) (hk : Keeps lo hi A B) : NumsIn k B lo hi a zs := fun hn => by
  obtain ⟨b, off, e, h1, h2, hc⟩ := h hn
  exact ⟨b, off, e, h1, h2, fun j c hj => (hk.cell (p := ⟨b, off + j, none⟩) h1 h2).trans (hc j c hj)⟩
theorem NumsIn.nums (h : NumsIn k A lo hi a zs) : Nums k A hi a zs := fun hn => by
  obtain ⟨b, off, e, _, h2, hc⟩ := h hn
  exact ⟨b, off, e, h2, hc⟩
theorem NumsIn.mono (h : NumsIn k A lo hi a zs) (hh : hi ≤ hi') : NumsIn k A lo hi' a zs := fun hn => by
  obtain ⟨b, off, e, h1, h2, hc⟩ := h hn
  exact ⟨b, off, e, h1, by omega, hc⟩
theorem NumsIn.lower (h : NumsIn k A lo hi a zs) (hh : lo' ≤ lo) : NumsIn k A lo' hi a zs := fun hn => by
  obtain ⟨b, off, e, h1, h2, hc⟩ := h hn
  exact ⟨b, off, e, by omega, h2, hc⟩
end
theorem MadeK.numsIn {e : TypeId} {k : IntKind} {w w1 : World} {L : List Int} {A : Option Addr} {c : Nat} (h : MadeK e k w w1 L (.slice A L.length c)) : NumsIn k w1 w.heap.size w1.heap.size A L := fun hn => by
  obtain ⟨b, off, rfl, hb, hc⟩ := Nums.of_own h.1 hn
  exact ⟨b, off, rfl, (h.own_ge (g := b) rfl).1, hb, hc⟩
theorem MadeK.less {T : TypeId} {k : IntKind} {w w1 w2 : World} {L : List Int} {v : Value} (h : MadeK T k w1 w2 L v) (hb : Below w.heap.size w w1) : MadeK T k w w2 L v := by
  obtain ⟨⟨e, h2⟩, hb2⟩ := h
  refine ⟨⟨e, ?_⟩, hb.trans (hb2.mono hb.size)⟩
  rcases h2 with h0 | ⟨g, cap, cur, q1, q2, q3⟩
  · exact .inl h0
  · exact .inr ⟨g, cap, cur, q1, Nat.le_trans hb.size q2, q3⟩
end Go.Proofs.Ytmdjgidbfcfdnaa

namespace Go.Proofs.Ytmdjgidbfcfdnaa
open Go.RowKit
set_option maxRecDepth 100000

theorem blocks_254 (zs : List Int) : ∀ b ∈ Cb.blocks zs, b.length ≤ 254 := by
  refine Cb.along (p := fun zs => ∀ b ∈ Cb.blocks zs, b.length ≤ 254) ?_ ?_ ?_ zs
  · intro b h hl x hx
    rw [Cb.blocks_last h hl] at hx
    simp at hx; subst hx; exact hl
  · intro b r h hl ih x hx
    rw [Cb.blocks_nought h hl] at hx
    rcases List.mem_cons.1 hx with rfl | hx
    · omega
    · exact ih x hx
  · intro b r h hl hr ih x hx
    rw [Cb.blocks_full h hl hr] at hx
    rcases List.mem_cons.1 hx with rfl | hx
    · omega
    · exact ih x hx
theorem join_pre {bs ys : List (List Int)} (h : bs <+: ys) : (Cb.join bs).length ≤ (Cb.join ys).length := by
  obtain ⟨t, rfl⟩ := h
  rw [Cb.join_append, List.length_append]
  omega
theorem join_take {bl : List (List Int)} {i : Nat} {b : List Int} (h : bl[i]? = some b) : Cb.join (bl.take (i + 1)) = (Cb.join (bl.take i) ++ [(b.length : Int) + 1]) ++ b := by
  rw [List.take_add_one, h, Cb.join_append]
  simp [Cb.join, Cb.one]

end Go.Proofs.Ytmdjgidbfcfdnaa

namespace Go.Proofs.Ytmdjgidbfcfdnaa
open Go.RowKit Go.Shelf
set_option maxRecDepth 100000
attribute [local go_sem] Oper.semAt_some

theorem flat_take {α : Type} (bl : List (List α)) (k : Nat) {b : List α} (hb : bl[k]? = some b) : (bl.take (k + 1)).flatten = (bl.take k).flatten ++ b := by
  rw [List.take_add_one, hb]
  simp
theorem flat_take_le {α : Type} (bl : List (List α)) (k : Nat) : (bl.take k).flatten.length ≤ bl.flatten.length := by
  conv => rhs; rw [← List.take_append_drop k bl, List.flatten_append, List.length_append]
  omega
theorem MadeK.of_row {e : TypeId} {k : IntKind} {w w' : World} {A : Option Addr} {cap : Nat} {cur : List Int} (hr : KRow e k w' A cap cur) (hA : ∀ g o s, A = some ⟨g, o, s⟩ → w.heap.size ≤ g) (hb : Below w.heap.size w w') : MadeK e k w w' [] (.slice A 0 cap) := by
  refine ⟨⟨by simp, ?_⟩, hb⟩
  rcases hr.2 with ⟨rfl, rfl⟩ | ⟨g, rfl, hm, hh⟩
  · exact .inl ⟨rfl, rfl⟩
  · exact .inr ⟨g, cap, _, rfl, hA _ _ _ rfl, hh, by simp, hm, by simp [hr.1], by simp⟩

end Go.Proofs.Ytmdjgidbfcfdnaa

namespace Go.Proofs.Ytmdjgidbfcfdnaa
open Go.RowKit Go.Shelf
set_option maxRecDepth 100000
attribute [local go_sem] Oper.semAt_some

/-- a head's bytes -/
def hdB (v k s i c : Int) : List Int := [v, k, s % 256, s / 256 % 256, s / 65536 % 256, s / 16777216, i, c]
/-- what Bytes answers -/
def HdBR (B : Nat) (v k s i c : Int) (w' : World) (e : Ending) : Prop :=
  (chk v k i c ≠ 0 ∧ e = .returned (.tuple #[.slice none 0 0, .int .i64 (chk v k i c)])) ∨
  (chk v k i c = 0 ∧ ∃ g, B ≤ g ∧ e = .returned (.tuple #[.slice (some ⟨g, 0, none⟩) 8 8, .int .i64 0]) ∧ Nums .u8 w' w'.heap.size (some ⟨g, 0, none⟩) (hdB v k s i c))

end Go.Proofs.Ytmdjgidbfcfdnaa

namespace Go.Proofs.Ytmdjgidbfcfdnaa
open Go.RowKit
set_option maxRecDepth 100000

/-- what Open answers of bytes: the error, the bytes -/
def openOf (zs : List Int) : Int × List Int :=
  if zs.length < 4 then (13, []) else if zs.take (zs.length - 4) ++ Cr.le4 (Cr.sum (zs.take (zs.length - 4))) = zs then (0, zs.take (zs.length - 4)) else (11, [])
/-- what Open leaves -/
def OpenR (w w' : World) (r : Int × List Int) (e : Ending) : Prop := ∃ A c, e = .returned (.tuple #[.slice A r.2.length c, .int .i64 r.1]) ∧ r.2.length ≤ c ∧ Nums .u8 w' w'.heap.size A r.2 ∧ Below w.heap.size w w'

theorem le4_bytes (n : Nat) : Bytes (Cr.le4 n) := fun z hz => ⟨Cr.le4_ge n z hz, Cr.le4_lt n z hz⟩

end Go.Proofs.Ytmdjgidbfcfdnaa

namespace Go.Proofs.Ytmdjgidbfcfdnaa
section
variable {P : Program} {ops : Array Oper} {md : Region.Mode}

/-- 0: it looks at no memory and enters no function; 2: a store; 1: all others -/
def pureOp (o : Oper) : Bool :=
  match o.op with
  | .move _ | .assign _ | .binOp _ _ _ _ _ | .unOp _ _ _ | .convert _ _ _ | .slice _ _ _ _ _ | .fieldAddr _ _ _ | .indexAddr _ _ _ | .extract _ _ | .pick _ _ _ => true
  | .call c =>
    match c.callee with
    | .builtin .len | .builtin .cap | .builtin .min | .builtin .max => true
    | _ => false
  | _ => false
def kindOf (o : Oper) : Nat :=
  if pureOp o then 0 else match o.op with
    | .store _ _ _ => 2
    | _ => 1
theorem run_value (s : Sem Value) (w w' : World) (f : FuncId) (args : Array Value) : (do pure (Next.value (← s)) : Sem Next).run P w ≠ .ok (.enter f args) w' := by
  intro h
  rw [Sem.run_bind] at h
  cases hs : s.run P w with
  | ok x w1 => rw [hs] at h; simp [Result.andThen] at h
  | halt x w1 => rw [hs] at h; simp [Result.andThen] at h
theorem andThen_value (r : Result Value) (w' : World) (f : FuncId) (args : Array Value) : (r.andThen fun a w' => Result.ok (Next.value a) w') ≠ .ok (.enter f args) w' := by
  intro h
  cases r <;> simp [Result.andThen] at h
theorem pure_no_enter {o : Oper} (ho : pureOp o = true) (ρ : Operand → Value) (w w' : World) (f : FuncId) (args : Array Value) : (execOp ρ o).run P w ≠ .ok (.enter f args) w' := by
  unfold pureOp at ho
  unfold execOp
  cases hop : o.op <;> simp only [hop] at ho ⊢ <;> try contradiction
  all_goals first
    | exact run_value _ _ _ _ _
    | (intro h; simp at h; done)
    | skip
  case pick c x y =>
    intro h
    rw [Sem.run_bind] at h
    cases hs : (asBool (ρ c)).run P w with
    | ok x w1 => rw [hs] at h; simp [Result.andThen] at h
    | halt x w1 => rw [hs] at h; simp [Result.andThen] at h
  case call c =>
    obtain ⟨callee, cargs, cts⟩ := c
    cases callee with
    | builtin b =>
      cases b <;> simp at ho <;>
      · intro h
        simp [resolve, invoke, builtin] at h
        exact andThen_value _ _ _ _ h
    | _ => simp at ho

def stepUpon (C' : World → Prop) (v : Value) : Result Next → Prop
  | .ok (.value u) w' => u = v ∧ C' w'
  | .ok .skip w' => v = undef ∧ C' w'
  | _ => False
def StepsIn (P : Program) (ops : Array Oper) (C C' : World → Prop) (o : Oper) (v : Value) (a : Act) : Prop :=
  (Region.wanted o (yielded ops a.tmps) = true ∧ ∀ w, C w → stepUpon C' v ((execOp a.eval o).run P w)) ∨ (Region.wanted o (yielded ops a.tmps) = false ∧ v = undef ∧ C' = C)
/-- what an operation does to the class of worlds, and its value -/
def OpR (P : Program) (ops : Array Oper) (C C' : World → Prop) (o : Oper) (v : Value) (a : Act) : Prop :=
  (kindOf o = 0 ∧ C' = C ∧ YieldsIn P ops (fun _ => True) o v a) ∨ (kindOf o = 1 ∧ C' = C ∧ YieldsIn P ops C o v a) ∨ (kindOf o = 2 ∧ StepsIn P ops C C' o v a)
theorem kind_pure {o : Oper} (h : kindOf o = 0) : pureOp o = true := by
  unfold kindOf at h
  split at h
  · assumption
  · split at h <;> simp at h
theorem yields_pure {o : Oper} {v : Value} {a : Act} (hk : kindOf o = 0) (h : YieldsIn P ops (fun _ => True) o v a) (C : World → Prop) : YieldsIn P ops C o v a := by
  rcases h with ⟨hw, h⟩ | h
  · refine .inl ⟨hw, fun w _ => ?_⟩
    have h1 := h w trivial
    have h2 := pure_no_enter (P := P) (kind_pure hk) a.eval w
    unfold Oper.quietAt at h1 ⊢
    generalize (execOp a.eval o).run P w = r at h1 h2
    cases r with
    | ok n w' =>
      cases n with
      | enter f args => exact absurd rfl (h2 w' f args)
      | _ => exact h1
    | halt x w' => exact h1
  · exact .inr h
theorem OpR.of_same {C C' : World → Prop} {o : Oper} {v : Value} {a a' : Act} (h : OpR P ops C C' o v a) (he : execOp a'.eval o = execOp a.eval o) (hw : Region.wanted o (yielded ops a'.tmps) = Region.wanted o (yielded ops a.tmps)) : OpR P ops C C' o v a' := by
  rcases h with ⟨hk, hc, h⟩ | ⟨hk, hc, h⟩ | ⟨hk, h⟩
  · exact .inl ⟨hk, hc, h.of_same he hw⟩
  · exact .inr (.inl ⟨hk, hc, h.of_same he hw⟩)
  · refine .inr (.inr ⟨hk, ?_⟩)
    unfold StepsIn at *
    rw [he, hw]
    exact h
theorem OpR.wpOp {C C' : World → Prop} {i : Nat} {o : Oper} {v : Value} {a : Act} {K : Act → World → Prop} {Q' : Exit → Act → World → Prop} {w : World} (hi : ops[i]? = some o) (h : OpR P ops C C' o v a) (hC : C w) (hK : ∀ w', C' w' → K (a.put o.dst v) w') : wpOp P ops Q' i K a w := by
  have quiet : ∀ {D : World → Prop}, D w → (∀ w', D w' → K (a.put o.dst v) w') → YieldsIn P ops D o v a → Go.wpOp P ops Q' i K a w := fun {D} hD hK hy => by
    unfold Go.wpOp
    simp only [hi]
    rcases hy with ⟨hw, hv⟩ | ⟨hw, rfl⟩
    · simp only [hw, if_true]
      exact .inl (Oper.wp_of_quiet (C := D) (K := fun a' => a' = a.put o.dst v) hD (fun a' w' hw' e => by subst e; exact hK w' hw') ⟨v, hv, rfl⟩)
    · simp only [hw, Bool.false_eq_true, if_false]
      exact hK w hD
  rcases h with ⟨hk, rfl, h⟩ | ⟨hk, rfl, h⟩ | ⟨hk, h⟩
  · exact quiet hC hK (yields_pure hk h _)
  · exact quiet hC hK h
  · unfold Go.wpOp
    simp only [hi]
    rcases h with ⟨hw, hv⟩ | ⟨hw, rfl, rfl⟩
    · simp only [hw, if_true]
      left
      have h1 := hv w hC
      unfold Oper.wp
      generalize (execOp a.eval o).run P w = r at h1
      cases r with
      | ok n w' =>
        cases n <;> simp only [stepUpon] at h1 <;> simp only [Oper.upon]
        case value u => rw [h1.1]; exact hK w' h1.2
        case skip => rw [← h1.1]; exact hK w' h1.2
      | halt x w' => simp only [stepUpon] at h1
    · simp only [hw, Bool.false_eq_true, if_false]
      exact hK w hC

/-- whatever order is picked from here on -/
def wpAny2 (P : Program) (md : Region.Mode) (ops : Array Oper) (Q : (World → Prop) → Act → Prop) : Nat → Array Bool → (World → Prop) → Act → Prop
  | 0, listed, C, a => Region.ready md ops listed = [] ∧ Q C a
  | fuel + 1, listed, C, a =>
    (Region.ready md ops listed = [] → Q C a) ∧
    ∀ i ∈ Region.ready md ops listed, ∀ o, ops[i]? = some o → ∃ v C', OpR P ops C C' o v a ∧ wpAny2 P md ops Q fuel (listed.setIfInBounds i true) C' (a.put o.dst v)
theorem wpAny_of_2 {Q : (World → Prop) → Act → Prop} {Q' : Exit → Act → World → Prop} (hQ : ∀ (C : World → Prop) a w, C w → Q C a → Q' .normal a w) : ∀ (fuel : Nat) (listed : Array Bool) (C : World → Prop) (a : Act) (w : World), C w →
    wpAny2 P md ops Q fuel listed C a → wpAny P md ops Q' fuel listed a w
  | 0, _, _, _, _, hw, h => ⟨h.1, hQ _ _ _ hw h.2⟩
  | fuel + 1, _, _, _, _, hw, h => ⟨fun h0 => hQ _ _ _ hw (h.1 h0), fun i hi => by
      obtain ⟨_, o, ho, _⟩ := mem_ready.1 hi
      obtain ⟨v, C', hr, hn⟩ := h.2 i hi o ho
      exact hr.wpOp ho hw fun w' hw' => wpAny_of_2 hQ fuel _ C' _ w' hw' hn⟩

/-- nothing that may come up beside it stands in its way -/
def free2 (md : Region.Mode) (ops : Array Oper) (listed : Array Bool) (k : Nat) : Bool :=
  match ops[k]? with
  | none => false
  | some ok => (List.range ops.size).all fun j => j == k || listed.getD j true ||
    (match ops[j]? with
     | some oj => oj.after.any (fun e => Region.binds md e && e.on == k) || (ok.apart ops oj && (kindOf ok == 0 || (kindOf ok == 1 && kindOf oj != 2)))
     | none => true)
def Free (md : Region.Mode) (ops : Array Oper) (listed : Array Bool) (i : Nat) (oi : Oper) : Prop :=
  ∀ j oj, ops[j]? = some oj → j ≠ i → listed.getD j true = false → (∀ e ∈ oj.after, Region.binds md e = true → e.on ≠ i) → oi.apart ops oj = true ∧ (kindOf oi = 0 ∨ (kindOf oi = 1 ∧ kindOf oj ≠ 2))
theorem free2_spec {i : Nat} {oi : Oper} {listed : Array Bool} (hi : ops[i]? = some oi) (h : free2 md ops listed i = true) : Free md ops listed i oi := by
  intro j oj hj hne hun hno
  simp only [free2, hi, List.all_eq_true, List.mem_range] at h
  have h1 := h j (Array.getElem?_eq_some_iff.1 hj).1
  simp only [hj, Bool.or_eq_true, beq_iff_eq, hne, false_or, hun, Bool.false_eq_true, Bool.and_eq_true, bne_iff_ne, ne_eq] at h1
  rcases h1 with h1 | h1
  · obtain ⟨e, he, hb⟩ := Array.any_eq_true'.1 h1
    simp only [Bool.and_eq_true, beq_iff_eq] at hb
    exact absurd hb.2 (hno e he hb.1)
  · exact h1
/-- an operation that may come up now may be taken first -/
theorem wpAny2_first {Q : (World → Prop) → Act → Prop} {i : Nat} {oi : Oper} {v : Value} (hi : ops[i]? = some oi) (hsel : ∀ (j : Nat) (o : Oper) cs b, ops[j]? = some o → o.op ≠ .select cs b) :
    ∀ (fuel : Nat) (listed : Array Bool) (C C1 : World → Prop) (a : Act), Free md ops listed i oi → i ∈ Region.ready md ops listed → OpR P ops C C1 oi v a →
      wpAny2 P md ops Q fuel (listed.setIfInBounds i true) C1 (a.put oi.dst v) → wpAny2 P md ops Q (fuel + 1) listed C a := by
  intro fuel
  induction fuel with
  | zero =>
    intro listed C C1 a _ hr hy H
    refine ⟨fun h => (by rw [h] at hr; cases hr), fun j hj o ho => ?_⟩
    by_cases hji : j = i
    · subst hji
      have : o = oi := Option.some.inj (ho.symm.trans hi)
      subst this
      exact ⟨v, C1, hy, H⟩
    · have := ready_mono hj hji
      rw [H.1] at this
      cases this
  | succ fuel ih =>
    intro listed C C1 a hfree hr hy H
    refine ⟨fun h => (by rw [h] at hr; cases hr), fun j hj oj hoj => ?_⟩
    by_cases hji : j = i
    · subst hji
      have : oj = oi := Option.some.inj (hoj.symm.trans hi)
      subst this
      exact ⟨v, C1, hy, H⟩
    · obtain ⟨hjun, oj', hoj', hall⟩ := mem_ready.1 hj
      have : oj' = oj := Option.some.inj (hoj'.symm.trans hoj)
      subst this
      have hnot : ∀ e ∈ oj'.after, Region.binds md e = true → e.on ≠ i := fun e he hb heq => by
        have h1 := hall e he hb
        have h0 := (mem_ready.1 hr).1
        rw [heq] at h1
        rcases Nat.lt_or_ge i listed.size with h' | h'
        · simp [h'] at h0 h1; rw [h0] at h1; cases h1
        · simp [Array.getElem?_eq_none h'] at h1
      obtain ⟨hap, hkind⟩ := hfree j oj' hoj hji hjun hnot
      obtain ⟨p1, p2, p3⟩ := Oper.apart_spec hap
      have hC1 : C1 = C := by
        rcases hy with ⟨_, h, _⟩ | ⟨_, h, _⟩ | ⟨hk2, _⟩
        · exact h
        · exact h
        · rcases hkind with h | ⟨h, _⟩ <;> rw [h] at hk2 <;> simp at hk2
      subst hC1
      obtain ⟨u, C2, hR, hn⟩ := H.2 j (ready_mono hj hji) oj' hoj
      have hsi : ∀ cs b, oi.op ≠ .select cs b := fun cs b => hsel i oi cs b hi
      have hsj : ∀ cs b, oj'.op ≠ .select cs b := fun cs b => hsel j oj' cs b hoj
      have hRa : OpR P ops C1 C2 oj' u a := hR.of_same (execOp_put oj' hsj a oi.dst v p1).symm (wanted_put oj' a oi.dst v p1).symm
      have hyu : OpR P ops C2 C2 oi v (a.put oj'.dst u) := by
        have h0 := hy.of_same (a' := a.put oj'.dst u) (execOp_put oi hsi a oj'.dst u p3) (wanted_put oi a oj'.dst u p3)
        rcases h0 with ⟨hk, _, h⟩ | ⟨hk, _, h⟩ | ⟨hk, _⟩
        · exact .inl ⟨hk, rfl, h⟩
        · have hC2 : C2 = C1 := by
            rcases hkind with h' | ⟨_, h'⟩
            · rw [hk] at h'; simp at h'
            · rcases hR with ⟨_, h2, _⟩ | ⟨_, h2, _⟩ | ⟨h2, _⟩
              · exact h2
              · exact h2
              · exact absurd h2 h'
          subst hC2
          exact .inr (.inl ⟨hk, rfl, h⟩)
        · rcases hkind with h' | ⟨h', _⟩ <;> rw [hk] at h' <;> simp at h'
      refine ⟨u, C2, hRa, ih (listed.setIfInBounds j true) C2 C2 _ ?_ (ready_mono hr (Ne.symm hji)) hyu ?_⟩
      · intro k ok hk hki hun hno
        refine hfree k ok hk hki ?_ hno
        by_cases hjk : j = k
        · subst hjk; exact hjun
        · rw [getD_set_ne true hjk] at hun; exact hun
      · rw [Array.setIfInBounds_comm _ _ hji]
        rw [Act.put_comm a v u p2] at hn
        exact hn

def lexFrom2 (md : Region.Mode) (ops : Array Oper) : Nat → Nat → Array Bool → Bool
  | 0, _, listed => (Region.ready md ops listed).isEmpty
  | fuel + 1, k, listed => (Region.ready md ops listed).contains k && free2 md ops listed k && lexFrom2 md ops fuel (k + 1) (listed.setIfInBounds k true)
def lexB2 (md : Region.Mode) (ops : Array Oper) : Bool := Region.noSelect ops && lexFrom2 md ops ops.size 0 (Array.replicate ops.size false)
/-- the walk in the text's order -/
def wpQ2 (P : Program) (ops : Array Oper) (Q : (World → Prop) → Act → Prop) : List Oper → (World → Prop) → Act → Prop
  | [], C, a => Q C a
  | o :: rest, C, a => ∃ v C', OpR P ops C C' o v a ∧ wpQ2 P ops Q rest C' (a.put o.dst v)
theorem wpAny2_lex {Q : (World → Prop) → Act → Prop} (hs : Region.noSelect ops = true) : ∀ (l : List Oper) (k : Nat) (listed : Array Bool) (C : World → Prop) (a : Act), (∀ j, l[j]? = ops[k + j]?) →
    lexFrom2 md ops l.length k listed = true → wpQ2 P ops Q l C a → wpAny2 P md ops Q l.length listed C a
  | [], _, _, _, _, _, hB, h => ⟨by simpa [lexFrom2] using hB, h⟩
  | o :: l, k, listed, C, a, hl, hB, h => by
    have h0 : ops[k]? = some o := by simpa using (hl 0).symm
    simp only [List.length_cons, lexFrom2, Bool.and_eq_true] at hB
    obtain ⟨⟨hr, hf⟩, hB'⟩ := hB
    obtain ⟨v, C', hR, hn⟩ := h
    exact wpAny2_first h0 (Region.noSelect_spec hs) l.length listed C C' a (free2_spec h0 hf) (by simpa using hr) hR
      (wpAny2_lex hs l (k + 1) _ C' _ (fun j => by have := hl (j + 1); simpa [Nat.add_assoc, Nat.add_comm 1 j] using this) hB' hn)
/-- ONE WALK IN THE TEXT's ORDER SERVES EVERY ORDER -/
theorem wp_region_lex2 {id : Nat} {Q : Exit → Act → World → Prop} {a : Act} {w : World} {l : List Oper} {C : World → Prop} (hm : P.follows .mixedOrders = true) (hB : lexB2 .any l.toArray = true) (hC : C w.drew)
    (h : wpQ2 P l.toArray (fun C a' => ∀ w', C w' → Q .normal a' w') l C a) : (Code.region id l.toArray true).wp P Q a w := by
  simp only [lexB2, Bool.and_eq_true] at hB
  refine wp_region_any hm (wpAny_of_2 (Q := fun C a' => ∀ w', C w' → Q .normal a' w') (fun C a w' hw' h => h w' hw') _ _ C _ _ hC ?_)
  have := wpAny2_lex (md := .any) hB.1 l 0 (Array.replicate l.toArray.size false) C a (by simp) (by simpa using hB.2) h
  simpa using this
/-! one operation of the walk -/
theorem wpQ2_quiet {Q : (World → Prop) → Act → Prop} {o : Oper} {rest : List Oper} {C D : World → Prop} {a : Act} (hk : (kindOf o = 0 ∧ D = fun _ => True) ∨ (kindOf o = 1 ∧ D = C)) (h : wpQuiet P ops D (fun a' => wpQ2 P ops Q rest C a') [o] a) : wpQ2 P ops Q (o :: rest) C a := by
  have key : ∃ v, YieldsIn P ops D o v a ∧ wpQ2 P ops Q rest C (a.put o.dst v) := by
    unfold wpQuiet at h
    by_cases hw : Region.wanted o (yielded ops a.tmps) = true
    · simp only [hw, if_true] at h
      obtain ⟨v, h1, h2⟩ := h
      exact ⟨v, .inl ⟨hw, h1⟩, h2⟩
    · simp only [hw] at h
      exact ⟨undef, .inr ⟨by simpa using hw, rfl⟩, h⟩
  obtain ⟨v, hy, hn⟩ := key
  rcases hk with ⟨hk, rfl⟩ | ⟨hk, rfl⟩
  · exact ⟨v, C, .inl ⟨hk, rfl, hy⟩, hn⟩
  · exact ⟨v, D, .inr (.inl ⟨hk, rfl, hy⟩), hn⟩
theorem wpQ2_pure {Q : (World → Prop) → Act → Prop} {o : Oper} {rest : List Oper} {C : World → Prop} {a : Act} (hk : kindOf o = 0) (h : wpQuiet P ops (fun _ => True) (fun a' => wpQ2 P ops Q rest C a') [o] a) : wpQ2 P ops Q (o :: rest) C a := wpQ2_quiet (.inl ⟨hk, rfl⟩) h
theorem wpQ2_look {Q : (World → Prop) → Act → Prop} {o : Oper} {rest : List Oper} {C : World → Prop} {a : Act} (hk : kindOf o = 1) (h : wpQuiet P ops C (fun a' => wpQ2 P ops Q rest C a') [o] a) : wpQ2 P ops Q (o :: rest) C a := wpQ2_quiet (.inr ⟨hk, rfl⟩) h
/-- a store of one cell -/
theorem wpQ2_store {Q : (World → Prop) → Act → Prop} {o : Oper} {rest : List Oper} {C : World → Prop} {a : Act} (C' : World → Prop) {t : TypeId} {x y : Operand} (ho : o.op = .store t x y) (hd : o.dst = none) (hg : o.guard = none) (ad : Addr) (v : Value) (hx : a.eval x = .pointer (some ad)) (hy : a.eval y = v)
    (hrun : ∀ w, C w → ∃ w', (Instr.storeAt t (.pointer (some ad)) v).run P w = .ok () w' ∧ C' w') (h : wpQ2 P ops Q rest C' a) : wpQ2 P ops Q (o :: rest) C a := by
  refine ⟨undef, C', .inr (.inr ⟨?_, .inl ⟨by simp [Region.wanted, hg], fun w hw => ?_⟩⟩), ?_⟩
  · simp [kindOf, pureOp, ho]
  · obtain ⟨w', hr, hc⟩ := hrun w hw
    unfold execOp
    simp only [ho, hx, hy]
    rw [Sem.run_bind, hr]
    exact ⟨rfl, hc⟩
  · rw [hd]; exact h
end
end Go.Proofs.Ytmdjgidbfcfdnaa
