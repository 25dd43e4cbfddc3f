/-
  A part of the texts of one proof, put together: HdN, Given, Stops, Mem, Row, Keep, HdP, HdI, StopA, KpC, Ld, HdC, Bts, CrcN, CrcA, CrcW, FrC, CrcF, CrcD, CrcS, Byte, CrcE, FrS, Same, Num, NumGet, Put, Grow, LInfo, CobN, Idx, CobI, CobP, CobZ.
-/
import Derived.WalkKit
import Derived.Below
import Derived.RangeFuncBox
import Derived.RangeFuncNested
import Derived.RangeFuncWrites
import Derived.RangeFuncLeaves
import Derived.OwnWalkIn
import Derived.Deep.Draws
import Derived.Laws.OwnMore
import Derived.Deep.AppendLies
import Derived.OpenShut
import Derived.Maps.AppendAt
import Derived.BigQuiet
import Derived.Laws.CopyOwn
import Derived.Lib.AppendZerosOnto
import Derived.RangeFuncKeeps
import Derived.Test.YtbohdmconeebeaaDoorRows
import Derived.WalkLawsBesides
import Derived.WalkMore
import Derived.Lib.Hide
import Derived.WalkSpells
import Derived.RangeFuncBound
import Derived.RangeFuncCalls
import Derived.Shelf.Abstract
import Derived.Shelf.RegionOpen
import Derived.TacticsInMore
import Derived.LoopNIn
import Derived.LoopIn
import Derived.ProofKit
import Derived.Deep.QuietTactic
import Derived.Deep.LoopGhost
import Derived.Deep.WholeRow
import Derived.ArgAppend
import Derived.Lib.Strings
import Derived.Lib.Slices
import Derived.Lib.Walk
import Derived.Lib.Bytes
import Derived.Laws.BitsAllLaws
import Derived.Laws.BitsLemmas
import Derived.Lib.MinMax
import Derived.Lib.BytesEntry
import Derived.Laws.Externs
namespace Go.Proofs.YtbohdmconeebeaaDoor
open Go.RowKit

/-- a head, as a value -/
def hdV (v k s i c : Int) : Value := .agg #[.int .i64 v, .int .i64 k, .int .u32 s, .int .i64 i, .int .i64 c]
/-- what is wrong with a head -/
def chk (v k i c : Int) : Int := if v < 1 ∨ 2 < v then 10 else if k < 1 ∨ 5 < k then 9 else if c < 1 ∨ 255 < c ∨ i < 0 ∨ c ≤ i then 3 else 0
theorem chk_zero {v k i c : Int} (h : chk v k i c = 0) : (v = 1 ∨ v = 2) ∧ 1 ≤ k ∧ k ≤ 5 ∧ 1 ≤ c ∧ c ≤ 255 ∧ 0 ≤ i ∧ i < c := by
  unfold chk at h
  split at h
  · omega
  · split at h
    · omega
    · split at h <;> omega
theorem chk_cases (v k i c : Int) : (chk v k i c = 10 ∧ (v < 1 ∨ 2 < v)) ∨ (chk v k i c = 9 ∧ 1 ≤ v ∧ v ≤ 2 ∧ (k < 1 ∨ 5 < k)) ∨ (chk v k i c = 3 ∧ 1 ≤ v ∧ v ≤ 2 ∧ 1 ≤ k ∧ k ≤ 5 ∧ (c < 1 ∨ 255 < c)) ∨
    (chk v k i c = 3 ∧ 1 ≤ v ∧ v ≤ 2 ∧ 1 ≤ k ∧ k ≤ 5 ∧ 1 ≤ c ∧ c ≤ 255 ∧ (i < 0 ∨ c ≤ i)) ∨ (chk v k i c = 0 ∧ 1 ≤ v ∧ v ≤ 2 ∧ 1 ≤ k ∧ k ≤ 5 ∧ 1 ≤ c ∧ c ≤ 255 ∧ 0 ≤ i ∧ i < c) := by
  unfold chk
  split
  · omega
  · split
    · omega
    · split <;> omega
/-- the cells of a head that has been boxed, in a later world -/
theorem hd_cells {w w1 : World} {v k s i c : Int} {t : TypeId} (hb : Below (w.alloc (.cells #[.int .i64 v, .int .i64 k, .int .u32 s, .int .i64 i, .int .i64 c] t)).heap.size (w.alloc (.cells #[.int .i64 v, .int .i64 k, .int .u32 s, .int .i64 i, .int .i64 c] t)) w1) :
    w1.cell? ⟨w.heap.size, 0, none⟩ = some (.int .i64 v) ∧ w1.cell? ⟨w.heap.size, 1, none⟩ = some (.int .i64 k) ∧ w1.cell? ⟨w.heap.size, 2, none⟩ = some (.int .u32 s) ∧ w1.cell? ⟨w.heap.size, 3, none⟩ = some (.int .i64 i) ∧ w1.cell? ⟨w.heap.size, 4, none⟩ = some (.int .i64 c) := by
  have h : w1.heap[w.heap.size]? = some (.cells #[.int .i64 v, .int .i64 k, .int .u32 s, .int .i64 i, .int .i64 c] t (0, 0)) := (hb.block _ (by simp)).trans (World.alloc_heap_new _ _)
  simp [World.cell?, h]
theorem hd_block {W : World} {b : Nat} {v k s i c : Int} {t : TypeId} (h : W.heap[b]? = some (.cells #[.int .i64 v, .int .i64 k, .int .u32 s, .int .i64 i, .int .i64 c] t (0, 0))) :
    W.cell? ⟨b, 0, none⟩ = some (.int .i64 v) ∧ W.cell? ⟨b, 1, none⟩ = some (.int .i64 k) ∧ W.cell? ⟨b, 2, none⟩ = some (.int .u32 s) ∧ W.cell? ⟨b, 3, none⟩ = some (.int .i64 i) ∧ W.cell? ⟨b, 4, none⟩ = some (.int .i64 c) := by
  simp [World.cell?, h]
end Go.Proofs.YtbohdmconeebeaaDoor

namespace Go.Proofs.YtbohdmconeebeaaDoor
open Go.RowKit

/-- whatever is no cells, lies from B on and is not l lies as it lay -/
structure KeepsBut (B l : Nat) (W W' : World) : Prop where
  size : W.heap.size ≤ W'.heap.size
  same : ∀ (k : Nat) (o : Obj), k ≠ l → B ≤ k → W.heap[k]? = some o → o.isCells = false → W'.heap[k]? = some o

section
variable {F : Fence} {n : Nat} {P : Program} {g : Operand} {ps : Array Tmp} {assign body : Code} {Q : Exit → Act → World → Prop} {a : Act} {w : World}
theorem range_given {α : Type} (hro : F.round = none) (h1 : 1 ≤ n) {gf : Nat} {lb : Array Value} (hg : a.eval g = .func (.func gf) #[] lb) (hFg : F.fn gf) (eg : ∀ args w, (callFunc gf args).run P w = .ok (.enter gf args) w)
    (enc : α → Array Value) (hps : ∀ x, (enc x).size = ps.size) (Rd : Nat → α → World → Prop) (Dn : Nat → World → Prop) (Kp : World → World → Prop) (N : Nat)
    (hRp : ∀ j x W l o o', Rd j x W → w.heap.size ≤ l → W.heap[l]? = some o → o.isCells = false → Rd j x (W.putObj l o'))
    (hDp : ∀ j W l o o', Dn j W → w.heap.size ≤ l → W.heap[l]? = some o → o.isCells = false → Dn j (W.putObj l o'))
    (hKt : ∀ A B C, Kp A B → Kp B C → Kp A C)
    (hKp : ∀ W l o o', w.heap.size ≤ l → W.heap[l]? = some o → o.isCells = false → Kp W (W.putObj l o'))
    (hD0 : ∀ o, Dn 0 ((w.alloc (.deferred (some []))).alloc o)) (a₁ : α → Act)
    (hassign : ∀ (l : Nat) (x : α) (W : World) (K : Act → World → Prop), K (a₁ x) W → assign.wpIn (F.inRound l) (n - 1 - 1) P (Exit.then K (fun _ _ _ => False)) { tmps := (ps.zip (enc x)).foldl (fun t (p, v) => t.setIfInBounds p v) a.tmps, defers := [] } W)
    (hbody : ∀ (l j : Nat) (x : α) (W : World), w.heap.size ≤ l → Rd j x W → j < N → body.wpIn (F.inRound l) (n - 1 - 1) P (fun e _ W' => e = .normal ∧ KeepsFrom w.heap.size W W' ∧ Dn (j + 1) W' ∧ Kp W W') (a₁ x) W)
    (hiter : ∀ (Bk : World → Prop) (l : Nat) (W : World), (∀ A B, Bk A → A.heap.size ≤ B.heap.size → (∀ k, w.heap.size ≤ k → k < w.heap.size + 2 → B.heap[k]? = A.heap[k]?) → Bk B) → (∀ A, Bk A → w.heap.size + 2 ≤ A.heap.size) → l < w.heap.size + 2 → Dn 0 W → Bk W →
      (∀ j x W1, Rd j x W1 → Bk W1 → j < N → YieldAt F (n - 1 - 1) P l (enc x) W1 fun e W2 => e = .returned (.bool true) ∧ Dn (j + 1) W2 ∧ Bk W2 ∧ Kp W1 W2 ∧ KeepsBut w.heap.size l W1 W2) →
      CallsIn F (n - 1) P gf (#[.func (.yield l) #[] #[]] ++ lb) W fun e W' => (∃ v, e = .returned v) ∧ Dn N W' ∧ Bk W')
    (hdone : ∀ (D : Nat) (W : World), w.heap.size ≤ D → Dn N W → W.heap[D]? = some (.deferred (some [])) → Q .normal { a with defers := { target := .collected D, args := #[] } :: a.defers } W) :
    (Code.rangeFunc g ps assign body).wpIn F n P Q a w := by
  apply wpIn_rangeFunc
  intro fn hfn
  rw [hro]
  have hent := run_enterLoop_outer (P := P) (w := w) fn a.tmps ps assign body
  obtain ⟨lp, hlp⟩ : ∃ lp : LoopState → Option Code → Loop, lp = fun st pe => { state := st, pending := pe, fn := fn, tmps := a.tmps, params := ps, assign := assign, body := body, defers := w.heap.size } := ⟨_, rfl⟩
  have hlp0 : ({ state := .ready, pending := none, fn, tmps := a.tmps, params := ps, assign, body, defers := w.heap.size } : Loop) = lp .ready none := by rw [hlp]
  rw [hlp0] at hent
  have hD0' := hD0 (.loop (lp .ready none))
  have hl0 : ((w.alloc (.deferred (some []))).alloc (.loop (lp .ready none))).heap[w.heap.size + 1]? = some (.loop (lp .ready none)) := by
    have h := World.alloc_heap_new (w.alloc (.deferred (some []))) (.loop (lp .ready none))
    rwa [World.size_alloc] at h
  have hd0 : ((w.alloc (.deferred (some []))).alloc (.loop (lp .ready none))).heap[w.heap.size]? = some (.deferred (some [])) := (Below.heap_alloc _ _ _ (by simp)).trans (World.alloc_heap_new w _)
  generalize (w.alloc (.deferred (some []))).alloc (.loop (lp .ready none)) = W0 at *
  refine ⟨_, _, _, { target := .fn (.func gf) lb, args := #[.func (.yield (w.heap.size + 1)) #[] #[]] }, W0, gf, #[.func (.yield (w.heap.size + 1)) #[] #[]] ++ lb, W0, hent, ?_, ?_, ?_, fun _ => h1, ?_⟩
  · simp only [resolve, hg]
    simp [go_sem]
  · intro f' hf'
    simp [Target.leads] at hf'
    subst hf'
    exact hFg
  · simp [invoke, go_sem, eg]
  let Bk : World → Prop := fun W => W.heap[w.heap.size + 1]? = some (.loop (lp .ready none)) ∧ W.heap[w.heap.size]? = some (.deferred (some []))
  have hBlt : ∀ A, Bk A → w.heap.size + 2 ≤ A.heap.size := fun A h => (Array.getElem?_eq_some_iff.1 h.1).1
  refine (hiter Bk (w.heap.size + 1) W0 (fun A B hA _ hAB => ⟨(hAB _ (by omega) (by omega)).trans hA.1, (hAB _ (by omega) (by omega)).trans hA.2⟩) hBlt (by omega) hD0' ⟨hl0, hd0⟩ ?_).mono ?_
  · rintro j x W1 hR hB hj
    have hsz := hBlt W1 hB
    have hy := run_yield (P := P) (args := enc x) hB.1 (by rw [hlp]; exact hps x)
    have hbeg := run_beginRound (P := P) hB.1 (by rw [hlp])
    rw [hlp] at hy hbeg
    refine ⟨fn, _, assign, body, hy, roundIn_of_wpIn hfn (hassign _ x W1 _ ⟨_, hbeg, ?_⟩)⟩
    refine wpIn_mono (hbody _ j x _ (by omega) (hRp j x W1 _ _ _ hR (by omega) hB.1 rfl) hj) ?_
    rintro e a3 W3 ⟨rfl, hk, hDn, hKp3⟩
    have b1 : (W1.putObj (w.heap.size + 1) (.loop { lp .ready none with state := .busy })).heap[w.heap.size + 1]? = some (.loop { lp .ready none with state := .busy }) := World.putObj_heap_same (by omega)
    have b2 : (W1.putObj (w.heap.size + 1) (.loop { lp .ready none with state := .busy })).heap[w.heap.size]? = some (.deferred (some [])) := (World.putObj_heap_other (by omega)).trans hB.2
    have hK1 := hKp W1 (w.heap.size + 1) _ (.loop { lp .ready none with state := .busy }) (by omega) hB.1 rfl
    rw [hlp] at b1 b2 hK1
    have c1 := hk.same _ _ (by omega) b1 rfl
    have c2 := hk.same _ _ (Nat.le_refl _) b2 rfl
    have hend := run_endRound (P := P) none c1
    refine ⟨_, _, hend, rfl, hDp _ _ _ _ _ hDn (by omega) c1 rfl, ?_, hKt _ _ _ hK1 (hKt _ _ _ hKp3 (hKp W3 _ _ _ (by omega) c1 rfl)), ?_, ?_⟩
    · refine ⟨?_, (World.putObj_heap_other (by omega)).trans c2⟩
      rw [hlp]
      exact World.putObj_heap_same (Array.getElem?_eq_some_iff.1 c1).1
    · have h1 := hk.size
      simp only [World.putObj, Array.size_setIfInBounds] at h1 ⊢
      exact h1
    · intro k o hkl hk2 ho hc
      exact (World.putObj_heap_other (by omega)).trans (hk.same k o hk2 ((World.putObj_heap_other (by omega)).trans ho) hc)
  · rintro e W2 ⟨⟨v, rfl⟩, hDN, hB⟩
    have hend := run_endLoop (P := P) hB.1 (by rw [hlp]; simp)
    rw [hlp] at hend
    exact ⟨none, _, hend, hdone _ _ (Nat.le_refl _) (hDp _ _ _ _ _ hDN (by omega) hB.1 rfl) ((World.putObj_heap_other (by omega)).trans hB.2)⟩
end

theorem yield_any {m : Nat} (m' : Nat) {P : Program} {l : Nat} {args : Array Value} {W : World} {R : Ending → World → Prop} (h : YieldAt Fence.wide m P l args W R) : YieldAt Fence.wide m' P l args W R := by
  obtain ⟨fn, tmps, assign, body, hy, hR⟩ := h
  exact ⟨fn, tmps, assign, body, hy, hR.1, fun c cs _ => hR.2 c cs (fun d hd => by cases hd)⟩
end Go.Proofs.YtbohdmconeebeaaDoor

namespace Go.Proofs.YtbohdmconeebeaaDoor
open Go.RowKit

/-- what a round's body leaves: it goes on (D), or it leaves by a code (X) -/
def stopPost (B : Nat) (Kp : World → World → Prop) (D : World → Prop) (X : Code → World → Prop) (W : World) : Exit → Act → World → Prop
  | .normal, _, W' => KeepsFrom B W W' ∧ D W' ∧ Kp W W'
  | .ret, _, W' => KeepsFrom B W W' ∧ X .ret W'
  | .exit id, _, W' => KeepsFrom B W W' ∧ X (.exit id) W'
  | _, _, _ => False
/-- what a yield answers, as the iterator sees it -/
def YPost (B l : Nat) (Kp : World → World → Prop) (D X : World → Prop) (W1 : World) (e : Ending) (W2 : World) : Prop :=
  (e = .returned (.bool true) ∧ D W2 ∧ Kp W1 W2 ∧ KeepsBut B l W1 W2) ∨ (e = .returned (.bool false) ∧ X W2 ∧ KeepsBut B l W1 W2)

section
variable {F : Fence} {n : Nat} {P : Program} {g : Operand} {ps : Array Tmp} {assign body : Code} {Q : Exit → Act → World → Prop} {a : Act} {w : World}
theorem range_stops {α : Type} (hro : F.round = none) (h1 : 1 ≤ n) {gf : Nat} {lb : Array Value} (hg : a.eval g = .func (.func gf) #[] lb) (hFg : F.fn gf) (eg : ∀ args w, (callFunc gf args).run P w = .ok (.enter gf args) w)
    (enc : α → Array Value) (hps : ∀ x, (enc x).size = ps.size) (Rd : Nat → α → World → Prop) (Dn : Nat → World → Prop) (Sx : Code → World → Prop) (Kp : World → World → Prop) (N : Nat)
    (hRp : ∀ j x W l o o', Rd j x W → w.heap.size ≤ l → W.heap[l]? = some o → o.isCells = false → Rd j x (W.putObj l o'))
    (hDp : ∀ j W l o o', Dn j W → w.heap.size ≤ l → W.heap[l]? = some o → o.isCells = false → Dn j (W.putObj l o'))
    (hSp : ∀ c W l o o', Sx c W → w.heap.size ≤ l → W.heap[l]? = some o → o.isCells = false → Sx c (W.putObj l o'))
    (hKt : ∀ A B C, Kp A B → Kp B C → Kp A C)
    (hKp : ∀ W l o o', w.heap.size ≤ l → W.heap[l]? = some o → o.isCells = false → Kp W (W.putObj l o'))
    (hD0 : ∀ o, Dn 0 ((w.alloc (.deferred (some []))).alloc o)) (a₁ : α → Act)
    (hassign : ∀ (l : Nat) (x : α) (W : World) (K : Act → World → Prop), K (a₁ x) W → assign.wpIn (F.inRound l) (n - 1 - 1) P (Exit.then K (fun _ _ _ => False)) { tmps := (ps.zip (enc x)).foldl (fun t (p, v) => t.setIfInBounds p v) a.tmps, defers := [] } W)
    (hbody : ∀ (l j : Nat) (x : α) (W : World), w.heap.size ≤ l → Rd j x W → j < N → body.wpIn (F.inRound l) (n - 1 - 1) P (stopPost w.heap.size Kp (Dn (j + 1)) Sx W) (a₁ x) W)
    (hiter : ∀ (Bk : World → Prop) (X : World → Prop) (l : Nat) (W : World), (∀ A B, Bk A → A.heap.size ≤ B.heap.size → (∀ k, w.heap.size ≤ k → k < w.heap.size + 2 → B.heap[k]? = A.heap[k]?) → Bk B) → (∀ A, Bk A → w.heap.size + 2 ≤ A.heap.size) →
      (∀ A l' o o', X A → w.heap.size + 2 ≤ l' → A.heap[l']? = some o → o.isCells = false → X (A.putObj l' o')) → l < w.heap.size + 2 → Dn 0 W → Bk W →
      (∀ j x W1, Rd j x W1 → Bk W1 → j < N → YieldAt F (n - 1 - 1) P l (enc x) W1 (YPost w.heap.size l Kp (fun W2 => Dn (j + 1) W2 ∧ Bk W2) X W1)) →
      CallsIn F (n - 1) P gf (#[.func (.yield l) #[] #[]] ++ lb) W fun e W' => (∃ v, e = .returned v) ∧ ((Dn N W' ∧ Bk W') ∨ X W'))
    (hdone : ∀ (D : Nat) (W : World), w.heap.size ≤ D → Dn N W → W.heap[D]? = some (.deferred (some [])) → Q .normal { a with defers := { target := .collected D, args := #[] } :: a.defers } W)
    (hstop : ∀ (D : Nat) (c : Code) (W : World), w.heap.size ≤ D → Sx c W → W.heap[D]? = some (.deferred (some [])) → c.wpIn F n P Q { a with defers := { target := .collected D, args := #[] } :: a.defers } W) :
    (Code.rangeFunc g ps assign body).wpIn F n P Q a w := by
  apply wpIn_rangeFunc
  intro fn hfn
  rw [hro]
  have hent := run_enterLoop_outer (P := P) (w := w) fn a.tmps ps assign body
  obtain ⟨lp, hlp⟩ : ∃ lp : LoopState → Option Code → Loop, lp = fun st pe => { state := st, pending := pe, fn := fn, tmps := a.tmps, params := ps, assign := assign, body := body, defers := w.heap.size } := ⟨_, rfl⟩
  have hlp0 : ({ state := .ready, pending := none, fn, tmps := a.tmps, params := ps, assign, body, defers := w.heap.size } : Loop) = lp .ready none := by rw [hlp]
  rw [hlp0] at hent
  have hD0' := hD0 (.loop (lp .ready none))
  have hl0 : ((w.alloc (.deferred (some []))).alloc (.loop (lp .ready none))).heap[w.heap.size + 1]? = some (.loop (lp .ready none)) := by
    have h := World.alloc_heap_new (w.alloc (.deferred (some []))) (.loop (lp .ready none))
    rwa [World.size_alloc] at h
  have hd0 : ((w.alloc (.deferred (some []))).alloc (.loop (lp .ready none))).heap[w.heap.size]? = some (.deferred (some [])) := (Below.heap_alloc _ _ _ (by simp)).trans (World.alloc_heap_new w _)
  generalize (w.alloc (.deferred (some []))).alloc (.loop (lp .ready none)) = W0 at *
  refine ⟨_, _, _, { target := .fn (.func gf) lb, args := #[.func (.yield (w.heap.size + 1)) #[] #[]] }, W0, gf, #[.func (.yield (w.heap.size + 1)) #[] #[]] ++ lb, W0, hent, ?_, ?_, ?_, fun _ => h1, ?_⟩
  · simp only [resolve, hg]
    simp [go_sem]
  · intro f' hf'
    simp [Target.leads] at hf'
    subst hf'
    exact hFg
  · simp [invoke, go_sem, eg]
  let Bk : World → Prop := fun W => W.heap[w.heap.size + 1]? = some (.loop (lp .ready none)) ∧ W.heap[w.heap.size]? = some (.deferred (some []))
  let X : World → Prop := fun W => ∃ c, Sx c W ∧ W.heap[w.heap.size + 1]? = some (.loop (lp .done (some c))) ∧ W.heap[w.heap.size]? = some (.deferred (some []))
  have hBlt : ∀ A, Bk A → w.heap.size + 2 ≤ A.heap.size := fun A h => (Array.getElem?_eq_some_iff.1 h.1).1
  refine (hiter Bk X (w.heap.size + 1) W0 (fun A B hA _ hAB => ⟨(hAB _ (by omega) (by omega)).trans hA.1, (hAB _ (by omega) (by omega)).trans hA.2⟩) hBlt
    (fun A l' o o' hA hl' ho hc => by
      obtain ⟨c, h1, h2, h3⟩ := hA
      exact ⟨c, hSp c A l' o o' h1 (by omega) ho hc, (World.putObj_heap_other (by omega)).trans h2, (World.putObj_heap_other (by omega)).trans h3⟩) (by omega) hD0' ⟨hl0, hd0⟩ ?_).mono ?_
  · rintro j x W1 hR hB hj
    have hsz := hBlt W1 hB
    have hy := run_yield (P := P) (args := enc x) hB.1 (by rw [hlp]; exact hps x)
    have hbeg := run_beginRound (P := P) hB.1 (by rw [hlp])
    rw [hlp] at hy hbeg
    refine ⟨fn, _, assign, body, hy, roundIn_of_wpIn hfn (hassign _ x W1 _ ⟨_, hbeg, ?_⟩)⟩
    refine wpIn_mono (hbody _ j x _ (by omega) (hRp j x W1 _ _ _ hR (by omega) hB.1 rfl) hj) ?_
    have b1 : (W1.putObj (w.heap.size + 1) (.loop { lp .ready none with state := .busy })).heap[w.heap.size + 1]? = some (.loop { lp .ready none with state := .busy }) := World.putObj_heap_same (by omega)
    have b2 : (W1.putObj (w.heap.size + 1) (.loop { lp .ready none with state := .busy })).heap[w.heap.size]? = some (.deferred (some [])) := (World.putObj_heap_other (by omega)).trans hB.2
    have hK1 := hKp W1 (w.heap.size + 1) _ (.loop { lp .ready none with state := .busy }) (by omega) hB.1 rfl
    rw [hlp] at b1 b2 hK1
    have fin : ∀ (jump : Option Code) (W3 : World), KeepsFrom w.heap.size (W1.putObj (w.heap.size + 1) (.loop { lp .ready none with state := .busy })) W3 →
        (Instr.endRound (w.heap.size + 1) jump).run P W3 = .ok (.bool jump.isNone) (W3.putObj (w.heap.size + 1) (.loop (lp (if jump.isNone then .ready else .done) jump))) ∧
        W3.heap[w.heap.size + 1]? = some (.loop { lp .ready none with state := .busy }) ∧
        (W3.putObj (w.heap.size + 1) (.loop (lp (if jump.isNone then .ready else .done) jump))).heap[w.heap.size + 1]? = some (.loop (lp (if jump.isNone then .ready else .done) jump)) ∧
        (W3.putObj (w.heap.size + 1) (.loop (lp (if jump.isNone then .ready else .done) jump))).heap[w.heap.size]? = some (.deferred (some [])) ∧
        KeepsBut w.heap.size (w.heap.size + 1) W1 (W3.putObj (w.heap.size + 1) (.loop (lp (if jump.isNone then .ready else .done) jump))) := fun jump W3 hk => by
      rw [hlp] at hk ⊢
      have c1 := hk.same _ _ (by omega) b1 rfl
      have c2 := hk.same _ _ (Nat.le_refl _) b2 rfl
      have hend := run_endRound (P := P) jump c1
      refine ⟨hend, c1, World.putObj_heap_same (Array.getElem?_eq_some_iff.1 c1).1, (World.putObj_heap_other (by omega)).trans c2, ?_, ?_⟩
      · have h1 := hk.size
        simp only [World.putObj, Array.size_setIfInBounds] at h1 ⊢
        exact h1
      · intro k o hkl hk2 ho hc
        exact (World.putObj_heap_other (by omega)).trans (hk.same k o hk2 ((World.putObj_heap_other (by omega)).trans ho) hc)
    rintro e a3 W3 hp
    rw [hlp] at fin
    cases e with
    | normal =>
      obtain ⟨hk, hDn, hKp3⟩ := hp
      obtain ⟨hend, c1, d1, d2, hkb⟩ := fin none W3 hk
      exact ⟨_, _, hend, .inl ⟨rfl, ⟨hDp _ _ _ _ _ hDn (by omega) c1 rfl, by rw [hlp]; exact d1, d2⟩, hKt _ _ _ hK1 (hKt _ _ _ hKp3 (hKp W3 _ _ _ (by omega) c1 rfl)), hkb⟩⟩
    | ret =>
      obtain ⟨hk, hx⟩ := hp
      obtain ⟨hend, c1, d1, d2, hkb⟩ := fin (some .ret) W3 hk
      exact ⟨_, _, hend, .inr ⟨rfl, ⟨.ret, hSp _ _ _ _ _ hx (by omega) c1 rfl, by rw [hlp]; exact d1, d2⟩, hkb⟩⟩
    | exit id =>
      obtain ⟨hk, hx⟩ := hp
      obtain ⟨hend, c1, d1, d2, hkb⟩ := fin (some (.exit id)) W3 hk
      exact ⟨_, _, hend, .inr ⟨rfl, ⟨.exit id, hSp _ _ _ _ _ hx (by omega) c1 rfl, by rw [hlp]; exact d1, d2⟩, hkb⟩⟩
    | goto t => exact hp.elim
    | panic ch => exact hp.elim
    | outgrown => exact hp.elim
  · rintro e W2 ⟨⟨v, rfl⟩, ⟨hDN, hB⟩ | ⟨c, hc, hl, hd⟩⟩
    · have hend := run_endLoop (P := P) hB.1 (by rw [hlp]; simp)
      rw [hlp] at hend
      exact ⟨none, _, hend, hdone _ _ (Nat.le_refl _) (hDp _ _ _ _ _ hDN (by omega) hB.1 rfl) ((World.putObj_heap_other (by omega)).trans hB.2)⟩
    · have hend := run_endLoop (P := P) hl (by rw [hlp]; simp)
      rw [hlp] at hend
      exact ⟨some c, _, hend, hstop _ c _ (Nat.le_refl _) (hSp _ _ _ _ _ hc (by omega) hl rfl) ((World.putObj_heap_other (by omega)).trans hd)⟩
end
end Go.Proofs.YtbohdmconeebeaaDoor

namespace Go.Proofs.YtbohdmconeebeaaDoor
open Go.RowKit

/-- the numbers zs, of kind k, lie at the slice's address, below block B; where there are none the address is whatever it is -/
def Nums (k : IntKind) (w : World) (B : Nat) (a : Option Addr) (zs : List Int) : Prop :=
  zs ≠ [] → ∃ b off, a = some ⟨b, off, none⟩ ∧ b < B ∧ ∀ j c, zs[j]? = some c → w.cell? ⟨b, off + j, none⟩ = some (.int k c)

theorem below_drewN {B : Nat} {a w : World} (h : Below B a w) (n : Nat) : Below B a (w.drewN n) := ⟨h.os, h.tape, h.output, h.size, h.block⟩

section
variable {k : IntKind} {w w' : World} {B B' : Nat} {a : Option Addr} {zs : List Int}
theorem Nums.nil : Nums k w B a [] := fun h => absurd rfl h
theorem Nums.open (h : Nums k w B a zs) {j : Nat} {c : Int} (hj : zs[j]? = some c) : ∃ b off, a = some ⟨b, off, none⟩ ∧ b < B ∧ w.cell? ⟨b, off + j, none⟩ = some (.int k c) := by
  obtain ⟨b, off, e, hb, hc⟩ := h (by intro e; subst e; simp at hj)
  exact ⟨b, off, e, hb, hc j c hj⟩
theorem Nums.kept (h : Nums k w B a zs) (hk : ∀ p : Addr, p.block < B → w'.cell? p = w.cell? p) : Nums k w' B a zs := fun hn => by
  obtain ⟨b, off, e, hb, hc⟩ := h hn
  exact ⟨b, off, e, hb, fun j c hj => (hk ⟨b, off + j, none⟩ hb).trans (hc j c hj)⟩
theorem Nums.below (h : Nums k w B a zs) (hb : Below B w w') : Nums k w' B a zs := h.kept fun _ hp => hb.cell hp
theorem Nums.mono (h : Nums k w B a zs) (hB : B ≤ B') : Nums k w B' a zs := fun hn => by
  obtain ⟨b, off, e, hb, hc⟩ := h hn
  exact ⟨b, off, e, by omega, hc⟩
theorem Nums.take (h : Nums k w B a zs) (n : Nat) : Nums k w B a (zs.take n) := fun hn => by
  obtain ⟨b, off, e, hb, hc⟩ := h (by intro e; subst e; simp at hn)
  refine ⟨b, off, e, hb, fun j c hj => hc j c ?_⟩
  rw [List.getElem?_take] at hj
  by_cases hlt : j < n
  · simpa [hlt] using hj
  · simp [hlt] at hj
/-- 's[i:]' of a slice, as the model spells its address -/
theorem Nums.drop (h : Nums k w B a zs) {i cap : Nat} (hc : zs.length ≤ cap) : Nums k w B (if cap = i then a else a.map (·.add i)) (zs.drop i) := fun hn => by
  have hi : i < zs.length := by
    rcases Nat.lt_or_ge i zs.length with h1 | h1
    · exact h1
    · exact absurd (List.drop_eq_nil_of_le h1) hn
  obtain ⟨b, off, rfl, hb, hcell⟩ := h (by intro e; subst e; simp at hi)
  refine ⟨b, off + i, ?_, hb, fun j c hj => ?_⟩
  · rw [if_neg (by omega)]; simp [Addr.add]

  · rw [Nat.add_assoc]
    exact hcell (i + j) c (by rw [← hj, List.getElem?_drop])
theorem Nums.of_own {base e : Nat} {c : Nat} (h : w.ownsRow base e 1 (.slice a zs.length c) zs.length (zs.map (Value.int k))) : Nums k w w.heap.size a zs := fun hn => by
  have hp : 0 < zs.length := by
    rcases Nat.eq_zero_or_pos zs.length with h0 | h0
    · exact absurd (List.eq_nil_of_length_eq_zero h0) hn
    · exact h0
  obtain ⟨g, cap, hv, _, hlt⟩ := h.form hp
  have ha : a = some ⟨g, 0, none⟩ := by injection hv
  subst ha
  refine ⟨g, 0, rfl, hlt, fun j c hj => ?_⟩
  have := h.cells (g := g) rfl j (.int k c) (by rw [List.getElem?_map, hj]; rfl)
  rw [Nat.zero_add]
  by_cases h0 : j = 0
  · subst h0; simpa [Addr.add] using this
  · simpa [Addr.add, h0] using this
/-- one number at a place -/
theorem Nums.one {k : IntKind} {w : World} {B b off : Nat} {z : Int} (hb : b < B) (hc : w.cell? ⟨b, off, none⟩ = some (.int k z)) : Nums k w B (some ⟨b, off, none⟩) [z] := fun _ =>
  ⟨b, off, rfl, hb, fun j c hj => by
    cases j with
    | zero => simp at hj; subst hj; exact hc
    | succ j => simp at hj⟩
/-- a slice that has just been laid -/
theorem Nums.new (k : IntKind) (w : World) (t : TypeId) (zs : List Int) (cs : Array Value) (h : cs = (zs.map (Value.int k)).toArray) : Nums k (w.alloc (.cells cs t)) (w.heap.size + 1) (some ⟨w.heap.size, 0, none⟩) zs := fun _ => by
  refine ⟨w.heap.size, 0, rfl, by omega, fun j c hj => ?_⟩
  rw [World.cell?_alloc_at _ _ _ _ rfl, h]
  simp [hj]
end

/-- a slice of integers that came in: nil, or a row of 'cap' cells with the numbers zs, of which the first len are its elements -/
def IsRow (k : IntKind) (w : World) (a : Option Addr) (len cap : Nat) (zs : List Int) : Prop :=
  (a = none ∧ len = 0 ∧ cap = 0 ∧ zs = []) ∨
  ∃ x, a = some x ∧ len ≤ cap ∧ cap ≤ maxLen ∧ zs.length = cap ∧ (∀ i, i < zs.length → w.cell? (x.add i) = some (.int k (zs.getD i 0))) ∧ ∀ n ∈ zs, (Lit.int k n).wf = true
theorem block_of_cell {w : World} {p : Addr} {v : Value} (h : w.cell? p = some v) : p.block < w.heap.size := by
  rcases Nat.lt_or_ge p.block w.heap.size with h1 | h1
  · exact h1
  · simp [World.cell?, Array.getElem?_eq_none h1] at h
/-- .. as its elements lie -/
theorem IsRow.elems {k : IntKind} {w : World} {a : Option Addr} {len cap : Nat} {zs : List Int} (h : IsRow k w a len cap zs) :
    ∃ es : List Int, es.length = len ∧ len ≤ cap ∧ cap ≤ maxLen ∧ Nums k w w.heap.size a es ∧ ∀ n ∈ es, (Lit.int k n).wf = true := by
  rcases h with ⟨rfl, rfl, rfl, rfl⟩ | ⟨x, rfl, hl, hm, hz, hc, hw⟩
  · exact ⟨[], rfl, by omega, by omega, Nums.nil, by simp⟩
  · refine ⟨zs.take len, by rw [List.length_take]; omega, hl, hm, ?_, fun n hn => hw n (List.mem_of_mem_take hn)⟩
    refine Nums.take (fun hn => ?_) len
    have h0 : 0 < zs.length := by
      rcases Nat.eq_zero_or_pos zs.length with h | h
      · exact absurd (List.eq_nil_of_length_eq_zero h) hn
      · exact h
    obtain ⟨b, off, spot⟩ := x
    have hc0 := hc 0 h0
    have hspot : spot = none := by simpa [Addr.add] using World.cell?_spot hc0
    subst hspot
    refine ⟨b, off, rfl, by simpa [Addr.add] using block_of_cell hc0, fun j c hj => ?_⟩
    have hlt : j < zs.length := by
      rcases Nat.lt_or_ge j zs.length with h | h
      · exact h
      · rw [List.getElem?_eq_none h] at hj; simp at hj
    have hcj := hc j hlt
    rw [List.getD, hj] at hcj
    by_cases hj0 : j = 0
    · subst hj0; simpa [Addr.add] using hcj
    · simpa [Addr.add, hj0] using hcj

/-- a drawn region whose operations each yield one value in every world that is as a0 was below B: one walk of the text's order; its calls may make memory -/
theorem wp_region_below {P : Program} {id : Nat} {Q : Exit → Act → World → Prop} {a : Act} {w a0 : World} {B : Nat} {l : List Oper} (hm : P.follows .mixedOrders = true) (hB : Region.lexB .any l.toArray = true) (hC : Below B a0 w)
    (h : wpQuiet P l.toArray (fun W => Below B a0 W) (fun a' => ∀ w', Below B a0 w' → Q .normal a' w') l a) : (Code.region id l.toArray true).wp P Q a w :=
  wp_region_quiet (C := fun W => Below B a0 W) hm hB hC.drew (by simpa using h)
/-- a call in it, by a contract that says its one value -/
theorem calls_below {P : Program} {f : FuncId} {args : Array Value} {W a0 : World} {B : Nat} {v : Value} (hC : Below B a0 W) (hs : B ≤ W.heap.size)
    (h : Calls P f args W fun e w' => e = .returned v ∧ Below W.heap.size W w') : Calls P f args W fun e w' => e = .returned v ∧ Below B a0 w' :=
  h.mono fun _ _ ⟨he, hb⟩ => ⟨he, hC.trans (hb.mono hs)⟩

/-! ### numbers that a call has made, of an element type e and a kind k -/
def MadeK (e : TypeId) (k : IntKind) (w w' : World) (L : List Int) (v : Value) : Prop := w'.ownsRow w.heap.size e 1 v L.length (L.map (Value.int k)) ∧ Below w.heap.size w w'
section
variable {e : TypeId} {k : IntKind} {w w1 w2 : World} {L : List Int} {v v' : Value}
theorem MadeK.nil (e : TypeId) (k : IntKind) (h : Below w.heap.size w w1) : MadeK e k w w1 [] (.slice none 0 0) := ⟨World.ownsRow_nil _ _ _ _, h⟩
theorem MadeK.slice (h : MadeK e k w w1 L v) : ∃ A c, v = .slice A L.length c ∧ L.length ≤ c ∧ Nums k w1 w1.heap.size A L := by
  have h1 := h.1
  obtain ⟨_, h2⟩ := h1
  rcases h2 with ⟨rfl, h0⟩ | ⟨g, cap, cur, rfl, hg, hh, hn, _⟩
  · have : L = [] := List.eq_nil_of_length_eq_zero h0
    subst this
    exact ⟨none, 0, rfl, by simp, Nums.nil⟩
  · exact ⟨some ⟨g, 0, none⟩, cap, rfl, hn, Nums.of_own h.1⟩
theorem MadeK.own_ge (h : MadeK e k w w1 L v) {g : Nat} (hg : v.ownBlock = some g) : w.heap.size ≤ g ∧ ∃ cur, w1.heap[g]? = some (.cells cur e (0, 0)) := by
  have hv := h.1
  obtain ⟨_, h2⟩ := hv
  rcases h2 with ⟨rfl, h0⟩ | ⟨g', cap, cur, rfl, hg', hh, hn, _⟩
  · simp [Value.ownBlock] at hg
  · simp [Value.ownBlock] at hg; subst hg; exact ⟨hg', cur, hh⟩
theorem MadeK.app {x y : Int} {o : Obj} (h : MadeK e k w w1 L v) (hown : w2.ownsRow w.heap.size e 1 v' (L.length + 1) (L.map (Value.int k) ++ [.int k x])) (hg : (w1.alloc o).grownBy w2 v.ownBlock) (hx : x = y) : MadeK e k w w2 (L ++ [y]) v' := by
  subst hx
  exact ⟨by simpa using hown, ((h.2.alloc h.2.size o).grown hg (by have := h.2.size; simp; omega) (fun g hk => (h.own_ge hk).1))⟩
/-- another row, of another element type, has grown -/
theorem MadeK.far {e2 : TypeId} {k2 : IntKind} {L2 : List Int} {v2 : Value} {o : Obj} (h : MadeK e k w w1 L v) (h2 : MadeK e2 k2 w w1 L2 v2) (hne : e ≠ e2) (hg : (w1.alloc o).grownBy w2 v2.ownBlock) (hb : Below w.heap.size w w2) : MadeK e k w w2 L v := by
  refine ⟨(h.1.alloc o).kept hg ?_, hb⟩
  cases hv : v.ownBlock with
  | none => exact .inl rfl
  | some g =>
    right
    intro he
    obtain ⟨_, cur, hc⟩ := h.own_ge hv
    obtain ⟨_, cur2, hc2⟩ := h2.own_ge he.symm
    rw [hc] at hc2
    injection hc2 with hc2
    injection hc2 with _ ht
    exact hne ht
theorem MadeK.later (h : MadeK e k w w1 L v) (o : Obj) : MadeK e k w (w1.alloc o) L v := ⟨h.1.alloc o, h.2.alloc h.2.size o⟩
end
end Go.Proofs.YtbohdmconeebeaaDoor

namespace Go.Proofs.YtbohdmconeebeaaDoor
open Go.RowKit

/-- of the blocks that are there, those outside S are as they were -/
structure Off (S : Nat → Prop) (w w' : World) : Prop where
  os : w'.os = w.os
  tape : w'.tape = w.tape
  output : w'.output = w.output
  size : w.heap.size ≤ w'.heap.size
  block : ∀ k, k < w.heap.size → ¬ S k → w'.heap[k]? = w.heap[k]?
section
variable {S S' : Nat → Prop} {w w1 w' : World} {B : Nat}
theorem Off.refl (S : Nat → Prop) (w : World) : Off S w w := ⟨rfl, rfl, rfl, Nat.le_refl _, fun _ _ _ => rfl⟩
theorem Off.trans (h : Off S w w1) (k : Off S' w1 w') (hS : ∀ j, j < w.heap.size → S' j → S j) : Off S w w' :=
  ⟨k.os.trans h.os, k.tape.trans h.tape, k.output.trans h.output, Nat.le_trans h.size k.size, fun i hi hn => (k.block i (Nat.lt_of_lt_of_le hi h.size) (fun hs => hn (hS i hi hs))).trans (h.block i hi hn)⟩
theorem Off.mono (h : Off S w w') (hS : ∀ j, j < w.heap.size → S j → S' j) : Off S' w w' := ⟨h.os, h.tape, h.output, h.size, fun k hk hn => h.block k hk fun hs => hn (hS k hk hs)⟩
theorem Off.of_below (h : Below w.heap.size w w') : Off S w w' := ⟨h.os, h.tape, h.output, h.size, fun k hk _ => h.block k hk⟩
theorem Off.below (h : Off S w w') (hS : ∀ k, S k → B ≤ k) (hB : B ≤ w.heap.size) : Below B w w' := ⟨h.os, h.tape, h.output, h.size, fun k hk => h.block k (by omega) (fun hs => by have := hS k hs; omega)⟩
theorem Off.cell (h : Off S w w') {p : Addr} {v : Value} (hv : w.cell? p = some v) (hn : ¬ S p.block) : w'.cell? p = some v :=
  (World.cell?_of_block (h.block p.block (World.block_lt_of_cell? w p hv) hn)).trans hv
theorem Off.setCell (h : Off S w w') {p : Addr} (hp : S p.block) (u : Value) : Off S w (w'.setCell p u) :=
  ⟨h.os, h.tape, h.output, by simpa [World.setCell] using h.size, fun k hk hn => (Below.heap_setCell _ _ _ _ (fun e => hn (by subst e; exact hp))).trans (h.block k hk hn)⟩
theorem Off.setRow (h : Off S w w') {g : Nat} (hp : S g) (cs : Array Value) : Off S w (w'.setRow g cs) :=
  ⟨h.os, h.tape, h.output, by simpa [World.setRow] using h.size, fun k hk hn => (setRow_other _ _ _ _ (fun e => hn (by subst e; exact hp))).trans (h.block k hk hn)⟩
end

/-- the block of a slice's address -/
def blockOf (A : Option Addr) (g : Nat) : Prop := ∃ o s, A = some ⟨g, o, s⟩

theorem Nums.off {S : Nat → Prop} {k : IntKind} {w w' : World} {B : Nat} {A : Option Addr} {zs : List Int} (h : Nums k w B A zs) (hf : Off S w w') (hn : zs ≠ [] → ∀ g, blockOf A g → ¬ S g) : Nums k w' B A zs := fun h0 => by
  obtain ⟨b, off, e, hb, hc⟩ := h h0
  exact ⟨b, off, e, hb, fun j c hj => hf.cell (hc j c hj) (hn h0 b ⟨_, _, e⟩)⟩

/-- a row that the call made, known whole: nil, or cap cells of type T, the numbers cur -/
def KRow (T : TypeId) (k : IntKind) (w : World) (A : Option Addr) (cap : Nat) (cur : List Int) : Prop :=
  cur.length = cap ∧ ((A = none ∧ cap = 0) ∨ ∃ g, A = some ⟨g, 0, none⟩ ∧ cap ≤ maxLen ∧ w.heap[g]? = some (.cells (cur.map (Value.int k)).toArray T (0, 0)))
section
variable {T : TypeId} {k : IntKind} {w w' : World} {A : Option Addr} {cap : Nat} {cur : List Int}
theorem KRow.nil (T : TypeId) (k : IntKind) (w : World) : KRow T k w none 0 [] := ⟨rfl, .inl ⟨rfl, rfl⟩⟩
theorem KRow.lt (h : KRow T k w A cap cur) {g : Nat} (hg : blockOf A g) : g < w.heap.size := by
  obtain ⟨o, s, rfl⟩ := hg
  rcases h.2 with ⟨h0, _⟩ | ⟨g', e, _, hh⟩
  · simp at h0
  · injection e with e; injection e with e1; subst e1
    exact (Array.getElem?_eq_some_iff.1 hh).1
theorem KRow.off {S : Nat → Prop} (h : KRow T k w A cap cur) (hf : Off S w w') (hn : ∀ g, blockOf A g → ¬ S g) : KRow T k w' A cap cur := by
  refine ⟨h.1, ?_⟩
  rcases h.2 with h0 | ⟨g, rfl, hm, hh⟩
  · exact .inl h0
  · exact .inr ⟨g, rfl, hm, by rw [hf.block g (Array.getElem?_eq_some_iff.1 hh).1 (hn g ⟨_, _, rfl⟩)]; exact hh⟩
theorem KRow.cells (h : KRow T k w A cap cur) {g o : Nat} (hA : A = some ⟨g, o, none⟩) : o = 0 ∧ w.heap[g]? = some (.cells (cur.map (Value.int k)).toArray T (0, 0)) := by
  rcases h.2 with ⟨h0, _⟩ | ⟨g', e, _, hh⟩
  · rw [hA] at h0; simp at h0
  · rw [hA] at e; injection e with e; injection e with e1 e2; subst e1; exact ⟨e2, hh⟩
theorem KRow.cell (h : KRow T k w A cap cur) {g o : Nat} (hA : A = some ⟨g, o, none⟩) {j : Nat} {c : Int} (hj : cur[j]? = some c) : w.cell? ⟨g, j, none⟩ = some (.int k c) := by
  obtain ⟨_, hh⟩ := h.cells hA
  simp [World.cell?, hh, hj]
theorem KRow.nums (h : KRow T k w A cap cur) (n : Nat) : Nums k w w.heap.size A (cur.take n) := by
  refine Nums.take (fun hn => ?_) n
  rcases h.2 with ⟨_, h1⟩ | ⟨g, rfl, _, hh⟩
  · exact absurd (List.eq_nil_of_length_eq_zero (h.1.trans h1)) hn
  · exact ⟨g, 0, rfl, (Array.getElem?_eq_some_iff.1 hh).1, fun j c hj => by rw [Nat.zero_add]; exact h.cell rfl hj⟩
theorem zeroCells_int (k : IntKind) (n : Nat) : Builtin.zeroCells #[.int k 0] n = ((List.replicate n (0 : Int)).map (Value.int k)).toArray := by
  apply Array.ext
  · simp [Builtin.zeroCells]
  · intro i h1 h2
    simp [Builtin.zeroCells, Nat.mod_one]
end
theorem setCell_at {w : World} {b j : Nat} {cs : Array Value} {t : TypeId} {u : Value} (h : w.heap[b]? = some (.cells cs t (0, 0))) : (w.setCell ⟨b, j, none⟩ u).heap[b]? = some (.cells (cs.setIfInBounds j u) t (0, 0)) := by
  have hlt := (Array.getElem?_eq_some_iff.1 h).1
  have hv := (Array.getElem?_eq_some_iff.1 h).2
  simp [World.setCell, Array.getElem?_modify, h]
end Go.Proofs.YtbohdmconeebeaaDoor

namespace Go.Proofs.YtbohdmconeebeaaDoor
open Go.RowKit

/-- the blocks of S are as they were -/
def KeepS (S : Nat → Prop) (W W' : World) : Prop := W.heap.size ≤ W'.heap.size ∧ ∀ k, S k → W'.heap[k]? = W.heap[k]?
section
variable {S S' : Nat → Prop} {A B C : World}
theorem KeepS.refl (S : Nat → Prop) (W : World) : KeepS S W W := ⟨Nat.le_refl _, fun _ _ => rfl⟩
theorem KeepS.trans (h : KeepS S A B) (k : KeepS S B C) : KeepS S A C := ⟨Nat.le_trans h.1 k.1, fun i h1 => (k.2 i h1).trans (h.2 i h1)⟩
theorem KeepS.of_below {n : Nat} (h : Below n A B) (hS : ∀ k, S k → k < n) : KeepS S A B := ⟨h.size, fun k h1 => h.block k (hS k h1)⟩
theorem KeepS.cell (h : KeepS S A B) {p : Addr} (h1 : S p.block) : B.cell? p = A.cell? p := World.cell?_of_block (h.2 p.block h1)
theorem KeepS.less (h : KeepS S A B) (hS : ∀ k, S' k → S k) : KeepS S' A B := ⟨h.1, fun k hk => h.2 k (hS k hk)⟩
theorem KeepS.set (h : KeepS S A B) {b : Nat} (hb : ¬ S b) (v : Value) : KeepS S A (B.setCell ⟨b, 0, none⟩ v) :=
  ⟨by simpa [World.setCell] using h.1, fun k hk => (Below.heap_setCell B ⟨b, 0, none⟩ v k (fun e => by subst e; exact hb hk)).trans (h.2 k hk)⟩
theorem KeepS.grown {row : Option Nat} (h : KeepS S A B) (hg : B.grownBy C row) (hS : ∀ k, S k → k < B.heap.size) (hr : ∀ k, row = some k → ¬ S k) : KeepS S A C :=
  ⟨Nat.le_trans h.1 hg.size, fun k hk => (hg.block k (hS k hk) (fun e => hr k e.symm hk)).trans (h.2 k hk)⟩
theorem keepS_t (h : KeepS S A B) (k : KeepS S B C) : KeepS S A C := h.trans k
theorem keepS_b {w : World} (hh : ∀ k, S k → k < w.heap.size) (W : World) (l : Nat) (o o' : Obj) (hl : w.heap.size ≤ l) (_ho : W.heap[l]? = some o) (_h1 : o.isCells = false) (_h2 : o.isWalk = false) : KeepS S W (W.putObj l o') := by
  refine ⟨by simp [World.putObj], fun k hk => ?_⟩
  have := hh k hk
  simp only [World.putObj]
  rw [Array.getElem?_setIfInBounds]
  rw [if_neg (by omega)]
end

/-- the numbers zs lie at a, in a block of S -/
def NumsS (k : IntKind) (w : World) (S : Nat → Prop) (a : Option Addr) (zs : List Int) : Prop :=
  zs ≠ [] → ∃ b off, a = some ⟨b, off, none⟩ ∧ S b ∧ ∀ j c, zs[j]? = some c → w.cell? ⟨b, off + j, none⟩ = some (.int k c)
section
variable {k : IntKind} {S S' : Nat → Prop} {w w' : World} {B : Nat} {a : Option Addr} {zs : List Int}
theorem NumsS.nil : NumsS k w S a [] := fun h => absurd rfl h
theorem NumsS.keeps (h : NumsS k w S a zs) (hk : KeepS S w w') : NumsS k w' S a zs := fun hn => by
  obtain ⟨b, off, e, h1, hc⟩ := h hn
  exact ⟨b, off, e, h1, fun j c hj => (hk.cell (p := ⟨b, off + j, none⟩) h1).trans (hc j c hj)⟩
theorem NumsS.nums (h : NumsS k w S a zs) (hS : ∀ k, S k → k < B) : Nums k w B a zs := fun hn => by
  obtain ⟨b, off, e, h1, hc⟩ := h hn
  exact ⟨b, off, e, hS b h1, hc⟩
theorem NumsS.more (h : NumsS k w S a zs) (hS : ∀ k, S k → S' k) : NumsS k w S' a zs := fun hn => by
  obtain ⟨b, off, e, h1, hc⟩ := h hn
  exact ⟨b, off, e, hS b h1, hc⟩
theorem Nums.numsS (h : Nums k w B a zs) (hS : ∀ k, k < B → S k) : NumsS k w S a zs := fun hn => by
  obtain ⟨b, off, e, h1, hc⟩ := h hn
  exact ⟨b, off, e, hS b h1, hc⟩
theorem NumsS.take (h : NumsS k w S a zs) (n : Nat) : NumsS k w S a (zs.take n) := fun hn => by
  obtain ⟨b, off, e, h1, hc⟩ := h (by intro e; subst e; simp at hn)
  refine ⟨b, off, e, h1, fun j c hj => hc j c ?_⟩
  rw [List.getElem?_take] at hj
  by_cases hlt : j < n
  · simpa [hlt] using hj
  · simp [hlt] at hj
/-- cut ahead twice: the address as the walk spells it -/
theorem NumsS.drop2 {a' : Option Addr} (h : NumsS k w S a zs) {i j : Nat} (ha : i + j < zs.length → ∀ b o, a = some ⟨b, o, none⟩ → a' = some ⟨b, o + i + j, none⟩) : NumsS k w S a' (zs.drop (i + j)) := fun hn => by
  have hi' : i + j < zs.length := by
    rcases Nat.lt_or_ge (i + j) zs.length with h1 | h1
    · exact h1
    · exact absurd (List.drop_eq_nil_of_le h1) hn
  obtain ⟨b, off, rfl, hb, hcell⟩ := h (by intro e; subst e; simp at hi')
  refine ⟨b, off + i + j, ha hi' b off rfl, hb, fun q c hj => ?_⟩
  rw [Nat.add_assoc, Nat.add_assoc, ← Nat.add_assoc i j q]
  exact hcell (i + j + q) c (by rw [← hj, List.getElem?_drop])
end
theorem MadeK.numsS {e : TypeId} {k : IntKind} {w w1 : World} {L : List Int} {A : Option Addr} {n c : Nat} (h : MadeK e k w w1 L (.slice A n c)) (hn : L.length = n) : NumsS k w1 (fun b => w.heap.size ≤ b ∧ b < w1.heap.size) A L := fun h0 => by
  subst hn
  obtain ⟨b, off, rfl, hb, hc⟩ := Nums.of_own h.1 h0
  exact ⟨b, off, rfl, ⟨(h.own_ge (g := b) rfl).1, hb⟩, hc⟩
end Go.Proofs.YtbohdmconeebeaaDoor

namespace Go.Proofs.YtbohdmconeebeaaDoor
open Go.RowKit Go.Shelf
set_option maxRecDepth 100000
attribute [local go_sem] Oper.semAt_some

/-- the cells of the four parts -/
def ptC (v k i c m : Int) : Array Value := #[.int .i64 v, .int .i64 1, .int .i64 2, .int .i64 10, .int .i64 k, .int .i64 1, .int .i64 5, .int .i64 9, .int .i64 c, .int .i64 1, .int .i64 255, .int .i64 3, .int .i64 i, .int .i64 0, .int .i64 m, .int .i64 3]

theorem hparts_any (v k s i c : Int) (w : World) :
    Calls Tryd.prog 36 #[hdV v k s i c] w fun e w' => ∃ g, e = .returned (.func (.func 53) #[] #[.pointer (some ⟨g, 0, none⟩)]) ∧ w.heap.size ≤ g ∧ w'.heap[g]? = some (.cells (ptC v k i c (wrap64 (c - 1))) 93 (0, 0)) ∧ Below w.heap.size w w' := by
  unfold hdV
  go_enter Tryd.func36, Tryd.ntmps36
  go_wp2
  go_ret
  exact ⟨_, rfl, Nat.le_succ _, by rw [show w.heap.size + 1 = (w.alloc (.cells #[.int .i64 v, .int .i64 k, .int .u32 s, .int .i64 i, .int .i64 c] 28)).heap.size by simp]; exact World.alloc_heap_new _ _, ((Below.refl _ w).alloc (Nat.le_refl _) _).alloc (by simp) _⟩

end Go.Proofs.YtbohdmconeebeaaDoor

namespace Go.Proofs.YtbohdmconeebeaaDoor
open Go.RowKit Go.Shelf
set_option maxRecDepth 100000
attribute [local go_sem] Oper.semAt_some

/-- the j-th part -/
def ptCs (v k i c m : Int) : Nat → Array Value
  | 0 => #[.int .i64 v, .int .i64 1, .int .i64 2, .int .i64 10]
  | 1 => #[.int .i64 k, .int .i64 1, .int .i64 5, .int .i64 9]
  | 2 => #[.int .i64 c, .int .i64 1, .int .i64 255, .int .i64 3]
  | _ => #[.int .i64 i, .int .i64 0, .int .i64 m, .int .i64 3]
def ptV (v k i c m : Int) (j : Nat) : Value := .agg (ptCs v k i c m j)

theorem idx_part (v k i c m : Int) (W : World) :
    (Instr.index 93 (.agg (ptC v k i c m)) (.int .i64 0)).run Tryd.prog W = .ok (.agg (ptCs v k i c m 0)) W ∧ (Instr.index 93 (.agg (ptC v k i c m)) (.int .i64 1)).run Tryd.prog W = .ok (.agg (ptCs v k i c m 1)) W ∧
    (Instr.index 93 (.agg (ptC v k i c m)) (.int .i64 2)).run Tryd.prog W = .ok (.agg (ptCs v k i c m 2)) W ∧ (Instr.index 93 (.agg (ptC v k i c m)) (.int .i64 3)).run Tryd.prog W = .ok (.agg (ptCs v k i c m 3)) W := by
  refine ⟨?_, ?_, ?_, ?_⟩ <;> simp [Instr.index, run_underlying Tryd.underlying93, asIntOf, part, go_sem, Tryd.sizeOf82, ptC, ptCs]

set_option maxHeartbeats 2000000 in
theorem hparts_in (n : Nat) (hn : 1 ≤ n) (m' l g : Nat) (v k i c m : Int) (J : Nat → World → Prop) (Jx : World → Prop) (hJ : ∀ j A cs t, J j A → J j (A.alloc (.cells cs t)))
    (hY : ∀ j W, J j W → j < 4 → YieldAt Fence.wide m' Tryd.prog l #[ptV v k i c m j] W fun e W' => (e = .returned (.bool true) ∧ J (j + 1) W') ∨ (e = .returned (.bool false) ∧ Jx W'))
    (W : World) (hg : W.heap[g]? = some (.cells (ptC v k i c m) 93 (0, 0))) (h0 : J 0 W) :
    CallsIn Fence.wide n Tryd.prog 53 #[.func (.yield l) #[] #[], .pointer (some ⟨g, 0, none⟩)] W fun e W' => (∃ v, e = .returned v) ∧ (J 4 W' ∨ Jx W') := by
  have hc : ∀ j x, (ptC v k i c m)[j]? = some x → W.cell? ⟨g, j, none⟩ = some x := fun j x hx => by simp [World.cell?, hg, hx]
  unfold ptC at hc
  have c0 := hc 0 _ rfl; have c1 := hc 1 _ rfl; have c2 := hc 2 _ rfl; have c3 := hc 3 _ rfl
  have c4 := hc 4 _ rfl; have c5 := hc 5 _ rfl; have c6 := hc 6 _ rfl; have c7 := hc 7 _ rfl
  have c8 := hc 8 _ rfl; have c9 := hc 9 _ rfl; have c10 := hc 10 _ rfl; have c11 := hc 11 _ rfl
  have c12 := hc 12 _ rfl; have c13 := hc 13 _ rfl; have c14 := hc 14 _ rfl; have c15 := hc 15 _ rfl
  clear hc hg
  refine callsIn_of_wp Tryd.func53 rfl trivial ?_ rfl
  simp only [Tryd.ntmps53, List.size_toArray, List.length_cons, List.length_nil, Nat.reduceAdd, Nat.reduceSub, Array.replicate_succ, Array.replicate_zero, List.push_toArray, List.append_toArray, List.nil_append, List.cons_append]
  gi_wp2
  clear c0 c1 c2 c3 c4 c5 c6 c7 c8 c9 c10 c11 c12 c13 c14 c15
  gi_loopw [6] (fun x wr => ∃ j : Nat, j ≤ 4 ∧ x = .int .i64 (j : Int) ∧ J j wr) (fun x _ => 4 - (intOf x).toNat)
  case atStart => exact ⟨0, by omega, rfl, h0⟩
  case round =>
    obtain ⟨j, hj, rfl, hJj⟩ := hrel
    by_cases h4 : j = 4
    · subst h4
      gi_wp2
      go_end0
      exact ⟨⟨_, rfl⟩, .inl hJj⟩
    · have HYa := Lib.hid (fun cs t => hY j _ (hJ j _ cs t hJj) (by omega))
      clear hJj
      obtain rfl | rfl | rfl | rfl : j = 0 ∨ j = 1 ∨ j = 2 ∨ j = 3 := by omega
      · have HY0 := HYa.out (ptCs v k i c m 0) 82
        have hix := fun W => (idx_part v k i c m W).1
        simp only [ptC, ptCs] at hix
        clear HYa
        simp only [ptV, ptCs] at HY0
        obtain ⟨fn, tmps, assign, body, hy, hR⟩ := yield_any (n - 1) HY0
        have HR := Lib.hid hR
        clear hR HY0
        gi_wp2_with fail
        refine HR.out.mono ?_
        rintro e W3 (⟨rfl, hJ3⟩ | ⟨rfl, hJx3⟩)
        · gi_wp2
          go_roundw
          case rel => exact ⟨1, by omega, by go_num, hJ3⟩
          case measure => simp [intOf]
        · gi_wp2
          refine bodyPost_ret (results_none rfl _ _ _) rfl ?_
          exact ⟨⟨_, rfl⟩, .inr hJx3⟩
      · have HY0 := HYa.out (ptCs v k i c m 1) 82
        have hix := fun W => (idx_part v k i c m W).2.1
        simp only [ptC, ptCs] at hix
        clear HYa
        simp only [ptV, ptCs] at HY0
        obtain ⟨fn, tmps, assign, body, hy, hR⟩ := yield_any (n - 1) HY0
        have HR := Lib.hid hR
        clear hR HY0
        gi_wp2_with fail
        refine HR.out.mono ?_
        rintro e W3 (⟨rfl, hJ3⟩ | ⟨rfl, hJx3⟩)
        · gi_wp2
          go_roundw
          case rel => exact ⟨2, by omega, by go_num, hJ3⟩
          case measure => simp [intOf]
        · gi_wp2
          refine bodyPost_ret (results_none rfl _ _ _) rfl ?_
          exact ⟨⟨_, rfl⟩, .inr hJx3⟩
      · have HY0 := HYa.out (ptCs v k i c m 2) 82
        have hix := fun W => (idx_part v k i c m W).2.2.1
        simp only [ptC, ptCs] at hix
        clear HYa
        simp only [ptV, ptCs] at HY0
        obtain ⟨fn, tmps, assign, body, hy, hR⟩ := yield_any (n - 1) HY0
        have HR := Lib.hid hR
        clear hR HY0
        gi_wp2_with fail
        refine HR.out.mono ?_
        rintro e W3 (⟨rfl, hJ3⟩ | ⟨rfl, hJx3⟩)
        · gi_wp2
          go_roundw
          case rel => exact ⟨3, by omega, by go_num, hJ3⟩
          case measure => simp [intOf]
        · gi_wp2
          refine bodyPost_ret (results_none rfl _ _ _) rfl ?_
          exact ⟨⟨_, rfl⟩, .inr hJx3⟩
      · have HY0 := HYa.out (ptCs v k i c m 3) 82
        have hix := fun W => (idx_part v k i c m W).2.2.2
        simp only [ptC, ptCs] at hix
        clear HYa
        simp only [ptV, ptCs] at HY0
        obtain ⟨fn, tmps, assign, body, hy, hR⟩ := yield_any (n - 1) HY0
        have HR := Lib.hid hR
        clear hR HY0
        gi_wp2_with fail
        refine HR.out.mono ?_
        rintro e W3 (⟨rfl, hJ3⟩ | ⟨rfl, hJx3⟩)
        · gi_wp2
          go_roundw
          case rel => exact ⟨4, by omega, by go_num, hJ3⟩
          case measure => simp [intOf]
        · gi_wp2
          refine bodyPost_ret (results_none rfl _ _ _) rfl ?_
          exact ⟨⟨_, rfl⟩, .inr hJx3⟩
end Go.Proofs.YtbohdmconeebeaaDoor

namespace Go.Proofs.YtbohdmconeebeaaDoor
open Go.RowKit

section
variable {F : Fence} {n : Nat} {P : Program} {g : Operand} {ps : Array Tmp} {assign body : Code} {Q : Exit → Act → World → Prop} {a : Act} {w : World}
theorem range_stopa {α : Type} (hro : F.round = none) (h1 : 1 ≤ n) {gf : Nat} {lb : Array Value} (hg : a.eval g = .func (.func gf) #[] lb) (hFg : F.fn gf) (eg : ∀ args w, (callFunc gf args).run P w = .ok (.enter gf args) w)
    (enc : α → Array Value) (hps : ∀ x, (enc x).size = ps.size) (Rd : Nat → α → World → Prop) (Ra : Nat → α → Act → World → Prop) (Dn : Nat → World → Prop) (Sx : Code → World → Prop) (Kp : World → World → Prop) (N : Nat)
    (hRp : ∀ j x b W l o o', Ra j x b W → w.heap.size ≤ l → W.heap[l]? = some o → o.isCells = false → Ra j x b (W.putObj l o'))
    (hDp : ∀ j W l o o', Dn j W → w.heap.size ≤ l → W.heap[l]? = some o → o.isCells = false → Dn j (W.putObj l o'))
    (hSp : ∀ c W l o o', Sx c W → w.heap.size ≤ l → W.heap[l]? = some o → o.isCells = false → Sx c (W.putObj l o'))
    (hKt : ∀ A B C, Kp A B → Kp B C → Kp A C)
    (hKp : ∀ W l o o', w.heap.size ≤ l → W.heap[l]? = some o → o.isCells = false → Kp W (W.putObj l o'))
    (hD0 : ∀ o, Dn 0 ((w.alloc (.deferred (some []))).alloc o))
    (hassign : ∀ (l j : Nat) (x : α) (W : World) (K : Act → World → Prop), Rd j x W → j < N → (∀ b W', Ra j x b W' → KeepsFrom w.heap.size W W' → Kp W W' → K b W') →
      assign.wpIn (F.inRound l) (n - 1 - 1) P (Exit.then K (fun _ _ _ => False)) { tmps := (ps.zip (enc x)).foldl (fun t (p, v) => t.setIfInBounds p v) a.tmps, defers := [] } W)
    (hbody : ∀ (l j : Nat) (x : α) (b : Act) (W : World), w.heap.size ≤ l → Ra j x b W → j < N → body.wpIn (F.inRound l) (n - 1 - 1) P (stopPost w.heap.size Kp (Dn (j + 1)) Sx W) b W)
    (hiter : ∀ (Bk : World → Prop) (X : World → Prop) (l : Nat) (W : World), (∀ A B, Bk A → A.heap.size ≤ B.heap.size → (∀ k, w.heap.size ≤ k → k < w.heap.size + 2 → B.heap[k]? = A.heap[k]?) → Bk B) → (∀ A, Bk A → w.heap.size + 2 ≤ A.heap.size) →
      (∀ A l' o o', X A → w.heap.size + 2 ≤ l' → A.heap[l']? = some o → o.isCells = false → X (A.putObj l' o')) → l < w.heap.size + 2 → Dn 0 W → Bk W →
      (∀ j x W1, Rd j x W1 → Bk W1 → j < N → YieldAt F (n - 1 - 1) P l (enc x) W1 (YPost w.heap.size l Kp (fun W2 => Dn (j + 1) W2 ∧ Bk W2) X W1)) →
      CallsIn F (n - 1) P gf (#[.func (.yield l) #[] #[]] ++ lb) W fun e W' => (∃ v, e = .returned v) ∧ ((Dn N W' ∧ Bk W') ∨ X W'))
    (hdone : ∀ (D : Nat) (W : World), w.heap.size ≤ D → Dn N W → W.heap[D]? = some (.deferred (some [])) → Q .normal { a with defers := { target := .collected D, args := #[] } :: a.defers } W)
    (hstop : ∀ (D : Nat) (c : Code) (W : World), w.heap.size ≤ D → Sx c W → W.heap[D]? = some (.deferred (some [])) → c.wpIn F n P Q { a with defers := { target := .collected D, args := #[] } :: a.defers } W) :
    (Code.rangeFunc g ps assign body).wpIn F n P Q a w := by
  apply wpIn_rangeFunc
  intro fn hfn
  rw [hro]
  have hent := run_enterLoop_outer (P := P) (w := w) fn a.tmps ps assign body
  obtain ⟨lp, hlp⟩ : ∃ lp : LoopState → Option Code → Loop, lp = fun st pe => { state := st, pending := pe, fn := fn, tmps := a.tmps, params := ps, assign := assign, body := body, defers := w.heap.size } := ⟨_, rfl⟩
  have hlp0 : ({ state := .ready, pending := none, fn, tmps := a.tmps, params := ps, assign, body, defers := w.heap.size } : Loop) = lp .ready none := by rw [hlp]
  rw [hlp0] at hent
  have hD0' := hD0 (.loop (lp .ready none))
  have hl0 : ((w.alloc (.deferred (some []))).alloc (.loop (lp .ready none))).heap[w.heap.size + 1]? = some (.loop (lp .ready none)) := by
    have h := World.alloc_heap_new (w.alloc (.deferred (some []))) (.loop (lp .ready none))
    rwa [World.size_alloc] at h
  have hd0 : ((w.alloc (.deferred (some []))).alloc (.loop (lp .ready none))).heap[w.heap.size]? = some (.deferred (some [])) := (Below.heap_alloc _ _ _ (by simp)).trans (World.alloc_heap_new w _)
  generalize (w.alloc (.deferred (some []))).alloc (.loop (lp .ready none)) = W0 at *
  refine ⟨_, _, _, { target := .fn (.func gf) lb, args := #[.func (.yield (w.heap.size + 1)) #[] #[]] }, W0, gf, #[.func (.yield (w.heap.size + 1)) #[] #[]] ++ lb, W0, hent, ?_, ?_, ?_, fun _ => h1, ?_⟩
  · simp only [resolve, hg]
    simp [go_sem]
  · intro f' hf'
    simp [Target.leads] at hf'
    subst hf'
    exact hFg
  · simp [invoke, go_sem, eg]
  let Bk : World → Prop := fun W => W.heap[w.heap.size + 1]? = some (.loop (lp .ready none)) ∧ W.heap[w.heap.size]? = some (.deferred (some []))
  let X : World → Prop := fun W => ∃ c, Sx c W ∧ W.heap[w.heap.size + 1]? = some (.loop (lp .done (some c))) ∧ W.heap[w.heap.size]? = some (.deferred (some []))
  have hBlt : ∀ A, Bk A → w.heap.size + 2 ≤ A.heap.size := fun A h => (Array.getElem?_eq_some_iff.1 h.1).1
  refine (hiter Bk X (w.heap.size + 1) W0 (fun A B hA _ hAB => ⟨(hAB _ (by omega) (by omega)).trans hA.1, (hAB _ (by omega) (by omega)).trans hA.2⟩) hBlt
    (fun A l' o o' hA hl' ho hc => by
      obtain ⟨c, h1, h2, h3⟩ := hA
      exact ⟨c, hSp c A l' o o' h1 (by omega) ho hc, (World.putObj_heap_other (by omega)).trans h2, (World.putObj_heap_other (by omega)).trans h3⟩) (by omega) hD0' ⟨hl0, hd0⟩ ?_).mono ?_
  · rintro j x W1 hR hB hj
    have hsz := hBlt W1 hB
    have hy := run_yield (P := P) (args := enc x) hB.1 (by rw [hlp]; exact hps x)
    rw [hlp] at hy
    refine ⟨fn, _, assign, body, hy, roundIn_of_wpIn hfn (hassign _ j x W1 _ hR hj (fun b2 W2 hR2 hkf hKp2 => ?_))⟩
    have hB2 : Bk W2 := ⟨hkf.same _ _ (by omega) hB.1 rfl, hkf.same _ _ (Nat.le_refl _) hB.2 rfl⟩
    have hsz2 := hBlt W2 hB2
    have hbeg := run_beginRound (P := P) hB2.1 (by rw [hlp])
    rw [hlp] at hbeg
    refine ⟨_, hbeg, ?_⟩
    refine wpIn_mono (hbody _ j x b2 _ (by omega) (hRp j x b2 W2 _ _ _ hR2 (by omega) hB2.1 rfl) hj) ?_
    have b1 : (W2.putObj (w.heap.size + 1) (.loop { lp .ready none with state := .busy })).heap[w.heap.size + 1]? = some (.loop { lp .ready none with state := .busy }) := World.putObj_heap_same (by omega)
    have b2 : (W2.putObj (w.heap.size + 1) (.loop { lp .ready none with state := .busy })).heap[w.heap.size]? = some (.deferred (some [])) := (World.putObj_heap_other (by omega)).trans hB2.2
    have hK1 := hKp W2 (w.heap.size + 1) _ (.loop { lp .ready none with state := .busy }) (by omega) hB2.1 rfl
    rw [hlp] at b1 b2 hK1
    have fin : ∀ (jump : Option Code) (W3 : World), KeepsFrom w.heap.size (W2.putObj (w.heap.size + 1) (.loop { lp .ready none with state := .busy })) W3 →
        (Instr.endRound (w.heap.size + 1) jump).run P W3 = .ok (.bool jump.isNone) (W3.putObj (w.heap.size + 1) (.loop (lp (if jump.isNone then .ready else .done) jump))) ∧
        W3.heap[w.heap.size + 1]? = some (.loop { lp .ready none with state := .busy }) ∧
        (W3.putObj (w.heap.size + 1) (.loop (lp (if jump.isNone then .ready else .done) jump))).heap[w.heap.size + 1]? = some (.loop (lp (if jump.isNone then .ready else .done) jump)) ∧
        (W3.putObj (w.heap.size + 1) (.loop (lp (if jump.isNone then .ready else .done) jump))).heap[w.heap.size]? = some (.deferred (some [])) ∧
        KeepsBut w.heap.size (w.heap.size + 1) W1 (W3.putObj (w.heap.size + 1) (.loop (lp (if jump.isNone then .ready else .done) jump))) := fun jump W3 hk => by
      rw [hlp] at hk ⊢
      have c1 := hk.same _ _ (by omega) b1 rfl
      have c2 := hk.same _ _ (Nat.le_refl _) b2 rfl
      have hend := run_endRound (P := P) jump c1
      refine ⟨hend, c1, World.putObj_heap_same (Array.getElem?_eq_some_iff.1 c1).1, (World.putObj_heap_other (by omega)).trans c2, ?_, ?_⟩
      · have h1 := hk.size
        have h2 := hkf.size
        simp only [World.putObj, Array.size_setIfInBounds] at h1 ⊢
        omega
      · intro k o hkl hk2 ho hc
        exact (World.putObj_heap_other (by omega)).trans (hk.same k o hk2 ((World.putObj_heap_other (by omega)).trans (hkf.same k o hk2 ho hc)) hc)
    rintro e a3 W3 hp
    rw [hlp] at fin
    cases e with
    | normal =>
      obtain ⟨hk, hDn, hKp3⟩ := hp
      obtain ⟨hend, c1, d1, d2, hkb⟩ := fin none W3 hk
      exact ⟨_, _, hend, .inl ⟨rfl, ⟨hDp _ _ _ _ _ hDn (by omega) c1 rfl, by rw [hlp]; exact d1, d2⟩, hKt _ _ _ hKp2 (hKt _ _ _ hK1 (hKt _ _ _ hKp3 (hKp W3 _ _ _ (by omega) c1 rfl))), hkb⟩⟩
    | ret =>
      obtain ⟨hk, hx⟩ := hp
      obtain ⟨hend, c1, d1, d2, hkb⟩ := fin (some .ret) W3 hk
      exact ⟨_, _, hend, .inr ⟨rfl, ⟨.ret, hSp _ _ _ _ _ hx (by omega) c1 rfl, by rw [hlp]; exact d1, d2⟩, hkb⟩⟩
    | exit id =>
      obtain ⟨hk, hx⟩ := hp
      obtain ⟨hend, c1, d1, d2, hkb⟩ := fin (some (.exit id)) W3 hk
      exact ⟨_, _, hend, .inr ⟨rfl, ⟨.exit id, hSp _ _ _ _ _ hx (by omega) c1 rfl, by rw [hlp]; exact d1, d2⟩, hkb⟩⟩
    | goto t => exact hp.elim
    | panic ch => exact hp.elim
    | outgrown => exact hp.elim
  · rintro e W2 ⟨⟨v, rfl⟩, ⟨hDN, hB⟩ | ⟨c, hc, hl, hd⟩⟩
    · have hend := run_endLoop (P := P) hB.1 (by rw [hlp]; simp)
      rw [hlp] at hend
      exact ⟨none, _, hend, hdone _ _ (Nat.le_refl _) (hDp _ _ _ _ _ hDN (by omega) hB.1 rfl) ((World.putObj_heap_other (by omega)).trans hB.2)⟩
    · have hend := run_endLoop (P := P) hl (by rw [hlp]; simp)
      rw [hlp] at hend
      exact ⟨some c, _, hend, hstop _ c _ (Nat.le_refl _) (hSp _ _ _ _ _ hc (by omega) hl rfl) ((World.putObj_heap_other (by omega)).trans hd)⟩
end
end Go.Proofs.YtbohdmconeebeaaDoor

namespace Go.Proofs.YtbohdmconeebeaaDoor
open Go.RowKit

/-- whatever is cells, but block b, is as it was -/
structure KpC (b : Nat) (W W' : World) : Prop where
  size : W.heap.size ≤ W'.heap.size
  same : ∀ (k : Nat) (o : Obj), k ≠ b → W.heap[k]? = some o → o.isCells = true → W'.heap[k]? = some o
theorem KpC.trans {b : Nat} {A B C : World} (h : KpC b A B) (k : KpC b B C) : KpC b A C := ⟨Nat.le_trans h.size k.size, fun i o hi ho hc => k.same i o hi (h.same i o hi ho hc) hc⟩
theorem KpC.putObj {b l : Nat} {W : World} {o o' : Obj} (ho : W.heap[l]? = some o) (hc : o.isCells = false) : KpC b W (W.putObj l o') := by
  refine ⟨by simp [World.putObj], fun k p hk hp hpc => (World.putObj_heap_other (fun e => ?_)).trans hp⟩
  subst e
  rw [hp] at ho
  injection ho with ho
  subst ho
  rw [hpc] at hc; cases hc
theorem KpC.of_below {b : Nat} {W W' : World} (h : Below W.heap.size W W') : KpC b W W' := ⟨h.size, fun k _ _ ho _ => (h.block k (Array.getElem?_eq_some_iff.1 ho).1).trans ho⟩
theorem KpC.set {b : Nat} {W W' : World} (h : KpC b W W') (v : Value) : KpC b W (W'.setCell ⟨b, 0, none⟩ v) :=
  ⟨by simpa [World.setCell] using h.size, fun k _ hk ho hc => (Below.heap_setCell W' ⟨b, 0, none⟩ v k (fun e => hk (by simpa using e))).trans (h.same k _ hk ho hc)⟩

theorem below_put {B l : Nat} (W : World) (o' : Obj) (h : B ≤ l) : Below B W (W.putObj l o') := ⟨rfl, rfl, rfl, by simp [World.putObj], fun k hk => World.putObj_heap_other (by omega)⟩
end Go.Proofs.YtbohdmconeebeaaDoor

namespace Go.Proofs.YtbohdmconeebeaaDoor
open Go.RowKit

theorem cells_of_cell {W : World} {p : Addr} {v : Value} (h : W.cell? p = some v) : ∃ o : Obj, W.heap[p.block]? = some o ∧ o.isCells = true := by
  unfold World.cell? at h
  cases ho : W.heap[p.block]? with
  | none => simp [ho] at h
  | some o => exact ⟨o, rfl, by cases o <;> simp_all [Obj.isCells]⟩
theorem Nums.putObj {k : IntKind} {V : World} {B l : Nat} {a : Option Addr} {zs : List Int} {o : Obj} (h : Nums k V B a zs) (ho : V.heap[l]? = some o) (hc : o.isCells = false) (o' : Obj) : Nums k (V.putObj l o') B a zs := fun hn => by
  obtain ⟨b, off, e, hb, hcl⟩ := h hn
  refine ⟨b, off, e, hb, fun j c hj => ?_⟩
  have h1 := hcl j c hj
  obtain ⟨o2, h2, h3⟩ := cells_of_cell h1
  refine (World.cell?_of_block (World.putObj_heap_other (fun e => ?_))).trans h1
  simp only at h2 e
  subst e
  rw [ho] at h2
  injection h2 with h2
  subst h2
  rw [hc] at h3; cases h3
theorem off_below {S : Nat → Prop} {w V V' : World} (h : Off S w V) (hb : Below w.heap.size V V') : Off S w V' :=
  ⟨hb.os.trans h.os, hb.tape.trans h.tape, hb.output.trans h.output, Nat.le_trans h.size hb.size, fun k hk hn => (hb.block k hk).trans (h.block k hk hn)⟩
/-- behind j rounds of the law's loop: the box b holds j, all else is as it was -/
def Ld (w : World) (b : Nat) (t : TypeId) (j : Nat) (V : World) : Prop := Boxed V b t (.int .i64 ((j : Nat) : Int)) ∧ Off (fun k => k = b) w V
theorem Ld.below {w V V' : World} {b : Nat} {t : TypeId} {j : Nat} (h : Ld w b t j V) (hb : b < w.heap.size) (hB : Below w.heap.size V V') : Ld w b t j V' :=
  ⟨(hB.block b hb).trans h.1, off_below h.2 hB⟩
end Go.Proofs.YtbohdmconeebeaaDoor

namespace Go.Proofs.YtbohdmconeebeaaDoor
open Go.RowKit Go.Shelf
set_option maxRecDepth 100000
attribute [local go_sem] Oper.semAt_some

/-- the parts ahead of the j-th are as they may be -/
def okTo (v k i c : Int) (j : Nat) : Prop := (0 < j → 1 ≤ v ∧ v ≤ 2) ∧ (1 < j → 1 ≤ k ∧ k ≤ 5) ∧ (2 < j → 1 ≤ c ∧ c ≤ 255) ∧ (3 < j → 0 ≤ i ∧ i < c)

theorem part_at {v k i c : Int} {j : Nat} (hj : j < 4) (h : okTo v k i c j) : ∃ x le mo wr : Int, ptCs v k i c (wrap64 (c - 1)) j = #[.int .i64 x, .int .i64 le, .int .i64 mo, .int .i64 wr] ∧
    (le ≤ x → x ≤ mo → okTo v k i c (j + 1)) ∧ (x < le ∨ mo < x → chk v k i c = wr) := by
  obtain ⟨h0, h1, h2, h3⟩ := h
  obtain rfl | rfl | rfl | rfl : j = 0 ∨ j = 1 ∨ j = 2 ∨ j = 3 := by omega
  · exact ⟨_, _, _, _, rfl, fun a b => ⟨fun _ => ⟨a, b⟩, by omega, by omega, by omega⟩, fun h => by unfold chk; rw [if_pos h]⟩
  · have := h0 (by omega)
    exact ⟨_, _, _, _, rfl, fun a b => ⟨fun _ => h0 (by omega), fun _ => ⟨a, b⟩, by omega, by omega⟩, fun h => by unfold chk; rw [if_neg (by omega), if_pos h]⟩
  · have := h0 (by omega)
    have := h1 (by omega)
    exact ⟨_, _, _, _, rfl, fun a b => ⟨fun _ => h0 (by omega), fun _ => h1 (by omega), fun _ => ⟨a, b⟩, by omega⟩, fun h => by unfold chk; rw [if_neg (by omega), if_neg (by omega), if_pos (by omega)]⟩
  · have := h0 (by omega)
    have := h1 (by omega)
    have := h2 (by omega)
    have hw : wrap64 (c - 1) = c - 1 := by unfold wrap64; omega
    rw [hw]
    exact ⟨_, _, _, _, rfl, fun a b => ⟨fun _ => h0 (by omega), fun _ => h1 (by omega), fun _ => h2 (by omega), fun _ => ⟨a, by omega⟩⟩, fun h => by unfold chk; rw [if_neg (by omega), if_neg (by omega), if_pos (by omega)]⟩

set_option maxHeartbeats 4000000 in
theorem check_any (v k s i c : Int) (w : World) :
    Calls Tryd.prog 20 #[hdV v k s i c] w fun e w' => e = .returned (.int .i64 (chk v k i c)) ∧ Below w.heap.size w w' := by
  obtain ⟨w0, hw0⟩ : ∃ w0, (w.alloc (.cells #[.int .i64 v, .int .i64 k, .int .u32 s, .int .i64 i, .int .i64 c] 28)).alloc (.cells #[.int .i64 0] 38) = w0 := ⟨_, rfl⟩
  have hs0 : w0.heap.size = w.heap.size + 2 := by rw [← hw0]; simp
  have hb0 : Below w.heap.size w w0 := by rw [← hw0]; exact ((Below.refl _ w).alloc (Nat.le_refl _) _).alloc (by simp) _
  have bF0 : Boxed w0 (w.heap.size + 1) 38 (.int .i64 0) := by
    rw [← hw0]
    have := Boxed.new (w.alloc (.cells #[.int .i64 v, .int .i64 k, .int .u32 s, .int .i64 i, .int .i64 c] 28)) 38 (.int .i64 0)
    rwa [World.size_alloc] at this
  have HP := Lib.hid (hparts_any v k s i c)
  have HW := Lib.hid hw0
  clear hw0
  unfold hdV at HP ⊢
  refine (callsIn_wide (n := 9)).1 ?_
  refine callsIn_of_wp_marks Tryd.func20 rfl trivial ?_ rfl
  simp only [Tryd.ntmps20, List.size_toArray, List.length_cons, List.length_nil, Nat.reduceAdd, Nat.reduceSub, Array.replicate_succ, Array.replicate_zero, List.push_toArray, List.append_toArray, List.nil_append, List.cons_append]
  gi_wp2_with fail
  refine wpIn_wide.2 (wp_scope_straight ((wpIn_wide (n := 9)).1 ?_))
  gi_wp2_with fail
  apply wpIn_label
  gi_wp2_with fail
  refine ⟨trivial, ?_⟩
  rw [HW.out]
  refine (callsIn_wide.2 (HP.out w0)).mono ?_
  rintro e w1 ⟨g, rfl, hg0, hg, hb1⟩
  clear HP
  have hs1 := hb1.size
  have hgl : g < w1.heap.size := (Array.getElem?_eq_some_iff.1 hg).1
  have bF1 : Boxed w1 (w.heap.size + 1) 38 (.int .i64 0) := (hb1.block _ (by omega)).trans bF0
  have hb01 := hb0.trans (hb1.mono (by omega))
  clear HW bF0
  have hF : w.heap.size + 1 < w1.heap.size := by omega
  gi_wp2_with fail
  refine range_stopa rfl (by omega) (gf := 53) (lb := #[.pointer (some ⟨g, 0, none⟩)]) rfl trivial (enters_of Tryd.func53 (by kernel_rfl) rfl)
    (fun x : Nat => #[ptV v k i c (wrap64 (c - 1)) x]) (fun _ => rfl)
    (fun j x V => x = j ∧ okTo v k i c j ∧ Below w1.heap.size w1 V)
    (fun j x b V => x = j ∧ okTo v k i c j ∧ Below w1.heap.size w1 V ∧ ∃ q, b = { tmps := #[.agg #[.int .i64 v, .int .i64 k, .int .u32 s, .int .i64 i, .int .i64 c], .pointer (some ⟨w.heap.size, 0, none⟩), .int .i64 0, .pointer (some ⟨w.heap.size + 1, 0, none⟩), .pointer (some ⟨q, 0, none⟩),
        .agg #[.int .i64 v, .int .i64 k, .int .u32 s, .int .i64 i, .int .i64 c], .func (.func 53) #[] #[.pointer (some ⟨g, 0, none⟩)], ptV v k i c (wrap64 (c - 1)) x, undef, undef, undef, undef, undef, undef, undef, undef, undef, undef, undef, undef, undef, undef], defers := [] } ∧
      w1.heap.size ≤ q ∧ V.heap[q]? = some (.cells (ptCs v k i c (wrap64 (c - 1)) j) 82 (0, 0)))
    (fun j V => okTo v k i c j ∧ Below w1.heap.size w1 V)
    (fun cd V => cd = .exit 0 ∧ Boxed V (w.heap.size + 1) 38 (.int .i64 (chk v k i c)) ∧ Off (fun q => q = w.heap.size + 1) w1 V) (fun _ _ => True) 4
    (fun j x b V l o o' h hl ho hc' => ⟨h.1, h.2.1, h.2.2.1.trans ⟨rfl, rfl, rfl, by simp [World.putObj], fun k hk => World.putObj_heap_other (by omega)⟩, by
      obtain ⟨q, h1, h2, h3⟩ := h.2.2.2
      exact ⟨q, h1, h2, (World.putObj_heap_other (fun e => by subst e; rw [h3] at ho; injection ho with ho; subst ho; cases hc')).trans h3⟩⟩)
    (fun j V l o o' h hl _ _ => ⟨h.1, h.2.trans ⟨rfl, rfl, rfl, by simp [World.putObj], fun k hk => World.putObj_heap_other (by omega)⟩⟩)
    (fun cd V l o o' h hl _ _ => ⟨h.1, (World.putObj_heap_other (by omega)).trans h.2.1, off_below h.2.2 (below_put V o' hl)⟩)
    (fun _ _ _ _ _ => trivial) (fun _ _ _ _ _ _ _ => trivial)
    (fun o => ⟨⟨by omega, by omega, by omega, by omega⟩, ((Below.refl w1.heap.size w1).alloc (Nat.le_refl _) _).alloc (by simp) _⟩) ?assign ?body ?iter ?done ?stop
  case assign =>
    rintro l j x V K ⟨rfl, hok, hbV⟩ hj hK
    obtain ⟨y, le, mo, wr, hcs, _⟩ := part_at hj hok
    have hK' := Lib.hid (hK { tmps := #[.agg #[.int .i64 v, .int .i64 k, .int .u32 s, .int .i64 i, .int .i64 c], .pointer (some ⟨w.heap.size, 0, none⟩), .int .i64 0, .pointer (some ⟨w.heap.size + 1, 0, none⟩), .pointer (some ⟨V.heap.size, 0, none⟩),
        .agg #[.int .i64 v, .int .i64 k, .int .u32 s, .int .i64 i, .int .i64 c], .func (.func 53) #[] #[.pointer (some ⟨g, 0, none⟩)], ptV v k i c (wrap64 (c - 1)) x, undef, undef, undef, undef, undef, undef, undef, undef, undef, undef, undef, undef, undef, undef], defers := [] }
      (V.alloc (.cells (ptCs v k i c (wrap64 (c - 1)) x) 82)) ⟨rfl, hok, hbV.alloc hbV.size _, V.heap.size, rfl, hbV.size, World.alloc_heap_new _ _⟩ ⟨by simp, fun q o _ ho _ => (Below.heap_alloc _ _ _ (Array.getElem?_eq_some_iff.1 ho).1).trans ho⟩ trivial)
    clear hK
    unfold ptV at hK' ⊢
    rw [hcs] at hK' ⊢
    gi_wp2
    exact hK'.out
  case body =>
    rintro l j x b V hl ⟨rfl, hok, hbV, q, rfl, hq, hcell⟩ hj
    obtain ⟨y, le, mo, wr, hcs, hin, hout⟩ := part_at hj hok
    rw [hcs] at hcell
    have d0 : V.cell? ⟨q, 0, none⟩ = some (.int .i64 y) := by simp [World.cell?, hcell]
    have d1 : V.cell? ⟨q, 1, none⟩ = some (.int .i64 le) := by simp [World.cell?, hcell]
    have d2 : V.cell? ⟨q, 2, none⟩ = some (.int .i64 mo) := by simp [World.cell?, hcell]
    have d3 : V.cell? ⟨q, 3, none⟩ = some (.int .i64 wr) := by simp [World.cell?, hcell]
    have bFV : Boxed V (w.heap.size + 1) 38 (.int .i64 0) := (hbV.block _ hF).trans bF1
    have e0 := bFV.cell
    have e1 := bFV.frozen
    have hgo := Lib.hid (fun h1 h2 => (⟨⟨Nat.le_refl _, fun _ _ _ ho _ => ho⟩, ⟨hin h1 h2, hbV⟩, trivial⟩ : KeepsFrom w1.heap.size V V ∧ (okTo v k i c (x + 1) ∧ Below w1.heap.size w1 V) ∧ True))
    have hst := Lib.hid (fun h => (⟨(KeepsOthers.setCell _ _ _).from _, by rw [hout h]; exact bFV.set _, (off_below (Off.refl (fun q => q = w.heap.size + 1) w1) hbV).setCell (p := ⟨w.heap.size + 1, 0, none⟩) rfl _⟩ :
      KeepsFrom w1.heap.size V (V.setCell ⟨w.heap.size + 1, 0, none⟩ (.int .i64 wr)) ∧ Boxed (V.setCell ⟨w.heap.size + 1, 0, none⟩ (.int .i64 wr)) (w.heap.size + 1) 38 (.int .i64 (chk v k i c)) ∧ Off (fun q => q = w.heap.size + 1) w1 (V.setCell ⟨w.heap.size + 1, 0, none⟩ (.int .i64 wr))))
    clear hok hbV hcell hin hout hcs bFV
    by_cases h1 : y < le
    · gi_wp2
      exact ⟨(hst.out (.inl h1)).1, rfl, (hst.out (.inl h1)).2⟩
    · by_cases h2 : mo < y
      · gi_wp2
        exact ⟨(hst.out (.inr h2)).1, rfl, (hst.out (.inr h2)).2⟩
      · gi_wp2
        exact hgo.out (by omega) (by omega)
  case iter =>
    intro Bk X l V hBk hBlt hX hl hD hB hY
    exact hparts_in 8 (by omega) 7 l g v k i c (wrap64 (c - 1)) (fun j V => (okTo v k i c j ∧ Below w1.heap.size w1 V) ∧ Bk V) X
      (fun j A cs t h => ⟨⟨h.1.1, h.1.2.alloc h.1.2.size _⟩, hBk A _ h.2 (by simp) (fun q h1 h2 => by have := hBlt A h.2; exact Below.heap_alloc _ _ _ (by omega))⟩)
      (fun j W h hj => (hY j j W ⟨rfl, h.1⟩ h.2 hj).mono (fun e W2 h => h.elim (fun h => .inl ⟨h.1, h.2.1⟩) (fun h => .inr ⟨h.1, h.2.1⟩)))
      V ((hD.2.block g hgl).trans hg) ⟨hD, hB⟩
  case done =>
    rintro D V hD ⟨hok, hbV⟩ hK
    have hz : chk v k i c = 0 := by
      have h0 := hok.1 (by omega); have h1 := hok.2.1 (by omega); have h2 := hok.2.2.1 (by omega); have h3 := hok.2.2.2 (by omega)
      unfold chk; rw [if_neg (by omega), if_neg (by omega), if_neg (by omega)]
    have bFV : Boxed V (w.heap.size + 1) 38 (.int .i64 0) := (hbV.block _ hF).trans bF1
    have e0 := bFV.cell
    have HB := Lib.hid (hb01.trans (hbV.mono hb01.size))
    gi_wp2
    simp only [Exit.noGoto]
    refine ⟨by simp, .inl ⟨_, _, rfl, run_takeDeferred hK, ?_⟩⟩
    rw [hz]
    refine ⟨.int .i64 0, ?_, rfl, HB.out.trans (below_put _ _ (by omega))⟩
    simp [results, Tryd.f20, go_sem]
  case stop =>
    rintro D cd V hD ⟨rfl, bF, hO⟩ hK
    have e0 := bF.cell
    have HB := Lib.hid (hb01.trans (hO.below (B := w.heap.size) (fun k hk => by omega) hb01.size))
    gi_wp2
    simp only [Exit.noGoto]
    refine ⟨by simp, .inl ⟨_, _, rfl, run_takeDeferred hK, ?_⟩⟩
    refine ⟨.int .i64 (chk v k i c), ?_, rfl, HB.out.trans (below_put _ _ (by omega))⟩
    simp [results, Tryd.f20, go_sem]
end Go.Proofs.YtbohdmconeebeaaDoor

namespace Go.Proofs.YtbohdmconeebeaaDoor
open Go.RowKit

/-- bytes -/
def Bytes (zs : List Int) : Prop := ∀ z ∈ zs, 0 ≤ z ∧ z < 256
theorem Bytes.take {zs : List Int} (h : Bytes zs) (n : Nat) : Bytes (zs.take n) := fun z hz => h z (List.mem_of_mem_take hz)
theorem Bytes.drop {zs : List Int} (h : Bytes zs) (n : Nat) : Bytes (zs.drop n) := fun z hz => h z (List.mem_of_mem_drop hz)
theorem Bytes.append {x y : List Int} (hx : Bytes x) (hy : Bytes y) : Bytes (x ++ y) := fun z hz => by
  rcases List.mem_append.1 hz with h | h
  · exact hx z h
  · exact hy z h
theorem Bytes.lt {zs : List Int} (h : Bytes zs) : ∀ z ∈ zs, z < 256 := fun z hz => (h z hz).2
theorem bytes_of {es : List Int} (h : ∀ n ∈ es, (Lit.int .u8 n).wf = true) : Bytes es := fun z hz => by
  have := bounds_u8 (h z hz)
  omega
theorem ret_int {k : IntKind} {a b : Int} (h : a = b) : Ending.returned (.int k a) = .returned (.int k b) := by rw [h]
end Go.Proofs.YtbohdmconeebeaaDoor

namespace Go.Proofs.YtbohdmconeebeaaDoor
namespace Cr
def poly : Nat := 3988292384
def ones : Nat := 4294967295
/-- a word by one shift -/
def sh1 (n : Nat) : Nat := (n / 2) ^^^ (if n % 2 = 1 then poly else 0)
/-- .. by k shifts -/
def shn : Nat → Nat → Nat
  | 0, n => n
  | k + 1, n => shn k (sh1 n)
/-- the state behind bytes -/
def crc (s : Nat) (zs : List Int) : Nat := zs.foldl (fun s b => shn 8 (s ^^^ b.toNat)) s
/-- the sum of bytes -/
def sum (zs : List Int) : Nat := ones - crc ones zs
/-- a word's bytes, the lowest one first -/
def le4 (n : Nat) : List Int := [((n % 256 : Nat) : Int), ((n / 256 % 256 : Nat) : Int), ((n / 65536 % 256 : Nat) : Int), ((n / 16777216 % 256 : Nat) : Int)]

theorem xor_self (a : Nat) : a ^^^ a = 0 := Nat.xor_self a
theorem xor_div (a b k : Nat) : (a ^^^ b) / 2 ^ k = (a / 2 ^ k) ^^^ (b / 2 ^ k) := by
  rw [← Nat.shiftRight_eq_div_pow, ← Nat.shiftRight_eq_div_pow, ← Nat.shiftRight_eq_div_pow, Nat.shiftRight_xor_distrib]
theorem xor_mod (a b k : Nat) : (a ^^^ b) % 2 ^ k = (a % 2 ^ k) ^^^ (b % 2 ^ k) := Nat.xor_mod_two_pow
theorem xor_lt {a b : Nat} (k : Nat) (ha : a < 2 ^ k) (hb : b < 2 ^ k) : a ^^^ b < 2 ^ k := Nat.xor_lt_two_pow ha hb
theorem xor_left4 (a b c d : Nat) : (a ^^^ b) ^^^ (c ^^^ d) = (a ^^^ c) ^^^ (b ^^^ d) := by
  rw [Nat.xor_assoc, Nat.xor_assoc, ← Nat.xor_assoc b, Nat.xor_comm b, Nat.xor_assoc c]

theorem sh1_xor (a b : Nat) : sh1 (a ^^^ b) = sh1 a ^^^ sh1 b := by
  have h2 := xor_div a b 1
  have hm := xor_mod a b 1
  simp only [Nat.pow_one] at h2 hm
  unfold sh1
  rw [h2, xor_left4]
  congr 1
  rcases Nat.mod_two_eq_zero_or_one a with ha | ha <;> rcases Nat.mod_two_eq_zero_or_one b with hb | hb <;> simp [hm, ha, hb]
theorem sh1_zero : sh1 0 = 0 := by decide
theorem sh1_two (y : Nat) : sh1 (y * 2) = y := by unfold sh1; simp
theorem sh1_lt {n : Nat} (h : n < 2 ^ 32) : sh1 n < 2 ^ 32 := by
  unfold sh1
  refine xor_lt 32 (by omega) ?_
  split <;> simp [poly]
theorem sh1_pos {n : Nat} (h0 : n ≠ 0) (h : n < 2 ^ 32) : sh1 n ≠ 0 := by
  unfold sh1
  split
  · intro e
    have e2 : n / 2 = poly := by
      have h2 := congrArg (· ^^^ poly) e
      simpa [Nat.xor_assoc] using h2
    rw [poly] at e2
    omega
  · simp; omega

theorem shn_add (a b n : Nat) : shn (a + b) n = shn b (shn a n) := by
  induction a generalizing n with
  | zero => simp [shn]
  | succ a ih => rw [Nat.succ_add]; simp only [shn]; exact ih _
theorem shn_xor (k a b : Nat) : shn k (a ^^^ b) = shn k a ^^^ shn k b := by
  induction k generalizing a b with
  | zero => rfl
  | succ k ih => simp only [shn]; rw [sh1_xor, ih]
theorem shn_zero (k : Nat) : shn k 0 = 0 := by
  induction k with
  | zero => rfl
  | succ k ih => simp only [shn]; rw [sh1_zero, ih]
theorem shn_pow (k y : Nat) : shn k (y * 2 ^ k) = y := by
  induction k generalizing y with
  | zero => simp [shn]
  | succ k ih => simp only [shn]; rw [Nat.pow_succ, ← Nat.mul_assoc, sh1_two, ih]
theorem shn_lt {n : Nat} (k : Nat) (h : n < 2 ^ 32) : shn k n < 2 ^ 32 := by
  induction k generalizing n with
  | zero => exact h
  | succ k ih => exact ih (sh1_lt h)
theorem shn_pos {n : Nat} (k : Nat) (h0 : n ≠ 0) (h : n < 2 ^ 32) : shn k n ≠ 0 := by
  induction k generalizing n with
  | zero => exact h0
  | succ k ih => exact ih (sh1_pos h0 h) (sh1_lt h)
theorem add_xor (a b k : Nat) (h : a < 2 ^ k) : a ^^^ (b * 2 ^ k) = b * 2 ^ k + a := by
  apply Nat.eq_of_testBit_eq
  intro i
  rw [Nat.testBit_xor, Nat.mul_comm b, Nat.testBit_two_pow_mul, Nat.testBit_two_pow_mul_add _ h]
  by_cases hi : i < k
  · have : ¬ k ≤ i := by omega
    simp [hi, this]
  · have h1 : k ≤ i := by omega
    have h2 : a.testBit i = false := Nat.testBit_lt_two_pow (Nat.lt_of_lt_of_le h (Nat.pow_le_pow_right (by omega) h1))
    simp [hi, h1, h2]
theorem split (k n : Nat) : (n % 2 ^ k) ^^^ ((n / 2 ^ k) * 2 ^ k) = n := by
  rw [add_xor _ _ _ (Nat.mod_lt _ (Nat.two_pow_pos k))]
  exact Nat.div_add_mod' n (2 ^ k)
theorem shn_split (k n : Nat) : shn k n = shn k (n % 2 ^ k) ^^^ (n / 2 ^ k) := by
  have h := congrArg (shn k) (split k n)
  rw [shn_xor, shn_pow] at h
  exact h.symm

/-- a step by the table -/
theorem step (s : Nat) (b : Nat) (hb : b < 256) : shn 8 (s ^^^ b) = shn 8 ((s % 256) ^^^ b) ^^^ (s / 256) := by
  have h := shn_split 8 (s ^^^ b)
  rw [xor_mod, xor_div] at h
  simp only [Nat.reducePow] at h
  rw [Nat.mod_eq_of_lt hb, Nat.div_eq_of_lt hb, Nat.xor_zero] at h
  exact h
/-- four bytes at a time -/
theorem four (s a b c d : Nat) : shn 8 (shn 8 (shn 8 (shn 8 (s ^^^ a) ^^^ b) ^^^ c) ^^^ d) = shn 32 (s ^^^ (a ^^^ (b * 256) ^^^ (c * 65536) ^^^ (d * 16777216))) := by
  have hb : shn 8 b = shn 16 (b * 256) := by rw [show (16 : Nat) = 8 + 8 from rfl, shn_add, shn_pow 8 b]
  have hc : shn 8 c = shn 24 (c * 65536) := by rw [show (24 : Nat) = 16 + 8 from rfl, shn_add, shn_pow 16 c]
  have hd : shn 8 d = shn 32 (d * 16777216) := by rw [show (32 : Nat) = 24 + 8 from rfl, shn_add, shn_pow 24 d]
  rw [shn_xor 8 _ d, hd, shn_xor 8 _ c, hc, shn_xor 8 _ b, hb]
  simp only [← shn_add, shn_xor 8, Nat.reduceAdd]
  simp only [← shn_xor, Nat.xor_assoc]
theorem tables (x : Nat) : shn 32 x = shn 32 (x % 256) ^^^ shn 24 (x / 256 % 256) ^^^ shn 16 (x / 65536 % 256) ^^^ shn 8 (x / 16777216 % 256) ^^^ (x / 4294967296) := by
  have h1 := shn_split 8 x
  have h2 := shn_split 8 (x / 256)
  have h3 := shn_split 8 (x / 65536)
  have h4 := shn_split 8 (x / 16777216)
  simp only [Nat.reducePow, Nat.div_div_eq_div_mul, Nat.reduceMul] at h1 h2 h3 h4
  have e1 : shn 32 x = shn 32 (x % 256) ^^^ shn 24 (x / 256) := by
    rw [show (32 : Nat) = 8 + 24 from rfl, shn_add, h1, shn_xor, ← shn_add]
  have e2 : shn 24 (x / 256) = shn 24 (x / 256 % 256) ^^^ shn 16 (x / 65536) := by
    rw [show (24 : Nat) = 8 + 16 from rfl, shn_add, h2, shn_xor, ← shn_add]
  have e3 : shn 16 (x / 65536) = shn 16 (x / 65536 % 256) ^^^ shn 8 (x / 16777216) := by
    rw [show (16 : Nat) = 8 + 8 from rfl, shn_add, h3, shn_xor, ← shn_add]
  rw [e1, e2, e3, h4]
  simp only [Nat.xor_assoc]

theorem crc_nil (s : Nat) : crc s [] = s := rfl
theorem crc_cons (s : Nat) (b : Int) (zs : List Int) : crc s (b :: zs) = crc (shn 8 (s ^^^ b.toNat)) zs := rfl
theorem crc_append (s : Nat) (x y : List Int) : crc s (x ++ y) = crc (crc s x) y := by simp [crc]
theorem byte_xor_lt {s : Nat} {b : Nat} (hs : s < 2 ^ 32) (hb : b < 256) : s ^^^ b < 2 ^ 32 := xor_lt 32 hs (by omega)
theorem crc_lt {s : Nat} {zs : List Int} (hs : s < 2 ^ 32) (hz : ∀ z ∈ zs, z < 256) : crc s zs < 2 ^ 32 := by
  induction zs generalizing s with
  | nil => exact hs
  | cons b zs ih =>
    rw [crc_cons]
    refine ih (shn_lt 8 (byte_xor_lt hs ?_)) (fun z h => hz z (List.mem_cons_of_mem _ h))
    have := hz b (List.mem_cons_self ..)
    omega
theorem not_xor {s : Nat} (h : s < 2 ^ 32) : ones - s = s ^^^ ones := by
  have hx := congrArg BitVec.toNat (BitVec.xor_allOnes (x := BitVec.ofNat 32 s))
  rw [BitVec.toNat_xor, BitVec.toNat_not, BitVec.toNat_allOnes, BitVec.toNat_ofNat, Nat.mod_eq_of_lt h] at hx
  simp only [ones]
  rw [show (4294967295 : Nat) = 2 ^ 32 - 1 from rfl, hx]
theorem ones_lt : ones < 2 ^ 32 := by decide
theorem sum_lt (zs : List Int) : sum zs < 2 ^ 32 := by unfold sum ones; omega

/-- three lists, xored -/
def xor3 (x y z : List Int) : List Int := (x.zip (y.zip z)).map fun t => ((t.1.toNat ^^^ t.2.1.toNat ^^^ t.2.2.toNat : Nat) : Int)
theorem crc_xor3 (s1 s2 s3 : Nat) : ∀ x y z : List Int, x.length = y.length → y.length = z.length → crc (s1 ^^^ s2 ^^^ s3) (xor3 x y z) = crc s1 x ^^^ crc s2 y ^^^ crc s3 z := by
  intro x
  induction x generalizing s1 s2 s3 with
  | nil =>
    intro y z h1 h2
    obtain rfl : y = [] := List.eq_nil_of_length_eq_zero (by simpa using h1.symm)
    obtain rfl : z = [] := List.eq_nil_of_length_eq_zero (by simpa using h2.symm)
    rfl
  | cons a x ih =>
    intro y z h1 h2
    cases y with
    | nil => simp at h1
    | cons b y =>
      cases z with
      | nil => simp at h2
      | cons c z =>
        have h := ih (shn 8 (s1 ^^^ a.toNat)) (shn 8 (s2 ^^^ b.toNat)) (shn 8 (s3 ^^^ c.toNat)) y z (by simpa using h1) (by simpa using h2)
        rw [crc_cons, crc_cons, crc_cons, ← h]
        show crc _ (xor3 (a :: x) (b :: y) (c :: z)) = _
        rw [show xor3 (a :: x) (b :: y) (c :: z) = ((a.toNat ^^^ b.toNat ^^^ c.toNat : Nat) : Int) :: xor3 x y z from rfl, crc_cons, Int.toNat_natCast]
        congr 1
        rw [← shn_xor, ← shn_xor]
        congr 1
        rw [xor_left4 (s1 ^^^ s2) s3, xor_left4 s1 s2, ← xor_left4 (s1 ^^^ a.toNat)]
theorem sum_xor3 (x y z : List Int) (h1 : x.length = y.length) (h2 : y.length = z.length) (hx : ∀ v ∈ x, v < 256) (hy : ∀ v ∈ y, v < 256) (hz : ∀ v ∈ z, v < 256) (hw : ∀ v ∈ xor3 x y z, v < 256) :
    sum (xor3 x y z) = sum x ^^^ sum y ^^^ sum z := by
  unfold sum
  rw [not_xor (crc_lt ones_lt hx), not_xor (crc_lt ones_lt hy), not_xor (crc_lt ones_lt hz), not_xor (crc_lt ones_lt hw)]
  have h := crc_xor3 ones ones ones x y z h1 h2
  rw [Nat.xor_self, Nat.zero_xor] at h
  rw [h]
  generalize crc ones x = a
  generalize crc ones y = b
  generalize crc ones z = c
  rw [xor_left4 a ones b ones, Nat.xor_self, Nat.xor_zero, Nat.xor_assoc (a ^^^ b)]

/-! ### turned bits -/
theorem crc_lin (s e : Nat) (zs : List Int) : crc (s ^^^ e) zs = crc s zs ^^^ shn (8 * zs.length) e := by
  induction zs generalizing s e with
  | nil => rfl
  | cons b zs ih =>
    rw [crc_cons, crc_cons, Nat.xor_assoc, Nat.xor_comm e, ← Nat.xor_assoc, shn_xor, ih, ← shn_add]
    congr 2
    simp; omega
theorem shn_bit {b k : Nat} (h : b ≤ k) : shn k (2 ^ b) = shn (k - b) 1 := by
  have e := shn_add b (k - b) (2 ^ b)
  rw [show b + (k - b) = k by omega] at e
  have h1 := shn_pow b 1
  rw [Nat.one_mul] at h1
  rw [e, h1]
/-- a bit turned in a byte -/
theorem crc_flip (s : Nat) (zs : List Int) (j b : Nat) (c : Int) (hb : b < 8) (hj : zs[j]? = some c) :
    crc s (zs.set j ((c.toNat ^^^ 2 ^ b : Nat) : Int)) = crc s zs ^^^ shn (8 * (zs.length - j) - b) 1 := by
  induction zs generalizing s j with
  | nil => simp at hj
  | cons z zs ih =>
    cases j with
    | zero =>
      obtain rfl : z = c := by simpa using hj
      rw [List.set_cons_zero, crc_cons, crc_cons, Int.toNat_natCast, ← Nat.xor_assoc, shn_xor, crc_lin, shn_bit (show b ≤ 8 by omega), ← shn_add]
      congr 2
      simp; omega
    | succ j =>
      rw [List.set_cons_succ, crc_cons, crc_cons, ih _ j (by simpa using hj)]
      congr 2
      simp
/-- what is kept while bits are turned one by one: p is what is left of the pattern, i how many bits are gone by -/
theorem turn_even (i p : Nat) (hp : p % 2 = 0) : p * 2 ^ i = p / 2 * 2 ^ (i + 1) := by
  obtain ⟨q, rfl⟩ : ∃ q, p = 2 * q := ⟨p / 2, by omega⟩
  rw [Nat.mul_div_cancel_left _ (by omega), Nat.pow_succ, Nat.mul_comm 2 q, Nat.mul_assoc, Nat.mul_comm 2]
theorem turn_odd {M i p : Nat} (hp : p % 2 = 1) (hi : i ≤ M) : shn M (p * 2 ^ i) = shn M (p / 2 * 2 ^ (i + 1)) ^^^ shn (M - i) 1 := by
  have e : p * 2 ^ i = 2 ^ i ^^^ (p / 2 * 2 ^ (i + 1)) := by
    rw [add_xor _ _ _ (Nat.pow_lt_pow_right (by omega) (by omega)), Nat.pow_succ]
    obtain ⟨q, rfl⟩ : ∃ q, p = 2 * q + 1 := ⟨p / 2, by omega⟩
    rw [show (2 * q + 1) / 2 = q by omega, Nat.add_mul, Nat.one_mul, Nat.mul_comm 2 q, Nat.mul_assoc, Nat.mul_comm 2]
  rw [e, shn_xor, shn_bit hi, Nat.xor_comm]
theorem le4_crc (s c : Nat) (hc : c < 2 ^ 32) : crc s (le4 c) = shn 32 (s ^^^ c) := by
  simp only [le4, crc_cons, crc_nil, Int.toNat_natCast]
  rw [four]
  congr 2
  have h1 := split 8 c
  have h2 := split 8 (c / 256)
  have h3 := split 8 (c / 65536)
  simp only [Nat.reducePow] at h1 h2 h3
  have a1 := add_xor (c % 256) (c / 256 % 256) 8 (Nat.mod_lt _ (by decide))
  have a2 := add_xor (c / 256 % 256 * 256 + c % 256) (c / 65536 % 256) 16 (by simp only [Nat.reducePow]; omega)
  have a3 := add_xor (c / 65536 % 256 * 65536 + (c / 256 % 256 * 256 + c % 256)) (c / 16777216 % 256) 24 (by simp only [Nat.reducePow]; omega)
  simp only [Nat.reducePow] at a1 a2 a3
  rw [a1, a2, a3]
  omega
theorem sum_xor (zs : List Int) (hz : ∀ z ∈ zs, z < 256) : sum zs = crc ones zs ^^^ ones := not_xor (crc_lt ones_lt hz)
/-- the state behind sealed bytes is always one -/
theorem sealed (zs : List Int) (hz : ∀ z ∈ zs, z < 256) : crc ones (zs ++ le4 (sum zs)) = shn 32 ones := by
  rw [crc_append, le4_crc _ _ (sum_lt zs), sum_xor zs hz, ← Nat.xor_assoc, Nat.xor_self, Nat.zero_xor]
theorem turned {zs cur : List Int} {M t : Nat} (hz : ∀ z ∈ zs, z < 256) (ht : t ≠ 0) (ht2 : t < 2 ^ 32) (h : crc ones cur = crc ones (zs ++ le4 (sum zs)) ^^^ shn M t) (xs : List Int) (hx : ∀ z ∈ xs, z < 256) : xs ++ le4 (sum xs) ≠ cur := by
  intro e
  rw [← e, sealed xs hx, sealed zs hz] at h
  have h2 := congrArg (shn 32 ones ^^^ ·) h
  simp only [← Nat.xor_assoc, Nat.xor_self, Nat.zero_xor] at h2
  exact shn_pos M ht ht2 h2.symm
theorem le4_len (n : Nat) : (le4 n).length = 4 := rfl
theorem le4_lt (n : Nat) : ∀ z ∈ le4 n, z < 256 := by
  intro z hz
  simp only [le4, List.mem_cons, List.not_mem_nil, or_false] at hz
  omega
theorem le4_ge (n : Nat) : ∀ z ∈ le4 n, 0 ≤ z := by
  intro z hz
  simp only [le4, List.mem_cons, List.not_mem_nil, or_false] at hz
  omega
end Cr
end Go.Proofs.YtbohdmconeebeaaDoor

namespace Go.Proofs.YtbohdmconeebeaaDoor
open Go.RowKit
set_option maxRecDepth 100000

theorem u32_not (n : Nat) (h : n < 4294967296) : bits .xor .u32 4294967295 (n : Int) = ((Cr.ones - n : Nat) : Int) := by
  rw [show (4294967295 : Int) = ((4294967295 : Nat) : Int) from rfl, u32_xor_nat _ _ (by omega) h, Cr.not_xor h, Nat.xor_comm]
  rfl
theorem sh1_odd (n : Nat) (h : n < 4294967296) (ho : n % 2 = 1) : bits .xor .u32 ((n / 2 : Nat) : Int) 3988292384 = ((Cr.sh1 n : Nat) : Int) := by
  rw [show (3988292384 : Int) = ((3988292384 : Nat) : Int) from rfl, u32_xor_nat _ _ (by omega) (by omega), Cr.sh1, if_pos ho]
  rfl
theorem sh1_even (n : Nat) (ho : n % 2 = 0) : n / 2 = Cr.sh1 n := by
  rw [Cr.sh1, if_neg (by omega)]
  simp
theorem and1 (n : Nat) (h : n < 4294967296) : bits .and .u32 (n : Int) 1 = ((n % 2 : Nat) : Int) := by
  rw [show (1 : Int) = ((1 : Nat) : Int) from rfl, u32_and_nat _ _ h (by omega), Nat.and_one_is_mod]

theorem shifted_any (n : Nat) (w : World) (h : n < 4294967296) :
    Calls Tryd.prog 35 #[.int .u32 n] w fun e w' => e = .returned (.int .u32 (Cr.shn 8 n : Nat)) ∧ w' = w := by
  go_enter Tryd.func35, Tryd.ntmps35
  go_wp2
  go_loopw [0, 3, 4] (fun x o i wr => ∃ (k m : Nat), k ≤ 8 ∧ i = .int .i64 k ∧ x = .int .u32 (m : Int) ∧ m < 4294967296 ∧ Hid (Cr.shn (8 - k) m = Cr.shn 8 n) ∧ wr = w) (fun _ _ i _ => 8 - (intOf i).toNat)
  case atStart => exact ⟨0, n, by omega, rfl, rfl, h, rfl, rfl⟩
  case round =>
    obtain ⟨k, m, hk, rfl, rfl, hm, HE, rfl⟩ := hrel
    by_cases hlt : k < 8
    · have HS : Hid (Cr.shn (8 - (k + 1)) (Cr.sh1 m) = Cr.shn 8 n) := by
        have := HE.out
        rw [show 8 - k = (8 - (k + 1)) + 1 by omega] at this
        exact this
      have H1 := Lib.hid (and1 m hm)
      have hlt' : (k : Int) < 8 := by omega
      rcases Nat.mod_two_eq_zero_or_one m with ho | ho
      · have HV := Lib.hid (sh1_even m ho)
        have e1 : bits .and .u32 (m : Int) 1 = 0 := by rw [H1.out, ho]; rfl
        clear ho
        go_wp2
        go_roundw
        case rel => exact ⟨k + 1, Cr.sh1 m, by omega, by go_num, by rw [← HV.out]; go_num, by have := Cr.sh1_lt (n := m) (by omega); omega, HS, trivial⟩
        case measure => simp [intOf]; omega
      · have HV := Lib.hid (sh1_odd m hm ho)
        have e1 : bits .and .u32 (m : Int) 1 = 1 := by rw [H1.out, ho]; rfl
        clear ho
        go_wp2
        go_roundw
        case rel => exact ⟨k + 1, Cr.sh1 m, by omega, by go_num, by rw [← HV.out]; go_num, by have := Cr.sh1_lt (n := m) (by omega); omega, HS, trivial⟩
        case measure => simp [intOf]; omega
    · obtain rfl : k = 8 := by omega
      go_wp2
      go_ret
      refine ⟨?_, rfl⟩
      rw [← HE.out]
      rfl


theorem begin_nil (w : World) : Calls Tryd.prog 73 #[.pointer none] w fun e w' => e = .returned (.int .u32 0) ∧ w' = w := by
  go_enter Tryd.func73, Tryd.ntmps73
  go_wp2
  go_ret
  exact ⟨rfl, rfl⟩
theorem begin_any (b : Nat) (w : World) : Calls Tryd.prog 73 #[.pointer (some ⟨b, 0, none⟩)] w fun e w' => e = .returned (.int .u32 ((Cr.ones : Nat) : Int)) ∧ w' = w := by
  go_enter Tryd.func73, Tryd.ntmps73
  go_wp2
  go_ret
  exact ⟨rfl, rfl⟩
theorem end_nil (n : Int) (w : World) : Calls Tryd.prog 75 #[.pointer none, .int .u32 n] w fun e w' => e = .returned (.int .u32 0) ∧ w' = w := by
  go_enter Tryd.func75, Tryd.ntmps75
  go_wp2
  go_ret
  exact ⟨rfl, rfl⟩
theorem end_any (b n : Nat) (w : World) (h : n < 4294967296) : Calls Tryd.prog 75 #[.pointer (some ⟨b, 0, none⟩), .int .u32 n] w fun e w' => e = .returned (.int .u32 ((Cr.ones - n : Nat) : Int)) ∧ w' = w := by
  have H := Lib.hid (u32_not n h)
  go_enter Tryd.func75, Tryd.ntmps75
  go_wp2
  go_ret
  exact ⟨ret_int H.out, rfl⟩
/-- the table lies in block b, below B -/
def TabAt (w : World) (B b : Nat) : Prop := b < B ∧ ∀ k i : Nat, k < 4 → i < 256 → w.cell? ⟨b, k * 256 + i, none⟩ = some (.int .u32 ((Cr.shn (8 * (k + 1)) i : Nat) : Int))
theorem TabAt.below {w w' : World} {B b : Nat} (h : TabAt w B b) (hb : Below B w w') : TabAt w' B b := ⟨h.1, fun k i hk hi => (hb.cell (p := ⟨b, k * 256 + i, none⟩) h.1).trans (h.2 k i hk hi)⟩
theorem TabAt.mono {w : World} {B B' b : Nat} (h : TabAt w B b) (hB : B ≤ B') : TabAt w B' b := ⟨Nat.lt_of_lt_of_le h.1 hB, h.2⟩
theorem take_more {zs : List Int} {k : Nat} {z : Int} (h : zs[k]? = some z) : zs.take (k + 1) = zs.take k ++ [z] := by
  have hk : k < zs.length := by
    rcases Nat.lt_or_ge k zs.length with h1 | h1
    · exact h1
    · rw [List.getElem?_eq_none h1] at h; simp at h
  rw [List.getElem?_eq_getElem hk] at h
  injection h with h
  rw [List.take_succ_eq_append_getElem hk, h]
theorem crc_more {zs : List Int} {k : Nat} {z : Int} (s : Nat) (h : zs[k]? = some z) : Cr.crc s (zs.take (k + 1)) = Cr.shn 8 (Cr.crc s (zs.take k) ^^^ z.toNat) := by
  rw [take_more h, Cr.crc_append]
  rfl
theorem u32_xor_byte (s : Nat) (z : Int) (hs : s < 4294967296) (h0 : 0 ≤ z) (h1 : z < 256) : bits .xor .u32 (s : Int) z = ((s ^^^ z.toNat : Nat) : Int) := by
  obtain ⟨m, rfl⟩ := Int.eq_ofNat_of_zero_le h0
  rw [u32_xor_nat s m hs (by omega), Int.toNat_natCast]

end Go.Proofs.YtbohdmconeebeaaDoor

namespace Go.Proofs.YtbohdmconeebeaaDoor
open Go.RowKit
set_option maxRecDepth 100000

theorem tabInfo : (Tryd.prog.info? 76).map (fun i => (i.zero, i.size)) = some (some (.agg (Array.replicate 1024 (.int .u32 0))), 1024) := by kernel_rfl
/-- what of the table is told: the columns below i, and of column i the rows below k -/
def TabTo (cs : Array Value) (i k : Nat) : Prop := cs.size = 1024 ∧ ∀ k' i' : Nat, k' < 4 → i' < 256 → (i' < i ∨ (i' = i ∧ k' < k)) → cs[k' * 256 + i']? = some (.int .u32 ((Cr.shn (8 * (k' + 1)) i' : Nat) : Int))
theorem TabTo.next {cs : Array Value} {i k : Nat} (h : TabTo cs i k) (hk : k < 4) (hi : i < 256) : TabTo (cs.setIfInBounds (k * 256 + i) (.int .u32 ((Cr.shn (8 * (k + 1)) i : Nat) : Int))) i (k + 1) := by
  refine ⟨by simp [h.1], fun k' i' hk' hi' hd => ?_⟩
  rw [Array.getElem?_setIfInBounds]
  by_cases he : k * 256 + i = k' * 256 + i'
  · have e1 : k = k' := by omega
    have e2 : i = i' := by omega
    subst e1 e2
    rw [if_pos rfl, if_pos (by rw [h.1]; omega)]
  · rw [if_neg he]
    exact h.2 k' i' hk' hi' (by omega)
theorem TabTo.col {cs : Array Value} {i : Nat} (h : TabTo cs i 4) : TabTo cs (i + 1) 0 := ⟨h.1, fun k' i' hk' hi' hd => h.2 k' i' hk' hi' (by omega)⟩

theorem new_any (w : World) : Calls Tryd.prog 18 #[] w fun e w' => e = .returned (.pointer (some ⟨w.heap.size, 0, none⟩)) ∧ TabAt w' (w.heap.size + 1) w.heap.size ∧ Below w.heap.size w w' ∧ w'.heap.size = w.heap.size + 1 := by
  obtain ⟨hz, hs⟩ := zero_of_info tabInfo
  go_enter Tryd.func18, Tryd.ntmps18
  go_wp2
  go_loopw [6] (fun x wr => ∃ (i : Nat) (cs : Array Value), i ≤ 256 ∧ x = .int .i64 i ∧ wr = w.alloc (.cells cs 76) ∧ Hid (TabTo cs i 0)) (fun x _ => 256 - (intOf x).toNat)
  case atStart => exact ⟨0, _, by omega, rfl, rfl, by simp, fun k' i' _ _ hd => by omega⟩
  case round =>
    obtain ⟨i, cs, hi, rfl, rfl, HT⟩ := hrel
    by_cases hlt : i < 256
    · have hlt' : (i : Int) < 256 := by omega
      go_wp2
      go_loopw [3, 11] (fun x j wx => ∃ (k m : Nat) (cs : Array Value), k ≤ 4 ∧ j = .int .i64 k ∧ x = .int .u32 (m : Int) ∧ m < 4294967296 ∧ Hid (m = Cr.shn (8 * k) i) ∧ wx = w.alloc (.cells cs 76) ∧ Hid (TabTo cs i k)) (fun _ j _ => 4 - (intOf j).toNat)
      case atStart => exact ⟨0, i, cs, by omega, rfl, by go_num, by omega, rfl, rfl, HT⟩
      case round =>
        obtain ⟨k, m, cs, hk, rfl, rfl, hm, HM, rfl, HT⟩ := hrel
        by_cases hk4 : k < 4
        · have hk4' : (k : Int) < 4 := by omega
          have HM' : Hid (Cr.shn 8 m = Cr.shn (8 * (k + 1)) i) := by
            show _ = _
            rw [HM.out, ← Cr.shn_add]
            congr 1
          have HL : Hid (Cr.shn 8 m < 4294967296) := by have := Cr.shn_lt (n := m) 8 (by omega); show _ < _; omega
          have HN := HT.out.next hk4 hlt
          rw [← HM'.out] at HN
          have HNN := Lib.hid HN
          clear HN
          have hsz := HT.out.1
          have hin : k * 256 + i < cs.size := by omega
          have hcell : (w.alloc (.cells cs 76)).cell? ⟨w.heap.size, k * 256 + i, none⟩ = some (cs[k * 256 + i]'hin) := by
            rw [World.cell?_alloc_at _ _ _ _ rfl]
            simp [hin]
          go_wp2_with fail
          refine (shifted_any m _ hm).mono ?_
          rintro e w' ⟨rfl, rfl⟩
          generalize Cr.shn 8 m = M at *
          go_wp2
          go_roundw
          case rel => exact ⟨k + 1, M, _, by omega, by go_num, by go_num, HL.out, HM', rfl, HNN⟩
          case measure => simp [intOf]; omega
        · obtain rfl : k = 4 := by omega
          go_wp2
          go_roundw
          case rel => exact ⟨i + 1, cs, by omega, by go_num, rfl, HT.out.col⟩
          case measure => simp [intOf]; omega
    · obtain rfl : i = 256 := by omega
      go_wp2
      go_ret
      refine ⟨rfl, ⟨by omega, fun k' i' hk' hi' => ?_⟩, (Below.refl _ w).alloc (Nat.le_refl _) _, by simp⟩
      rw [World.cell?_alloc_at _ _ _ _ rfl]
      exact HT.out.2 k' i' hk' hi' (by omega)
end Go.Proofs.YtbohdmconeebeaaDoor

namespace Go.Proofs.YtbohdmconeebeaaDoor
open Go.RowKit Go.Shelf
set_option maxRecDepth 100000
attribute [local go_sem] Oper.semAt_some

/-- a frame as a value -/
def frC (v k s i c : Int) (p : Value) : Array Value := #[.int .i64 v, .int .i64 k, .int .u32 s, .int .i64 i, .int .i64 c, p]
def frV (v k s i c : Int) (p : Value) : Value := .agg (frC v k s i c p)
/-- a codec lies there, and its table -/
def CodAt (w : World) (B b : Nat) : Prop := ∃ t, b < B ∧ w.cell? ⟨b, 0, none⟩ = some (.pointer (some ⟨t, 0, none⟩)) ∧ TabAt w B t
theorem CodAt.below {w w' : World} {B b : Nat} (h : CodAt w B b) (hb : Below B w w') : CodAt w' B b := by
  obtain ⟨t, h1, h2, h3⟩ := h
  exact ⟨t, h1, (hb.cell (p := ⟨b, 0, none⟩) h1).trans h2, h3.below hb⟩
theorem CodAt.mono {w : World} {B B' b : Nat} (h : CodAt w B b) (hB : B ≤ B') : CodAt w B' b := by
  obtain ⟨t, h1, h2, h3⟩ := h
  exact ⟨t, by omega, h2, h3.mono hB⟩

theorem fnew_any (w : World) : Calls Tryd.prog 4 #[] w fun e w' => e = .returned (.pointer (some ⟨w.heap.size + 1, 0, none⟩)) ∧ CodAt w' w'.heap.size (w.heap.size + 1) ∧ Below w.heap.size w w' ∧ w'.heap.size = w.heap.size + 2 := by
  have HN := Lib.hid (new_any w)
  go_enter Tryd.func4, Tryd.ntmps4
  go_wp2_with fail
  refine HN.out.mono ?_
  rintro e w1 ⟨rfl, ht, hb, hs⟩
  have HT := Lib.hid ht
  have HB := Lib.hid hb
  have HS := Lib.hid hs
  clear ht hb hs HN
  go_wp2
  go_ret
  have hs := HS.out
  have hb2 := (Below.refl w1.heap.size w1).alloc (Nat.le_refl _) (.cells #[.pointer (some ⟨w.heap.size, 0, none⟩)] 56)
  refine ⟨by rw [← hs]; rfl, ⟨w.heap.size, by simp; omega, ?_, ((HT.out.mono (by omega)).below hb2).mono (by simp)⟩, HB.out.alloc HB.out.size _, by simp; omega⟩
  rw [← hs]
  exact World.cell?_alloc_at _ _ _ _ rfl

/-- what Check tells -/
def fchk (v k i c : Int) (n : Nat) : Int := if chk v k i c ≠ 0 then chk v k i c else if n = 0 then 13 else if 242 < n then 2 else 0
theorem fchk_zero {v k i c : Int} {n : Nat} (h : fchk v k i c n = 0) : chk v k i c = 0 ∧ 1 ≤ n ∧ n ≤ 242 := by
  unfold fchk at h
  by_cases h0 : chk v k i c = 0
  · rw [if_neg (by simpa using h0)] at h
    by_cases h1 : n = 0
    · rw [if_pos h1] at h; omega
    · rw [if_neg h1] at h
      by_cases h2 : 242 < n
      · rw [if_pos h2] at h; omega
      · exact ⟨h0, by omega, by omega⟩
  · rw [if_pos h0] at h; exact absurd h h0
theorem fr_cells {w w1 : World} {v k s i c : Int} {p : Value} {t : TypeId} (hb : Below (w.alloc (.cells (frC v k s i c p) t)).heap.size (w.alloc (.cells (frC v k s i c p) t)) w1) :
    w1.heap[w.heap.size]? = some (.cells (frC v k s i c p) t (0, 0)) := (hb.block _ (by simp)).trans (World.alloc_heap_new _ _)
theorem fr_block {W : World} {b : Nat} {v k s i c : Int} {p : Value} {t : TypeId} (h : W.heap[b]? = some (.cells (frC v k s i c p) t (0, 0))) :
    W.cell? ⟨b, 0, none⟩ = some (.int .i64 v) ∧ W.cell? ⟨b, 1, none⟩ = some (.int .i64 k) ∧ W.cell? ⟨b, 2, none⟩ = some (.int .u32 s) ∧ W.cell? ⟨b, 3, none⟩ = some (.int .i64 i) ∧ W.cell? ⟨b, 4, none⟩ = some (.int .i64 c) ∧ W.cell? ⟨b, 5, none⟩ = some p := by
  simp [World.cell?, h, frC]
theorem fcheck_nil (v k s i c : Int) (p : Value) (w : World) : Calls Tryd.prog 8 #[.pointer none, frV v k s i c p] w fun e w' => e = .returned (.int .i64 1) ∧ Below w.heap.size w w' := by
  have hb0 := Lib.hid ((Below.refl w.heap.size w).alloc (Nat.le_refl _) (.cells (frC v k s i c p) 31))
  unfold frV
  have HF : Hid (frC v k s i c p = #[.int .i64 v, .int .i64 k, .int .u32 s, .int .i64 i, .int .i64 c, p]) := rfl
  rw [HF.out] at hb0 ⊢
  go_enter Tryd.func8, Tryd.ntmps8
  go_wp2
  go_ret
  exact ⟨rfl, hb0.out⟩
theorem fcheck_any (b : Nat) (v k s i c : Int) (A : Option Addr) (n cp : Nat) (w : World) :
    Calls Tryd.prog 8 #[.pointer (some ⟨b, 0, none⟩), frV v k s i c (.slice A n cp)] w fun e w' => e = .returned (.int .i64 (fchk v k i c n)) ∧ Below w.heap.size w w' := by
  have HC := Lib.hid (check_any v k s i c)
  unfold hdV at HC
  have hb0 := Lib.hid ((Below.refl w.heap.size w).alloc (Nat.le_refl _) (.cells (frC v k s i c (.slice A n cp)) 31))
  unfold frV
  have HF : Hid (frC v k s i c (.slice A n cp) = #[.int .i64 v, .int .i64 k, .int .u32 s, .int .i64 i, .int .i64 c, .slice A n cp]) := rfl
  rw [HF.out] at hb0 ⊢
  by_cases h0 : chk v k i c = 0
  · have hk : fchk v k i c n = if n = 0 then 13 else if 242 < n then 2 else 0 := by unfold fchk; rw [if_neg (by simpa using h0)]
    rw [hk]
    rw [h0] at HC
    clear h0 hk
    by_cases h1 : n = 0
    · subst h1
      rw [if_pos rfl]
      go_enter Tryd.func8, Tryd.ntmps8
      go_wp2_with (go_at_call 20; refine (HC.out _).mono ?_; rintro e w1 ⟨rfl, hb1⟩; obtain ⟨d0, d1, d2, d3, d4, d5⟩ := fr_block (fr_cells hb1); have HB := Lib.hid hb1; clear hb1)
      go_ret
      exact ⟨rfl, hb0.out.trans (HB.out.mono (by simp))⟩
    · rw [if_neg h1]
      have h2 : ¬ ((n : Int) = 0) := by omega
      by_cases h3 : 242 < n
      · rw [if_pos h3]
        have h4 : 242 < (n : Int) := by omega
        go_enter Tryd.func8, Tryd.ntmps8
        go_wp2_with (go_at_call 20; refine (HC.out _).mono ?_; rintro e w1 ⟨rfl, hb1⟩; obtain ⟨d0, d1, d2, d3, d4, d5⟩ := fr_block (fr_cells hb1); have HB := Lib.hid hb1; clear hb1)
        go_ret
        exact ⟨rfl, hb0.out.trans (HB.out.mono (by simp))⟩
      · rw [if_neg h3]
        have h4 : ¬ (242 < (n : Int)) := by omega
        go_enter Tryd.func8, Tryd.ntmps8
        go_wp2_with (go_at_call 20; refine (HC.out _).mono ?_; rintro e w1 ⟨rfl, hb1⟩; obtain ⟨d0, d1, d2, d3, d4, d5⟩ := fr_block (fr_cells hb1); have HB := Lib.hid hb1; clear hb1)
        go_ret
        exact ⟨rfl, hb0.out.trans (HB.out.mono (by simp))⟩
  · have hk : fchk v k i c n = chk v k i c := by unfold fchk; rw [if_pos h0]
    rw [hk]
    have h1 : (chk v k i c != 0) = true := by simpa using h0
    have H0 := Lib.hid h0
    clear h0 hk
    go_enter Tryd.func8, Tryd.ntmps8
    go_wp2_with (go_at_call 20; refine (HC.out _).mono ?_; rintro e w1 ⟨rfl, hb1⟩; have HB := Lib.hid hb1; clear hb1)
    go_ret
    exact ⟨rfl, hb0.out.trans (HB.out.mono (by simp))⟩
end Go.Proofs.YtbohdmconeebeaaDoor

namespace Go.Proofs.YtbohdmconeebeaaDoor
open Go.RowKit
set_option maxRecDepth 100000

theorem four_word (s z0 z1 z2 z3 : Nat) (hs : s < 4294967296) (h0 : z0 < 256) (h1 : z1 < 256) (h2 : z2 < 256) (h3 : z3 < 256) :
    ∃ x : Nat, x < 4294967296 ∧ bits .xor .u32 (s : Int) (bits .or .u32 (bits .or .u32 (bits .or .u32 (z0 : Int) ((z1 : Int) * 256)) ((z2 : Int) * 65536)) ((z3 : Int) * 16777216)) = (x : Int) ∧
      x = s ^^^ (z0 ^^^ (z1 * 256) ^^^ (z2 * 65536) ^^^ (z3 * 16777216)) := by
  have a1 := Cr.add_xor z0 z1 8 (by omega)
  have a2 := Cr.add_xor (z1 * 256 + z0) z2 16 (by simp only [Nat.reducePow]; omega)
  have a3 := Cr.add_xor (z2 * 65536 + (z1 * 256 + z0)) z3 24 (by simp only [Nat.reducePow]; omega)
  have o1 := Nat.two_pow_add_eq_or_of_lt (i := 8) (show z0 < 2 ^ 8 by omega) z1
  have o2 := Nat.two_pow_add_eq_or_of_lt (i := 16) (show z1 * 256 + z0 < 2 ^ 16 by simp only [Nat.reducePow]; omega) z2
  have o3 := Nat.two_pow_add_eq_or_of_lt (i := 24) (show z2 * 65536 + (z1 * 256 + z0) < 2 ^ 24 by simp only [Nat.reducePow]; omega) z3
  simp only [Nat.reducePow] at a1 a2 a3 o1 o2 o3
  refine ⟨_, ?_, ?_, rfl⟩
  · rw [a1, a2, a3]
    exact Cr.xor_lt 32 hs (by omega)
  · rw [show (z1 : Int) * 256 = ((z1 * 256 : Nat) : Int) by omega, show (z2 : Int) * 65536 = ((z2 * 65536 : Nat) : Int) by omega, show (z3 : Int) * 16777216 = ((z3 * 16777216 : Nat) : Int) by omega]
    rw [u32_or_nat _ _ (by omega) (by omega), Nat.or_comm, Nat.mul_comm z1, ← o1, Nat.mul_comm 256 z1]
    rw [u32_or_nat _ _ (by omega) (by omega), Nat.or_comm, Nat.mul_comm z2, ← o2, Nat.mul_comm 65536 z2]
    rw [u32_or_nat _ _ (by omega) (by omega), Nat.or_comm, Nat.mul_comm z3, ← o3, Nat.mul_comm 16777216 z3]
    rw [u32_xor_nat _ _ hs (by omega), a1, a2, a3]
theorem xor_chain (a b c d : Nat) (ha : a < 4294967296) (hb : b < 4294967296) (hc : c < 4294967296) (hd : d < 4294967296) :
    bits .xor .u32 (bits .xor .u32 (bits .xor .u32 (a : Int) (b : Int)) (c : Int)) (d : Int) = ((a ^^^ b ^^^ c ^^^ d : Nat) : Int) := by
  have h1 := Cr.xor_lt 32 (show a < 2 ^ 32 by omega) (show b < 2 ^ 32 by omega)
  have h2 := Cr.xor_lt 32 h1 (show c < 2 ^ 32 by omega)
  rw [u32_xor_nat _ _ ha hb, u32_xor_nat _ _ (by omega) hc, u32_xor_nat _ _ (by omega) hd]

set_option maxHeartbeats 800000 in
theorem four_any (B b b1 o1 c : Nat) (s z0 z1 z2 z3 : Nat) (w : World) (ht : TabAt w B b) (hs : s < 4294967296) (h0 : z0 < 256) (h1 : z1 < 256) (h2 : z2 < 256) (h3 : z3 < 256)
    (c0 : w.cell? ⟨b1, o1, none⟩ = some (.int .u8 (z0 : Int))) (c1 : w.cell? ⟨b1, o1 + 1, none⟩ = some (.int .u8 (z1 : Int))) (c2 : w.cell? ⟨b1, o1 + 2, none⟩ = some (.int .u8 (z2 : Int))) (c3 : w.cell? ⟨b1, o1 + 3, none⟩ = some (.int .u8 (z3 : Int))) :
    Calls Tryd.prog 87 #[.pointer (some ⟨b, 0, none⟩), .int .u32 s, .slice (some ⟨b1, o1, none⟩) 4 c] w fun e w' => e = .returned (.int .u32 ((Cr.shn 8 (Cr.shn 8 (Cr.shn 8 (Cr.shn 8 (s ^^^ z0) ^^^ z1) ^^^ z2) ^^^ z3) : Nat) : Int)) ∧ ∃ n, w' = w.drewN n := by
  go_enter Tryd.func87, Tryd.ntmps87
  go_wp2
  go_quiet (fail)
  obtain ⟨x, hx, ex, hxe⟩ := four_word s z0 z1 z2 z3 hs h0 h1 h2 h3
  rw [ex]
  have hT := Cr.tables x
  rw [Nat.div_eq_of_lt (show x < 4294967296 from hx), Nat.xor_zero] at hT
  have hR : Cr.shn 8 (Cr.shn 8 (Cr.shn 8 (Cr.shn 8 (s ^^^ z0) ^^^ z1) ^^^ z2) ^^^ z3) = Cr.shn 32 x := by rw [Cr.four, hxe]
  rw [hT] at hR
  clear hT hxe ex c0 c1 c2 c3
  obtain ⟨q0, e0⟩ : ∃ q : Nat, q = x % 256 := ⟨_, rfl⟩
  obtain ⟨q1, e1⟩ : ∃ q : Nat, q = x / 256 % 256 := ⟨_, rfl⟩
  obtain ⟨q2, e2⟩ : ∃ q : Nat, q = x / 65536 % 256 := ⟨_, rfl⟩
  obtain ⟨q3, e3⟩ : ∃ q : Nat, q = x / 16777216 % 256 := ⟨_, rfl⟩
  rw [← e0, ← e1, ← e2, ← e3] at hR
  have HR := Lib.hid hR
  clear hR
  have k0 : q0 < 256 := by omega
  have k1 : q1 < 256 := by omega
  have k2 : q2 < 256 := by omega
  have k3 : q3 < 256 := by omega
  have t0 := ht.2 3 q0 (by omega) k0
  have t1 := ht.2 2 q1 (by omega) k1
  have t2 := ht.2 1 q2 (by omega) k2
  have t3 := ht.2 0 q3 (by omega) k3
  simp only [Nat.reduceMul, Nat.reduceAdd, Nat.zero_add, Nat.zero_mul, Nat.one_mul, Nat.mul_one] at t0 t1 t2 t3
  have HX := Lib.hid (xor_chain (Cr.shn 32 q0) (Cr.shn 24 q1) (Cr.shn 16 q2) (Cr.shn 8 q3) (Cr.shn_lt 32 (by omega)) (Cr.shn_lt 24 (by omega)) (Cr.shn_lt 16 (by omega)) (Cr.shn_lt 8 (by omega)))
  have i0 : IntKind.u8.wrap (x : Int) = (q0 : Int) := by rw [IntKind.wrap_u8]; omega
  have i1 : IntKind.u8.wrap ((x : Int) / 256) = (q1 : Int) := by rw [IntKind.wrap_u8]; omega
  have i2 : IntKind.u8.wrap ((x : Int) / 65536) = (q2 : Int) := by rw [IntKind.wrap_u8]; omega
  have i3 : IntKind.u8.wrap ((x : Int) / 16777216) = (q3 : Int) := by rw [IntKind.wrap_u8]; omega
  have l0 : (q0 : Int) < 256 := by omega
  have l1 : (q1 : Int) < 256 := by omega
  have l2 : (q2 : Int) < 256 := by omega
  have l3 : (q3 : Int) < 256 := by omega
  generalize Cr.shn 32 q0 = T0 at *
  generalize Cr.shn 24 q1 = T1 at *
  generalize Cr.shn 16 q2 = T2 at *
  generalize Cr.shn 8 q3 = T3 at *
  clear ht e0 e1 e2 e3 hs h0 h1 h2 h3 k0 k1 k2 k3
  go_wp2
  go_quiet (fail)
  go_wp2
  go_ret
  exact ⟨ret_int (HX.out.trans (by rw [HR.out])), by first | exact ⟨_, rfl⟩ | exact ⟨_ + _, by rw [World.drewN_drewN]⟩⟩
end Go.Proofs.YtbohdmconeebeaaDoor

namespace Go.Proofs.YtbohdmconeebeaaDoor
open Go.RowKit
set_option maxRecDepth 100000

theorem add_nil (s : Int) (v : Value) (w : World) : Calls Tryd.prog 74 #[.pointer none, .int .u32 s, v] w fun e w' => e = .returned (.int .u32 0) ∧ w' = w := by
  go_enter Tryd.func74, Tryd.ntmps74
  go_wp2
  refine wp_scope_straight ?_
  go_wp2
  simp only [Exit.noGoto]
  go_ret
  exact ⟨rfl, rfl⟩

theorem crc_four (s : Nat) (zs : List Int) (z0 z1 z2 z3 : Int) (j : Nat) (h0 : (zs.drop j)[0]? = some z0) (h1 : (zs.drop j)[1]? = some z1) (h2 : (zs.drop j)[2]? = some z2) (h3 : (zs.drop j)[3]? = some z3) :
    Cr.crc s (zs.take (j + 4)) = Cr.shn 8 (Cr.shn 8 (Cr.shn 8 (Cr.shn 8 (Cr.crc s (zs.take j) ^^^ z0.toNat) ^^^ z1.toNat) ^^^ z2.toNat) ^^^ z3.toNat) := by
  rw [List.getElem?_drop] at h0 h1 h2 h3
  rw [show j + 4 = j + 3 + 1 from rfl, crc_more s h3, show j + 3 = j + 2 + 1 from rfl, crc_more s h2, show j + 2 = j + 1 + 1 from rfl, crc_more s h1, crc_more s (k := j) (z := z0) (by simpa using h0)]
/-- the place of what is left behind i elements -/
theorem addr_drop (b1 o1 c i : Nat) (h : i ≠ 0) : (if c = i then (some ⟨b1, o1, none⟩ : Option Addr) else (some ⟨b1, o1, none⟩ : Option Addr).map (·.add i)) = if c = i then some ⟨b1, o1, none⟩ else some ⟨b1, o1 + i, none⟩ := by
  simp [Addr.add, h]

theorem byte_step (m n0 : Nat) (hm : m < 4294967296) (h0 : n0 < 256) : ∃ q : Nat, q < 256 ∧ bits .xor .u8 (IntKind.u8.wrap (m : Int)) (n0 : Int) = (q : Int) ∧ bits .xor .u32 ((Cr.shn 8 q : Nat) : Int) ((m : Int) / 256) = ((Cr.shn 8 (m ^^^ n0) : Nat) : Int) := by
  have hq : m % 256 ^^^ n0 < 2 ^ 8 := Cr.xor_lt 8 (by omega) (by omega)
  refine ⟨m % 256 ^^^ n0, by omega, ?_, ?_⟩
  · rw [IntKind.wrap_u8, show (m : Int) % 256 = ((m % 256 : Nat) : Int) by omega, u8_xor_nat _ _ (by omega) h0]
  · have hl := Cr.shn_lt (n := m % 256 ^^^ n0) 8 (by omega)
    rw [show (m : Int) / 256 = ((m / 256 : Nat) : Int) by omega, u32_xor_nat _ _ (by omega) (by omega), Cr.step m n0 h0]

set_option maxHeartbeats 1000000 in
theorem add_any (B b : Nat) (a : Option Addr) (n c s : Nat) (zs : List Int) (w : World) (ht : TabAt w B b) (hs : s < 4294967296) (hn : zs.length = n) (hc : n ≤ c) (hl : n ≤ 9223372036854775807) (hz : Bytes zs) (h1 : Nums .u8 w B a zs) :
    Calls Tryd.prog 74 #[.pointer (some ⟨b, 0, none⟩), .int .u32 s, .slice a n c] w fun e w' => e = .returned (.int .u32 ((Cr.crc s zs : Nat) : Int)) ∧ ∃ m, w' = w.drewN m := by
  have HZ := Lib.hid hz
  have HN := Lib.hid hn
  have HT := Lib.hid ht
  clear hz hn ht
  go_enter Tryd.func74, Tryd.ntmps74
  go_wp2
  refine wp_scope_straight ?_
  go_wp2
  refine wp_label ?_
  go_wp2
  go_loopw [1, 2] (fun x y wr => ∃ (j r m : Nat) (A : Option Addr) (c : Nat), j + r = n ∧ x = .int .u32 (m : Int) ∧ m < 4294967296 ∧ Hid (m = Cr.crc s (zs.take j)) ∧ y = .slice A r c ∧ r ≤ c ∧ Hid (Nums .u8 w B A (zs.drop j)) ∧ ∃ d, wr = w.drewN d) (fun _ y _ => match y with | .slice _ r _ => r | _ => 0)
  case atStart => exact ⟨0, n, s, a, c, by omega, rfl, hs, rfl, rfl, hc, h1, 0, rfl⟩
  case round =>
    obtain ⟨j, r, m, A, c, hj, rfl, hm, HE, rfl, hrc, HA, d, rfl⟩ := hrel
    have hlen : (zs.drop j).length = r := by rw [List.length_drop, HN.out]; omega
    by_cases h4 : 4 ≤ r
    · obtain ⟨z0, e0⟩ : ∃ z, (zs.drop j)[0]? = some z := ⟨_, List.getElem?_eq_getElem (by omega)⟩
      obtain ⟨z1, e1⟩ : ∃ z, (zs.drop j)[1]? = some z := ⟨_, List.getElem?_eq_getElem (by omega)⟩
      obtain ⟨z2, e2⟩ : ∃ z, (zs.drop j)[2]? = some z := ⟨_, List.getElem?_eq_getElem (by omega)⟩
      obtain ⟨z3, e3⟩ : ∃ z, (zs.drop j)[3]? = some z := ⟨_, List.getElem?_eq_getElem (by omega)⟩
      have g0 := HZ.out z0 (List.mem_of_mem_drop (List.mem_of_getElem? e0))
      have g1 := HZ.out z1 (List.mem_of_mem_drop (List.mem_of_getElem? e1))
      have g2 := HZ.out z2 (List.mem_of_mem_drop (List.mem_of_getElem? e2))
      have g3 := HZ.out z3 (List.mem_of_mem_drop (List.mem_of_getElem? e3))
      have HF := Lib.hid (crc_four s zs z0 z1 z2 z3 j e0 e1 e2 e3)
      have hnd := HA.out.drop (i := 4) (cap := c) (by omega)
      rw [List.drop_drop] at hnd
      obtain ⟨b1, o1, rfl, hb1, hcell⟩ := HA.out (by intro e; rw [e] at e0; simp at e0)
      rw [addr_drop _ _ _ _ (by omega)] at hnd
      obtain ⟨A', hA⟩ : ∃ A', (if c = 4 then (some ⟨b1, o1, none⟩ : Option Addr) else some ⟨b1, o1 + 4, none⟩) = A' := ⟨_, rfl⟩
      rw [hA] at hnd
      have HND := Lib.hid hnd
      have HC := Lib.hid hcell
      have c0 := hcell 0 z0 e0
      have c1 := hcell 1 z1 e1
      have c2 := hcell 2 z2 e2
      have c3 := hcell 3 z3 e3
      simp only [Nat.add_zero] at c0
      clear hnd hcell e0 e1 e2 e3 hlen HA h1
      obtain ⟨n0, rfl⟩ := Int.eq_ofNat_of_zero_le g0.1
      obtain ⟨n1, rfl⟩ := Int.eq_ofNat_of_zero_le g1.1
      obtain ⟨n2, rfl⟩ := Int.eq_ofNat_of_zero_le g2.1
      obtain ⟨n3, rfl⟩ := Int.eq_ofNat_of_zero_le g3.1
      have K := four_any B b b1 o1 c m n0 n1 n2 n3 (w.drewN d) HT.out hm (by omega) (by omega) (by omega) (by omega) c0 c1 c2 c3
      simp only [Int.toNat_natCast] at HF
      have h4' : (4 : Int) ≤ (r : Int) := by omega
      have hlt := Cr.shn_lt (n := (Cr.shn 8 (Cr.shn 8 (Cr.shn 8 (m ^^^ n0) ^^^ n1) ^^^ n2) ^^^ n3)) 8 (Cr.byte_xor_lt (Cr.shn_lt 8 (Cr.byte_xor_lt (Cr.shn_lt 8 (Cr.byte_xor_lt (Cr.shn_lt 8 (Cr.byte_xor_lt (by omega) (by omega))) (by omega))) (by omega))) (by omega))
      have HF2 : Hid (Cr.shn 8 (Cr.shn 8 (Cr.shn 8 (Cr.shn 8 (m ^^^ n0) ^^^ n1) ^^^ n2) ^^^ n3) = Cr.crc s (zs.take (j + 4))) := by
        have h := HF.out
        rw [← HE.out] at h
        exact h.symm
      clear HF
      generalize Cr.shn 8 (Cr.shn 8 (Cr.shn 8 (Cr.shn 8 (m ^^^ n0) ^^^ n1) ^^^ n2) ^^^ n3) = M at *
      clear c0 c1 c2 c3 g0 g1 g2 g3
      go_wp2_with fail
      refine K.mono ?_
      rintro e w' ⟨rfl, d2, rfl⟩
      go_wp2
      go_roundw
      case rel => exact ⟨j + 4, r - 4, M, A', c - 4, by omega, by go_num, by omega, HF2, by first | rfl | (congr 1; omega), by omega, HND.out, _, by first | rfl | rw [World.drewN_drewN]⟩
      case measure => simp; omega
    · have h4' : ¬ (4 : Int) ≤ (r : Int) := by omega
      by_cases h0 : 0 < r
      · obtain ⟨z0, e0⟩ : ∃ z, (zs.drop j)[0]? = some z := ⟨_, List.getElem?_eq_getElem (by omega)⟩
        have g0 := HZ.out z0 (List.mem_of_mem_drop (List.mem_of_getElem? e0))
        have HF := Lib.hid (crc_more s (zs := zs) (k := j) (z := z0) (by rw [List.getElem?_drop] at e0; simpa using e0))
        have hnd := HA.out.drop (i := 1) (cap := c) (by omega)
        rw [List.drop_drop] at hnd
        obtain ⟨b1, o1, rfl, hb1, hcell⟩ := HA.out (by intro e; rw [e] at e0; simp at e0)
        rw [addr_drop _ _ _ _ (by omega)] at hnd
        obtain ⟨A', hA⟩ : ∃ A', (if c = 1 then (some ⟨b1, o1, none⟩ : Option Addr) else some ⟨b1, o1 + 1, none⟩) = A' := ⟨_, rfl⟩
        rw [hA] at hnd
        have HND := Lib.hid hnd
        have c0 := hcell 0 z0 e0
        simp only [Nat.add_zero] at c0
        clear hnd hcell e0 hlen HA h1
        obtain ⟨n0, rfl⟩ := Int.eq_ofNat_of_zero_le g0.1
        obtain ⟨q, hq, eq, hM⟩ := byte_step m n0 hm (by omega)
        have hq' : (q : Int) < 256 := by omega
        have t0 := HT.out.2 0 q (by omega) hq
        simp only [Nat.zero_add, Nat.zero_mul, Nat.mul_one] at t0
        have HM := Lib.hid hM
        clear hM
        simp only [Int.toNat_natCast] at HF
        have h0' : (0 : Int) < (r : Int) := by omega
        have hlt := Cr.shn_lt (n := m ^^^ n0) 8 (Cr.byte_xor_lt (by omega) (by omega))
        have HF2 : Hid (Cr.shn 8 (m ^^^ n0) = Cr.crc s (zs.take (j + 1))) := by
          have h := HF.out
          rw [← HE.out] at h
          exact h.symm
        clear HF
        generalize Cr.shn 8 (m ^^^ n0) = M at *
        generalize Cr.shn 8 q = T at *
        clear g0
        go_wp2
        go_quiet (fail)
        rw [HM.out]
        go_wp2
        go_roundw
        case rel => exact ⟨j + 1, r - 1, M, A', c - 1, by omega, by go_num, by omega, HF2, by first | rfl | (congr 1; omega), by omega, HND.out, _, by first | rfl | rw [World.drewN_drewN]⟩
        case measure => simp; omega
      · obtain rfl : r = 0 := by omega
        have hjn : j = n := by omega
        have HJ := Lib.hid hjn
        clear hjn
        go_wp2
        go_ret
        refine ⟨ret_int ?_, d, rfl⟩
        rw [HE.out, HJ.out, ← HN.out, List.take_length]
end Go.Proofs.YtbohdmconeebeaaDoor

namespace Go.Proofs.YtbohdmconeebeaaDoor
open Go.RowKit
set_option maxRecDepth 100000

/-- a part: where its bytes lie, its room, its bytes -/
structure Part where
  a : Option Addr
  c : Nat
  zs : List Int
/-- a part as it is in a world -/
structure Part.At (w : World) (B : Nat) (p : Part) : Prop where
  room : p.zs.length ≤ p.c
  few : p.zs.length ≤ 9223372036854775807
  byte : Bytes p.zs
  nums : Nums .u8 w B p.a p.zs
theorem Part.At.below {w w' : World} {B : Nat} {p : Part} (h : p.At w B) (hb : Below B w w') : p.At w' B := ⟨h.room, h.few, h.byte, h.nums.below hb⟩
theorem Part.At.mono {w : World} {B B' : Nat} {p : Part} (h : p.At w B) (hB : B ≤ B') : p.At w B' := ⟨h.room, h.few, h.byte, h.nums.mono hB⟩
/-- parts that lie at a place -/
def Parts (w : World) (B : Nat) (a : Option Addr) (ps : List Part) : Prop :=
  (∀ p ∈ ps, p.At w B) ∧ (ps ≠ [] → ∃ b off, a = some ⟨b, off, none⟩ ∧ ∀ (j : Nat) (p : Part), ps[j]? = some p → w.cell? ⟨b, off + j, none⟩ = some (.slice p.a p.zs.length p.c))
theorem Parts.nil (w : World) (B : Nat) (a : Option Addr) : Parts w B a [] := ⟨by simp, fun h => absurd rfl h⟩
/-- parts that have just been laid -/
theorem Parts.new {w : World} {B : Nat} {ps : List Part} (t : TypeId) (cs : Array Value) (h : ∀ p ∈ ps, p.At w B) (hB : B ≤ w.heap.size) (hc : cs = (ps.map fun p => Value.slice p.a p.zs.length p.c).toArray) : Parts (w.alloc (.cells cs t)) B (some ⟨w.heap.size, 0, none⟩) ps := by
  refine ⟨fun p hp => (h p hp).below ((Below.refl B w).alloc hB _), fun _ => ⟨w.heap.size, 0, rfl, fun j p hj => ?_⟩⟩
  rw [World.cell?_alloc_at _ _ _ _ rfl, hc]
  simp [hj]
def flat (ps : List Part) : List Int := ps.flatMap Part.zs
theorem flat_bytes {w : World} {B : Nat} {ps : List Part} (h : ∀ p ∈ ps, p.At w B) : Bytes (flat ps) := by
  intro z hz
  obtain ⟨p, hp, hz⟩ := List.mem_flatMap.1 hz
  exact (h p hp).byte z hz
theorem flat_more {ps : List Part} {k : Nat} {p : Part} (s : Nat) (h : ps[k]? = some p) : Cr.crc s (flat (ps.take (k + 1))) = Cr.crc (Cr.crc s (flat (ps.take k))) p.zs := by
  have hk : k < ps.length := by
    rcases Nat.lt_or_ge k ps.length with h1 | h1
    · exact h1
    · rw [List.getElem?_eq_none h1] at h; simp at h
  rw [List.getElem?_eq_getElem hk] at h
  injection h with h
  rw [List.take_succ_eq_append_getElem hk, h, ← Cr.crc_append]
  simp [flat]

theorem sum_nil (a : Option Addr) (n c : Nat) (ps : List Part) (B : Nat) (w : World) (hn : ps.length = n) (hl : n ≤ 9223372036854775807) (hp : Parts w B a ps) : Calls Tryd.prog 57 #[.pointer none, .slice a n c] w fun e w' => e = .returned (.int .u32 0) ∧ w' = w := by
  have HN := Lib.hid hn
  have HP := Lib.hid hp
  clear hn hp
  go_enter Tryd.func57, Tryd.ntmps57
  go_wp2_with fail
  refine (begin_nil _).mono ?_
  rintro e w' ⟨rfl, rfl⟩
  go_wp2
  go_loopw [5, 12] (fun x i wr => ∃ k : Nat, k ≤ n ∧ i = .int .i64 k ∧ x = .int .u32 0 ∧ wr = w') (fun _ i _ => n - (intOf i).toNat)
  case atStart => exact ⟨0, by omega, rfl, rfl, rfl⟩
  case round =>
    obtain ⟨k, hk, rfl, rfl, rfl⟩ := hrel
    by_cases hlt : k < n
    · obtain ⟨p, hpk⟩ : ∃ p, ps[k]? = some p := ⟨_, List.getElem?_eq_getElem (by rw [HN.out]; exact hlt)⟩
      obtain ⟨b1, o1, rfl, hcell⟩ := HP.out.2 (by intro e; rw [e] at hpk; simp at hpk)
      have hc := hcell k p hpk
      have hlt' : (k : Int) < (n : Int) := by omega
      clear hcell hpk HP
      go_wp2_with fail
      refine (add_nil _ _ _).mono ?_
      rintro e w' ⟨rfl, rfl⟩
      go_wp2
      go_roundw
      case rel => exact ⟨k + 1, by omega, by go_num, rfl, trivial⟩
      case measure => simp [intOf]; omega
    · go_wp2_with fail
      refine (end_nil _ _).mono ?_
      rintro e w' ⟨rfl, rfl⟩
      go_wp2
      go_ret
      exact ⟨rfl, rfl⟩

theorem sum_any (B b : Nat) (a : Option Addr) (n c : Nat) (ps : List Part) (w : World) (ht : TabAt w B b) (hn : ps.length = n) (hl : n ≤ 9223372036854775807) (hp : Parts w B a ps) :
    Calls Tryd.prog 57 #[.pointer (some ⟨b, 0, none⟩), .slice a n c] w fun e w' => e = .returned (.int .u32 ((Cr.sum (flat ps) : Nat) : Int)) ∧ ∃ m, w' = w.drewN m := by
  have HN := Lib.hid hn
  have HP := Lib.hid hp
  have HT := Lib.hid ht
  clear hn hp ht
  go_enter Tryd.func57, Tryd.ntmps57
  go_wp2_with fail
  refine (begin_any b _).mono ?_
  rintro e w' ⟨rfl, rfl⟩
  go_wp2
  go_loopw [5, 12] (fun x i wr => ∃ k m : Nat, k ≤ n ∧ i = .int .i64 k ∧ x = .int .u32 (m : Int) ∧ m < 4294967296 ∧ Hid (m = Cr.crc Cr.ones (flat (ps.take k))) ∧ ∃ d, wr = w'.drewN d) (fun _ i _ => n - (intOf i).toNat)
  case atStart => exact ⟨0, Cr.ones, by omega, rfl, rfl, by decide, rfl, 0, rfl⟩
  case round =>
    obtain ⟨k, m, hk, rfl, rfl, hm, HE, d, rfl⟩ := hrel
    by_cases hlt : k < n
    · obtain ⟨p, hpk⟩ : ∃ p, ps[k]? = some p := ⟨_, List.getElem?_eq_getElem (by rw [HN.out]; exact hlt)⟩
      obtain ⟨b1, o1, rfl, hcell⟩ := HP.out.2 (by intro e; rw [e] at hpk; simp at hpk)
      have hc := hcell k p hpk
      have hAt := HP.out.1 p (List.mem_of_getElem? hpk)
      have HF := Lib.hid (flat_more Cr.ones hpk)
      have hlt' : (k : Int) < (n : Int) := by omega
      have K := add_any B b p.a p.zs.length p.c m p.zs (w'.drewN d) HT.out hm rfl hAt.room hAt.few hAt.byte hAt.nums
      have hmm := Cr.crc_lt (s := m) (by omega) hAt.byte.lt
      rw [← HE.out] at HF
      clear hcell hpk HP hAt
      generalize Cr.crc m p.zs = M at *
      go_wp2_with fail
      refine K.mono ?_
      rintro e w2 ⟨rfl, d2, rfl⟩
      go_wp2
      go_roundw
      case rel => exact ⟨k + 1, M, by omega, by go_num, rfl, by omega, HF.out.symm, _, by first | rfl | rw [World.drewN_drewN]⟩
      case measure => simp [intOf]; omega
    · have hkn : k = n := by omega
      have HK := Lib.hid hkn
      clear hkn
      go_wp2_with fail
      refine (end_any b m _ hm).mono ?_
      rintro e w2 ⟨rfl, rfl⟩
      go_wp2
      go_ret
      refine ⟨ret_int ?_, d, rfl⟩
      rw [HE.out, HK.out, ← HN.out, List.take_length]
      rfl
end Go.Proofs.YtbohdmconeebeaaDoor

namespace Go.Proofs.YtbohdmconeebeaaDoor
open Go.RowKit
set_option maxRecDepth 100000
theorem byteInfo : (Tryd.prog.info? 5).map (fun i => (i.zero, i.size, i.bytes)) = some (some (.int .u8 0), 1, 1) := by kernel_rfl
end Go.Proofs.YtbohdmconeebeaaDoor

namespace Go.Proofs.YtbohdmconeebeaaDoor
open Go.RowKit
set_option maxRecDepth 100000

/-- 'string(b)' of bytes that lie somewhere -/
theorem conv_nums (B : Nat) (a : Option Addr) (n c : Nat) (zs : List Int) (w : World) (hn : zs.length = n) (h1 : Nums .u8 w B a zs) :
    (convert 29 9 (.slice a n c)).run Tryd.prog w = .ok (.string (strOfNums zs)) w := by
  subst hn
  by_cases hz : zs = []
  · subst hz
    rw [run_convert_bytes_string w _ _ _ _ _ _ Tryd.underlying29 Tryd.underlying5 Tryd.underlying9]
    cases a <;> simp [Conv.bytesToString, loadCells] <;> rfl
  · obtain ⟨b, o, rfl, _, hc⟩ := h1 hz
    exact run_convert_bytes_arg (P := Tryd.prog) w _ _ Tryd.underlying29 Tryd.underlying5 b o _ c zs rfl (fun i hi => by
      rw [hc i zs[i] (List.getElem?_eq_getElem hi)]
      simp [List.getElem?_eq_getElem hi]) _ Tryd.underlying9
theorem equal_raw (v1 v2 : Value) (xs ys : List Int) (w : World)
    (h1 : (convert 29 9 v1).run Tryd.prog w = .ok (.string (strOfNums xs)) w) (h2 : (convert 29 9 v2).run Tryd.prog w = .ok (.string (strOfNums ys)) w) :
    Calls Tryd.prog 21 #[v1, v2] w fun e w' => e = .returned (.bool (Lib.bytesOf xs == Lib.bytesOf ys)) ∧ w' = w := by
  rw [← Lib.strOfNums_toList, ← Lib.strOfNums_toList]
  go_enter Tryd.func21, Tryd.ntmps21
  go_wp2
  go_ret
  exact ⟨rfl, rfl⟩
theorem bytesOf_inj {xs ys : List Int} (hx : Bytes xs) (hy : Bytes ys) (h : Lib.bytesOf xs = Lib.bytesOf ys) : xs = ys := by
  have hl := congrArg List.length h
  rw [Lib.bytesOf_length, Lib.bytesOf_length] at hl
  apply List.ext_getElem hl
  intro i h1 h2
  have h3 : (Lib.bytesOf xs)[i]? = (Lib.bytesOf ys)[i]? := by rw [h]
  simp only [Lib.bytesOf, List.getElem?_map, List.getElem?_eq_getElem h1, List.getElem?_eq_getElem h2, Option.map_some, Option.some.injEq] at h3
  have b1 := hx _ (List.getElem_mem h1)
  have b2 := hy _ (List.getElem_mem h2)
  have h4 := congrArg UInt8.toNat h3
  rw [UInt8.toNat_ofNat', UInt8.toNat_ofNat'] at h4
  omega
theorem equal_any (B : Nat) (a1 a2 : Option Addr) (n1 c1 n2 c2 : Nat) (xs ys : List Int) (w : World) (e1 : xs.length = n1) (e2 : ys.length = n2) (hx : Bytes xs) (hy : Bytes ys) (h1 : Nums .u8 w B a1 xs) (h2 : Nums .u8 w B a2 ys) :
    Calls Tryd.prog 21 #[.slice a1 n1 c1, .slice a2 n2 c2] w fun e w' => e = .returned (.bool (decide (xs = ys))) ∧ w' = w := by
  refine (equal_raw _ _ xs ys w (conv_nums B a1 n1 c1 xs w e1 h1) (conv_nums B a2 n2 c2 ys w e2 h2)).mono ?_
  rintro e w' ⟨rfl, rfl⟩
  refine ⟨?_, rfl⟩
  by_cases h : xs = ys
  · subst h; simp
  · have hb : (Lib.bytesOf xs == Lib.bytesOf ys) = false := by
      simp only [beq_eq_false_iff_ne, ne_eq]
      exact fun hh => h (bytesOf_inj hx hy hh)
    rw [hb]; simp [h]

theorem le4_is (S : Nat) (h : S < 4294967296) : Cr.le4 S = [(S : Int) % 256, (S : Int) / 256 % 256, (S : Int) / 65536 % 256, (S : Int) / 16777216] := by
  simp only [Cr.le4, List.cons.injEq, and_true]
  omega
/-- a row that was made later -/
theorem ownsRow_lower {w : World} {e : TypeId} {s n : Nat} {v : Value} {xs : List Value} {b b' : Nat} (h : w.ownsRow b e s v n xs) (hb : b' ≤ b) : w.ownsRow b' e s v n xs := by
  refine ⟨h.1, ?_⟩
  rcases h.2 with h | ⟨g, cap, cur, hv, hg, rest⟩
  · exact .inl h
  · exact .inr ⟨g, cap, cur, hv, by omega, rest⟩

end Go.Proofs.YtbohdmconeebeaaDoor

namespace Go.Proofs.YtbohdmconeebeaaDoor
open Go.RowKit Go.Shelf
set_option maxRecDepth 100000
attribute [local go_sem] Oper.semAt_some

/-- what sum answers -/
def SumR (w w' : World) (L : List Int) (e : Ending) : Prop := ∃ g, w.heap.size ≤ g ∧ e = .returned (.slice (some ⟨g, 0, none⟩) 4 4) ∧ Nums .u8 w' w'.heap.size (some ⟨g, 0, none⟩) L
theorem fsum_any (B b : Nat) (a : Option Addr) (n c : Nat) (ps : List Part) (w : World) (hc : CodAt w B b) (hn : ps.length = n) (hl : n ≤ 9223372036854775807) (hp : Parts w B a ps) :
    Calls Tryd.prog 41 #[.pointer (some ⟨b, 0, none⟩), .slice a n c] w fun e w' => SumR w w' (Cr.le4 (Cr.sum (flat ps))) e ∧ Below w.heap.size w w' := by
  obtain ⟨t, hb, hcell, ht⟩ := hc
  have HS := Lib.hid (sum_any B t a n c ps w ht hn hl hp)
  have hlt := Cr.sum_lt (flat ps)
  generalize Cr.sum (flat ps) = S at *
  have HL := Lib.hid (le4_is S hlt)
  clear ht hn hp
  go_enter Tryd.func41, Tryd.ntmps41
  go_wp2_with fail
  refine HS.out.mono ?_
  rintro e w1 ⟨rfl, m, rfl⟩
  clear HS
  have hn := Nums.new .u8 (w.drewN m) 5 [(S : Int) % 256, (S : Int) / 256 % 256, (S : Int) / 65536 % 256, (S : Int) / 16777216] _ rfl
  simp only [List.map_cons, List.map_nil] at hn
  have HN := Lib.hid hn
  clear hn
  go_wp2
  go_ret
  refine ⟨⟨w.heap.size, Nat.le_refl _, rfl, ?_⟩, (below_drewN (Below.refl _ _) m).alloc (Nat.le_refl _) _⟩
  rw [HL.out, World.size_alloc]
  exact HN.out
end Go.Proofs.YtbohdmconeebeaaDoor

namespace Go.Proofs.YtbohdmconeebeaaDoor
open Go.RowKit
set_option maxRecDepth 100000

/-- Same, of lists that are the same -/
theorem same_eq (B : Nat) (a1 a2 : Option Addr) (c1 c2 : Nat) (zs : List Int) (w : World) (hl : zs.length ≤ 9223372036854775807) (h1 : Nums .u8 w B a1 zs) (h2 : Nums .u8 w B a2 zs) :
    Calls Tryd.prog 16 #[.slice a1 zs.length c1, .slice a2 zs.length c2] w fun e w' => e = .returned (.bool true) ∧ ∃ n, w' = w.drewN n := by
  go_enter Tryd.func16, Tryd.ntmps16
  go_wp2
  go_loopw [5] (fun i wr => ∃ k : Nat, k ≤ zs.length ∧ i = .int .i64 k ∧ ∃ n, wr = w.drewN n) (fun i _ => zs.length - (intOf i).toNat)
  case atStart => exact ⟨0, by omega, rfl, 0, rfl⟩
  case round =>
    obtain ⟨k, hk, rfl, n, rfl⟩ := hrel
    by_cases hlt : k < zs.length
    · obtain ⟨c, hc⟩ : ∃ c, zs[k]? = some c := ⟨_, List.getElem?_eq_getElem hlt⟩
      obtain ⟨b1, o1, rfl, hb1, hc1⟩ := h1.open hc
      obtain ⟨b2, o2, rfl, hb2, hc2⟩ := h2.open hc
      clear h1 h2 hc
      have hlt' : (k : Int) < (zs.length : Int) := by omega
      go_wp2
      go_quiet (fail)
      go_wp2
      go_roundw
      case rel => exact ⟨k + 1, by omega, by go_num, _, rfl⟩
      case measure => simp [intOf]; omega
    · go_wp2
      go_ret
      exact ⟨rfl, n, rfl⟩

theorem same_len (B : Nat) (a1 a2 : Option Addr) (n1 n2 c1 c2 : Nat) (x y : List Int) (w : World) (hxy : x = y) (hn1 : x.length = n1) (hn2 : y.length = n2) (hl : n1 ≤ 9223372036854775807) (h1 : Nums .u8 w B a1 x) (h2 : Nums .u8 w B a2 y) :
    Calls Tryd.prog 16 #[.slice a1 n1 c1, .slice a2 n2 c2] w fun e w' => e = .returned (.bool true) ∧ ∃ n, w' = w.drewN n := by
  subst hxy hn1 hn2; exact same_eq B a1 a2 c1 c2 x w hl h1 h2

end Go.Proofs.YtbohdmconeebeaaDoor

namespace Go.Proofs.YtbohdmconeebeaaDoor
namespace Vi

/-- the bytes of a number: seven bits each, the lowest first -/
def enc (n : Nat) : List Int := if n < 128 then [(n : Int)] else ((n % 128 + 128 : Nat) : Int) :: enc (n / 128)
termination_by n
decreasing_by omega

theorem enc_small {n : Nat} (h : n < 128) : enc n = [(n : Int)] := by rw [enc, if_pos h]
theorem enc_big {n : Nat} (h : 128 ≤ n) : enc n = ((n % 128 + 128 : Nat) : Int) :: enc (n / 128) := by rw [enc, if_neg (by omega)]

theorem enc_pos (n : Nat) : 0 < (enc n).length := by
  by_cases h : n < 128
  · simp [enc_small h]
  · simp [enc_big (Nat.le_of_not_lt h)]

theorem enc_le (k : Nat) : ∀ n : Nat, n < 128 ^ (k + 1) → (enc n).length ≤ k + 1 := by
  induction k with
  | zero => intro n h; rw [enc_small (by simpa using h)]; simp
  | succ k ih =>
    intro n h
    by_cases hn : n < 128
    · simp [enc_small hn]
    · rw [enc_big (Nat.le_of_not_lt hn)]
      have := ih (n / 128) (by rw [Nat.pow_succ] at h; omega)
      simp only [List.length_cons]; omega

theorem enc_le10 {n : Nat} (h : n < 18446744073709551616) : (enc n).length ≤ 10 := enc_le 9 n (by omega)

/-- n has k bytes: then n < 128 ^ k, and at k > 1 at least 128 ^ (k - 1) -/
theorem enc_lt (n : Nat) : n < 128 ^ (enc n).length := by
  induction n using Nat.strongRecOn with
  | _ n ih =>
    by_cases hn : n < 128
    · simp [enc_small hn]; exact hn
    · have h := ih (n / 128) (by omega)
      rw [enc_big (Nat.le_of_not_lt hn), List.length_cons, Nat.pow_succ]
      omega

theorem enc_ge (n : Nat) (h : 1 < (enc n).length) : 128 ^ ((enc n).length - 1) ≤ n := by
  induction n using Nat.strongRecOn with
  | _ n ih =>
    by_cases hn : n < 128
    · simp [enc_small hn] at h
    · have hb := enc_big (Nat.le_of_not_lt hn)
      rw [hb, List.length_cons, Nat.add_sub_cancel]
      by_cases h1 : 1 < (enc (n / 128)).length
      · have hi := ih (n / 128) (by omega) h1
        have hp := enc_pos (n / 128)
        have e : (enc (n / 128)).length = (enc (n / 128)).length - 1 + 1 := by omega
        rw [e, Nat.pow_succ]; omega
      · have hp := enc_pos (n / 128)
        have e : (enc (n / 128)).length = 1 := by omega
        rw [e]; omega

theorem enc_mono {a b : Nat} (h : a ≤ b) : (enc a).length ≤ (enc b).length := by
  by_cases h1 : 1 < (enc a).length
  · have h2 := enc_ge a h1
    have h3 := enc_lt b
    have h4 : 128 ^ ((enc a).length - 1) < 128 ^ (enc b).length := by omega
    have := (Nat.pow_lt_pow_iff_right (by decide : 1 < 128)).1 h4
    omega
  · have := enc_pos b; omega

theorem enc_byte (n : Nat) : ∀ c ∈ enc n, 0 ≤ c ∧ c ≤ 255 := by
  induction n using Nat.strongRecOn with
  | _ n ih =>
    by_cases hn : n < 128
    · rw [enc_small hn]; intro c hc; simp at hc; subst hc; omega
    · rw [enc_big (Nat.le_of_not_lt hn)]
      intro c hc
      simp only [List.mem_cons] at hc
      rcases hc with rfl | hc
      · omega
      · exact ih (n / 128) (by omega) c hc

/-! ### sizes by the length of the bits -/
theorem log2_div128 {n : Nat} (h : 128 ≤ n) : n.log2 = (n / 128).log2 + 7 := by
  have hd : 1 ≤ n / 128 := by omega
  have e : ∀ m : Nat, 2 ≤ m → m.log2 = (m / 2).log2 + 1 := fun m hm => by rw [Nat.log2_def, if_pos hm]
  rw [e n (by omega), e (n / 2) (by omega), e (n / 2 / 2) (by omega), e (n / 2 / 2 / 2) (by omega), e (n / 2 / 2 / 2 / 2) (by omega), e (n / 2 / 2 / 2 / 2 / 2) (by omega), e (n / 2 / 2 / 2 / 2 / 2 / 2) (by omega)]
  rw [show n / 2 / 2 / 2 / 2 / 2 / 2 / 2 = n / 128 by omega]

theorem log2_small {n : Nat} (h : n < 128) : n.log2 ≤ 6 := by
  by_cases h0 : n = 0
  · subst h0; decide
  · have := (Nat.log2_lt h0).2 (show n < 2 ^ 7 by omega); omega

theorem enc_log2 (n : Nat) : (enc n).length = n.log2 / 7 + 1 := by
  induction n using Nat.strongRecOn with
  | _ n ih =>
    by_cases hn : n < 128
    · have := log2_small hn
      rw [enc_small hn]; simp only [List.length_singleton]; omega
    · have h := ih (n / 128) (by omega)
      rw [enc_big (Nat.le_of_not_lt hn), List.length_cons, h, log2_div128 (Nat.le_of_not_lt hn)]
      omega

theorem or_one (n : Nat) : n ||| 1 = n + (1 - n % 2) := by
  have h : n ||| 1 = n / 2 * 2 + 1 := by
    have h1 : n ||| 1 = (n / 2 * 2) ||| 1 := by
      apply Nat.eq_of_testBit_eq
      intro i
      cases i with
      | zero => simp
      | succ i =>
        rw [Nat.testBit_or, Nat.testBit_or, Nat.testBit_succ, Nat.testBit_succ (n / 2 * 2)]
        rw [show n / 2 * 2 / 2 = n / 2 by omega]
    rw [h1]
    exact nat_join 1 (n / 2 * 2) 1 (by omega) (by omega)
  omega

theorem enc_or_one (n : Nat) : (enc (n ||| 1)).length = (enc n).length := by
  have h := or_one n
  by_cases hn : n < 128
  · rw [enc_small hn, enc_small (by omega)]; rfl
  · rw [enc_big (Nat.le_of_not_lt hn), enc_big (by omega), List.length_cons, List.length_cons, show (n ||| 1) / 128 = n / 128 by omega]

theorem size_log2 (n : Nat) : ((n ||| 1).log2 + 1 + 7 - 1) / 7 = (enc n).length := by
  rw [← enc_or_one, enc_log2]; omega

theorem log2_lt64 {n : Nat} (h : n < 18446744073709551616) : n.log2 ≤ 63 := by
  by_cases h0 : n = 0
  · subst h0; decide
  · have := (Nat.log2_lt h0).2 (show n < 2 ^ 64 by omega); omega

end Vi
end Go.Proofs.YtbohdmconeebeaaDoor

namespace Go.Proofs.YtbohdmconeebeaaDoor
namespace Vi

/-- how many bytes with the highest bit set come first -/
def high : List Int → Nat
  | [] => 0
  | c :: r => if 128 ≤ c then high r + 1 else 0

/-- the number of bytes: seven bits each, the lowest first -/
def val : List Int → Nat
  | [] => 0
  | c :: r => c.toNat % 128 + 128 * val r

/-- the number that bytes begin with, how many bytes it has, the error (the document's P1.2) -/
def get (l : List Int) : Nat × Nat × Nat :=
  if 10 ≤ high l then (0, 0, 3)
  else if l.length ≤ high l then (0, 0, 4)
  else if 18446744073709551616 ≤ val (l.take (high l + 1)) ∨ (0 < high l ∧ l.getD (high l) 0 = 0) then (0, 0, 3)
  else (val (l.take (high l + 1)), high l + 1, 0)

theorem high_all {p : List Int} (hp : ∀ c ∈ p, 128 ≤ c) (r : List Int) : high (p ++ r) = p.length + high r := by
  induction p with
  | nil => simp
  | cons c p ih =>
    rw [List.cons_append, high, if_pos (hp c (by simp)), ih (fun d hd => hp d (by simp [hd])), List.length_cons]; omega

theorem val_append (p r : List Int) : val (p ++ r) = val p + 128 ^ p.length * val r := by
  induction p with
  | nil => simp [val]
  | cons c p ih =>
    rw [List.cons_append, val, ih, val, List.length_cons, Nat.pow_succ, Nat.mul_add]
    rw [show 128 ^ p.length * 128 * val r = 128 * (128 ^ p.length * val r) by rw [Nat.mul_comm (128 ^ p.length) 128, Nat.mul_assoc]]
    omega

theorem val_lt (p : List Int) : val p < 128 ^ p.length := by
  induction p with
  | nil => simp [val]
  | cons c p ih => rw [val, List.length_cons, Nat.pow_succ]; omega

theorem get_end {p : List Int} (hp : ∀ c ∈ p, 128 ≤ c) (hl : p.length ≤ 9) : get p = (0, 0, 4) := by
  have h := high_all hp []
  simp only [List.append_nil, high, Nat.add_zero] at h
  unfold get
  rw [if_neg (by omega), if_pos (by omega)]

theorem get_long {p r : List Int} (hp : ∀ c ∈ p, 128 ≤ c) (hl : 10 ≤ p.length) : get (p ++ r) = (0, 0, 3) := by
  have h := high_all hp r
  unfold get
  rw [if_pos (by omega)]

theorem take_mid (p : List Int) (c : Int) (r : List Int) : (p ++ c :: r).take (p.length + 1) = p ++ [c] := by
  rw [List.take_append, List.take_of_length_le (by omega)]; simp

theorem get_mid {p r : List Int} {c : Int} (hp : ∀ c ∈ p, 128 ≤ c) (hl : p.length ≤ 9) (hc : c < 128) :
    get (p ++ c :: r) = if 18446744073709551616 ≤ val (p ++ [c]) ∨ (0 < p.length ∧ c = 0) then (0, 0, 3) else (val (p ++ [c]), p.length + 1, 0) := by
  have h : high (p ++ c :: r) = p.length := by
    rw [high_all hp]; simp [high, show ¬ 128 ≤ c by omega]
  have hg : (p ++ c :: r).getD p.length 0 = c := by simp [List.getD]
  unfold get
  rw [h, hg, take_mid, if_neg (by omega), if_neg (by simp)]

theorem get_bad {p r : List Int} {c : Int} (hp : ∀ c ∈ p, 128 ≤ c) (hl : p.length ≤ 9) (hc : c < 128) (hb : 18446744073709551616 ≤ val (p ++ [c]) ∨ (0 < p.length ∧ c = 0)) : get (p ++ c :: r) = (0, 0, 3) := by
  rw [get_mid hp hl hc, if_pos hb]
theorem get_ok {p r : List Int} {c : Int} (hp : ∀ c ∈ p, 128 ≤ c) (hl : p.length ≤ 9) (hc : c < 128) (hb : val (p ++ [c]) < 18446744073709551616) (h0 : p.length = 0 ∨ c ≠ 0) : get (p ++ c :: r) = (val (p ++ [c]), p.length + 1, 0) := by
  rw [get_mid hp hl hc, if_neg (by omega)]

/-- the parts of any list: the high bytes that come first, and what is behind them -/
theorem parts (l : List Int) : ∃ p r, l = p ++ r ∧ (∀ c ∈ p, 128 ≤ c) ∧ (r = [] ∨ ∃ c r', r = c :: r' ∧ c < 128) := by
  induction l with
  | nil => exact ⟨[], [], rfl, by simp, .inl rfl⟩
  | cons c l ih =>
    by_cases hc : 128 ≤ c
    · obtain ⟨p, r, e, hp, hr⟩ := ih
      refine ⟨c :: p, r, by rw [e]; rfl, ?_, hr⟩
      intro d hd
      simp only [List.mem_cons] at hd
      rcases hd with rfl | hd
      · exact hc
      · exact hp d hd
    · exact ⟨[], c :: l, rfl, by simp, .inr ⟨c, l, rfl, by omega⟩⟩

/-- what is told is put as it was -/
theorem enc_val {p : List Int} {c : Int} (hp : ∀ d ∈ p, 128 ≤ d ∧ d ≤ 255) (h0 : 0 ≤ c) (hc : c < 128) (hz : p.length = 0 ∨ c ≠ 0) : enc (val (p ++ [c])) = p ++ [c] := by
  induction p with
  | nil =>
    have e : val ([] ++ [c]) = c.toNat := by simp [val]; omega
    rw [e, enc_small (by omega)]; simp; omega
  | cons d p ih =>
    have hd := hp d (by simp)
    have hi := ih (fun x hx => hp x (by simp [hx])) (.inr (by simpa using hz))
    have hc0 : c ≠ 0 := by simpa using hz
    have hv : 1 ≤ val (p ++ [c]) := by
      rw [val_append]
      have h1 : 1 ≤ val [c] := by simp [val]; omega
      have h2 : 1 ≤ 128 ^ p.length := Nat.one_le_pow _ _ (by decide)
      have := Nat.mul_le_mul h2 h1
      omega
    have e : val (d :: p ++ [c]) = d.toNat % 128 + 128 * val (p ++ [c]) := rfl
    rw [e, enc_big (by omega), show (d.toNat % 128 + 128 * val (p ++ [c])) / 128 = val (p ++ [c]) by omega, hi]
    simp only [List.cons_append, List.cons.injEq, and_true]
    omega

/-- a number's bytes: high ones, and a last one -/
theorem enc_parts (n : Nat) : ∃ p c, enc n = p ++ [c] ∧ (∀ d ∈ p, 128 ≤ d ∧ d ≤ 255) ∧ 0 ≤ c ∧ c < 128 ∧ (p.length = 0 ∨ c ≠ 0) ∧ val (p ++ [c]) = n := by
  induction n using Nat.strongRecOn with
  | _ n ih =>
    by_cases hn : n < 128
    · refine ⟨[], n, by rw [enc_small hn]; rfl, by simp, by omega, by omega, .inl rfl, ?_⟩
      simp [val]; omega
    · obtain ⟨p, c, e, hp, h0, hc, hz, hv⟩ := ih (n / 128) (by omega)
      refine ⟨((n % 128 + 128 : Nat) : Int) :: p, c, by rw [enc_big (by omega), e]; rfl, ?_, h0, hc, .inr ?_, ?_⟩
      · intro d hd
        simp only [List.mem_cons] at hd
        rcases hd with rfl | hd
        · omega
        · exact hp d hd
      · rcases hz with hz | hz
        · have : p = [] := List.eq_nil_of_length_eq_zero hz
          subst this
          simp [val] at hv
          intro hc0
          subst hc0
          simp at hv
          omega
        · exact hz
      · have e2 : val ((((n % 128 + 128 : Nat) : Int) :: p) ++ [c]) = ((n % 128 + 128 : Nat) : Int).toNat % 128 + 128 * val (p ++ [c]) := rfl
        rw [e2, hv, Int.toNat_natCast]; omega

/-- what was put is told as it was -/
theorem get_enc {n : Nat} (hn : n < 18446744073709551616) (r : List Int) : get (enc n ++ r) = (n, (enc n).length, 0) := by
  obtain ⟨p, c, e, hp, h0, hc, hz, hv⟩ := enc_parts n
  have hl := enc_le10 hn
  rw [e] at hl ⊢
  simp only [List.length_append, List.length_singleton] at hl ⊢
  rw [List.append_assoc, List.singleton_append, get_ok (fun d hd => (hp d hd).1) (by omega) hc (by omega) hz, hv]

/-- what Get tells: the size, and its bytes -/
theorem get_put {l : List Int} (hl : ∀ c ∈ l, 0 ≤ c ∧ c ≤ 255) (h : (get l).2.2 = 0) :
    (get l).1 < 18446744073709551616 ∧ 0 < (get l).2.1 ∧ (get l).2.1 ≤ l.length ∧ enc (get l).1 = l.take (get l).2.1 ∧ (enc (get l).1).length = (get l).2.1 := by
  obtain ⟨p, r, rfl, hp, hr⟩ := parts l
  by_cases h10 : 10 ≤ p.length
  · rw [get_long hp h10] at h; simp at h
  · rcases hr with rfl | ⟨c, r', rfl, hc⟩
    · rw [List.append_nil, get_end hp (by omega)] at h; simp at h
    · by_cases hb : 18446744073709551616 ≤ val (p ++ [c]) ∨ (0 < p.length ∧ c = 0)
      · rw [get_bad hp (by omega) hc hb] at h; simp at h
      · have hz : p.length = 0 ∨ c ≠ 0 := by omega
        have hc0 := hl c (by simp)
        have he := enc_val (fun d hd => ⟨hp d hd, (hl d (by simp [hd])).2⟩) hc0.1 hc hz
        rw [get_ok hp (by omega) hc (by omega) hz]
        simp only
        rw [he, take_mid]
        refine ⟨by omega, by omega, by simp, rfl, by simp⟩

/-- what is not told is nought -/
theorem get_err {l : List Int} (h : (get l).2.2 ≠ 0) : (get l).1 = 0 ∧ (get l).2.1 = 0 := by
  unfold get at h ⊢
  split
  · exact ⟨rfl, rfl⟩
  · split
    · exact ⟨rfl, rfl⟩
    · split
      · exact ⟨rfl, rfl⟩
      · rename_i h1 h2 h3
        rw [if_neg h1, if_neg h2, if_neg h3] at h
        exact absurd rfl h

theorem get_le (l : List Int) : (get l).1 < 18446744073709551616 ∧ (get l).2.1 ≤ 10 ∧ (get l).2.1 ≤ l.length ∧ (get l).2.2 ≤ 4 := by
  unfold get
  split
  · simp
  · split
    · simp
    · split
      · simp
      · simp only; omega

/-! ### one byte more, in the model's own words -/
theorem or_join (x c k : Nat) (hx : x < 128 ^ k) (hk : k ≤ 9) (hc : c < 128) (h9 : k = 9 → c ≤ 1) :
    bits .or .u64 (x : Int) (IntKind.u64.wrap ((c : Int) * 2 ^ (7 * k))) = ((x + 128 ^ k * c : Nat) : Int) := by
  have e : (128 : Nat) ^ k = 2 ^ (7 * k) := by rw [show (128 : Nat) = 2 ^ 7 from rfl, ← Nat.pow_mul]
  have hp : c * 2 ^ (7 * k) < 18446744073709551616 := by
    have : k = 0 ∨ k = 1 ∨ k = 2 ∨ k = 3 ∨ k = 4 ∨ k = 5 ∨ k = 6 ∨ k = 7 ∨ k = 8 ∨ k = 9 := by omega
    rcases this with rfl | rfl | rfl | rfl | rfl | rfl | rfl | rfl | rfl | rfl <;> (simp only [Nat.reduceMul, Nat.reducePow]; omega)
  have hx2 : x < 18446744073709551616 := by
    have : k = 0 ∨ k = 1 ∨ k = 2 ∨ k = 3 ∨ k = 4 ∨ k = 5 ∨ k = 6 ∨ k = 7 ∨ k = 8 ∨ k = 9 := by omega
    rcases this with rfl | rfl | rfl | rfl | rfl | rfl | rfl | rfl | rfl | rfl <;> (simp only [Nat.reducePow] at hx; omega)
  have ec : (c : Int) * 2 ^ (7 * k) = ((c * 2 ^ (7 * k) : Nat) : Int) := by push_cast; rfl
  rw [ec, IntKind.wrap_u64, Int.emod_eq_of_lt (by omega) (by omega), u64_or_nat x _ hx2 hp, Nat.or_comm, nat_join (7 * k) _ x (Nat.mul_mod_left _ _) (by rw [← e]; exact hx), e, Nat.mul_comm, Nat.add_comm]

end Vi
end Go.Proofs.YtbohdmconeebeaaDoor

namespace Go.Proofs.YtbohdmconeebeaaDoor
open Go.RowKit
set_option maxRecDepth 100000

/-- the bytes of numbers, one behind the other -/
def puts (zs : List Int) : List Int := zs.flatMap fun z => Vi.enc z.toNat
theorem puts_nil : puts [] = [] := rfl
theorem puts_append (a b : List Int) : puts (a ++ b) = puts a ++ puts b := by simp [puts]
theorem puts_one (z : Int) : puts [z] = Vi.enc z.toNat := by simp [puts]
theorem puts_byte (zs : List Int) : ∀ c ∈ puts zs, 0 ≤ c ∧ c ≤ 255 := by
  intro c hc
  simp only [puts, List.mem_flatMap] at hc
  obtain ⟨z, _, hc⟩ := hc
  exact Vi.enc_byte _ c hc
theorem puts_length (zs : List Int) (h : ∀ z ∈ zs, 0 ≤ z ∧ z ≤ 18446744073709551615) : (puts zs).length ≤ 10 * zs.length := by
  induction zs with
  | nil => simp [puts]
  | cons z zs ih =>
    have h1 := ih (fun x hx => h x (by simp [hx]))
    have h2 := Vi.enc_le10 (n := z.toNat) (by have := h z (by simp); omega)
    rw [show z :: zs = [z] ++ zs from rfl, puts_append, puts_one, List.length_append, List.length_append, List.length_singleton]
    omega
theorem ptake_more {zs : List Int} {k : Nat} {z : Int} (h : zs[k]? = some z) : zs.take (k + 1) = zs.take k ++ [z] := by
  have hk : k < zs.length := by
    rcases Nat.lt_or_ge k zs.length with h1 | h1
    · exact h1
    · rw [List.getElem?_eq_none h1] at h; simp at h
  rw [List.getElem?_eq_getElem hk] at h
  injection h with h
  rw [List.take_succ_eq_append_getElem hk, h]

theorem or128 (m : Nat) : bits .or .u8 (IntKind.u8.wrap (m : Int)) 128 = ((m % 128 + 128 : Nat) : Int) := by
  rw [IntKind.wrap_u8, show (m : Int) % 256 = ((m % 256 : Nat) : Int) by omega, show (128 : Int) = ((128 : Nat) : Int) from rfl, u8_or_nat _ _ (by omega) (by omega)]
  have h : m % 256 ||| 128 = m % 128 + 128 := by
    have h1 : ∀ i : Fin 256, i.val ||| 128 = i.val % 128 + 128 := by decide +kernel
    have := h1 ⟨m % 256, by omega⟩
    simp only at this
    omega
  rw [h]

/-- bytes that a call has made -/
def Made (w w' : World) (L : List Int) (v : Value) : Prop := w'.ownsRow w.heap.size 5 1 v L.length (L.map (Value.int .u8)) ∧ Below w.heap.size w w'
theorem Made.nil (w : World) : Made w w [] (.slice none 0 0) := ⟨World.ownsRow_nil _ _ _ _, Below.refl _ _⟩
theorem Made.slice {w w' : World} {L : List Int} {v : Value} (h : Made w w' L v) : ∃ A c, v = .slice A L.length c ∧ L.length ≤ c ∧ Nums .u8 w' w'.heap.size A L := by
  have h1 := h.1
  obtain ⟨_, h2⟩ := h1
  rcases h2 with ⟨rfl, h0⟩ | ⟨g, cap, cur, rfl, hg, hh, hn, _⟩
  · have : L = [] := List.eq_nil_of_length_eq_zero h0
    subst this
    exact ⟨none, 0, rfl, by simp, Nums.nil⟩
  · exact ⟨some ⟨g, 0, none⟩, cap, rfl, hn, Nums.of_own h.1⟩
theorem Made.app {w w1 w2 : World} {L : List Int} {v v' : Value} {x y : Int} {o : Obj} (h : Made w w1 L v) (hown : w2.ownsRow w.heap.size 5 1 v' (L.length + 1) (L.map (Value.int .u8) ++ [.int .u8 x])) (hg : (w1.alloc o).grownBy w2 v.ownBlock) (hx : x = y) : Made w w2 (L ++ [y]) v' := by
  subst hx
  refine ⟨by simpa using hown, ((h.2.alloc h.2.size o).grown hg (by have := h.2.size; simp; omega) (fun k hk => ?_))⟩
  have hv := h.1
  obtain ⟨_, h2⟩ := hv
  rcases h2 with ⟨rfl, h0⟩ | ⟨g, cap, cur, rfl, hg, hh, hn, _⟩
  · simp [Value.ownBlock] at hk
  · simp [Value.ownBlock] at hk; omega



end Go.Proofs.YtbohdmconeebeaaDoor

namespace Go.Proofs.YtbohdmconeebeaaDoor
open Go.RowKit
set_option maxRecDepth 100000

/-- what Grow answers -/
def GrowR (A : Option Addr) (l n : Nat) (cur : List Int) (w : World) (e : Ending) (w' : World) : Prop :=
  ∃ A' cap' cur', e = .returned (.slice A' l cap') ∧ l + n ≤ cap' ∧ KRow 5 .u8 w' A' cap' cur' ∧ cur'.take l = cur.take l ∧ Below w.heap.size w w' ∧ (A' = A ∨ ∃ g, A' = some ⟨g, 0, none⟩ ∧ w.heap.size ≤ g)

set_option maxHeartbeats 2000000 in
theorem grow_any (A : Option Addr) (l cap n : Nat) (cur : List Int) (w : World) (hr : KRow 5 .u8 w A cap cur) (hl : l ≤ cap) (hn : l + n ≤ 1000000000) :
    Calls Tryd.prog 56 #[.slice A l cap, .int .i64 n] w fun e w' => GrowR A l n cur w e w' := by
  have hc63 : cap ≤ 9223372036854775807 := by
    rcases hr.2 with ⟨_, h0⟩ | ⟨g, _, hm, _⟩
    · omega
    · unfold maxLen at hm; omega
  by_cases hroom : l + n ≤ cap
  · have HR := Lib.hid hr
    clear hr
    have h4 : (n : Int) - ((cap : Int) - (l : Int)) ≤ 0 := by omega
    go_enter Tryd.func56, Tryd.ntmps56
    go_wp2
    go_ret
    exact ⟨A, cap, cur, rfl, hroom, HR.out, rfl, Below.refl _ _, .inl rfl⟩
  · obtain ⟨i0, hi, hz0, hz1, hz2⟩ := info_parts byteInfo
    have h4 : 0 < (n : Int) - ((cap : Int) - (l : Int)) := by omega
    have hck : cap + (l + n - cap) = l + n := by omega
    have hold : (Builtin.firstCells i0.size cap (.slice A cap cap)).run Tryd.prog w.drew = .ok (cur.map (Value.int .u8)).toArray w.drew := by
      rcases hr.2 with ⟨rfl, h0⟩ | ⟨g, rfl, hm, hh⟩
      · have hcu : cur = [] := List.eq_nil_of_length_eq_zero (hr.1.trans h0)
        subst h0
        subst hcu
        exact run_firstCells_none _ _ _ _ _
      · refine run_firstCells_some (w := w.drew) i0.size cap ⟨g, 0, none⟩ cap cap _ (by rw [hz1, List.length_map, hr.1]; omega) (fun j v hj => ?_)
        rw [List.getElem?_map] at hj
        obtain ⟨c, hc, rfl⟩ := Option.map_eq_some_iff.1 hj
        rw [Addr.add_lit, Nat.zero_add]
        exact hr.cell (w := w) rfl hc
    obtain ⟨G, hG⟩ : ∃ G, G = grownCap w (l + n) cap 5 := ⟨_, rfl⟩
    have hGn : l + n ≤ G := by rw [hG]; exact grownCap_ge w _ _ _
    have hGm : G ≤ maxLen := by rw [hG]; exact grownCap_le_maxLen w _ _ _ (by unfold maxLen; omega)
    have hG63 : G ≤ 9223372036854775807 := by unfold maxLen at hGm; omega
    obtain ⟨cur', hcur'⟩ : ∃ cur', cur' = cur ++ (List.replicate (l + n - cap) (0 : Int) ++ List.replicate (G - (l + n)) (0 : Int)) := ⟨_, rfl⟩
    have hlen' : cur'.length = G := by rw [hcur', List.length_append, List.length_append, List.length_replicate, List.length_replicate, hr.1]; omega
    have htake : cur'.take l = cur.take l := by rw [hcur', List.take_append_of_le_length (by rw [hr.1]; omega)]
    have hrz : ∀ ty, (Builtin.append_ #[29, 3] ty #[.slice A cap cap, .int .i64 ((n : Int) - ((cap : Int) - (l : Int)))]).run Tryd.prog w =
        .ok (.slice (some ⟨w.heap.size, 0, none⟩) (l + n) G) (w.drew.alloc (.cells (cur'.map (Value.int .u8)).toArray 5)) := fun ty => by
      have h := Lib.run_append_grow_zeros w 29 3 ty 5 i0 (.int .u8 0) .i64 .i64 Tryd.underlying29 Tryd.underlying3 hi hz0 A cap cap _ hold (l + n - cap) (by omega) (by omega) (by omega) (by omega) (by rw [hz2]; omega) (by rw [hck, hz2]; exact growslice_fits (by omega) (by omega))
      rw [hck, ← hG] at h
      rw [show (n : Int) - ((cap : Int) - (l : Int)) = ((l + n - cap : Nat) : Int) by omega]
      rw [h]
      have hz : (Value.int .u8 0).cells = #[.int .u8 0] := rfl
      rw [hz, zeroCells_int, zeroCells_int, hcur']
      rw [show (cur.map (Value.int .u8)).toArray ++ ((List.replicate (l + n - cap) (0 : Int)).map (Value.int .u8)).toArray ++ ((List.replicate (G - (l + n)) (0 : Int)).map (Value.int .u8)).toArray = ((cur ++ (List.replicate (l + n - cap) (0 : Int) ++ List.replicate (G - (l + n)) (0 : Int))).map (Value.int .u8)).toArray from Array.toList_inj.1 (by simp)]
    have HK : Hid (KRow 5 .u8 (w.drew.alloc (.cells (cur'.map (Value.int .u8)).toArray 5)) (some ⟨w.heap.size, 0, none⟩) G cur') := ⟨hlen', .inr ⟨_, rfl, hGm, heap_alloc_new w.drew _⟩⟩
    have HB : Hid (Below w.heap.size w (w.drew.alloc (.cells (cur'.map (Value.int .u8)).toArray 5))) := ((Below.refl _ w).drew).alloc (Nat.le_refl _) _
    have HT := Lib.hid htake
    have hnil : A = none → cap = 0 := fun h => by
      rcases hr.2 with ⟨_, h0⟩ | ⟨g, e, _⟩
      · exact h0
      · rw [h] at e; simp at e
    clear hold hck hG hcur' htake hlen' hr
    go_enter Tryd.func56, Tryd.ntmps56
    cases A with
    | none =>
      have h0 := hnil rfl
      subst h0
      obtain rfl : l = 0 := by omega
      go_wp2_with (at_builtin; refine Lib.wpList_append_run _ rfl _ _ _ _ rfl _ _ rfl rfl _ _ (hrz _) ?_)
      all_goals (go_ret; exact ⟨_, _, _, rfl, hGn, HK.out, HT.out, HB.out, .inr ⟨_, rfl, Nat.le_refl _⟩⟩)
    | some a =>
      obtain ⟨ab, ao, asp⟩ := a
      go_wp2_with (at_builtin; refine Lib.wpList_append_run _ rfl _ _ _ _ rfl _ _ rfl rfl _ _ (hrz _) ?_)
      all_goals (go_ret; exact ⟨_, _, _, rfl, hGn, HK.out, HT.out, HB.out, .inr ⟨_, rfl, Nat.le_refl _⟩⟩)
end Go.Proofs.YtbohdmconeebeaaDoor

namespace Go.Proofs.YtbohdmconeebeaaDoor
open Go.RowKit
set_option maxRecDepth 100000
theorem listInfo : (Tryd.prog.info? 29).map (fun i => (i.zero, i.size, i.bytes)) = some (some (.slice none 0 0), 1, 24) := by kernel_rfl
theorem own_slice {w : World} {base : Nat} {e : TypeId} {size n : Nat} {v : Value} {xs : List Value} (h : w.ownsRow base e size v n xs) : ∃ A c, v = .slice A n c := by
  rcases h.2 with ⟨rfl, h0⟩ | ⟨g, cap, cur, rfl, _⟩
  · subst h0; exact ⟨none, 0, rfl⟩
  · exact ⟨_, cap, rfl⟩
end Go.Proofs.YtbohdmconeebeaaDoor

namespace Go.Proofs.YtbohdmconeebeaaDoor
namespace Cb

/-- how many numbers stand ahead of the first 0 -/
def nz : List Int → Nat
  | [] => 0
  | z :: r => if z = 0 then 0 else nz r + 1
def NZ (b : List Int) : Prop := ∀ c ∈ b, c ≠ 0
theorem nz_le (l : List Int) : nz l ≤ l.length := by
  induction l with
  | nil => simp [nz]
  | cons z r ih => simp only [nz, List.length_cons]; split <;> omega
theorem nz_take (l : List Int) : NZ (l.take (nz l)) := by
  induction l with
  | nil => intro c hc; simp at hc
  | cons z r ih =>
    simp only [nz]
    split
    · intro c hc; simp at hc
    · rename_i h
      rw [List.take_succ_cons]
      intro c hc
      rcases List.mem_cons.1 hc with rfl | hc
      · exact h
      · exact ih c hc
theorem nz_at (l : List Int) (h : nz l < l.length) : l[nz l]? = some 0 := by
  induction l with
  | nil => simp at h
  | cons z r ih =>
    simp only [nz] at h ⊢
    split
    · rename_i h0; simp [h0]
    · rename_i h0
      rw [if_neg h0] at h
      rw [List.getElem?_cons_succ]
      exact ih (by simp only [List.length_cons] at h; omega)
theorem nz_all {b : List Int} (h : NZ b) : nz b = b.length := by
  induction b with
  | nil => rfl
  | cons z r ih =>
    simp only [nz, List.length_cons]
    rw [if_neg (h z (by simp)), ih fun c hc => h c (by simp [hc])]
theorem nz_nought {b r : List Int} (h : NZ b) : nz (b ++ 0 :: r) = b.length := by
  induction b with
  | nil => simp [nz]
  | cons z r ih =>
    simp only [nz, List.length_cons, List.cons_append]
    rw [if_neg (h z (by simp)), ih fun c hc => h c (by simp [hc])]
theorem NZ.append {x y : List Int} (hx : NZ x) (hy : NZ y) : NZ (x ++ y) := fun c hc => by
  rcases List.mem_append.1 hc with h | h
  · exact hx c h
  · exact hy c h
theorem NZ.take {x : List Int} (h : NZ x) (n : Nat) : NZ (x.take n) := fun c hc => h c (List.mem_of_mem_take hc)

/-- how many bytes the first block has -/
def fst (l : List Int) : Nat := nz (l.take 254)
theorem fst_le (l : List Int) : fst l ≤ l.length := by have := nz_le (l.take 254); rw [List.length_take] at this; unfold fst; omega
theorem fst_254 (l : List Int) : fst l ≤ 254 := by have := nz_le (l.take 254); rw [List.length_take] at this; unfold fst; omega
theorem fst_nz (l : List Int) : NZ (l.take (fst l)) := by
  have := nz_take (l.take 254)
  rw [List.take_take] at this
  rw [show min (nz (l.take 254)) 254 = fst l from Nat.min_eq_left (fst_254 l)] at this
  exact this
theorem fst_at (l : List Int) (h : fst l < 254) (h2 : fst l < l.length) : l[fst l]? = some 0 := by
  have := nz_at (l.take 254) (by rw [List.length_take]; have : nz (l.take 254) = fst l := rfl; omega)
  rw [List.getElem?_take] at this
  rw [show nz (l.take 254) = fst l from rfl, if_pos h] at this
  exact this
theorem fst_last {b : List Int} (h : NZ b) (hl : b.length ≤ 254) : fst b = b.length := by
  unfold fst; rw [List.take_of_length_le hl]; exact nz_all h
theorem fst_nought {b r : List Int} (h : NZ b) (hl : b.length < 254) : fst (b ++ 0 :: r) = b.length := by
  unfold fst
  have e : (b ++ 0 :: r).take 254 = b ++ 0 :: r.take (253 - b.length) := by
    rw [List.take_append, List.take_of_length_le (by omega), show 254 - b.length = (253 - b.length) + 1 by omega, List.take_succ_cons]
  rw [e]; exact nz_nought h
theorem fst_full {b r : List Int} (h : NZ b) (hl : b.length = 254) : fst (b ++ r) = 254 := by
  unfold fst
  have e : (b ++ r).take 254 = b := by rw [← hl]; simp
  rw [e, nz_all h, hl]

/-- the blocks of bytes -/
def blocks (l : List Int) : List (List Int) :=
  if h : l.drop (fst l) = [] then [l.take (fst l)]
  else if h2 : fst l < 254 then l.take (fst l) :: blocks (l.drop (fst l + 1))
  else l.take (fst l) :: blocks (l.drop (fst l))
termination_by l.length
decreasing_by
  · have h3 : fst l < l.length := by
      rcases Nat.lt_or_ge (fst l) l.length with h' | h'
      · exact h'
      · exact absurd (List.drop_eq_nil_of_le h') h
    rw [List.length_drop]; omega
  · have h3 : fst l < l.length := by
      rcases Nat.lt_or_ge (fst l) l.length with h' | h'
      · exact h'
      · exact absurd (List.drop_eq_nil_of_le h') h
    rw [List.length_drop]; omega
theorem blocks_end {l : List Int} (h : l.length ≤ fst l) : blocks l = [l.take (fst l)] := by
  rw [blocks, dif_pos (List.drop_eq_nil_of_le h)]
theorem drop_ne {l : List Int} {n : Nat} (h : n < l.length) : l.drop n ≠ [] := fun e => by
  have := congrArg List.length e; rw [List.length_drop] at this; simp at this; omega
theorem blocks_short {l : List Int} (h : fst l < l.length) (h2 : fst l < 254) : blocks l = l.take (fst l) :: blocks (l.drop (fst l + 1)) := by
  rw [blocks, dif_neg (drop_ne h), dif_pos h2]
theorem blocks_long {l : List Int} (h : fst l < l.length) (h2 : ¬ fst l < 254) : blocks l = l.take (fst l) :: blocks (l.drop (fst l)) := by
  rw [blocks, dif_neg (drop_ne h), dif_neg h2]
theorem blocks_last {b : List Int} (h : NZ b) (hl : b.length ≤ 254) : blocks b = [b] := by
  rw [blocks_end (by rw [fst_last h hl]; exact Nat.le_refl _), fst_last h hl, List.take_length]
theorem blocks_nought {b r : List Int} (h : NZ b) (hl : b.length < 254) : blocks (b ++ 0 :: r) = b :: blocks r := by
  have e := fst_nought (r := r) h hl
  rw [blocks_short (by rw [e]; simp) (by rw [e]; exact hl), e]
  congr 1
  · simp
  · congr 1
    rw [List.drop_append]
    simp
theorem blocks_full {b r : List Int} (h : NZ b) (hl : b.length = 254) (hr : r ≠ []) : blocks (b ++ r) = b :: blocks r := by
  have e := fst_full (r := r) h hl
  have hp : 0 < r.length := List.length_pos_iff.2 hr
  rw [blocks_long (by rw [e, List.length_append]; omega) (by rw [e]; omega), e, ← hl]
  congr 1
  · simp
  · congr 1
    simp
/-- bytes are one block; or one, a 0, and others; or one of 254 and others -/
theorem shape (l : List Int) : (NZ l ∧ l.length ≤ 254) ∨ (∃ b r, NZ b ∧ b.length < 254 ∧ l = b ++ 0 :: r) ∨ (∃ b r, NZ b ∧ b.length = 254 ∧ r ≠ [] ∧ l = b ++ r) := by
  have h1 := fst_nz l
  have h2 := fst_254 l
  have h3 := fst_le l
  rcases Nat.lt_or_ge (fst l) l.length with h | h
  · by_cases h4 : fst l < 254
    · have h5 := fst_at l h4 h
      refine .inr (.inl ⟨l.take (fst l), l.drop (fst l + 1), h1, by rw [List.length_take]; omega, ?_⟩)
      rw [List.getElem?_eq_getElem h] at h5
      injection h5 with h5
      rw [← h5, List.getElem_cons_drop, List.take_append_drop]
    · exact .inr (.inr ⟨l.take (fst l), l.drop (fst l), h1, by rw [List.length_take]; omega, drop_ne h, (List.take_append_drop _ _).symm⟩)
  · rw [List.take_of_length_le h] at h1
    exact .inl ⟨h1, by omega⟩

/-- a block, stuffed -/
def one (b : List Int) : List Int := ((b.length + 1 : Nat) : Int) :: b
/-- bytes, stuffed -/
def join (bs : List (List Int)) : List Int := bs.flatMap one
def enc (l : List Int) : List Int := join (blocks l)
theorem join_append (a b : List (List Int)) : join (a ++ b) = join a ++ join b := by simp [join]
theorem enc_last {b : List Int} (h : NZ b) (hl : b.length ≤ 254) : enc b = one b := by simp [enc, join, blocks_last h hl]
theorem enc_nought {b r : List Int} (h : NZ b) (hl : b.length < 254) : enc (b ++ 0 :: r) = one b ++ enc r := by simp [enc, join, blocks_nought h hl]
theorem enc_full {b r : List Int} (h : NZ b) (hl : b.length = 254) (hr : r ≠ []) : enc (b ++ r) = one b ++ enc r := by simp [enc, join, blocks_full h hl hr]
theorem one_len (b : List Int) : (one b).length = b.length + 1 := rfl

/-- an induction along the blocks -/
theorem along {p : List Int → Prop} (h1 : ∀ b, NZ b → b.length ≤ 254 → p b) (h2 : ∀ b r, NZ b → b.length < 254 → p r → p (b ++ 0 :: r)) (h3 : ∀ b r, NZ b → b.length = 254 → r ≠ [] → p r → p (b ++ r)) (l : List Int) : p l := by
  suffices H : ∀ n (l : List Int), l.length ≤ n → p l from H l.length l (Nat.le_refl _)
  intro n
  induction n with
  | zero =>
    intro l hl
    obtain rfl : l = [] := List.length_eq_zero_iff.1 (by omega)
    exact h1 [] (fun c hc => by simp at hc) (by simp)
  | succ n ih =>
    intro l hl
    rcases shape l with ⟨ha, hb⟩ | ⟨b, r, ha, hb, rfl⟩ | ⟨b, r, ha, hb, hc, rfl⟩
    · exact h1 l ha hb
    · exact h2 b r ha hb (ih r (by simp only [List.length_append, List.length_cons] at hl; omega))
    · exact h3 b r ha hb hc (ih r (by simp only [List.length_append] at hl; omega))

theorem one_nz {b : List Int} (h : NZ b) : NZ (one b) := fun c hc => by
  rcases List.mem_cons.1 hc with rfl | hc
  · omega
  · exact h c hc
/-- what is stuffed has no 0 -/
theorem enc_nz (l : List Int) : NZ (enc l) := by
  refine along (p := fun l => NZ (enc l)) ?_ ?_ ?_ l
  · intro b h hl; rw [enc_last h hl]; exact one_nz h
  · intro b r h hl ih; rw [enc_nought h hl]; exact (one_nz h).append ih
  · intro b r h hl hr ih; rw [enc_full h hl hr]; exact (one_nz h).append ih
theorem enc_ne (l : List Int) : enc l ≠ [] := by
  rcases shape l with ⟨ha, hb⟩ | ⟨b, r, ha, hb, rfl⟩ | ⟨b, r, ha, hb, hc, rfl⟩
  · rw [enc_last ha hb]; simp [one]
  · rw [enc_nought ha hb]; simp [one]
  · rw [enc_full ha hb hc]; simp [one]
/-- how many bytes there are, stuffed -/
theorem enc_len (l : List Int) : l.length + 1 ≤ (enc l).length ∧ (enc l).length ≤ l.length + max 1 ((l.length + 253) / 254) ∧ (l.length ≤ 254 → (enc l).length = l.length + 1) ∧ (NZ l → (enc l).length = l.length + max 1 ((l.length + 253) / 254)) := by
  refine along (p := fun l => l.length + 1 ≤ (enc l).length ∧ (enc l).length ≤ l.length + max 1 ((l.length + 253) / 254) ∧ (l.length ≤ 254 → (enc l).length = l.length + 1) ∧ (NZ l → (enc l).length = l.length + max 1 ((l.length + 253) / 254))) ?_ ?_ ?_ l
  · intro b h hl
    rw [enc_last h hl, one_len]
    refine ⟨by omega, by omega, fun _ => rfl, fun _ => by omega⟩
  · intro b r h hl ⟨i1, i2, i3, _⟩
    rw [enc_nought h hl]
    simp only [List.length_append, List.length_cons, one_len] at *
    refine ⟨by omega, by omega, fun hh => by have := i3 (by omega); omega, fun hn => absurd rfl (hn 0 (by simp))⟩
  · intro b r h hl hr ⟨i1, i2, i3, i4⟩
    have hp : 0 < r.length := List.length_pos_iff.2 hr
    rw [enc_full h hl hr]
    simp only [List.length_append, one_len] at *
    refine ⟨by omega, by omega, fun hh => by omega, fun hn => ?_⟩
    have := i4 fun c hc => hn c (by simp [hc])
    omega
theorem enc_bytes {l : List Int} (h : ∀ z ∈ l, 0 ≤ z ∧ z < 256) : ∀ z ∈ enc l, 0 ≤ z ∧ z < 256 := by
  have ho : ∀ b : List Int, b.length ≤ 254 → (∀ z ∈ b, 0 ≤ z ∧ z < 256) → ∀ z ∈ one b, 0 ≤ z ∧ z < 256 := by
    intro b hl hb z hz
    rcases List.mem_cons.1 hz with rfl | hz
    · omega
    · exact hb z hz
  revert h
  refine along (p := fun l => (∀ z ∈ l, 0 ≤ z ∧ z < 256) → ∀ z ∈ enc l, 0 ≤ z ∧ z < 256) ?_ ?_ ?_ l
  · intro b h hl hb; rw [enc_last h hl]; exact ho b hl hb
  · intro b r h hl ih hb z hz
    rw [enc_nought h hl] at hz
    rcases List.mem_append.1 hz with hz | hz
    · exact ho b (by omega) (fun z hz => hb z (by simp [hz])) z hz
    · exact ih (fun z hz => hb z (by simp [hz])) z hz
  · intro b r h hl hr ih hb z hz
    rw [enc_full h hl hr] at hz
    rcases List.mem_append.1 hz with hz | hz
    · exact ho b (by omega) (fun z hz => hb z (by simp [hz])) z hz
    · exact ih (fun z hz => hb z (by simp [hz])) z hz

/-! ### decoding, as the program goes -/
/-- what is ahead has been decoded, and its last block has been full or not: what is behind -/
def dec (full : Bool) (s : List Int) : Option (List Int) :=
  match s with
  | [] => none
  | c :: r =>
    if c ≤ 0 ∨ (r.length : Int) + 1 < c then none
    else if nz (r.take (c.toNat - 1)) < c.toNat - 1 then none
    else if r.length ≤ c.toNat - 1 then (if full = true ∧ c.toNat - 1 = 0 then none else some (r.take (c.toNat - 1)))
    else (dec (decide (c.toNat - 1 = 254)) (r.drop (c.toNat - 1))).map fun x => r.take (c.toNat - 1) ++ (if c.toNat - 1 = 254 then x else 0 :: x)
termination_by s.length
decreasing_by
  simp only [List.length_drop, List.length_cons]
  omega

theorem dec_nil (f : Bool) : dec f [] = none := by rw [dec]
theorem dec_bad {f : Bool} {c : Int} {r : List Int} (h : c ≤ 0 ∨ (r.length : Int) + 1 < c) : dec f (c :: r) = none := by rw [dec, if_pos h]
/-- a code of n bytes, n no more than there are -/
theorem dec_zero {f : Bool} {n : Nat} {r : List Int} (h : n ≤ r.length) (hz : nz (r.take n) < n) : dec f (((n + 1 : Nat) : Int) :: r) = none := by
  rw [dec, if_neg (by omega), if_pos (by simpa using hz)]
theorem dec_last {f : Bool} {n : Nat} {r : List Int} (h : n = r.length) (hz : n ≤ nz (r.take n)) : dec f (((n + 1 : Nat) : Int) :: r) = if f = true ∧ n = 0 then none else some (r.take n) := by
  rw [dec, if_neg (by omega), if_neg (by simpa using hz), if_pos (by simp; omega)]
  simp
theorem dec_more {f : Bool} {n : Nat} {r : List Int} (h : n < r.length) (hz : n ≤ nz (r.take n)) : dec f (((n + 1 : Nat) : Int) :: r) = (dec (decide (n = 254)) (r.drop n)).map fun x => r.take n ++ (if n = 254 then x else 0 :: x) := by
  rw [dec, if_neg (by omega), if_neg (by simpa using hz), if_neg (by simp; omega)]
  simp
/-- a block, and what is behind -/
theorem dec_one {f : Bool} {b s : List Int} (hb : NZ b) (hs : s ≠ []) : dec f (one b ++ s) = (dec (decide (b.length = 254)) s).map fun x => b ++ (if b.length = 254 then x else 0 :: x) := by
  have hp : 0 < s.length := List.length_pos_iff.2 hs
  have h := dec_more (f := f) (n := b.length) (r := b ++ s) (by simp; omega) (by simp [nz_all hb])
  simpa [one] using h
theorem dec_end {f : Bool} {b : List Int} (hb : NZ b) : dec f (one b) = if f = true ∧ b.length = 0 then none else some b := by
  have h := dec_last (f := f) (n := b.length) (r := b) rfl (by simp [nz_all hb])
  simpa [one] using h
theorem dec_enc (l : List Int) : ∀ f : Bool, (f = true → l ≠ []) → dec f (enc l) = some l := by
  refine along (p := fun l => ∀ f : Bool, (f = true → l ≠ []) → dec f (enc l) = some l) ?_ ?_ ?_ l
  · intro b h hl f hf
    rw [enc_last h hl, dec_end h, if_neg]
    rintro ⟨h1, h2⟩
    exact hf h1 (List.length_eq_zero_iff.1 h2)
  · intro b r h hl ih f hf
    rw [enc_nought h hl, dec_one h (enc_ne r), ih _ (by simp; omega)]
    simp
    omega
  · intro b r h hl hr ih f hf
    rw [enc_full h hl hr, dec_one h (enc_ne r), ih _ (fun _ => hr)]
    simp [hl]
theorem NZ_of_nz {l : List Int} {n : Nat} (h : n ≤ nz (l.take n)) : NZ (l.take n) := by
  have h1 := nz_take (l.take n)
  rw [List.take_take, Nat.min_eq_right h] at h1
  exact h1
theorem enc_dec : ∀ (n : Nat) (s : List Int) (f : Bool) (x : List Int), s.length ≤ n → (∀ z ∈ s, z < 256) → dec f s = some x → enc x = s ∧ (f = true → x ≠ []) := by
  intro n
  induction n with
  | zero =>
    intro s f x hl _ h
    obtain rfl : s = [] := List.length_eq_zero_iff.1 (by omega)
    rw [dec_nil] at h; simp at h
  | succ n ih =>
    intro s f x hl hb h
    cases s with
    | nil => rw [dec_nil] at h; simp at h
    | cons c r =>
      by_cases h1 : c ≤ 0 ∨ (r.length : Int) + 1 < c
      · rw [dec_bad h1] at h; simp at h
      · obtain ⟨m, rfl⟩ : ∃ m : Nat, c = ((m + 1 : Nat) : Int) := ⟨(c - 1).toNat, by omega⟩
        have hm := hb ((m + 1 : Nat) : Int) (by simp)
        have hmr : m ≤ r.length := by omega
        by_cases h2 : nz (r.take m) < m
        · rw [dec_zero hmr h2] at h; simp at h
        · have hN : NZ (r.take m) := NZ_of_nz (by omega)
          have hlen : (r.take m).length = m := by rw [List.length_take]; omega
          have hone : one (r.take m) = ((m + 1 : Nat) : Int) :: r.take m := by rw [one, hlen]
          rcases Nat.lt_or_ge m r.length with h3 | h3
          · rw [dec_more h3 (by omega)] at h
            obtain ⟨y, hy, rfl⟩ := Option.map_eq_some_iff.1 h
            obtain ⟨i1, i2⟩ := ih _ _ _ (by simp only [List.length_drop, List.length_cons] at *; omega) (fun z hz => hb z (List.mem_cons_of_mem _ (List.mem_of_mem_drop hz))) hy
            by_cases h4 : m = 254
            · rw [if_pos h4, enc_full hN (by omega) (i2 (by simp [h4])), i1, hone, List.cons_append, List.take_append_drop]
              refine ⟨rfl, fun _ e => ?_⟩
              have := congrArg List.length e
              rw [List.length_append] at this
              simp only [List.length_nil] at this
              omega
            · rw [if_neg h4, enc_nought hN (by omega), i1, hone, List.cons_append, List.take_append_drop]
              exact ⟨rfl, fun _ e => by simp at e⟩
          · rw [dec_last (by omega) (by omega)] at h
            split at h
            · simp at h
            · rename_i h5
              injection h with h
              subst h
              rw [enc_last hN (by omega), hone]
              have e : r.take m = r := List.take_of_length_le h3
              rw [e] at hlen ⊢
              refine ⟨rfl, fun h6 h7 => h5 ⟨h6, ?_⟩⟩
              rw [h7] at hlen
              simpa using hlen.symm
/-- of which bytes these are the stuffed ones, if of some -/
theorem dec_iff {s x : List Int} (hb : ∀ z ∈ s, z < 256) : dec false s = some x ↔ enc x = s :=
  ⟨fun h => (enc_dec s.length s false x (Nat.le_refl _) hb h).1, fun h => by rw [← h]; exact dec_enc x false (by simp)⟩
theorem enc_inj {x y : List Int} (h : enc x = enc y) : x = y := by
  have h1 := dec_enc x false (by simp)
  rw [h, dec_enc y false (by simp)] at h1
  exact (Option.some.inj h1).symm

/-! ### blocks, as the document's answer goes -/
/-- what is left of the blocks, N the block that is open -/
def rem (e : Bool) (l : List Int) : List (List Int) := if e = true ∧ l = [] then [] else blocks l
theorem rem_false (l : List Int) : rem false l = blocks l := by simp [rem]
theorem rem_cons (e : Bool) (l : List Int) (h : l ≠ []) : rem e l = blocks l := by simp [rem, h]
theorem rem_full {b r : List Int} (h : NZ b) (hl : b.length = 254) : blocks (b ++ r) = b :: rem true r := by
  by_cases hr : r = []
  · subst hr
    simp [rem, blocks_last h (by omega : b.length ≤ 254)]
  · rw [blocks_full h hl hr, rem_cons _ _ hr]

/-! ### decoding, as the document's answer goes -/
/-- at a place of stuffed bytes: what has been decoded, and what is left; behind a block of 254 something is left -/
def At (x out rest : List Int) : Prop := x = out ++ rest
end Cb
end Go.Proofs.YtbohdmconeebeaaDoor

namespace Go.Proofs.YtbohdmconeebeaaDoor
open Go.RowKit
set_option maxRecDepth 100000

/-- the place of the first 0, or -1 -/
def idx (zs : List Int) : Int := if Cb.nz zs < zs.length then (Cb.nz zs : Int) else -1
theorem lib_index (zs : List Int) (hz : Bytes zs) : Lib.indexByte (Lib.bytesOf zs) 0 = idx zs := by
  induction zs with
  | nil => rfl
  | cons z r ih =>
    have hr := ih fun c hc => hz c (by simp [hc])
    have hb := hz z (by simp)
    have hc : Lib.bytesOf (z :: r) = z.toNat.toUInt8 :: Lib.bytesOf r := rfl
    rw [hc, Lib.indexByte, hr]
    by_cases h0 : z = 0
    · subst h0
      simp [idx, Cb.nz]
    · have h1 : (z.toNat.toUInt8 == (0 : UInt8)) = false := by
        rw [beq_eq_false_iff_ne]
        intro e
        have e2 := congrArg UInt8.toNat e
        have : z.toNat.toUInt8.toNat = z.toNat % 256 := by simp [Nat.toUInt8]
        rw [this] at e2
        have e3 : (0 : UInt8).toNat = 0 := rfl
        rw [e3] at e2
        omega
      rw [h1]
      by_cases h2 : Cb.nz r < r.length
      · have e1 : idx r = (Cb.nz r : Int) := by unfold idx; rw [if_pos h2]
        have e2 : idx (z :: r) = ((Cb.nz r + 1 : Nat) : Int) := by unfold idx; rw [Cb.nz, if_neg h0, List.length_cons, if_pos (by omega)]
        have e3 : ((Cb.nz r : Int) == -1) = false := by rw [beq_eq_false_iff_ne]; omega
        rw [e1, e2, e3]
        simp
      · have e1 : idx r = -1 := by unfold idx; rw [if_neg h2]
        have e2 : idx (z :: r) = -1 := by unfold idx; rw [Cb.nz, if_neg h0, List.length_cons, if_neg (by omega)]
        rw [e1, e2]
        simp

theorem index_run (P : Program) (B : Nat) (a : Option Addr) (n c : Nat) (zs : List Int) (w : World) (hn : zs.length = n) (hz : Bytes zs) (h1 : Nums .u8 w B a zs) :
    (Extern.BytealgIndexByte.indexByte #[.slice a n c, .int .u8 0]).run P w = .ok (.int .i64 (idx zs)) w := by
  subst hn
  by_cases h0 : zs = []
  · subst h0
    cases a with
    | none => exact Lib.run_indexByteNil w 0 c 0
    | some x =>
      have hs := Lib.run_indexByteString (P := P) .empty 0 w
      exact hs
  · obtain ⟨b, o, rfl, _, hc⟩ := h1 h0
    have h := Lib.run_indexByteSlice (P := P) w b o zs.length c zs rfl (fun i hi => by
      rw [hc i zs[i] (List.getElem?_eq_getElem hi)]
      simp [List.getElem?_eq_getElem hi]) 0
    rw [← lib_index zs hz]
    exact h

theorem index_any (B : Nat) (a : Option Addr) (n c : Nat) (zs : List Int) (w : World) (hn : zs.length = n) (hz : Bytes zs) (h1 : Nums .u8 w B a zs) :
    Calls Tryd.prog 61 #[.slice a n c, .int .u8 0] w fun e w' => e = .returned (.int .i64 (idx zs)) ∧ w' = w := by
  have hr := index_run Tryd.prog B a n c zs w hn hz h1
  clear h1
  go_enter Tryd.func61, Tryd.ntmps61
  go_wp2
  rw [run_callFunc_extern Tryd.func78 (by kernel_rfl) (by kernel_rfl) (by kernel_rfl) (e := Extern.BytealgIndexByte.indexByte) (by kernel_rfl), hr]
  simp only [Result.andThen]
  rw [Oper.upon_value]
  go_wp2
  go_ret
  exact ⟨rfl, rfl⟩
end Go.Proofs.YtbohdmconeebeaaDoor

namespace Go.Proofs.YtbohdmconeebeaaDoor
open Go.RowKit
set_option maxRecDepth 100000

theorem first_any (B : Nat) (a : Option Addr) (n c : Nat) (zs : List Int) (w : World) (hn : zs.length = n) (hc : n ≤ c) (hl : n ≤ 9223372036854775807) (hz : Bytes zs) (h1 : Nums .u8 w B a zs) :
    Calls Tryd.prog 77 #[.slice a n c] w fun e w' => e = .returned (.int .i64 (Cb.fst zs)) ∧ w' = w := by
  have hlen : (zs.take 254).length = (min (n : Int) 254).toNat := by rw [List.length_take]; omega
  have I := index_any B a (min (n : Int) 254).toNat c (zs.take 254) w hlen (hz.take _) (h1.take _)
  have hmc : min (n : Int) 254 ≤ (c : Int) := by omega
  have hle := Cb.nz_le (zs.take 254)
  have hm0 : ¬ min (n : Int) 254 < 0 := by omega
  clear h1 hz
  by_cases hlt : Cb.nz (zs.take 254) < (zs.take 254).length
  · have e1 : idx (zs.take 254) = (Cb.fst zs : Int) := by unfold idx; rw [if_pos hlt]; rfl
    rw [e1] at I
    generalize Cb.fst zs = f at *
    have h0 : (0 : Int) ≤ (f : Int) := by omega
    clear hle hlt hlen
    go_enter Tryd.func77, Tryd.ntmps77
    go_wp2_with (go_at_call 61; refine I.mono ?_; rintro e w' ⟨rfl, rfl⟩)
    go_ret
    exact ⟨rfl, rfl⟩
  · have e1 : idx (zs.take 254) = -1 := by unfold idx; rw [if_neg hlt]
    have e2 : Hid (min (n : Int) 254 = (Cb.fst zs : Int)) := by show _ = (Cb.nz (zs.take 254) : Int); omega
    rw [e1] at I
    clear hle hlt hlen
    go_enter Tryd.func77, Tryd.ntmps77
    go_wp2_with (go_at_call 61; refine I.mono ?_; rintro e w' ⟨rfl, rfl⟩)
    go_ret
    exact ⟨ret_int e2.out, rfl⟩
end Go.Proofs.YtbohdmconeebeaaDoor

namespace Go.Proofs.YtbohdmconeebeaaDoor
open Go.RowKit Go.Shelf
set_option maxRecDepth 100000
attribute [local go_sem] Oper.semAt_some

/-- a block as the closure hands it on: where it lies, its bytes -/
abbrev Blk (w : World) (S : Nat → Prop) := { x : Option Addr × List Int // NumsS .u8 w S x.1 x.2 ∧ Bytes x.2 ∧ x.2.length ≤ 254 }
section
variable {w : World} {S : Nat → Prop}
def bbare (l : List (Blk w S)) : List (List Int) := l.map fun x => x.1.2
theorem bbare_append (a b : List (Blk w S)) : bbare (a ++ b) = bbare a ++ bbare b := by simp [bbare]
theorem bbare_length (a : List (Blk w S)) : (bbare a).length = a.length := by simp [bbare]
def bargs (x : Blk w S) : Array Value := #[Value.slice x.1.1 x.1.2.length x.1.2.length]
end
def sliceLen : Value → Nat
  | .slice _ n _ => n
  | _ => 0

set_option maxHeartbeats 2000000 in
/-- the closure: it hands each block to the loop's body, till the body says no more, or there is none left -/
theorem parts_in (n : Nat) (hn : 1 ≤ n) (l Bs c : Nat) (S : Nat → Prop) (w : World) (hS : ∀ k, S k → k < w.heap.size) (A : Option Addr) (zs : List Int) (hl : zs.length ≤ 1000000) (hz : Bytes zs) (hc : zs.length ≤ c) (J Jx : List (Blk w S) → World → Prop)
    (hY : ∀ pre x W, J pre W → bbare (pre ++ [x]) <+: Cb.blocks zs → YieldAt Fence.wide (n - 1) Tryd.prog l (bargs x) W fun e W' =>
      (e = .returned (.bool true) ∧ J (pre ++ [x]) W' ∧ KeepS S W W') ∨ (e = .returned (.bool false) ∧ Jx (pre ++ [x]) W'))
    (W : World) (hBs : W.cell? ⟨Bs, 0, none⟩ = some (.slice A zs.length c)) (hK : KeepS S w W) (hN : NumsS .u8 w S A zs) (h0 : J [] W) :
    CallsIn Fence.wide n Tryd.prog 76 #[.func (.yield l) #[] #[], .pointer (some ⟨Bs, 0, none⟩)] W fun e W' => (∃ v, e = .returned v) ∧
      ((∃ ys, bbare ys = Cb.blocks zs ∧ J ys W') ∨ (∃ pre, (bbare pre <+: Cb.blocks zs ∧ pre ≠ []) ∧ Jx pre W')) := by
  refine callsIn_of_wp Tryd.func76 rfl trivial ?_ rfl
  simp only [Tryd.ntmps76, List.size_toArray, List.length_cons, List.length_nil, Nat.reduceAdd, Nat.reduceSub, Array.replicate_succ, Array.replicate_zero, List.push_toArray, List.append_toArray, List.nil_append, List.cons_append]
  gi_wp2
  gi_loopw [3] (fun v wr => ∃ (A : Option Addr) (L : List Int) (m c : Nat) (pre : List (Blk w S)), v = .slice A m c ∧ L.length = m ∧ m ≤ c ∧ m ≤ 1000000 ∧ Hid (NumsS .u8 w S A L) ∧ Hid (Bytes L) ∧ Hid (bbare pre ++ Cb.blocks L = Cb.blocks zs) ∧ J pre wr ∧ KeepS S w wr)
    (fun v _ => sliceLen v)
  case atStart => exact ⟨A, zs, _, c, [], rfl, rfl, hc, hl, hN, hz, rfl, h0, hK⟩
  case round =>
    obtain ⟨A, L, m, c, pre, rfl, hm, hmc, hml, HN, HZ, HP, hJ, hk⟩ := hrel
    have hF := first_any w.heap.size A m c L wr hm hmc (by omega) HZ.out ((HN.out.keeps hk).nums hS)
    have hfl := Cb.fst_le L
    have hf4 := Cb.fst_254 L
    have hx : NumsS .u8 w S A (L.take (Cb.fst L)) ∧ Bytes (L.take (Cb.fst L)) ∧ (L.take (Cb.fst L)).length ≤ 254 := ⟨HN.out.take _, HZ.out.take _, by rw [List.length_take]; omega⟩
    have htl : (L.take (Cb.fst L)).length = Cb.fst L := by rw [List.length_take]; omega
    have hpre : bbare pre ++ [L.take (Cb.fst L)] = bbare (pre ++ [⟨(A, L.take (Cb.fst L)), hx⟩]) := by rw [bbare_append]; rfl
    have hfst : ∃ t, bbare pre ++ [L.take (Cb.fst L)] ++ t = Cb.blocks zs := by
      rcases Nat.lt_or_ge (Cb.fst L) L.length with h4 | h4
      · by_cases h5 : Cb.fst L < 254
        · exact ⟨_, by rw [← HP.out, Cb.blocks_short h4 h5, List.append_assoc, List.singleton_append]⟩
        · exact ⟨_, by rw [← HP.out, Cb.blocks_long h4 h5, List.append_assoc, List.singleton_append]⟩
      · exact ⟨[], by rw [← HP.out, Cb.blocks_end h4, List.append_nil]⟩
    obtain ⟨fn, tmps, assign, body, hy, hR⟩ := hY pre ⟨(A, L.take (Cb.fst L)), hx⟩ wr hJ (by rw [← hpre]; exact hfst)
    simp only [bargs, htl] at hy
    have HR := Lib.hid hR
    have hfc : (Cb.fst L : Int) ≤ (c : Int) := by omega
    have hfm : (Cb.fst L : Int) ≤ (m : Int) := by omega
    have hmc' : (m : Int) ≤ (c : Int) := by omega
    have HX := Lib.hid (And.intro hfst hpre)
    have HL := Lib.hid hm
    have HZd := Lib.hid (HZ.out.drop (Cb.fst L))
    clear hfst hpre htl hfl hm
    rcases Nat.lt_or_ge (Cb.fst L) m with h4 | h4
    · have hcf : c ≠ Cb.fst L := by omega
      have h6 : ¬ ((m : Int) - (Cb.fst L : Int) = 0) := by omega
      by_cases h5 : Cb.fst L < 254
      · have HQ : Hid (bbare pre ++ [L.take (Cb.fst L)] ++ Cb.blocks (L.drop (Cb.fst L + 1)) = Cb.blocks zs) := by
          show _ = _
          rw [← HP.out, Cb.blocks_short (by rw [HL.out]; exact h4) h5, List.append_assoc, List.singleton_append]
        have h7 : (Cb.fst L : Int) < 254 := by omega
        have h8 : (1 : Int) ≤ (m : Int) - (Cb.fst L : Int) := by omega
        have h9 : (m : Int) - (Cb.fst L : Int) ≤ (c : Int) - (Cb.fst L : Int) := by omega
        gi_wp2_with fail
        refine ⟨trivial, ?_⟩
        refine (callsIn_wide.2 hF).mono ?_
        rintro e w1 ⟨rfl, rfl⟩
        gi_wp2_with fail
        refine HR.out.mono ?_
        rintro e W3 (⟨rfl, hJ3, hk3⟩ | ⟨rfl, hJx3⟩)
        · gi_wp2
          refine ⟨⟨_, L.drop (Cb.fst L + 1), _, _, _, rfl, by rw [List.length_drop, HL.out]; omega, by omega, by omega, HN.out.drop2 ?_, HZ.out.drop _, ?_, hJ3, hk.trans hk3⟩, by simp [sliceLen]; omega⟩
          · intro hlt b o e
            have hx1 : c - Cb.fst L ≠ 1 := by have := HL.out; omega
            subst e
            by_cases h0 : Cb.fst L = 0
            · have hx2 : c ≠ 1 := by omega
              simp [Addr.add, h0, hx2]
            · simp [Addr.add, hx1, h0]
          · show _ = _
            rw [← HX.out.2]; exact HQ.out
        · gi_wp2
          refine bodyPost_ret (results_none rfl _ _ _) rfl ?_
          exact ⟨⟨_, rfl⟩, .inr ⟨_, ⟨by rw [← HX.out.2]; exact HX.out.1, by simp⟩, hJx3⟩⟩
      · have HQ : Hid (bbare pre ++ [L.take (Cb.fst L)] ++ Cb.blocks (L.drop (Cb.fst L)) = Cb.blocks zs) := by
          show _ = _
          rw [← HP.out, Cb.blocks_long (by rw [HL.out]; exact h4) h5, List.append_assoc, List.singleton_append]
        have h7 : ¬ (Cb.fst L : Int) < 254 := by omega
        gi_wp2_with fail
        refine ⟨trivial, ?_⟩
        refine (callsIn_wide.2 hF).mono ?_
        rintro e w1 ⟨rfl, rfl⟩
        gi_wp2_with fail
        refine HR.out.mono ?_
        rintro e W3 (⟨rfl, hJ3, hk3⟩ | ⟨rfl, hJx3⟩)
        · gi_wp2
          refine ⟨⟨_, L.drop (Cb.fst L + 0), _, _, _, rfl, by rw [List.length_drop, HL.out]; omega, by omega, by omega, HN.out.drop2 ?_, HZ.out.drop _, ?_, hJ3, hk.trans hk3⟩, by simp [sliceLen]; omega⟩
          · intro hlt b o e
            subst e
            simp [Addr.add]
            omega
          · show _ = _
            rw [← HX.out.2]; exact HQ.out
        · gi_wp2
          refine bodyPost_ret (results_none rfl _ _ _) rfl ?_
          exact ⟨⟨_, rfl⟩, .inr ⟨_, ⟨by rw [← HX.out.2]; exact HX.out.1, by simp⟩, hJx3⟩⟩
    · have HQ : Hid (bbare pre ++ [L.take (Cb.fst L)] = Cb.blocks zs) := by
        show _ = _
        rw [← HP.out, Cb.blocks_end (by rw [HL.out]; exact h4)]
      have h6 : (m : Int) - (Cb.fst L : Int) = 0 := by omega
      gi_wp2_with fail
      refine ⟨trivial, ?_⟩
      refine (callsIn_wide.2 hF).mono ?_
      rintro e w1 ⟨rfl, rfl⟩
      gi_wp2_with fail
      refine HR.out.mono ?_
      rintro e W3 (⟨rfl, hJ3, hk3⟩ | ⟨rfl, hJx3⟩)
      · gi_wp2
        all_goals refine bodyPost_ret (results_none rfl _ _ _) rfl ?_
        all_goals exact ⟨⟨_, rfl⟩, .inl ⟨_, by rw [← HX.out.2]; exact HQ.out, hJ3⟩⟩
      · gi_wp2
        refine bodyPost_ret (results_none rfl _ _ _) rfl ?_
        exact ⟨⟨_, rfl⟩, .inr ⟨_, ⟨by rw [← HX.out.2]; exact HX.out.1, by simp⟩, hJx3⟩⟩

theorem parts_stops (n : Nat) (hn : 1 ≤ n) (Bs m c : Nat) (S : Nat → Prop) (w : World) (A : Option Addr) (zs : List Int) (hm : zs.length = m) (hl : m ≤ 1000000) (hz : Bytes zs) (hB : S Bs) (hS : ∀ k, S k → k < w.heap.size) (hc : m ≤ c)
    (hBs : w.cell? ⟨Bs, 0, none⟩ = some (.slice A m c)) (hN : NumsS .u8 w S A zs) :
    SeqStopsK Fence.wide n Tryd.prog 76 #[.pointer (some ⟨Bs, 0, none⟩)] (fun x : Blk w S => #[Value.slice x.1.1 x.1.2.length x.1.2.length]) (KeepS S) (fun ys => bbare ys = Cb.blocks zs) (fun pre => bbare pre <+: Cb.blocks zs ∧ pre ≠ []) (Cb.blocks zs).length w := fun l J Jx W hW _ _ hY h0 => by
  subst hm
  have hk : KeepS S w W := KeepS.of_below hW hS
  exact parts_in n hn l Bs c S w hS A zs hl hz hc J Jx (fun pre x W1 hJ hp => hY pre x W1 hJ (by
    obtain ⟨t, ht⟩ := hp
    have h2 := congrArg List.length ht
    rw [List.length_append, bbare_length, List.length_append, List.length_singleton] at h2
    omega)) W ((hk.cell (p := ⟨Bs, 0, none⟩) hB).trans hBs) hk hN h0
theorem parts_any (a : Option Addr) (n c : Nat) (w : World) :
    Calls Tryd.prog 59 #[.slice a n c] w fun e w' => e = .returned (.func (.func 76) #[] #[.pointer (some ⟨w.heap.size, 0, none⟩)]) ∧ w' = w.alloc (.cells #[.slice a n c] 29) := by
  go_enter Tryd.func59, Tryd.ntmps59
  go_wp2
  go_ret
  exact ⟨rfl, rfl⟩
end Go.Proofs.YtbohdmconeebeaaDoor

namespace Go.Proofs.YtbohdmconeebeaaDoor
open Go.RowKit Go.Shelf
set_option maxRecDepth 100000
attribute [local go_sem] Oper.semAt_some

/-! ### only one block has turned -/
theorem ownFrom_grown {β : Type} {B : Nat} {w0 : World} {row : Nat} (hB : B = w0.heap.size) : OwnFrom B (fun (_ : β) W => w0.grownBy W (some row)) := by
  subst hB
  intro _ W W' r hs hg hr
  refine ⟨hg.os.trans hs.os, hg.tape.trans hs.tape, hg.output.trans hs.output, Nat.le_trans hs.size hg.size, fun k hk hne => ?_⟩
  refine (hg.block k (Nat.lt_of_lt_of_le hk hs.size) (fun e => ?_)).trans (hs.block k hk hne)
  have := (hr k e.symm).1
  omega
theorem grown_boxed {w0 W : World} {row b : Nat} {t : TypeId} {v : Value} (h : w0.grownBy W (some row)) (hb : Boxed w0 b t v) (hne : b ≠ row) : Boxed W b t v := hb.kept h (fun e => by injection e with e; exact hne e)
theorem grown_below {w0 W : World} {row B : Nat} (h : w0.grownBy W (some row)) (hB : B ≤ w0.heap.size) (hr : B ≤ row) : Below B w0 W := (Below.refl B w0).grown h hB (fun k e => by injection e with e; omega)
theorem grown_set {w0 W : World} {row : Nat} (h : w0.grownBy W (some row)) (v : Value) : w0.grownBy (W.setCell ⟨row, 0, none⟩ v) (some row) :=
  ⟨h.os, h.tape, h.output, by simpa [World.setCell] using h.size, fun k hk hne => (Below.heap_setCell W ⟨row, 0, none⟩ v k (fun e => hne (by simp at e; rw [e]))).trans (h.block k hk hne)⟩

theorem join_size (bs : List (List Int)) (b : List Int) : (Cb.join (bs ++ [b])).length = (Cb.join bs).length + (1 + b.length) := by
  rw [Cb.join_append, List.length_append]
  simp [Cb.join, Cb.one]
  omega
theorem join_most {w : World} {S : Nat → Prop} (pre : List (Blk w S)) : (Cb.join (bbare pre)).length ≤ 255 * pre.length := by
  induction pre with
  | nil => simp [bbare, Cb.join]
  | cons x pre ih =>
    have h : (Cb.join (bbare (x :: pre))).length = (x.1.2.length + 1) + (Cb.join (bbare pre)).length := by simp [bbare, Cb.join, Cb.one]; omega
    have hx := x.2.2.2
    rw [h, List.length_cons]
    omega
theorem blocks_most (bs : List (List Int)) : bs.length ≤ (Cb.join bs).length := by
  induction bs with
  | nil => simp
  | cons b bs ih =>
    have h : (Cb.join (b :: bs)).length = (b.length + 1) + (Cb.join bs).length := by simp [Cb.join, Cb.one]; omega
    rw [h, List.length_cons]
    omega
theorem blocks_many (zs : List Int) : (Cb.blocks zs).length ≤ 2 * zs.length + 1 := by
  have h1 := blocks_most (Cb.blocks zs)
  have h2 := (Cb.enc_len zs).2.1
  have h3 : Cb.join (Cb.blocks zs) = Cb.enc zs := rfl
  rw [h3] at h1
  omega

set_option maxHeartbeats 1000000 in
theorem size_any (a : Option Addr) (n c : Nat) (zs : List Int) (w : World) (hn : zs.length = n) (hc : n ≤ c) (hl : n ≤ 1000000) (hz : Bytes zs) (h1 : Nums .u8 w w.heap.size a zs) :
    Calls Tryd.prog 58 #[.slice a n c] w fun e w' => e = .returned (.int .i64 ((Cb.enc zs).length : Nat)) ∧ Below w.heap.size w w' := by
  have hP := parts_any a n c (w.alloc (.cells #[.int .i64 0] 3))
  have hN := blocks_many zs
  refine (callsIn_wide (n := 3)).1 ?_
  refine callsIn_of_wp_marks Tryd.func58 rfl trivial ?_ rfl
  simp only [Tryd.ntmps58, List.size_toArray, List.length_cons, List.length_nil, Nat.reduceAdd, Nat.reduceSub, Array.replicate_succ, Array.replicate_zero, List.push_toArray, List.append_toArray, List.nil_append, List.cons_append]
  gi_wp2_with fail
  refine ⟨trivial, ?_⟩
  refine (callsIn_wide.2 hP).mono ?_
  rintro e w1 ⟨rfl, hw1⟩
  rw [World.size_alloc]
  have hs2 : w1.heap.size = w.heap.size + 2 := by rw [hw1]; simp
  have bB : Boxed w1 (w.heap.size + 1) 29 (.slice a n c) := by
    have := Boxed.new (w.alloc (.cells #[.int .i64 0] 3)) 29 (.slice a n c)
    rw [World.size_alloc] at this; rw [hw1]; exact this
  have bS : Boxed w1 w.heap.size 3 (.int .i64 ((Cb.join (bbare ([] : List (Blk w1 (fun k => k < w.heap.size ∨ k = w.heap.size + 1))))).length : Nat)) := by
    rw [hw1]; exact (Boxed.new w 3 (.int .i64 0)).alloc _
  have hb1 : Below w.heap.size w w1 := by rw [hw1]; exact ((Below.refl _ w).alloc (Nat.le_refl _) _).alloc (by simp) _
  have hst := parts_stops 2 (by omega) (w.heap.size + 1) n c (fun k => k < w.heap.size ∨ k = w.heap.size + 1) w1 a zs hn hl hz (.inr rfl) (fun k hk => by omega) hc bB.cell ((h1.below hb1).numsS (fun k hk => .inl hk))
  clear hw1 hP h1 bB hz
  gi_wp2_with fail
  refine wpIn_rangeFunc_ownG rfl (by omega) (gf := 76) (lb := #[.pointer (some ⟨w.heap.size + 1, 0, none⟩)]) rfl trivial (enters_of Tryd.func76 (by kernel_rfl) rfl)
    hst keepS_t (keepS_b (fun k hk => by omega)) (Below.refl _ _) (fun _ => rfl)
    (fun pre W' => Boxed W' w.heap.size 3 (.int .i64 ((Cb.join (bbare pre)).length : Nat)) ∧ w1.grownBy W' (some w.heap.size))
    (fun _ _ _ => False)
    (OwnFrom.and (Own.from (boxed_own _ _ _) _) (ownFrom_grown rfl))
    (fun _ _ _ _ _ h _ _ => h)
    ⟨bS, World.grownBy.refl _ _⟩
    ?a1 ?assign ?body ?done ?stop
  case assign =>
    intro l x W' K hK
    gi_wp2
    exact hK
  case body =>
    rintro l pre x W' ⟨hI, hG⟩ hcnt
    have kS := hI.cell
    have fS := hI.frozen
    have hx := x.2.2.2
    have hm := join_most pre
    have hj := join_size (bbare pre) x.1.2
    have hlt : (Cb.join (bbare pre)).length ≤ 1000000000 := by omega
    have HJ : Hid (((Cb.join (bbare (pre ++ [x]))).length : Int) = ((Cb.join (bbare pre)).length : Int) + (1 + (x.1.2.length : Int))) := by
      show _ = _
      rw [bbare_append, show bbare [x] = [x.1.2] from rfl, hj]
      omega
    have hfin : ∀ v, Hid (KeepsFrom w1.heap.size W' (W'.setCell ⟨w.heap.size, 0, none⟩ v) ∧ KeepS (fun k => k < w.heap.size ∨ k = w.heap.size + 1) W' (W'.setCell ⟨w.heap.size, 0, none⟩ v) ∧
        Boxed (W'.setCell ⟨w.heap.size, 0, none⟩ v) w.heap.size 3 v ∧ w1.grownBy (W'.setCell ⟨w.heap.size, 0, none⟩ v) (some w.heap.size)) := fun v =>
      ⟨(KeepsOthers.setCell _ _ _).from _, (KeepS.refl _ _).set (by omega) _, hI.set _, grown_set hG _⟩
    generalize (Cb.join (bbare pre)).length = J at *
    clear hI hG hm hj hst bS
    gi_wp2
    exact ⟨(hfin _).out.1, (hfin _).out.2.1, by rw [HJ.out]; exact (hfin _).out.2.2.1, (hfin _).out.2.2.2⟩
  case done =>
    rintro D ys W' hD hY ⟨hI, hG⟩ hK
    rw [hY] at hI
    have kS := hI.cell
    have hB := (hb1.trans (grown_below hG (by omega) (by omega))).trans (belowK_b (w := w) (Nat.le_refl _) W' D _ (.deferred none) (by omega) hK rfl rfl)
    clear hst bS hb1 hI
    gi_wp2
    refine ⟨by simp, .inl ⟨_, _, rfl, run_takeDeferred hK, ?_⟩⟩
    exact ⟨_, results_tmp rfl _ _ _, rfl, hB⟩
  case stop =>
    rintro D cd pre W' _ _ h _
    exact h.elim
end Go.Proofs.YtbohdmconeebeaaDoor
