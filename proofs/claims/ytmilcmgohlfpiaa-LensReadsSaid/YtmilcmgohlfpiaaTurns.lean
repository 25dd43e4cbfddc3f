/-
  A range over an iterator that turns memory of its own between two rounds, and whose every round goes on. No program is imported.
  Two families of worlds, by the number of rounds: Rd j, where the iterator hands on its j-th element, and Dn j, behind j rounds.
-/
import Derived.RangeFuncNested
import Derived.RangeFuncWrites
import Derived.RangeFuncBox
import Derived.RangeFuncLeaves
import Derived.OwnWalkIn
namespace Go.Proofs.Ytmilcmgohlfpiaa
open Go.RowKit
section
variable {F : Fence} {n : Nat} {P : Program} {g : Operand} {ps : Array Tmp} {assign body : Code} {Q : Exit → Act → World → Prop} {a : Act} {w : World}
theorem range_turns (hro : F.round = none) (h1 : 1 ≤ n) {gf : Nat} {lb : Array Value} (hg : a.eval g = .func (.func gf) #[] lb) (hFg : F.fn gf) (eg : ∀ args w, (callFunc gf args).run P w = .ok (.enter gf args) w)
    (encs : Nat → Array Value) (hps : ∀ j, (encs j).size = ps.size) (Rd Dn : Nat → World → Prop) (N : Nat)
    (hRp : ∀ j W l o o', Rd j W → w.heap.size ≤ l → W.heap[l]? = some o → o.isCells = false → Rd j (W.putObj l o'))
    (hDp : ∀ j W l o o', Dn j W → w.heap.size ≤ l → W.heap[l]? = some o → o.isCells = false → Dn j (W.putObj l o'))
    (hD0 : ∀ o, Dn 0 ((w.alloc (.deferred (some []))).alloc o)) (a₁ : Nat → Act)
    (hassign : ∀ (l j : Nat) (W : World) (K : Act → World → Prop), K (a₁ j) W → assign.wpIn (F.inRound l) (n - 1 - 1) P (Exit.then K (fun _ _ _ => False)) { tmps := (ps.zip (encs j)).foldl (fun t (p, v) => t.setIfInBounds p v) a.tmps, defers := [] } W)
    (hbody : ∀ (l j : Nat) (W : World), Rd j W → j < N → body.wpIn (F.inRound l) (n - 1 - 1) P (fun e _ W' => e = .normal ∧ KeepsFrom w.heap.size W W' ∧ Dn (j + 1) W') (a₁ j) W)
    (hiter : ∀ (Bk : World → Prop) (l : Nat) (W : World), (∀ A B, Bk A → A.heap.size ≤ B.heap.size → (∀ k, w.heap.size ≤ k → k < w.heap.size + 2 → B.heap[k]? = A.heap[k]?) → Bk B) → (∀ A, Bk A → w.heap.size + 2 ≤ A.heap.size) → Dn 0 W → Bk W →
      (∀ j W1, Rd j W1 → Bk W1 → j < N → YieldAt F (n - 1 - 1) P l (encs j) W1 fun e W2 => e = .returned (.bool true) ∧ Dn (j + 1) W2 ∧ Bk W2) →
      CallsIn F (n - 1) P gf (#[.func (.yield l) #[] #[]] ++ lb) W fun e W' => (∃ v, e = .returned v) ∧ Dn N W' ∧ Bk W')
    (hdone : ∀ (D : Nat) (W : World), w.heap.size ≤ D → Dn N W → W.heap[D]? = some (.deferred (some [])) → Q .normal { a with defers := { target := .collected D, args := #[] } :: a.defers } W) :
    (Code.rangeFunc g ps assign body).wpIn F n P Q a w := by
  apply wpIn_rangeFunc
  intro fn hfn
  rw [hro]
  have hent := run_enterLoop_outer (P := P) (w := w) fn a.tmps ps assign body
  obtain ⟨lp, hlp⟩ : ∃ lp : LoopState → Option Code → Loop, lp = fun st pe => { state := st, pending := pe, fn := fn, tmps := a.tmps, params := ps, assign := assign, body := body, defers := w.heap.size } := ⟨_, rfl⟩
  have hlp0 : ({ state := .ready, pending := none, fn, tmps := a.tmps, params := ps, assign, body, defers := w.heap.size } : Loop) = lp .ready none := by rw [hlp]
  rw [hlp0] at hent
  have hD0' := hD0 (.loop (lp .ready none))
  have hl0 : ((w.alloc (.deferred (some []))).alloc (.loop (lp .ready none))).heap[w.heap.size + 1]? = some (.loop (lp .ready none)) := by
    have h := World.alloc_heap_new (w.alloc (.deferred (some []))) (.loop (lp .ready none))
    rwa [World.size_alloc] at h
  have hd0 : ((w.alloc (.deferred (some []))).alloc (.loop (lp .ready none))).heap[w.heap.size]? = some (.deferred (some [])) := (Below.heap_alloc _ _ _ (by simp)).trans (World.alloc_heap_new w _)
  generalize (w.alloc (.deferred (some []))).alloc (.loop (lp .ready none)) = W0 at *
  refine ⟨_, _, _, { target := .fn (.func gf) lb, args := #[.func (.yield (w.heap.size + 1)) #[] #[]] }, W0, gf, #[.func (.yield (w.heap.size + 1)) #[] #[]] ++ lb, W0, hent, ?_, ?_, ?_, fun _ => h1, ?_⟩
  · simp only [resolve, hg]
    simp [go_sem]
  · intro f' hf'
    simp [Target.leads] at hf'
    subst hf'
    exact hFg
  · simp [invoke, go_sem, eg]
  let Bk : World → Prop := fun W => W.heap[w.heap.size + 1]? = some (.loop (lp .ready none)) ∧ W.heap[w.heap.size]? = some (.deferred (some []))
  have hBlt : ∀ A, Bk A → w.heap.size + 2 ≤ A.heap.size := fun A h => (Array.getElem?_eq_some_iff.1 h.1).1
  refine (hiter Bk (w.heap.size + 1) W0 (fun A B hA _ hAB => ⟨(hAB _ (by omega) (by omega)).trans hA.1, (hAB _ (by omega) (by omega)).trans hA.2⟩) hBlt hD0' ⟨hl0, hd0⟩ ?_).mono ?_
  · rintro j W1 hR hB hj
    have hsz := hBlt W1 hB
    have hy := run_yield (P := P) (args := encs j) hB.1 (by rw [hlp]; exact hps j)
    have hbeg := run_beginRound (P := P) hB.1 (by rw [hlp])
    rw [hlp] at hy hbeg
    refine ⟨fn, _, assign, body, hy, roundIn_of_wpIn hfn (hassign _ j W1 _ ⟨_, hbeg, ?_⟩)⟩
    refine wpIn_mono (hbody _ j _ (hRp j W1 _ _ _ hR (by omega) hB.1 rfl) hj) ?_
    rintro e a3 W3 ⟨rfl, hk, hDn⟩
    have b1 : (W1.putObj (w.heap.size + 1) (.loop { lp .ready none with state := .busy })).heap[w.heap.size + 1]? = some (.loop { lp .ready none with state := .busy }) := World.putObj_heap_same (by omega)
    have b2 : (W1.putObj (w.heap.size + 1) (.loop { lp .ready none with state := .busy })).heap[w.heap.size]? = some (.deferred (some [])) := (World.putObj_heap_other (by omega)).trans hB.2
    rw [hlp] at b1 b2
    have c1 := hk.same _ _ (by omega) b1 rfl
    have c2 := hk.same _ _ (Nat.le_refl _) b2 rfl
    have hend := run_endRound (P := P) none c1
    refine ⟨_, _, hend, rfl, hDp _ _ _ _ _ hDn (by omega) c1 rfl, ?_, (World.putObj_heap_other (by omega)).trans c2⟩
    rw [hlp]
    exact World.putObj_heap_same (Array.getElem?_eq_some_iff.1 c1).1
  · rintro e W2 ⟨⟨v, rfl⟩, hDN, hB⟩
    have hend := run_endLoop (P := P) hB.1 (by rw [hlp]; simp)
    rw [hlp] at hend
    exact ⟨none, _, hend, hdone _ _ (Nat.le_refl _) (hDp _ _ _ _ _ hDN (by omega) hB.1 rfl) ((World.putObj_heap_other (by omega)).trans hB.2)⟩
end
end Go.Proofs.Ytmilcmgohlfpiaa
