/-
  A part of the texts of one proof, put together: Stops, Keep, HdP, HdI, StopA, KpC, Ld, HdC, HdMt, SloM, CrcN, CrcA, CrcW, FrC, Byte, App, ApN, Clone, Q5, Q6, Q7, Q10, Q9, SloS, CrcF, CrcD, CrcS, CrcE, FrS, Same, Num, NumGet, Put, Grow, LInfo, CobN, Idx, CobI, CobP, CobZ, CobE.
-/
import Derived.RangeFuncKeeps
import Derived.Test.YtfdbcfkjablnkaaGreatRows
import Derived.WalkLawsBesides
import Derived.WalkMore
import Derived.Lib.Hide
import Derived.WalkSpells
import Derived.RangeFuncBound
import Derived.RangeFuncCalls
import Derived.RangeFuncLeaves
import Derived.Shelf.Abstract
import Derived.Shelf.RegionOpen
import Derived.OwnWalkIn
import Derived.TacticsInMore
import Derived.LoopNIn
import Derived.LoopIn
import Derived.RangeFuncNested
import Derived.RangeFuncWrites
import Derived.RangeFuncBox
import Derived.WalkKit
import Derived.BigQuiet
import Derived.Deep.QuietTactic
import Derived.Deep.LoopGhost
import Derived.Deep.WholeRow
import Derived.Deep.Upon
import Derived.Lib.AppendZeros
import Derived.Lib.SliceRun
import Derived.Below
import Derived.StillTail
import Derived.Maps.OwnIn
import Derived.ArgAppend
import Derived.Lib.Strings
import Derived.Lib.Slices
import Derived.Lib.Walk
import Derived.Lib.Bytes
import Derived.Laws.BitsAllLaws
import Derived.Laws.BitsLemmas
import Derived.Maps.AppendAt
import Derived.Lib.MinMax
import Derived.Lib.BytesEntry
import Derived.Laws.Externs
import Derived.OpenShut
import Derived.Laws.MakeOwn
import Derived.Test.YtfdbcfkjablnkaaGreatMPPlaysProof1
namespace Go.Proofs.YtfdbcfkjablnkaaGreat
open Go.RowKit

/-- what a round's body leaves: it goes on (D), or it leaves by a code (X) -/
def stopPost (B : Nat) (Kp : World → World → Prop) (D : World → Prop) (X : Code → World → Prop) (W : World) : Exit → Act → World → Prop
  | .normal, _, W' => KeepsFrom B W W' ∧ D W' ∧ Kp W W'
  | .ret, _, W' => KeepsFrom B W W' ∧ X .ret W'
  | .exit id, _, W' => KeepsFrom B W W' ∧ X (.exit id) W'
  | _, _, _ => False
/-- what a yield answers, as the iterator sees it -/
def YPost (B l : Nat) (Kp : World → World → Prop) (D X : World → Prop) (W1 : World) (e : Ending) (W2 : World) : Prop :=
  (e = .returned (.bool true) ∧ D W2 ∧ Kp W1 W2 ∧ KeepsBut B l W1 W2) ∨ (e = .returned (.bool false) ∧ X W2 ∧ KeepsBut B l W1 W2)

section
variable {F : Fence} {n : Nat} {P : Program} {g : Operand} {ps : Array Tmp} {assign body : Code} {Q : Exit → Act → World → Prop} {a : Act} {w : World}
/-- .. where what is kept stands while a loop's own record turns (maps may lie above the loop's start) -/
theorem range_stopsL {α : Type} (hro : F.round = none) (h1 : 1 ≤ n) {gf : Nat} {lb : Array Value} (hg : a.eval g = .func (.func gf) #[] lb) (hFg : F.fn gf) (eg : ∀ args w, (callFunc gf args).run P w = .ok (.enter gf args) w)
    (enc : α → Array Value) (hps : ∀ x, (enc x).size = ps.size) (Rd : Nat → α → World → Prop) (Dn : Nat → World → Prop) (Sx : Code → World → Prop) (Kp : World → World → Prop) (N : Nat)
    (hRp : ∀ j x W l (o : Loop) o', Rd j x W → w.heap.size ≤ l → W.heap[l]? = some (.loop o) → Rd j x (W.putObj l o'))
    (hDp : ∀ j W l (o : Loop) o', Dn j W → w.heap.size ≤ l → W.heap[l]? = some (.loop o) → Dn j (W.putObj l o'))
    (hSp : ∀ c W l o o', Sx c W → w.heap.size ≤ l → W.heap[l]? = some o → o.isCells = false → Sx c (W.putObj l o'))
    (hKt : ∀ A B C, Kp A B → Kp B C → Kp A C)
    (hKp : ∀ W l o o', w.heap.size ≤ l → W.heap[l]? = some o → o.isCells = false → Kp W (W.putObj l o'))
    (hD0 : ∀ o, Dn 0 ((w.alloc (.deferred (some []))).alloc o)) (a₁ : α → Act)
    (hassign : ∀ (l : Nat) (x : α) (W : World) (K : Act → World → Prop), K (a₁ x) W → assign.wpIn (F.inRound l) (n - 1 - 1) P (Exit.then K (fun _ _ _ => False)) { tmps := (ps.zip (enc x)).foldl (fun t (p, v) => t.setIfInBounds p v) a.tmps, defers := [] } W)
    (hbody : ∀ (l j : Nat) (x : α) (W : World), w.heap.size ≤ l → Rd j x W → j < N → body.wpIn (F.inRound l) (n - 1 - 1) P (stopPost w.heap.size Kp (Dn (j + 1)) Sx W) (a₁ x) W)
    (hiter : ∀ (Bk : World → Prop) (X : World → Prop) (l : Nat) (W : World), (∀ A B, Bk A → A.heap.size ≤ B.heap.size → (∀ k, w.heap.size ≤ k → k < w.heap.size + 2 → B.heap[k]? = A.heap[k]?) → Bk B) → (∀ A, Bk A → w.heap.size + 2 ≤ A.heap.size) →
      (∀ A l' o o', X A → w.heap.size + 2 ≤ l' → A.heap[l']? = some o → o.isCells = false → X (A.putObj l' o')) → l < w.heap.size + 2 → Dn 0 W → Bk W →
      (∀ j x W1, Rd j x W1 → Bk W1 → j < N → YieldAt F (n - 1 - 1) P l (enc x) W1 (YPost w.heap.size l Kp (fun W2 => Dn (j + 1) W2 ∧ Bk W2) X W1)) →
      CallsIn F (n - 1) P gf (#[.func (.yield l) #[] #[]] ++ lb) W fun e W' => (∃ v, e = .returned v) ∧ ((Dn N W' ∧ Bk W') ∨ X W'))
    (hdone : ∀ (D : Nat) (W : World), w.heap.size ≤ D → Dn N W → W.heap[D]? = some (.deferred (some [])) → Q .normal { a with defers := { target := .collected D, args := #[] } :: a.defers } W)
    (hstop : ∀ (D : Nat) (c : Code) (W : World), w.heap.size ≤ D → Sx c W → W.heap[D]? = some (.deferred (some [])) → c.wpIn F n P Q { a with defers := { target := .collected D, args := #[] } :: a.defers } W) :
    (Code.rangeFunc g ps assign body).wpIn F n P Q a w := by
  apply wpIn_rangeFunc
  intro fn hfn
  rw [hro]
  have hent := run_enterLoop_outer (P := P) (w := w) fn a.tmps ps assign body
  obtain ⟨lp, hlp⟩ : ∃ lp : LoopState → Option Code → Loop, lp = fun st pe => { state := st, pending := pe, fn := fn, tmps := a.tmps, params := ps, assign := assign, body := body, defers := w.heap.size } := ⟨_, rfl⟩
  have hlp0 : ({ state := .ready, pending := none, fn, tmps := a.tmps, params := ps, assign, body, defers := w.heap.size } : Loop) = lp .ready none := by rw [hlp]
  rw [hlp0] at hent
  have hD0' := hD0 (.loop (lp .ready none))
  have hl0 : ((w.alloc (.deferred (some []))).alloc (.loop (lp .ready none))).heap[w.heap.size + 1]? = some (.loop (lp .ready none)) := by
    have h := World.alloc_heap_new (w.alloc (.deferred (some []))) (.loop (lp .ready none))
    rwa [World.size_alloc] at h
  have hd0 : ((w.alloc (.deferred (some []))).alloc (.loop (lp .ready none))).heap[w.heap.size]? = some (.deferred (some [])) := (Below.heap_alloc _ _ _ (by simp)).trans (World.alloc_heap_new w _)
  generalize (w.alloc (.deferred (some []))).alloc (.loop (lp .ready none)) = W0 at *
  refine ⟨_, _, _, { target := .fn (.func gf) lb, args := #[.func (.yield (w.heap.size + 1)) #[] #[]] }, W0, gf, #[.func (.yield (w.heap.size + 1)) #[] #[]] ++ lb, W0, hent, ?_, ?_, ?_, fun _ => h1, ?_⟩
  · simp only [resolve, hg]
    simp [go_sem]
  · intro f' hf'
    simp [Target.leads] at hf'
    subst hf'
    exact hFg
  · simp [invoke, go_sem, eg]
  let Bk : World → Prop := fun W => W.heap[w.heap.size + 1]? = some (.loop (lp .ready none)) ∧ W.heap[w.heap.size]? = some (.deferred (some []))
  let X : World → Prop := fun W => ∃ c, Sx c W ∧ W.heap[w.heap.size + 1]? = some (.loop (lp .done (some c))) ∧ W.heap[w.heap.size]? = some (.deferred (some []))
  have hBlt : ∀ A, Bk A → w.heap.size + 2 ≤ A.heap.size := fun A h => (Array.getElem?_eq_some_iff.1 h.1).1
  refine (hiter Bk X (w.heap.size + 1) W0 (fun A B hA _ hAB => ⟨(hAB _ (by omega) (by omega)).trans hA.1, (hAB _ (by omega) (by omega)).trans hA.2⟩) hBlt
    (fun A l' o o' hA hl' ho hc => by
      obtain ⟨c, h1, h2, h3⟩ := hA
      exact ⟨c, hSp c A l' o o' h1 (by omega) ho hc, (World.putObj_heap_other (by omega)).trans h2, (World.putObj_heap_other (by omega)).trans h3⟩) (by omega) hD0' ⟨hl0, hd0⟩ ?_).mono ?_
  · rintro j x W1 hR hB hj
    have hsz := hBlt W1 hB
    have hy := run_yield (P := P) (args := enc x) hB.1 (by rw [hlp]; exact hps x)
    have hbeg := run_beginRound (P := P) hB.1 (by rw [hlp])
    rw [hlp] at hy hbeg
    refine ⟨fn, _, assign, body, hy, roundIn_of_wpIn hfn (hassign _ x W1 _ ⟨_, hbeg, ?_⟩)⟩
    refine wpIn_mono (hbody _ j x _ (by omega) (hRp j x W1 _ _ _ hR (by omega) hB.1) hj) ?_
    have b1 : (W1.putObj (w.heap.size + 1) (.loop { lp .ready none with state := .busy })).heap[w.heap.size + 1]? = some (.loop { lp .ready none with state := .busy }) := World.putObj_heap_same (by omega)
    have b2 : (W1.putObj (w.heap.size + 1) (.loop { lp .ready none with state := .busy })).heap[w.heap.size]? = some (.deferred (some [])) := (World.putObj_heap_other (by omega)).trans hB.2
    have hK1 := hKp W1 (w.heap.size + 1) _ (.loop { lp .ready none with state := .busy }) (by omega) hB.1 rfl
    rw [hlp] at b1 b2 hK1
    have fin : ∀ (jump : Option Code) (W3 : World), KeepsFrom w.heap.size (W1.putObj (w.heap.size + 1) (.loop { lp .ready none with state := .busy })) W3 →
        (Instr.endRound (w.heap.size + 1) jump).run P W3 = .ok (.bool jump.isNone) (W3.putObj (w.heap.size + 1) (.loop (lp (if jump.isNone then .ready else .done) jump))) ∧
        W3.heap[w.heap.size + 1]? = some (.loop { lp .ready none with state := .busy }) ∧
        (W3.putObj (w.heap.size + 1) (.loop (lp (if jump.isNone then .ready else .done) jump))).heap[w.heap.size + 1]? = some (.loop (lp (if jump.isNone then .ready else .done) jump)) ∧
        (W3.putObj (w.heap.size + 1) (.loop (lp (if jump.isNone then .ready else .done) jump))).heap[w.heap.size]? = some (.deferred (some [])) ∧
        KeepsBut w.heap.size (w.heap.size + 1) W1 (W3.putObj (w.heap.size + 1) (.loop (lp (if jump.isNone then .ready else .done) jump))) := fun jump W3 hk => by
      rw [hlp] at hk ⊢
      have c1 := hk.same _ _ (by omega) b1 rfl
      have c2 := hk.same _ _ (Nat.le_refl _) b2 rfl
      have hend := run_endRound (P := P) jump c1
      refine ⟨hend, c1, World.putObj_heap_same (Array.getElem?_eq_some_iff.1 c1).1, (World.putObj_heap_other (by omega)).trans c2, ?_, ?_⟩
      · have h1 := hk.size
        simp only [World.putObj, Array.size_setIfInBounds] at h1 ⊢
        exact h1
      · intro k o hkl hk2 ho hc
        exact (World.putObj_heap_other (by omega)).trans (hk.same k o hk2 ((World.putObj_heap_other (by omega)).trans ho) hc)
    rintro e a3 W3 hp
    rw [hlp] at fin
    cases e with
    | normal =>
      obtain ⟨hk, hDn, hKp3⟩ := hp
      obtain ⟨hend, c1, d1, d2, hkb⟩ := fin none W3 hk
      exact ⟨_, _, hend, .inl ⟨rfl, ⟨hDp _ _ _ _ _ hDn (by omega) c1, by rw [hlp]; exact d1, d2⟩, hKt _ _ _ hK1 (hKt _ _ _ hKp3 (hKp W3 _ _ _ (by omega) c1 rfl)), hkb⟩⟩
    | ret =>
      obtain ⟨hk, hx⟩ := hp
      obtain ⟨hend, c1, d1, d2, hkb⟩ := fin (some .ret) W3 hk
      exact ⟨_, _, hend, .inr ⟨rfl, ⟨.ret, hSp _ _ _ _ _ hx (by omega) c1 rfl, by rw [hlp]; exact d1, d2⟩, hkb⟩⟩
    | exit id =>
      obtain ⟨hk, hx⟩ := hp
      obtain ⟨hend, c1, d1, d2, hkb⟩ := fin (some (.exit id)) W3 hk
      exact ⟨_, _, hend, .inr ⟨rfl, ⟨.exit id, hSp _ _ _ _ _ hx (by omega) c1 rfl, by rw [hlp]; exact d1, d2⟩, hkb⟩⟩
    | goto t => exact hp.elim
    | panic ch => exact hp.elim
    | outgrown => exact hp.elim
  · rintro e W2 ⟨⟨v, rfl⟩, ⟨hDN, hB⟩ | ⟨c, hc, hl, hd⟩⟩
    · have hend := run_endLoop (P := P) hB.1 (by rw [hlp]; simp)
      rw [hlp] at hend
      exact ⟨none, _, hend, hdone _ _ (Nat.le_refl _) (hDp _ _ _ _ _ hDN (by omega) hB.1) ((World.putObj_heap_other (by omega)).trans hB.2)⟩
    · have hend := run_endLoop (P := P) hl (by rw [hlp]; simp)
      rw [hlp] at hend
      exact ⟨some c, _, hend, hstop _ c _ (Nat.le_refl _) (hSp _ _ _ _ _ hc (by omega) hl rfl) ((World.putObj_heap_other (by omega)).trans hd)⟩
theorem range_stops {α : Type} (hro : F.round = none) (h1 : 1 ≤ n) {gf : Nat} {lb : Array Value} (hg : a.eval g = .func (.func gf) #[] lb) (hFg : F.fn gf) (eg : ∀ args w, (callFunc gf args).run P w = .ok (.enter gf args) w)
    (enc : α → Array Value) (hps : ∀ x, (enc x).size = ps.size) (Rd : Nat → α → World → Prop) (Dn : Nat → World → Prop) (Sx : Code → World → Prop) (Kp : World → World → Prop) (N : Nat)
    (hRp : ∀ j x W l o o', Rd j x W → w.heap.size ≤ l → W.heap[l]? = some o → o.isCells = false → Rd j x (W.putObj l o'))
    (hDp : ∀ j W l o o', Dn j W → w.heap.size ≤ l → W.heap[l]? = some o → o.isCells = false → Dn j (W.putObj l o'))
    (hSp : ∀ c W l o o', Sx c W → w.heap.size ≤ l → W.heap[l]? = some o → o.isCells = false → Sx c (W.putObj l o'))
    (hKt : ∀ A B C, Kp A B → Kp B C → Kp A C)
    (hKp : ∀ W l o o', w.heap.size ≤ l → W.heap[l]? = some o → o.isCells = false → Kp W (W.putObj l o'))
    (hD0 : ∀ o, Dn 0 ((w.alloc (.deferred (some []))).alloc o)) (a₁ : α → Act)
    (hassign : ∀ (l : Nat) (x : α) (W : World) (K : Act → World → Prop), K (a₁ x) W → assign.wpIn (F.inRound l) (n - 1 - 1) P (Exit.then K (fun _ _ _ => False)) { tmps := (ps.zip (enc x)).foldl (fun t (p, v) => t.setIfInBounds p v) a.tmps, defers := [] } W)
    (hbody : ∀ (l j : Nat) (x : α) (W : World), w.heap.size ≤ l → Rd j x W → j < N → body.wpIn (F.inRound l) (n - 1 - 1) P (stopPost w.heap.size Kp (Dn (j + 1)) Sx W) (a₁ x) W)
    (hiter : ∀ (Bk : World → Prop) (X : World → Prop) (l : Nat) (W : World), (∀ A B, Bk A → A.heap.size ≤ B.heap.size → (∀ k, w.heap.size ≤ k → k < w.heap.size + 2 → B.heap[k]? = A.heap[k]?) → Bk B) → (∀ A, Bk A → w.heap.size + 2 ≤ A.heap.size) →
      (∀ A l' o o', X A → w.heap.size + 2 ≤ l' → A.heap[l']? = some o → o.isCells = false → X (A.putObj l' o')) → l < w.heap.size + 2 → Dn 0 W → Bk W →
      (∀ j x W1, Rd j x W1 → Bk W1 → j < N → YieldAt F (n - 1 - 1) P l (enc x) W1 (YPost w.heap.size l Kp (fun W2 => Dn (j + 1) W2 ∧ Bk W2) X W1)) →
      CallsIn F (n - 1) P gf (#[.func (.yield l) #[] #[]] ++ lb) W fun e W' => (∃ v, e = .returned v) ∧ ((Dn N W' ∧ Bk W') ∨ X W'))
    (hdone : ∀ (D : Nat) (W : World), w.heap.size ≤ D → Dn N W → W.heap[D]? = some (.deferred (some [])) → Q .normal { a with defers := { target := .collected D, args := #[] } :: a.defers } W)
    (hstop : ∀ (D : Nat) (c : Code) (W : World), w.heap.size ≤ D → Sx c W → W.heap[D]? = some (.deferred (some [])) → c.wpIn F n P Q { a with defers := { target := .collected D, args := #[] } :: a.defers } W) :
    (Code.rangeFunc g ps assign body).wpIn F n P Q a w :=
  range_stopsL hro h1 hg hFg eg enc hps Rd Dn Sx Kp N (fun j x W l _ o' h hl ho => hRp j x W l _ o' h hl ho rfl) (fun j W l _ o' h hl ho => hDp j W l _ o' h hl ho rfl) hSp hKt hKp hD0 a₁ hassign hbody hiter hdone hstop
end
end Go.Proofs.YtfdbcfkjablnkaaGreat

namespace Go.Proofs.YtfdbcfkjablnkaaGreat
open Go.RowKit

/-- the blocks of S are as they were -/
def KeepS (S : Nat → Prop) (W W' : World) : Prop := W.heap.size ≤ W'.heap.size ∧ ∀ k, S k → W'.heap[k]? = W.heap[k]?
section
variable {S S' : Nat → Prop} {A B C : World}
theorem KeepS.refl (S : Nat → Prop) (W : World) : KeepS S W W := ⟨Nat.le_refl _, fun _ _ => rfl⟩
theorem KeepS.trans (h : KeepS S A B) (k : KeepS S B C) : KeepS S A C := ⟨Nat.le_trans h.1 k.1, fun i h1 => (k.2 i h1).trans (h.2 i h1)⟩
theorem KeepS.of_below {n : Nat} (h : Below n A B) (hS : ∀ k, S k → k < n) : KeepS S A B := ⟨h.size, fun k h1 => h.block k (hS k h1)⟩
theorem KeepS.cell (h : KeepS S A B) {p : Addr} (h1 : S p.block) : B.cell? p = A.cell? p := World.cell?_of_block (h.2 p.block h1)
theorem KeepS.set (h : KeepS S A B) {b : Nat} (hb : ¬ S b) (v : Value) : KeepS S A (B.setCell ⟨b, 0, none⟩ v) :=
  ⟨by simpa [World.setCell] using h.1, fun k hk => (Below.heap_setCell B ⟨b, 0, none⟩ v k (fun e => by subst e; exact hb hk)).trans (h.2 k hk)⟩
theorem KeepS.grown {row : Option Nat} (h : KeepS S A B) (hg : B.grownBy C row) (hS : ∀ k, S k → k < B.heap.size) (hr : ∀ k, row = some k → ¬ S k) : KeepS S A C :=
  ⟨Nat.le_trans h.1 hg.size, fun k hk => (hg.block k (hS k hk) (fun e => hr k e.symm hk)).trans (h.2 k hk)⟩
end

/-- the numbers zs lie at a, in a block of S -/
def NumsS (k : IntKind) (w : World) (S : Nat → Prop) (a : Option Addr) (zs : List Int) : Prop :=
  zs ≠ [] → ∃ b off, a = some ⟨b, off, none⟩ ∧ S b ∧ ∀ j c, zs[j]? = some c → w.cell? ⟨b, off + j, none⟩ = some (.int k c)
section
variable {k : IntKind} {S S' : Nat → Prop} {w w' : World} {B : Nat} {a : Option Addr} {zs : List Int}
theorem NumsS.nil : NumsS k w S a [] := fun h => absurd rfl h
theorem NumsS.keeps (h : NumsS k w S a zs) (hk : KeepS S w w') : NumsS k w' S a zs := fun hn => by
  obtain ⟨b, off, e, h1, hc⟩ := h hn
  exact ⟨b, off, e, h1, fun j c hj => (hk.cell (p := ⟨b, off + j, none⟩) h1).trans (hc j c hj)⟩
theorem NumsS.nums (h : NumsS k w S a zs) (hS : ∀ k, S k → k < B) : Nums k w B a zs := fun hn => by
  obtain ⟨b, off, e, h1, hc⟩ := h hn
  exact ⟨b, off, e, hS b h1, hc⟩
theorem NumsS.more (h : NumsS k w S a zs) (hS : ∀ k, S k → S' k) : NumsS k w S' a zs := fun hn => by
  obtain ⟨b, off, e, h1, hc⟩ := h hn
  exact ⟨b, off, e, hS b h1, hc⟩
theorem Nums.numsS (h : Nums k w B a zs) (hS : ∀ k, k < B → S k) : NumsS k w S a zs := fun hn => by
  obtain ⟨b, off, e, h1, hc⟩ := h hn
  exact ⟨b, off, e, hS b h1, hc⟩
theorem NumsS.take (h : NumsS k w S a zs) (n : Nat) : NumsS k w S a (zs.take n) := fun hn => by
  obtain ⟨b, off, e, h1, hc⟩ := h (by intro e; subst e; simp at hn)
  refine ⟨b, off, e, h1, fun j c hj => hc j c ?_⟩
  rw [List.getElem?_take] at hj
  by_cases hlt : j < n
  · simpa [hlt] using hj
  · simp [hlt] at hj
end
theorem MadeK.numsS {e : TypeId} {k : IntKind} {w w1 : World} {L : List Int} {A : Option Addr} {n c : Nat} (h : MadeK e k w w1 L (.slice A n c)) (hn : L.length = n) : NumsS k w1 (fun b => w.heap.size ≤ b ∧ b < w1.heap.size) A L := fun h0 => by
  subst hn
  obtain ⟨b, off, rfl, hb, hc⟩ := Nums.of_own h.1 h0
  exact ⟨b, off, rfl, ⟨(h.own_ge (g := b) rfl).1, hb⟩, hc⟩
end Go.Proofs.YtfdbcfkjablnkaaGreat

namespace Go.Proofs.YtfdbcfkjablnkaaGreat
open Go.RowKit Go.Shelf
set_option maxRecDepth 100000
attribute [local go_sem] Oper.semAt_some

/-- the cells of the four parts -/
def ptC (v k i c m : Int) : Array Value := #[.int .i64 v, .int .i64 1, .int .i64 2, .int .i64 10, .int .i64 k, .int .i64 1, .int .i64 5, .int .i64 9, .int .i64 c, .int .i64 1, .int .i64 255, .int .i64 3, .int .i64 i, .int .i64 0, .int .i64 m, .int .i64 3]

theorem hparts_any (v k s i c : Int) (w : World) :
    Calls Tryz.prog 97 #[hdV v k s i c] w fun e w' => ∃ g, e = .returned (.func (.func 108) #[] #[.pointer (some ⟨g, 0, none⟩)]) ∧ w.heap.size ≤ g ∧ w'.heap[g]? = some (.cells (ptC v k i c (wrap64 (c - 1))) 170 (0, 0)) ∧ Below w.heap.size w w' := by
  unfold hdV
  go_enter Tryz.func97, Tryz.ntmps97
  go_wp2
  go_ret
  exact ⟨_, rfl, Nat.le_succ _, by rw [show w.heap.size + 1 = (w.alloc (.cells #[.int .i64 v, .int .i64 k, .int .u32 s, .int .i64 i, .int .i64 c] 39)).heap.size by simp]; exact World.alloc_heap_new _ _, ((Below.refl _ w).alloc (Nat.le_refl _) _).alloc (by simp) _⟩

end Go.Proofs.YtfdbcfkjablnkaaGreat

namespace Go.Proofs.YtfdbcfkjablnkaaGreat
open Go.RowKit Go.Shelf
set_option maxRecDepth 100000
attribute [local go_sem] Oper.semAt_some

/-- the j-th part -/
def ptCs (v k i c m : Int) : Nat → Array Value
  | 0 => #[.int .i64 v, .int .i64 1, .int .i64 2, .int .i64 10]
  | 1 => #[.int .i64 k, .int .i64 1, .int .i64 5, .int .i64 9]
  | 2 => #[.int .i64 c, .int .i64 1, .int .i64 255, .int .i64 3]
  | _ => #[.int .i64 i, .int .i64 0, .int .i64 m, .int .i64 3]
def ptV (v k i c m : Int) (j : Nat) : Value := .agg (ptCs v k i c m j)

theorem idx_part (v k i c m : Int) (W : World) :
    (Instr.index 170 (.agg (ptC v k i c m)) (.int .i64 0)).run Tryz.prog W = .ok (.agg (ptCs v k i c m 0)) W ∧ (Instr.index 170 (.agg (ptC v k i c m)) (.int .i64 1)).run Tryz.prog W = .ok (.agg (ptCs v k i c m 1)) W ∧
    (Instr.index 170 (.agg (ptC v k i c m)) (.int .i64 2)).run Tryz.prog W = .ok (.agg (ptCs v k i c m 2)) W ∧ (Instr.index 170 (.agg (ptC v k i c m)) (.int .i64 3)).run Tryz.prog W = .ok (.agg (ptCs v k i c m 3)) W := by
  refine ⟨?_, ?_, ?_, ?_⟩ <;> simp [Instr.index, run_underlying Tryz.underlying170, asIntOf, part, go_sem, Tryz.sizeOf165, ptC, ptCs]

set_option maxHeartbeats 2000000 in
theorem hparts_in (n : Nat) (hn : 1 ≤ n) (m' l g : Nat) (v k i c m : Int) (J : Nat → World → Prop) (Jx : World → Prop) (hJ : ∀ j A cs t, J j A → J j (A.alloc (.cells cs t)))
    (hY : ∀ j W, J j W → j < 4 → YieldAt Fence.wide m' Tryz.prog l #[ptV v k i c m j] W fun e W' => (e = .returned (.bool true) ∧ J (j + 1) W') ∨ (e = .returned (.bool false) ∧ Jx W'))
    (W : World) (hg : W.heap[g]? = some (.cells (ptC v k i c m) 170 (0, 0))) (h0 : J 0 W) :
    CallsIn Fence.wide n Tryz.prog 108 #[.func (.yield l) #[] #[], .pointer (some ⟨g, 0, none⟩)] W fun e W' => (∃ v, e = .returned v) ∧ (J 4 W' ∨ Jx W') := by
  have hc : ∀ j x, (ptC v k i c m)[j]? = some x → W.cell? ⟨g, j, none⟩ = some x := fun j x hx => by simp [World.cell?, hg, hx]
  unfold ptC at hc
  have c0 := hc 0 _ rfl; have c1 := hc 1 _ rfl; have c2 := hc 2 _ rfl; have c3 := hc 3 _ rfl
  have c4 := hc 4 _ rfl; have c5 := hc 5 _ rfl; have c6 := hc 6 _ rfl; have c7 := hc 7 _ rfl
  have c8 := hc 8 _ rfl; have c9 := hc 9 _ rfl; have c10 := hc 10 _ rfl; have c11 := hc 11 _ rfl
  have c12 := hc 12 _ rfl; have c13 := hc 13 _ rfl; have c14 := hc 14 _ rfl; have c15 := hc 15 _ rfl
  clear hc hg
  refine callsIn_of_wp Tryz.func108 rfl trivial ?_ rfl
  simp only [Tryz.ntmps108, List.size_toArray, List.length_cons, List.length_nil, Nat.reduceAdd, Nat.reduceSub, Array.replicate_succ, Array.replicate_zero, List.push_toArray, List.append_toArray, List.nil_append, List.cons_append]
  gi_wp2
  clear c0 c1 c2 c3 c4 c5 c6 c7 c8 c9 c10 c11 c12 c13 c14 c15
  gi_loopw [6] (fun x wr => ∃ j : Nat, j ≤ 4 ∧ x = .int .i64 (j : Int) ∧ J j wr) (fun x _ => 4 - (intOf x).toNat)
  case atStart => exact ⟨0, by omega, rfl, h0⟩
  case round =>
    obtain ⟨j, hj, rfl, hJj⟩ := hrel
    by_cases h4 : j = 4
    · subst h4
      gi_wp2
      go_end0
      exact ⟨⟨_, rfl⟩, .inl hJj⟩
    · have HYa := Lib.hid (fun cs t => hY j _ (hJ j _ cs t hJj) (by omega))
      clear hJj
      obtain rfl | rfl | rfl | rfl : j = 0 ∨ j = 1 ∨ j = 2 ∨ j = 3 := by omega
      · have HY0 := HYa.out (ptCs v k i c m 0) 165
        have hix := fun W => (idx_part v k i c m W).1
        simp only [ptC, ptCs] at hix
        clear HYa
        simp only [ptV, ptCs] at HY0
        obtain ⟨fn, tmps, assign, body, hy, hR⟩ := yield_any (n - 1) HY0
        have HR := Lib.hid hR
        clear hR HY0
        gi_wp2_with fail
        refine HR.out.mono ?_
        rintro e W3 (⟨rfl, hJ3⟩ | ⟨rfl, hJx3⟩)
        · gi_wp2
          go_roundw
          case rel => exact ⟨1, by omega, by go_num, hJ3⟩
          case measure => simp [intOf]
        · gi_wp2
          refine bodyPost_ret (results_none rfl _ _ _) rfl ?_
          exact ⟨⟨_, rfl⟩, .inr hJx3⟩
      · have HY0 := HYa.out (ptCs v k i c m 1) 165
        have hix := fun W => (idx_part v k i c m W).2.1
        simp only [ptC, ptCs] at hix
        clear HYa
        simp only [ptV, ptCs] at HY0
        obtain ⟨fn, tmps, assign, body, hy, hR⟩ := yield_any (n - 1) HY0
        have HR := Lib.hid hR
        clear hR HY0
        gi_wp2_with fail
        refine HR.out.mono ?_
        rintro e W3 (⟨rfl, hJ3⟩ | ⟨rfl, hJx3⟩)
        · gi_wp2
          go_roundw
          case rel => exact ⟨2, by omega, by go_num, hJ3⟩
          case measure => simp [intOf]
        · gi_wp2
          refine bodyPost_ret (results_none rfl _ _ _) rfl ?_
          exact ⟨⟨_, rfl⟩, .inr hJx3⟩
      · have HY0 := HYa.out (ptCs v k i c m 2) 165
        have hix := fun W => (idx_part v k i c m W).2.2.1
        simp only [ptC, ptCs] at hix
        clear HYa
        simp only [ptV, ptCs] at HY0
        obtain ⟨fn, tmps, assign, body, hy, hR⟩ := yield_any (n - 1) HY0
        have HR := Lib.hid hR
        clear hR HY0
        gi_wp2_with fail
        refine HR.out.mono ?_
        rintro e W3 (⟨rfl, hJ3⟩ | ⟨rfl, hJx3⟩)
        · gi_wp2
          go_roundw
          case rel => exact ⟨3, by omega, by go_num, hJ3⟩
          case measure => simp [intOf]
        · gi_wp2
          refine bodyPost_ret (results_none rfl _ _ _) rfl ?_
          exact ⟨⟨_, rfl⟩, .inr hJx3⟩
      · have HY0 := HYa.out (ptCs v k i c m 3) 165
        have hix := fun W => (idx_part v k i c m W).2.2.2
        simp only [ptC, ptCs] at hix
        clear HYa
        simp only [ptV, ptCs] at HY0
        obtain ⟨fn, tmps, assign, body, hy, hR⟩ := yield_any (n - 1) HY0
        have HR := Lib.hid hR
        clear hR HY0
        gi_wp2_with fail
        refine HR.out.mono ?_
        rintro e W3 (⟨rfl, hJ3⟩ | ⟨rfl, hJx3⟩)
        · gi_wp2
          go_roundw
          case rel => exact ⟨4, by omega, by go_num, hJ3⟩
          case measure => simp [intOf]
        · gi_wp2
          refine bodyPost_ret (results_none rfl _ _ _) rfl ?_
          exact ⟨⟨_, rfl⟩, .inr hJx3⟩
end Go.Proofs.YtfdbcfkjablnkaaGreat

namespace Go.Proofs.YtfdbcfkjablnkaaGreat
open Go.RowKit

section
variable {F : Fence} {n : Nat} {P : Program} {g : Operand} {ps : Array Tmp} {assign body : Code} {Q : Exit → Act → World → Prop} {a : Act} {w : World}
theorem range_stopa {α : Type} (hro : F.round = none) (h1 : 1 ≤ n) {gf : Nat} {lb : Array Value} (hg : a.eval g = .func (.func gf) #[] lb) (hFg : F.fn gf) (eg : ∀ args w, (callFunc gf args).run P w = .ok (.enter gf args) w)
    (enc : α → Array Value) (hps : ∀ x, (enc x).size = ps.size) (Rd : Nat → α → World → Prop) (Ra : Nat → α → Act → World → Prop) (Dn : Nat → World → Prop) (Sx : Code → World → Prop) (Kp : World → World → Prop) (N : Nat)
    (hRp : ∀ j x b W l o o', Ra j x b W → w.heap.size ≤ l → W.heap[l]? = some o → o.isCells = false → Ra j x b (W.putObj l o'))
    (hDp : ∀ j W l o o', Dn j W → w.heap.size ≤ l → W.heap[l]? = some o → o.isCells = false → Dn j (W.putObj l o'))
    (hSp : ∀ c W l o o', Sx c W → w.heap.size ≤ l → W.heap[l]? = some o → o.isCells = false → Sx c (W.putObj l o'))
    (hKt : ∀ A B C, Kp A B → Kp B C → Kp A C)
    (hKp : ∀ W l o o', w.heap.size ≤ l → W.heap[l]? = some o → o.isCells = false → Kp W (W.putObj l o'))
    (hD0 : ∀ o, Dn 0 ((w.alloc (.deferred (some []))).alloc o))
    (hassign : ∀ (l j : Nat) (x : α) (W : World) (K : Act → World → Prop), Rd j x W → j < N → (∀ b W', Ra j x b W' → KeepsFrom w.heap.size W W' → Kp W W' → K b W') →
      assign.wpIn (F.inRound l) (n - 1 - 1) P (Exit.then K (fun _ _ _ => False)) { tmps := (ps.zip (enc x)).foldl (fun t (p, v) => t.setIfInBounds p v) a.tmps, defers := [] } W)
    (hbody : ∀ (l j : Nat) (x : α) (b : Act) (W : World), w.heap.size ≤ l → Ra j x b W → j < N → body.wpIn (F.inRound l) (n - 1 - 1) P (stopPost w.heap.size Kp (Dn (j + 1)) Sx W) b W)
    (hiter : ∀ (Bk : World → Prop) (X : World → Prop) (l : Nat) (W : World), (∀ A B, Bk A → A.heap.size ≤ B.heap.size → (∀ k, w.heap.size ≤ k → k < w.heap.size + 2 → B.heap[k]? = A.heap[k]?) → Bk B) → (∀ A, Bk A → w.heap.size + 2 ≤ A.heap.size) →
      (∀ A l' o o', X A → w.heap.size + 2 ≤ l' → A.heap[l']? = some o → o.isCells = false → X (A.putObj l' o')) → l < w.heap.size + 2 → Dn 0 W → Bk W →
      (∀ j x W1, Rd j x W1 → Bk W1 → j < N → YieldAt F (n - 1 - 1) P l (enc x) W1 (YPost w.heap.size l Kp (fun W2 => Dn (j + 1) W2 ∧ Bk W2) X W1)) →
      CallsIn F (n - 1) P gf (#[.func (.yield l) #[] #[]] ++ lb) W fun e W' => (∃ v, e = .returned v) ∧ ((Dn N W' ∧ Bk W') ∨ X W'))
    (hdone : ∀ (D : Nat) (W : World), w.heap.size ≤ D → Dn N W → W.heap[D]? = some (.deferred (some [])) → Q .normal { a with defers := { target := .collected D, args := #[] } :: a.defers } W)
    (hstop : ∀ (D : Nat) (c : Code) (W : World), w.heap.size ≤ D → Sx c W → W.heap[D]? = some (.deferred (some [])) → c.wpIn F n P Q { a with defers := { target := .collected D, args := #[] } :: a.defers } W) :
    (Code.rangeFunc g ps assign body).wpIn F n P Q a w := by
  apply wpIn_rangeFunc
  intro fn hfn
  rw [hro]
  have hent := run_enterLoop_outer (P := P) (w := w) fn a.tmps ps assign body
  obtain ⟨lp, hlp⟩ : ∃ lp : LoopState → Option Code → Loop, lp = fun st pe => { state := st, pending := pe, fn := fn, tmps := a.tmps, params := ps, assign := assign, body := body, defers := w.heap.size } := ⟨_, rfl⟩
  have hlp0 : ({ state := .ready, pending := none, fn, tmps := a.tmps, params := ps, assign, body, defers := w.heap.size } : Loop) = lp .ready none := by rw [hlp]
  rw [hlp0] at hent
  have hD0' := hD0 (.loop (lp .ready none))
  have hl0 : ((w.alloc (.deferred (some []))).alloc (.loop (lp .ready none))).heap[w.heap.size + 1]? = some (.loop (lp .ready none)) := by
    have h := World.alloc_heap_new (w.alloc (.deferred (some []))) (.loop (lp .ready none))
    rwa [World.size_alloc] at h
  have hd0 : ((w.alloc (.deferred (some []))).alloc (.loop (lp .ready none))).heap[w.heap.size]? = some (.deferred (some [])) := (Below.heap_alloc _ _ _ (by simp)).trans (World.alloc_heap_new w _)
  generalize (w.alloc (.deferred (some []))).alloc (.loop (lp .ready none)) = W0 at *
  refine ⟨_, _, _, { target := .fn (.func gf) lb, args := #[.func (.yield (w.heap.size + 1)) #[] #[]] }, W0, gf, #[.func (.yield (w.heap.size + 1)) #[] #[]] ++ lb, W0, hent, ?_, ?_, ?_, fun _ => h1, ?_⟩
  · simp only [resolve, hg]
    simp [go_sem]
  · intro f' hf'
    simp [Target.leads] at hf'
    subst hf'
    exact hFg
  · simp [invoke, go_sem, eg]
  let Bk : World → Prop := fun W => W.heap[w.heap.size + 1]? = some (.loop (lp .ready none)) ∧ W.heap[w.heap.size]? = some (.deferred (some []))
  let X : World → Prop := fun W => ∃ c, Sx c W ∧ W.heap[w.heap.size + 1]? = some (.loop (lp .done (some c))) ∧ W.heap[w.heap.size]? = some (.deferred (some []))
  have hBlt : ∀ A, Bk A → w.heap.size + 2 ≤ A.heap.size := fun A h => (Array.getElem?_eq_some_iff.1 h.1).1
  refine (hiter Bk X (w.heap.size + 1) W0 (fun A B hA _ hAB => ⟨(hAB _ (by omega) (by omega)).trans hA.1, (hAB _ (by omega) (by omega)).trans hA.2⟩) hBlt
    (fun A l' o o' hA hl' ho hc => by
      obtain ⟨c, h1, h2, h3⟩ := hA
      exact ⟨c, hSp c A l' o o' h1 (by omega) ho hc, (World.putObj_heap_other (by omega)).trans h2, (World.putObj_heap_other (by omega)).trans h3⟩) (by omega) hD0' ⟨hl0, hd0⟩ ?_).mono ?_
  · rintro j x W1 hR hB hj
    have hsz := hBlt W1 hB
    have hy := run_yield (P := P) (args := enc x) hB.1 (by rw [hlp]; exact hps x)
    rw [hlp] at hy
    refine ⟨fn, _, assign, body, hy, roundIn_of_wpIn hfn (hassign _ j x W1 _ hR hj (fun b2 W2 hR2 hkf hKp2 => ?_))⟩
    have hB2 : Bk W2 := ⟨hkf.same _ _ (by omega) hB.1 rfl, hkf.same _ _ (Nat.le_refl _) hB.2 rfl⟩
    have hsz2 := hBlt W2 hB2
    have hbeg := run_beginRound (P := P) hB2.1 (by rw [hlp])
    rw [hlp] at hbeg
    refine ⟨_, hbeg, ?_⟩
    refine wpIn_mono (hbody _ j x b2 _ (by omega) (hRp j x b2 W2 _ _ _ hR2 (by omega) hB2.1 rfl) hj) ?_
    have b1 : (W2.putObj (w.heap.size + 1) (.loop { lp .ready none with state := .busy })).heap[w.heap.size + 1]? = some (.loop { lp .ready none with state := .busy }) := World.putObj_heap_same (by omega)
    have b2 : (W2.putObj (w.heap.size + 1) (.loop { lp .ready none with state := .busy })).heap[w.heap.size]? = some (.deferred (some [])) := (World.putObj_heap_other (by omega)).trans hB2.2
    have hK1 := hKp W2 (w.heap.size + 1) _ (.loop { lp .ready none with state := .busy }) (by omega) hB2.1 rfl
    rw [hlp] at b1 b2 hK1
    have fin : ∀ (jump : Option Code) (W3 : World), KeepsFrom w.heap.size (W2.putObj (w.heap.size + 1) (.loop { lp .ready none with state := .busy })) W3 →
        (Instr.endRound (w.heap.size + 1) jump).run P W3 = .ok (.bool jump.isNone) (W3.putObj (w.heap.size + 1) (.loop (lp (if jump.isNone then .ready else .done) jump))) ∧
        W3.heap[w.heap.size + 1]? = some (.loop { lp .ready none with state := .busy }) ∧
        (W3.putObj (w.heap.size + 1) (.loop (lp (if jump.isNone then .ready else .done) jump))).heap[w.heap.size + 1]? = some (.loop (lp (if jump.isNone then .ready else .done) jump)) ∧
        (W3.putObj (w.heap.size + 1) (.loop (lp (if jump.isNone then .ready else .done) jump))).heap[w.heap.size]? = some (.deferred (some [])) ∧
        KeepsBut w.heap.size (w.heap.size + 1) W1 (W3.putObj (w.heap.size + 1) (.loop (lp (if jump.isNone then .ready else .done) jump))) := fun jump W3 hk => by
      rw [hlp] at hk ⊢
      have c1 := hk.same _ _ (by omega) b1 rfl
      have c2 := hk.same _ _ (Nat.le_refl _) b2 rfl
      have hend := run_endRound (P := P) jump c1
      refine ⟨hend, c1, World.putObj_heap_same (Array.getElem?_eq_some_iff.1 c1).1, (World.putObj_heap_other (by omega)).trans c2, ?_, ?_⟩
      · have h1 := hk.size
        have h2 := hkf.size
        simp only [World.putObj, Array.size_setIfInBounds] at h1 ⊢
        omega
      · intro k o hkl hk2 ho hc
        exact (World.putObj_heap_other (by omega)).trans (hk.same k o hk2 ((World.putObj_heap_other (by omega)).trans (hkf.same k o hk2 ho hc)) hc)
    rintro e a3 W3 hp
    rw [hlp] at fin
    cases e with
    | normal =>
      obtain ⟨hk, hDn, hKp3⟩ := hp
      obtain ⟨hend, c1, d1, d2, hkb⟩ := fin none W3 hk
      exact ⟨_, _, hend, .inl ⟨rfl, ⟨hDp _ _ _ _ _ hDn (by omega) c1 rfl, by rw [hlp]; exact d1, d2⟩, hKt _ _ _ hKp2 (hKt _ _ _ hK1 (hKt _ _ _ hKp3 (hKp W3 _ _ _ (by omega) c1 rfl))), hkb⟩⟩
    | ret =>
      obtain ⟨hk, hx⟩ := hp
      obtain ⟨hend, c1, d1, d2, hkb⟩ := fin (some .ret) W3 hk
      exact ⟨_, _, hend, .inr ⟨rfl, ⟨.ret, hSp _ _ _ _ _ hx (by omega) c1 rfl, by rw [hlp]; exact d1, d2⟩, hkb⟩⟩
    | exit id =>
      obtain ⟨hk, hx⟩ := hp
      obtain ⟨hend, c1, d1, d2, hkb⟩ := fin (some (.exit id)) W3 hk
      exact ⟨_, _, hend, .inr ⟨rfl, ⟨.exit id, hSp _ _ _ _ _ hx (by omega) c1 rfl, by rw [hlp]; exact d1, d2⟩, hkb⟩⟩
    | goto t => exact hp.elim
    | panic ch => exact hp.elim
    | outgrown => exact hp.elim
  · rintro e W2 ⟨⟨v, rfl⟩, ⟨hDN, hB⟩ | ⟨c, hc, hl, hd⟩⟩
    · have hend := run_endLoop (P := P) hB.1 (by rw [hlp]; simp)
      rw [hlp] at hend
      exact ⟨none, _, hend, hdone _ _ (Nat.le_refl _) (hDp _ _ _ _ _ hDN (by omega) hB.1 rfl) ((World.putObj_heap_other (by omega)).trans hB.2)⟩
    · have hend := run_endLoop (P := P) hl (by rw [hlp]; simp)
      rw [hlp] at hend
      exact ⟨some c, _, hend, hstop _ c _ (Nat.le_refl _) (hSp _ _ _ _ _ hc (by omega) hl rfl) ((World.putObj_heap_other (by omega)).trans hd)⟩
end
end Go.Proofs.YtfdbcfkjablnkaaGreat

namespace Go.Proofs.YtfdbcfkjablnkaaGreat
open Go.RowKit

/-- whatever is cells, but block b, is as it was -/
structure KpC (b : Nat) (W W' : World) : Prop where
  size : W.heap.size ≤ W'.heap.size
  same : ∀ (k : Nat) (o : Obj), k ≠ b → W.heap[k]? = some o → o.isCells = true → W'.heap[k]? = some o
theorem KpC.trans {b : Nat} {A B C : World} (h : KpC b A B) (k : KpC b B C) : KpC b A C := ⟨Nat.le_trans h.size k.size, fun i o hi ho hc => k.same i o hi (h.same i o hi ho hc) hc⟩
theorem KpC.putObj {b l : Nat} {W : World} {o o' : Obj} (ho : W.heap[l]? = some o) (hc : o.isCells = false) : KpC b W (W.putObj l o') := by
  refine ⟨by simp [World.putObj], fun k p hk hp hpc => (World.putObj_heap_other (fun e => ?_)).trans hp⟩
  subst e
  rw [hp] at ho
  injection ho with ho
  subst ho
  rw [hpc] at hc; cases hc
theorem KpC.of_below {b : Nat} {W W' : World} (h : Below W.heap.size W W') : KpC b W W' := ⟨h.size, fun k _ _ ho _ => (h.block k (Array.getElem?_eq_some_iff.1 ho).1).trans ho⟩
theorem KpC.set {b : Nat} {W W' : World} (h : KpC b W W') (v : Value) : KpC b W (W'.setCell ⟨b, 0, none⟩ v) :=
  ⟨by simpa [World.setCell] using h.size, fun k _ hk ho hc => (Below.heap_setCell W' ⟨b, 0, none⟩ v k (fun e => hk (by simpa using e))).trans (h.same k _ hk ho hc)⟩

theorem below_put {B l : Nat} (W : World) (o' : Obj) (h : B ≤ l) : Below B W (W.putObj l o') := ⟨rfl, rfl, rfl, by simp [World.putObj], fun k hk => World.putObj_heap_other (by omega)⟩
end Go.Proofs.YtfdbcfkjablnkaaGreat

namespace Go.Proofs.YtfdbcfkjablnkaaGreat
open Go.RowKit

theorem cells_of_cell {W : World} {p : Addr} {v : Value} (h : W.cell? p = some v) : ∃ o : Obj, W.heap[p.block]? = some o ∧ o.isCells = true := by
  unfold World.cell? at h
  cases ho : W.heap[p.block]? with
  | none => simp [ho] at h
  | some o => exact ⟨o, rfl, by cases o <;> simp_all [Obj.isCells]⟩
theorem Nums.putObj {k : IntKind} {V : World} {B l : Nat} {a : Option Addr} {zs : List Int} {o : Obj} (h : Nums k V B a zs) (ho : V.heap[l]? = some o) (hc : o.isCells = false) (o' : Obj) : Nums k (V.putObj l o') B a zs := fun hn => by
  obtain ⟨b, off, e, hb, hcl⟩ := h hn
  refine ⟨b, off, e, hb, fun j c hj => ?_⟩
  have h1 := hcl j c hj
  obtain ⟨o2, h2, h3⟩ := cells_of_cell h1
  refine (World.cell?_of_block (World.putObj_heap_other (fun e => ?_))).trans h1
  simp only at h2 e
  subst e
  rw [ho] at h2
  injection h2 with h2
  subst h2
  rw [hc] at h3; cases h3
theorem off_below {S : Nat → Prop} {w V V' : World} (h : Off S w V) (hb : Below w.heap.size V V') : Off S w V' :=
  ⟨hb.os.trans h.os, hb.tape.trans h.tape, hb.output.trans h.output, Nat.le_trans h.size hb.size, fun k hk hn => (hb.block k hk).trans (h.block k hk hn)⟩
/-- behind j rounds of the law's loop: the box b holds j, all else is as it was -/
def Ld (w : World) (b : Nat) (t : TypeId) (j : Nat) (V : World) : Prop := Boxed V b t (.int .i64 ((j : Nat) : Int)) ∧ Off (fun k => k = b) w V
theorem Ld.below {w V V' : World} {b : Nat} {t : TypeId} {j : Nat} (h : Ld w b t j V) (hb : b < w.heap.size) (hB : Below w.heap.size V V') : Ld w b t j V' :=
  ⟨(hB.block b hb).trans h.1, off_below h.2 hB⟩
theorem Ld.next {w V V1 : World} {b : Nat} {t : TypeId} {j : Nat} (h : Ld w b t j V) (hb : b < w.heap.size) (h1 : Below w.heap.size V V1) : Ld w b t (j + 1) (V1.setCell ⟨b, 0, none⟩ (.int .i64 ((j : Int) + 1))) :=
  ⟨by have := Boxed.set (.int .i64 ((j : Int) + 1)) ((h1.block b hb).trans h.1 : Boxed V1 b t _); rw [Int.natCast_succ]; exact this, (off_below h.2 h1).setCell (p := ⟨b, 0, none⟩) rfl _⟩
end Go.Proofs.YtfdbcfkjablnkaaGreat

namespace Go.Proofs.YtfdbcfkjablnkaaGreat
open Go.RowKit Go.Shelf
set_option maxRecDepth 100000
attribute [local go_sem] Oper.semAt_some

/-- the parts ahead of the j-th are as they may be -/
def okTo (v k i c : Int) (j : Nat) : Prop := (0 < j → 1 ≤ v ∧ v ≤ 2) ∧ (1 < j → 1 ≤ k ∧ k ≤ 5) ∧ (2 < j → 1 ≤ c ∧ c ≤ 255) ∧ (3 < j → 0 ≤ i ∧ i < c)

theorem part_at {v k i c : Int} {j : Nat} (hj : j < 4) (h : okTo v k i c j) : ∃ x le mo wr : Int, ptCs v k i c (wrap64 (c - 1)) j = #[.int .i64 x, .int .i64 le, .int .i64 mo, .int .i64 wr] ∧
    (le ≤ x → x ≤ mo → okTo v k i c (j + 1)) ∧ (x < le ∨ mo < x → chk v k i c = wr) := by
  obtain ⟨h0, h1, h2, h3⟩ := h
  obtain rfl | rfl | rfl | rfl : j = 0 ∨ j = 1 ∨ j = 2 ∨ j = 3 := by omega
  · exact ⟨_, _, _, _, rfl, fun a b => ⟨fun _ => ⟨a, b⟩, by omega, by omega, by omega⟩, fun h => by unfold chk; rw [if_pos h]⟩
  · have := h0 (by omega)
    exact ⟨_, _, _, _, rfl, fun a b => ⟨fun _ => h0 (by omega), fun _ => ⟨a, b⟩, by omega, by omega⟩, fun h => by unfold chk; rw [if_neg (by omega), if_pos h]⟩
  · have := h0 (by omega)
    have := h1 (by omega)
    exact ⟨_, _, _, _, rfl, fun a b => ⟨fun _ => h0 (by omega), fun _ => h1 (by omega), fun _ => ⟨a, b⟩, by omega⟩, fun h => by unfold chk; rw [if_neg (by omega), if_neg (by omega), if_pos (by omega)]⟩
  · have := h0 (by omega)
    have := h1 (by omega)
    have := h2 (by omega)
    have hw : wrap64 (c - 1) = c - 1 := by unfold wrap64; omega
    rw [hw]
    exact ⟨_, _, _, _, rfl, fun a b => ⟨fun _ => h0 (by omega), fun _ => h1 (by omega), fun _ => h2 (by omega), fun _ => ⟨a, by omega⟩⟩, fun h => by unfold chk; rw [if_neg (by omega), if_neg (by omega), if_pos (by omega)]⟩

set_option maxHeartbeats 4000000 in
theorem check_any (v k s i c : Int) (w : World) :
    Calls Tryz.prog 76 #[hdV v k s i c] w fun e w' => e = .returned (.int .i64 (chk v k i c)) ∧ Below w.heap.size w w' := by
  obtain ⟨w0, hw0⟩ : ∃ w0, (w.alloc (.cells #[.int .i64 v, .int .i64 k, .int .u32 s, .int .i64 i, .int .i64 c] 39)).alloc (.cells #[.int .i64 0] 25) = w0 := ⟨_, rfl⟩
  have hs0 : w0.heap.size = w.heap.size + 2 := by rw [← hw0]; simp
  have hb0 : Below w.heap.size w w0 := by rw [← hw0]; exact ((Below.refl _ w).alloc (Nat.le_refl _) _).alloc (by simp) _
  have bF0 : Boxed w0 (w.heap.size + 1) 25 (.int .i64 0) := by
    rw [← hw0]
    have := Boxed.new (w.alloc (.cells #[.int .i64 v, .int .i64 k, .int .u32 s, .int .i64 i, .int .i64 c] 39)) 25 (.int .i64 0)
    rwa [World.size_alloc] at this
  have HP := Lib.hid (hparts_any v k s i c)
  have HW := Lib.hid hw0
  clear hw0
  unfold hdV at HP ⊢
  refine (callsIn_wide (n := 9)).1 ?_
  refine callsIn_of_wp_marks Tryz.func76 rfl trivial ?_ rfl
  simp only [Tryz.ntmps76, List.size_toArray, List.length_cons, List.length_nil, Nat.reduceAdd, Nat.reduceSub, Array.replicate_succ, Array.replicate_zero, List.push_toArray, List.append_toArray, List.nil_append, List.cons_append]
  gi_wp2_with fail
  refine wpIn_wide.2 (wp_scope_straight ((wpIn_wide (n := 9)).1 ?_))
  gi_wp2_with fail
  apply wpIn_label
  gi_wp2_with fail
  refine ⟨trivial, ?_⟩
  rw [HW.out]
  refine (callsIn_wide.2 (HP.out w0)).mono ?_
  rintro e w1 ⟨g, rfl, hg0, hg, hb1⟩
  clear HP
  have hs1 := hb1.size
  have hgl : g < w1.heap.size := (Array.getElem?_eq_some_iff.1 hg).1
  have bF1 : Boxed w1 (w.heap.size + 1) 25 (.int .i64 0) := (hb1.block _ (by omega)).trans bF0
  have hb01 := hb0.trans (hb1.mono (by omega))
  clear HW bF0
  have hF : w.heap.size + 1 < w1.heap.size := by omega
  gi_wp2_with fail
  refine range_stopa rfl (by omega) (gf := 108) (lb := #[.pointer (some ⟨g, 0, none⟩)]) rfl trivial (enters_of Tryz.func108 (by kernel_rfl) rfl)
    (fun x : Nat => #[ptV v k i c (wrap64 (c - 1)) x]) (fun _ => rfl)
    (fun j x V => x = j ∧ okTo v k i c j ∧ Below w1.heap.size w1 V)
    (fun j x b V => x = j ∧ okTo v k i c j ∧ Below w1.heap.size w1 V ∧ ∃ q, b = { tmps := #[.agg #[.int .i64 v, .int .i64 k, .int .u32 s, .int .i64 i, .int .i64 c], .pointer (some ⟨w.heap.size, 0, none⟩), .int .i64 0, .pointer (some ⟨w.heap.size + 1, 0, none⟩), .pointer (some ⟨q, 0, none⟩),
        .agg #[.int .i64 v, .int .i64 k, .int .u32 s, .int .i64 i, .int .i64 c], .func (.func 108) #[] #[.pointer (some ⟨g, 0, none⟩)], ptV v k i c (wrap64 (c - 1)) x, undef, undef, undef, undef, undef, undef, undef, undef, undef, undef, undef, undef, undef, undef], defers := [] } ∧
      w1.heap.size ≤ q ∧ V.heap[q]? = some (.cells (ptCs v k i c (wrap64 (c - 1)) j) 165 (0, 0)))
    (fun j V => okTo v k i c j ∧ Below w1.heap.size w1 V)
    (fun cd V => cd = .exit 0 ∧ Boxed V (w.heap.size + 1) 25 (.int .i64 (chk v k i c)) ∧ Off (fun q => q = w.heap.size + 1) w1 V) (fun _ _ => True) 4
    (fun j x b V l o o' h hl ho hc' => ⟨h.1, h.2.1, h.2.2.1.trans ⟨rfl, rfl, rfl, by simp [World.putObj], fun k hk => World.putObj_heap_other (by omega)⟩, by
      obtain ⟨q, h1, h2, h3⟩ := h.2.2.2
      exact ⟨q, h1, h2, (World.putObj_heap_other (fun e => by subst e; rw [h3] at ho; injection ho with ho; subst ho; cases hc')).trans h3⟩⟩)
    (fun j V l o o' h hl _ _ => ⟨h.1, h.2.trans ⟨rfl, rfl, rfl, by simp [World.putObj], fun k hk => World.putObj_heap_other (by omega)⟩⟩)
    (fun cd V l o o' h hl _ _ => ⟨h.1, (World.putObj_heap_other (by omega)).trans h.2.1, off_below h.2.2 (below_put V o' hl)⟩)
    (fun _ _ _ _ _ => trivial) (fun _ _ _ _ _ _ _ => trivial)
    (fun o => ⟨⟨by omega, by omega, by omega, by omega⟩, ((Below.refl w1.heap.size w1).alloc (Nat.le_refl _) _).alloc (by simp) _⟩) ?assign ?body ?iter ?done ?stop
  case assign =>
    rintro l j x V K ⟨rfl, hok, hbV⟩ hj hK
    obtain ⟨y, le, mo, wr, hcs, _⟩ := part_at hj hok
    have hK' := Lib.hid (hK { tmps := #[.agg #[.int .i64 v, .int .i64 k, .int .u32 s, .int .i64 i, .int .i64 c], .pointer (some ⟨w.heap.size, 0, none⟩), .int .i64 0, .pointer (some ⟨w.heap.size + 1, 0, none⟩), .pointer (some ⟨V.heap.size, 0, none⟩),
        .agg #[.int .i64 v, .int .i64 k, .int .u32 s, .int .i64 i, .int .i64 c], .func (.func 108) #[] #[.pointer (some ⟨g, 0, none⟩)], ptV v k i c (wrap64 (c - 1)) x, undef, undef, undef, undef, undef, undef, undef, undef, undef, undef, undef, undef, undef, undef], defers := [] }
      (V.alloc (.cells (ptCs v k i c (wrap64 (c - 1)) x) 165)) ⟨rfl, hok, hbV.alloc hbV.size _, V.heap.size, rfl, hbV.size, World.alloc_heap_new _ _⟩ ⟨by simp, fun q o _ ho _ => (Below.heap_alloc _ _ _ (Array.getElem?_eq_some_iff.1 ho).1).trans ho⟩ trivial)
    clear hK
    unfold ptV at hK' ⊢
    rw [hcs] at hK' ⊢
    gi_wp2
    exact hK'.out
  case body =>
    rintro l j x b V hl ⟨rfl, hok, hbV, q, rfl, hq, hcell⟩ hj
    obtain ⟨y, le, mo, wr, hcs, hin, hout⟩ := part_at hj hok
    rw [hcs] at hcell
    have d0 : V.cell? ⟨q, 0, none⟩ = some (.int .i64 y) := by simp [World.cell?, hcell]
    have d1 : V.cell? ⟨q, 1, none⟩ = some (.int .i64 le) := by simp [World.cell?, hcell]
    have d2 : V.cell? ⟨q, 2, none⟩ = some (.int .i64 mo) := by simp [World.cell?, hcell]
    have d3 : V.cell? ⟨q, 3, none⟩ = some (.int .i64 wr) := by simp [World.cell?, hcell]
    have bFV : Boxed V (w.heap.size + 1) 25 (.int .i64 0) := (hbV.block _ hF).trans bF1
    have e0 := bFV.cell
    have e1 := bFV.frozen
    have hgo := Lib.hid (fun h1 h2 => (⟨⟨Nat.le_refl _, fun _ _ _ ho _ => ho⟩, ⟨hin h1 h2, hbV⟩, trivial⟩ : KeepsFrom w1.heap.size V V ∧ (okTo v k i c (x + 1) ∧ Below w1.heap.size w1 V) ∧ True))
    have hst := Lib.hid (fun h => (⟨(KeepsOthers.setCell _ _ _).from _, by rw [hout h]; exact bFV.set _, (off_below (Off.refl (fun q => q = w.heap.size + 1) w1) hbV).setCell (p := ⟨w.heap.size + 1, 0, none⟩) rfl _⟩ :
      KeepsFrom w1.heap.size V (V.setCell ⟨w.heap.size + 1, 0, none⟩ (.int .i64 wr)) ∧ Boxed (V.setCell ⟨w.heap.size + 1, 0, none⟩ (.int .i64 wr)) (w.heap.size + 1) 25 (.int .i64 (chk v k i c)) ∧ Off (fun q => q = w.heap.size + 1) w1 (V.setCell ⟨w.heap.size + 1, 0, none⟩ (.int .i64 wr))))
    clear hok hbV hcell hin hout hcs bFV
    by_cases h1 : y < le
    · gi_wp2
      exact ⟨(hst.out (.inl h1)).1, rfl, (hst.out (.inl h1)).2⟩
    · by_cases h2 : mo < y
      · gi_wp2
        exact ⟨(hst.out (.inr h2)).1, rfl, (hst.out (.inr h2)).2⟩
      · gi_wp2
        exact hgo.out (by omega) (by omega)
  case iter =>
    intro Bk X l V hBk hBlt hX hl hD hB hY
    exact hparts_in 8 (by omega) 7 l g v k i c (wrap64 (c - 1)) (fun j V => (okTo v k i c j ∧ Below w1.heap.size w1 V) ∧ Bk V) X
      (fun j A cs t h => ⟨⟨h.1.1, h.1.2.alloc h.1.2.size _⟩, hBk A _ h.2 (by simp) (fun q h1 h2 => by have := hBlt A h.2; exact Below.heap_alloc _ _ _ (by omega))⟩)
      (fun j W h hj => (hY j j W ⟨rfl, h.1⟩ h.2 hj).mono (fun e W2 h => h.elim (fun h => .inl ⟨h.1, h.2.1⟩) (fun h => .inr ⟨h.1, h.2.1⟩)))
      V ((hD.2.block g hgl).trans hg) ⟨hD, hB⟩
  case done =>
    rintro D V hD ⟨hok, hbV⟩ hK
    have hz : chk v k i c = 0 := by
      have h0 := hok.1 (by omega); have h1 := hok.2.1 (by omega); have h2 := hok.2.2.1 (by omega); have h3 := hok.2.2.2 (by omega)
      unfold chk; rw [if_neg (by omega), if_neg (by omega), if_neg (by omega)]
    have bFV : Boxed V (w.heap.size + 1) 25 (.int .i64 0) := (hbV.block _ hF).trans bF1
    have e0 := bFV.cell
    have HB := Lib.hid (hb01.trans (hbV.mono hb01.size))
    gi_wp2
    simp only [Exit.noGoto]
    refine ⟨by simp, .inl ⟨_, _, rfl, run_takeDeferred hK, ?_⟩⟩
    rw [hz]
    refine ⟨.int .i64 0, ?_, rfl, HB.out.trans (below_put _ _ (by omega))⟩
    simp [results, Tryz.f76, go_sem]
  case stop =>
    rintro D cd V hD ⟨rfl, bF, hO⟩ hK
    have e0 := bF.cell
    have HB := Lib.hid (hb01.trans (hO.below (B := w.heap.size) (fun k hk => by omega) hb01.size))
    gi_wp2
    simp only [Exit.noGoto]
    refine ⟨by simp, .inl ⟨_, _, rfl, run_takeDeferred hK, ?_⟩⟩
    refine ⟨.int .i64 (chk v k i c), ?_, rfl, HB.out.trans (below_put _ _ (by omega))⟩
    simp [results, Tryz.f76, go_sem]
end Go.Proofs.YtfdbcfkjablnkaaGreat

namespace Go.Proofs.YtfdbcfkjablnkaaGreat
open Go.RowKit
set_option maxRecDepth 100000

theorem ret_boolM {a b : Bool} (h : a = b) : Ending.returned (.bool a) = Ending.returned (.bool b) := by rw [h]
/-- whether two heads are alike but for the index -/
def mateZ (v k s c v' k' s' c' : Int) : Bool := decide (v = v' ∧ k = k' ∧ s = s' ∧ c = c')
theorem mates_any (v k s i c v' k' s' i' c' : Int) (w : World) :
    Calls Tryz.prog 98 #[hdV v k s i c, hdV v' k' s' i' c'] w fun e w' => e = .returned (.bool (mateZ v k s c v' k' s' c')) ∧ Below w.heap.size w w' := by
  unfold hdV
  go_enter Tryz.func98, Tryz.ntmps98
  go_wp2
  all_goals
    go_ret
    exact ⟨ret_boolM (by simp [mateZ, *]), ((Below.refl _ w).alloc (Nat.le_refl _) _).alloc (by simp) _⟩
end Go.Proofs.YtfdbcfkjablnkaaGreat

namespace Go.Proofs.YtfdbcfkjablnkaaGreat
open Go.RowKit
set_option maxRecDepth 100000

def Pl.ct (p : Pl) : Nat × List Int := (p.i, p.zs)
/-- an element's bytes lie in a row that has nothing else in it -/
structure PayAt (w : World) (p : Pl) : Prop where
  room : p.zs.length ≤ p.cp
  ne : p.zs ≠ []
  byte : Bytes p.zs
  row : ∃ g cs, p.a = some ⟨g, 0, none⟩ ∧ w.heap[g]? = some (.cells cs 5 (0, 0)) ∧ ∀ (j : Nat) (c : Int), p.zs[j]? = some c → cs[j]? = some (.int .u8 c)
section
variable {w w' : World} {p : Pl}
theorem PayAt.nums (h : PayAt w p) : Nums .u8 w w.heap.size p.a p.zs := fun _ => by
  obtain ⟨g, cs, e, hg, hc⟩ := h.row
  exact ⟨g, 0, e, (Array.getElem?_eq_some_iff.1 hg).1, fun j c hj => by rw [Nat.zero_add, cell_of_row w g j cs _ _ hg]; exact hc j c hj⟩
theorem PayAt.off {S : Nat → Prop} (h : PayAt w p) (hf : Off S w w') (hS : ∀ g cs, w.heap[g]? = some (.cells cs 5 (0, 0)) → ¬ S g) : PayAt w' p := by
  obtain ⟨g, cs, e, hg, hc⟩ := h.row
  exact ⟨h.room, h.ne, h.byte, g, cs, e, (hf.block g (Array.getElem?_eq_some_iff.1 hg).1 (hS g cs hg)).trans hg, hc⟩
theorem PayAt.below (h : PayAt w p) (hb : Below w.heap.size w w') : PayAt w' p := h.off (Off.of_below (S := fun _ => False) hb) fun _ _ _ h => h
end

/-- block b is a slot, its map in block m -/
structure SlotAt (w : World) (b m : Nat) (v k s c : Int) (E : List Pl) : Prop where
  row : w.heap[b]? = some (.cells #[.int .i64 v, .int .i64 k, .int .u32 s, .int .i64 0, .int .i64 c, .map (some m)] 147 (0, 0))
  map : MapAt w m E
  pays : ∀ p ∈ E, PayAt w p
  few : ∀ p ∈ E, (p.i : Int) < c
  good : chk v k 0 c = 0
  most : Sl.tot (E.map Pl.ct) ≤ 192
  word : 0 ≤ s ∧ s ≤ 4294967295
section
variable {w w' : World} {b m : Nat} {v k s c : Int} {E : List Pl}
theorem SlotAt.size (h : SlotAt w b m v k s c E) : b < w.heap.size := (Array.getElem?_eq_some_iff.1 h.row).1
theorem SlotAt.off {S : Nat → Prop} (h : SlotAt w b m v k s c E) (hf : Off S w w') (h1 : ¬ S b) (h2 : ¬ S m) (hS : ∀ g cs, w.heap[g]? = some (.cells cs 5 (0, 0)) → ¬ S g) : SlotAt w' b m v k s c E :=
  ⟨(hf.block b h.size h1).trans h.row, h.map.off hf h2, fun p hp => (h.pays p hp).off hf hS, h.few, h.good, h.most, h.word⟩
theorem SlotAt.below (h : SlotAt w b m v k s c E) (hb : Below w.heap.size w w') : SlotAt w' b m v k s c E := h.off (Off.of_below (S := fun _ => False) hb) (fun h => h) (fun h => h) fun _ _ _ h => h
theorem SlotAt.cells (h : SlotAt w b m v k s c E) : w.cell? ⟨b, 0, none⟩ = some (.int .i64 v) ∧ w.cell? ⟨b, 1, none⟩ = some (.int .i64 k) ∧ w.cell? ⟨b, 2, none⟩ = some (.int .u32 s) ∧ w.cell? ⟨b, 3, none⟩ = some (.int .i64 0) ∧ w.cell? ⟨b, 4, none⟩ = some (.int .i64 c) ∧ w.cell? ⟨b, 5, none⟩ = some (.map (some m)) := by
  have := h.row
  refine ⟨?_, ?_, ?_, ?_, ?_, ?_⟩ <;> simp [World.cell?, this]
theorem SlotAt.keys (h : SlotAt w b m v k s c E) : Sl.Keys (E.map Pl.ct) := by
  have := h.map.keys.1
  unfold Sl.Keys
  rw [List.map_map]
  exact this
theorem SlotAt.count (h : SlotAt w b m v k s c E) : ∃ n : Nat, c = (n : Int) ∧ 1 ≤ n ∧ n ≤ 255 ∧ E.length ≤ n ∧ ∀ p ∈ E, p.i < n := by
  obtain ⟨_, _, _, c1, c2, _⟩ := chk_zero h.good
  obtain ⟨n, rfl⟩ := Int.eq_ofNat_of_zero_le (a := c) (by omega)
  have hf : ∀ p ∈ E, p.i < n := fun p hp => by have := h.few p hp; omega
  refine ⟨n, rfl, by omega, by omega, ?_, hf⟩
  have := nodup_few n (E.map Pl.i) h.map.keys.1 fun x hx => by
    obtain ⟨p, hp, rfl⟩ := List.mem_map.1 hx
    exact hf p hp
  simpa using this
theorem Pl.has_ct (E : List Pl) (i : Nat) : Sl.has (E.map Pl.ct) i = (Pl.at E i).isSome := by
  cases h : Pl.at E i with
  | none =>
    have := Pl.at_none.1 h
    cases h2 : Sl.has (E.map Pl.ct) i with
    | false => rfl
    | true =>
      obtain ⟨p, hp, e⟩ := List.any_eq_true.1 h2
      obtain ⟨q, hq, rfl⟩ := List.mem_map.1 hp
      exact absurd (by simpa [Pl.ct] using e) (this q hq)
  | some p =>
    obtain ⟨hp, rfl⟩ := Pl.at_mem h
    exact Sl.has_mem (List.mem_map.2 ⟨p, hp, rfl⟩)
theorem Pl.at_ct {E : List Pl} (hk : (E.map Pl.i).Nodup) (i : Nat) : Sl.at' (E.map Pl.ct) i = ((Pl.at E i).map Pl.zs).getD [] := by
  cases h : Pl.at E i with
  | none => exact Sl.at_none (by rw [Pl.has_ct, h]; rfl)
  | some p =>
    obtain ⟨hp, rfl⟩ := Pl.at_mem h
    exact Sl.at_mem (by unfold Sl.Keys; rw [List.map_map]; exact hk) (List.mem_map.2 ⟨p, hp, rfl⟩)

theorem shead_any (h : SlotAt w b m v k s c E) : Calls Tryz.prog 92 #[.pointer (some ⟨b, 0, none⟩)] w fun e w' => e = .returned (hdV v k s 0 c) ∧ Below w.heap.size w w' := by
  obtain ⟨c0, c1, c2, c3, c4, c5⟩ := h.cells
  have hlt := h.size
  clear h
  unfold hdV
  go_enter Tryz.func92, Tryz.ntmps92
  go_wp2
  generalize hW : w.alloc (Obj.cells #[Value.int .i64 v, Value.int .i64 k, Value.int .u32 s, Value.int .i64 0, Value.int .i64 c] 39) = W
  have hh : W.heap[w.heap.size]? = some (.cells #[Value.int .i64 v, Value.int .i64 k, Value.int .u32 s, Value.int .i64 0, Value.int .i64 c] 39 (0, 0)) := by rw [← hW]; exact World.alloc_heap_new _ _
  obtain ⟨d0, d1, d2, d3, d4⟩ := hd_block hh
  refine bodyPost_ret (by simp [results, Tryz.results92, go_sem, d0, d1, d2, d3, d4]; try rfl) rfl ?_
  exact ⟨rfl, by rw [← hW]; exact (Below.refl _ w).alloc (Nat.le_refl _) _⟩
theorem shave_any (h : SlotAt w b m v k s c E) : Calls Tryz.prog 93 #[.pointer (some ⟨b, 0, none⟩)] w fun e w' => e = .returned (.int .i64 (E.length : Int)) ∧ w' = w := by
  obtain ⟨c0, c1, c2, c3, c4, c5⟩ := h.cells
  have hlen := fun ty => h.map.run_len (P := Tryz.prog) (t := 145) Tryz.underlying145 ty
  clear h
  go_enter Tryz.func93, Tryz.ntmps93
  go_wp2
  go_ret
  exact ⟨rfl, rfl⟩
theorem shas_any (h : SlotAt w b m v k s c E) (i : Nat) (hi : i ≤ 255) : Calls Tryz.prog 99 #[.pointer (some ⟨b, 0, none⟩), .int .i64 (i : Int)] w fun e w' => e = .returned (.bool (Pl.at E i).isSome) ∧ w' = w := by
  obtain ⟨c0, c1, c2, c3, c4, c5⟩ := h.cells
  have hz : (zeroValue 40).run Tryz.prog w = .ok (.slice none 0 0) w := by kernel_rfl
  have hlook := h.map.run_look (P := Tryz.prog) (t := 145) true Tryz.underlying145 Tryz.underlying3 hz (i := i) (by omega)
  clear h hz
  cases hp : Pl.at E i with
  | none =>
    rw [hp] at hlook
    simp only [if_true] at hlook
    go_enter Tryz.func99, Tryz.ntmps99
    go_wp2
    go_ret
    exact ⟨rfl, rfl⟩
  | some p =>
    rw [hp] at hlook
    simp only [if_true, Pl.val] at hlook
    go_enter Tryz.func99, Tryz.ntmps99
    go_wp2
    go_ret
    exact ⟨rfl, rfl⟩
theorem squiet_of {f : FuncId} {args : Array Value} {w : World} {n : Nat} {v : Value} (h : Calls Tryz.prog f args (w.drewN n) fun e w' => e = .returned v ∧ w' = w.drewN n) : Calls Tryz.prog f args (w.drewN n) fun e w' => e = .returned v ∧ ∃ m, w' = w.drewN m :=
  h.mono fun _ _ h => ⟨h.1, n, h.2⟩
theorem sfull_any (h : SlotAt w b m v k s c E) : Calls Tryz.prog 94 #[.pointer (some ⟨b, 0, none⟩)] w fun e w' => e = .returned (.bool ((E.length : Int) == c)) ∧ ∃ d, w' = w.drewN d := by
  obtain ⟨c0, c1, c2, c3, c4, c5⟩ := h.cells
  have K : ∀ d, Calls Tryz.prog 93 #[.pointer (some ⟨b, 0, none⟩)] (w.drewN d) fun e w' => e = .returned (.int .i64 (E.length : Int)) ∧ w' = w.drewN d := fun d => shave_any (h.below (below_drewN (Below.refl _ _) d))
  clear h
  have HK := Lib.hid K
  clear K
  generalize E.length = n at *
  go_enter Tryz.func94, Tryz.ntmps94
  go_wp2
  go_quiet ((go_at_call 93; exact squiet_of (HK.out _)))
  go_wp2
  go_ret
  exact ⟨rfl, _, rfl⟩
end
/-! ### of nil -/
/-- a new slot -/
def SNewR (w : World) (v k s i c : Int) (e : Ending) (w' : World) : Prop :=
  (chk v k i c ≠ 0 ∧ e = .returned (.tuple #[.pointer none, .int .i64 (chk v k i c)]) ∧ Below w.heap.size w w') ∨
  (chk v k i c = 0 ∧ ∃ b m, e = .returned (.tuple #[.pointer (some ⟨b, 0, none⟩), .int .i64 0]) ∧ SlotAt w' b m v k s c [] ∧ Below w.heap.size w w' ∧ w.heap.size ≤ b ∧ w.heap.size ≤ m ∧ b ≠ m)
theorem snew_any13 (v k s i c : Int) (hs : 0 ≤ s ∧ s ≤ 4294967295) (w : World) : Calls Tryz.prog 48 #[hdV v k s i c] w (SNewR w v k s i c) := by
  have HC := Lib.hid (fun W => check_any v k s i c W)
  unfold hdV at *
  have hmm := @run_makeMap Tryz.prog
  by_cases h0 : chk v k i c = 0
  · have HG : Hid (∀ e w', (chk v k i c = 0 ∧ ∃ b m, e = .returned (.tuple #[.pointer (some ⟨b, 0, none⟩), .int .i64 0]) ∧ SlotAt w' b m v k s c [] ∧ Below w.heap.size w w' ∧ w.heap.size ≤ b ∧ w.heap.size ≤ m ∧ b ≠ m) → SNewR w v k s i c e w') := fun e w' h => .inr h
    have hgood : chk v k 0 c = 0 := by
      obtain ⟨h1, h2, h3, h4, h5, h6, h7⟩ := chk_zero h0
      unfold chk
      rw [if_neg (by omega), if_neg (by omega), if_neg (by omega)]
    have HGD := Lib.hid hgood
    have H0 := Lib.hid h0
    rw [h0] at HC HG
    generalize SNewR w v k s i c = G at *
    clear h0 hgood
    go_enter Tryz.func48, Tryz.ntmps48
    go_wp2_with fail
    refine (HC.out _).mono ?_
    rintro e w1 ⟨rfl, hb⟩
    have hh1 : w1.heap[w.heap.size]? = some (.cells #[.int .i64 v, .int .i64 k, .int .u32 s, .int .i64 i, .int .i64 c] 39 (0, 0)) := (hb.block _ (by simp)).trans (World.alloc_heap_new _ _)
    obtain ⟨d0, d1, d2, d3, d4⟩ := hd_block hh1
    have f3 : w1.frozen? ⟨w.heap.size, 3, none⟩ = false := by simp [World.frozen?, hh1]
    have hbw : Below w.heap.size w w1 := by
      have h2 := hb
      rw [World.size_alloc] at h2
      exact ((Below.refl _ w).alloc (Nat.le_refl _) _).trans (h2.mono (by omega))
    have HBW := Lib.hid hbw
    have HS := Lib.hid hb.size
    clear hb hbw hh1
    go_wp2
    refine HG.out (.returned (.tuple #[.pointer (some ⟨w1.heap.size + 1, 0, none⟩), .int .i64 0])) _ ⟨trivial, w1.heap.size + 1, w1.heap.size, rfl, ?_⟩
    have hs1 : w.heap.size + 1 ≤ w1.heap.size := by have := HS.out; rwa [World.size_alloc] at this
    have hb2 : Below w.heap.size w (w1.setCell ⟨w.heap.size, 3, none⟩ (.int .i64 0)) := HBW.out.setCell (p := ⟨w.heap.size, 3, none⟩) (Nat.le_refl _) _
    have hs2 : (w1.setCell ⟨w.heap.size, 3, none⟩ (.int .i64 0)).heap.size = w1.heap.size := by simp [World.setCell]
    generalize w1.setCell ⟨w.heap.size, 3, none⟩ (.int .i64 0) = W2 at *
    have hm := MapAt.new W2
    have hs3 : (W2.alloc (.map #[] 0)).heap.size = w1.heap.size + 1 := by rw [World.size_alloc, hs2]
    have hb3 : Below w.heap.size w (W2.alloc (.map #[] 0)) := hb2.alloc (by omega) _
    rw [hs2] at hm
    generalize W2.alloc (.map #[] 0) = W3 at *
    have hr := World.alloc_heap_new W3 (Obj.cells #[Value.int .i64 v, Value.int .i64 k, Value.int .u32 s, Value.int .i64 0, Value.int .i64 c, Value.map (some w1.heap.size)] 147)
    rw [hs3] at hr
    exact ⟨⟨hr, hm.below ((Below.refl _ W3).alloc (Nat.le_refl _) _), fun p hp => (by cases hp), fun p hp => (by cases hp), HGD.out, by simp [Sl.tot], hs⟩, hb3.alloc (by omega) _, by omega, by omega, by omega⟩
  · have HG : Hid (∀ e w', (chk v k i c ≠ 0 ∧ e = .returned (.tuple #[.pointer none, .int .i64 (chk v k i c)]) ∧ Below w.heap.size w w') → SNewR w v k s i c e w') := fun e w' h => .inl h
    generalize SNewR w v k s i c = G at *
    generalize chk v k i c = E at *
    go_enter Tryz.func48, Tryz.ntmps48
    go_wp2_with fail
    refine (HC.out _).mono ?_
    rintro e w1 ⟨rfl, hb⟩
    have hbw : Below w.heap.size w w1 := by
      have h2 := hb
      rw [World.size_alloc] at h2
      exact ((Below.refl _ w).alloc (Nat.le_refl _) _).trans (h2.mono (by omega))
    have HBW := Lib.hid hbw
    clear hb hbw
    go_wp2
    exact HG.out (.returned (.tuple #[.pointer none, .int .i64 E])) _ ⟨h0, rfl, HBW.out⟩
end Go.Proofs.YtfdbcfkjablnkaaGreat

namespace Go.Proofs.YtfdbcfkjablnkaaGreat
namespace Cr
def poly : Nat := 3988292384
def ones : Nat := 4294967295
/-- a word by one shift -/
def sh1 (n : Nat) : Nat := (n / 2) ^^^ (if n % 2 = 1 then poly else 0)
/-- .. by k shifts -/
def shn : Nat → Nat → Nat
  | 0, n => n
  | k + 1, n => shn k (sh1 n)
/-- the state behind bytes -/
def crc (s : Nat) (zs : List Int) : Nat := zs.foldl (fun s b => shn 8 (s ^^^ b.toNat)) s
/-- the sum of bytes -/
def sum (zs : List Int) : Nat := ones - crc ones zs
/-- a word's bytes, the lowest one first -/
def le4 (n : Nat) : List Int := [((n % 256 : Nat) : Int), ((n / 256 % 256 : Nat) : Int), ((n / 65536 % 256 : Nat) : Int), ((n / 16777216 % 256 : Nat) : Int)]

theorem xor_self (a : Nat) : a ^^^ a = 0 := Nat.xor_self a
theorem xor_div (a b k : Nat) : (a ^^^ b) / 2 ^ k = (a / 2 ^ k) ^^^ (b / 2 ^ k) := by
  rw [← Nat.shiftRight_eq_div_pow, ← Nat.shiftRight_eq_div_pow, ← Nat.shiftRight_eq_div_pow, Nat.shiftRight_xor_distrib]
theorem xor_mod (a b k : Nat) : (a ^^^ b) % 2 ^ k = (a % 2 ^ k) ^^^ (b % 2 ^ k) := Nat.xor_mod_two_pow
theorem xor_lt {a b : Nat} (k : Nat) (ha : a < 2 ^ k) (hb : b < 2 ^ k) : a ^^^ b < 2 ^ k := Nat.xor_lt_two_pow ha hb
theorem xor_left4 (a b c d : Nat) : (a ^^^ b) ^^^ (c ^^^ d) = (a ^^^ c) ^^^ (b ^^^ d) := by
  rw [Nat.xor_assoc, Nat.xor_assoc, ← Nat.xor_assoc b, Nat.xor_comm b, Nat.xor_assoc c]

theorem sh1_xor (a b : Nat) : sh1 (a ^^^ b) = sh1 a ^^^ sh1 b := by
  have h2 := xor_div a b 1
  have hm := xor_mod a b 1
  simp only [Nat.pow_one] at h2 hm
  unfold sh1
  rw [h2, xor_left4]
  congr 1
  rcases Nat.mod_two_eq_zero_or_one a with ha | ha <;> rcases Nat.mod_two_eq_zero_or_one b with hb | hb <;> simp [hm, ha, hb]
theorem sh1_two (y : Nat) : sh1 (y * 2) = y := by unfold sh1; simp
theorem sh1_lt {n : Nat} (h : n < 2 ^ 32) : sh1 n < 2 ^ 32 := by
  unfold sh1
  refine xor_lt 32 (by omega) ?_
  split <;> simp [poly]
theorem sh1_pos {n : Nat} (h0 : n ≠ 0) (h : n < 2 ^ 32) : sh1 n ≠ 0 := by
  unfold sh1
  split
  · intro e
    have e2 : n / 2 = poly := by
      have h2 := congrArg (· ^^^ poly) e
      simpa [Nat.xor_assoc] using h2
    rw [poly] at e2
    omega
  · simp; omega

theorem shn_add (a b n : Nat) : shn (a + b) n = shn b (shn a n) := by
  induction a generalizing n with
  | zero => simp [shn]
  | succ a ih => rw [Nat.succ_add]; simp only [shn]; exact ih _
theorem shn_xor (k a b : Nat) : shn k (a ^^^ b) = shn k a ^^^ shn k b := by
  induction k generalizing a b with
  | zero => rfl
  | succ k ih => simp only [shn]; rw [sh1_xor, ih]
theorem shn_pow (k y : Nat) : shn k (y * 2 ^ k) = y := by
  induction k generalizing y with
  | zero => simp [shn]
  | succ k ih => simp only [shn]; rw [Nat.pow_succ, ← Nat.mul_assoc, sh1_two, ih]
theorem shn_lt {n : Nat} (k : Nat) (h : n < 2 ^ 32) : shn k n < 2 ^ 32 := by
  induction k generalizing n with
  | zero => exact h
  | succ k ih => exact ih (sh1_lt h)
theorem shn_pos {n : Nat} (k : Nat) (h0 : n ≠ 0) (h : n < 2 ^ 32) : shn k n ≠ 0 := by
  induction k generalizing n with
  | zero => exact h0
  | succ k ih => exact ih (sh1_pos h0 h) (sh1_lt h)
theorem add_xor (a b k : Nat) (h : a < 2 ^ k) : a ^^^ (b * 2 ^ k) = b * 2 ^ k + a := by
  apply Nat.eq_of_testBit_eq
  intro i
  rw [Nat.testBit_xor, Nat.mul_comm b, Nat.testBit_two_pow_mul, Nat.testBit_two_pow_mul_add _ h]
  by_cases hi : i < k
  · have : ¬ k ≤ i := by omega
    simp [hi, this]
  · have h1 : k ≤ i := by omega
    have h2 : a.testBit i = false := Nat.testBit_lt_two_pow (Nat.lt_of_lt_of_le h (Nat.pow_le_pow_right (by omega) h1))
    simp [hi, h1, h2]
theorem split (k n : Nat) : (n % 2 ^ k) ^^^ ((n / 2 ^ k) * 2 ^ k) = n := by
  rw [add_xor _ _ _ (Nat.mod_lt _ (Nat.two_pow_pos k))]
  exact Nat.div_add_mod' n (2 ^ k)
theorem shn_split (k n : Nat) : shn k n = shn k (n % 2 ^ k) ^^^ (n / 2 ^ k) := by
  have h := congrArg (shn k) (split k n)
  rw [shn_xor, shn_pow] at h
  exact h.symm

/-- a step by the table -/
theorem step (s : Nat) (b : Nat) (hb : b < 256) : shn 8 (s ^^^ b) = shn 8 ((s % 256) ^^^ b) ^^^ (s / 256) := by
  have h := shn_split 8 (s ^^^ b)
  rw [xor_mod, xor_div] at h
  simp only [Nat.reducePow] at h
  rw [Nat.mod_eq_of_lt hb, Nat.div_eq_of_lt hb, Nat.xor_zero] at h
  exact h
/-- four bytes at a time -/
theorem four (s a b c d : Nat) : shn 8 (shn 8 (shn 8 (shn 8 (s ^^^ a) ^^^ b) ^^^ c) ^^^ d) = shn 32 (s ^^^ (a ^^^ (b * 256) ^^^ (c * 65536) ^^^ (d * 16777216))) := by
  have hb : shn 8 b = shn 16 (b * 256) := by rw [show (16 : Nat) = 8 + 8 from rfl, shn_add, shn_pow 8 b]
  have hc : shn 8 c = shn 24 (c * 65536) := by rw [show (24 : Nat) = 16 + 8 from rfl, shn_add, shn_pow 16 c]
  have hd : shn 8 d = shn 32 (d * 16777216) := by rw [show (32 : Nat) = 24 + 8 from rfl, shn_add, shn_pow 24 d]
  rw [shn_xor 8 _ d, hd, shn_xor 8 _ c, hc, shn_xor 8 _ b, hb]
  simp only [← shn_add, shn_xor 8, Nat.reduceAdd]
  simp only [← shn_xor, Nat.xor_assoc]
theorem tables (x : Nat) : shn 32 x = shn 32 (x % 256) ^^^ shn 24 (x / 256 % 256) ^^^ shn 16 (x / 65536 % 256) ^^^ shn 8 (x / 16777216 % 256) ^^^ (x / 4294967296) := by
  have h1 := shn_split 8 x
  have h2 := shn_split 8 (x / 256)
  have h3 := shn_split 8 (x / 65536)
  have h4 := shn_split 8 (x / 16777216)
  simp only [Nat.reducePow, Nat.div_div_eq_div_mul, Nat.reduceMul] at h1 h2 h3 h4
  have e1 : shn 32 x = shn 32 (x % 256) ^^^ shn 24 (x / 256) := by
    rw [show (32 : Nat) = 8 + 24 from rfl, shn_add, h1, shn_xor, ← shn_add]
  have e2 : shn 24 (x / 256) = shn 24 (x / 256 % 256) ^^^ shn 16 (x / 65536) := by
    rw [show (24 : Nat) = 8 + 16 from rfl, shn_add, h2, shn_xor, ← shn_add]
  have e3 : shn 16 (x / 65536) = shn 16 (x / 65536 % 256) ^^^ shn 8 (x / 16777216) := by
    rw [show (16 : Nat) = 8 + 8 from rfl, shn_add, h3, shn_xor, ← shn_add]
  rw [e1, e2, e3, h4]
  simp only [Nat.xor_assoc]

theorem crc_nil (s : Nat) : crc s [] = s := rfl
theorem crc_cons (s : Nat) (b : Int) (zs : List Int) : crc s (b :: zs) = crc (shn 8 (s ^^^ b.toNat)) zs := rfl
theorem crc_append (s : Nat) (x y : List Int) : crc s (x ++ y) = crc (crc s x) y := by simp [crc]
theorem byte_xor_lt {s : Nat} {b : Nat} (hs : s < 2 ^ 32) (hb : b < 256) : s ^^^ b < 2 ^ 32 := xor_lt 32 hs (by omega)
theorem crc_lt {s : Nat} {zs : List Int} (hs : s < 2 ^ 32) (hz : ∀ z ∈ zs, z < 256) : crc s zs < 2 ^ 32 := by
  induction zs generalizing s with
  | nil => exact hs
  | cons b zs ih =>
    rw [crc_cons]
    refine ih (shn_lt 8 (byte_xor_lt hs ?_)) (fun z h => hz z (List.mem_cons_of_mem _ h))
    have := hz b (List.mem_cons_self ..)
    omega
theorem not_xor {s : Nat} (h : s < 2 ^ 32) : ones - s = s ^^^ ones := by
  have hx := congrArg BitVec.toNat (BitVec.xor_allOnes (x := BitVec.ofNat 32 s))
  rw [BitVec.toNat_xor, BitVec.toNat_not, BitVec.toNat_allOnes, BitVec.toNat_ofNat, Nat.mod_eq_of_lt h] at hx
  simp only [ones]
  rw [show (4294967295 : Nat) = 2 ^ 32 - 1 from rfl, hx]
theorem ones_lt : ones < 2 ^ 32 := by decide
theorem sum_lt (zs : List Int) : sum zs < 2 ^ 32 := by unfold sum ones; omega

/-! ### turned bits -/
theorem le4_crc (s c : Nat) (hc : c < 2 ^ 32) : crc s (le4 c) = shn 32 (s ^^^ c) := by
  simp only [le4, crc_cons, crc_nil, Int.toNat_natCast]
  rw [four]
  congr 2
  have h1 := split 8 c
  have h2 := split 8 (c / 256)
  have h3 := split 8 (c / 65536)
  simp only [Nat.reducePow] at h1 h2 h3
  have a1 := add_xor (c % 256) (c / 256 % 256) 8 (Nat.mod_lt _ (by decide))
  have a2 := add_xor (c / 256 % 256 * 256 + c % 256) (c / 65536 % 256) 16 (by simp only [Nat.reducePow]; omega)
  have a3 := add_xor (c / 65536 % 256 * 65536 + (c / 256 % 256 * 256 + c % 256)) (c / 16777216 % 256) 24 (by simp only [Nat.reducePow]; omega)
  simp only [Nat.reducePow] at a1 a2 a3
  rw [a1, a2, a3]
  omega
theorem sum_xor (zs : List Int) (hz : ∀ z ∈ zs, z < 256) : sum zs = crc ones zs ^^^ ones := not_xor (crc_lt ones_lt hz)
/-- the state behind sealed bytes is always one -/
theorem sealed (zs : List Int) (hz : ∀ z ∈ zs, z < 256) : crc ones (zs ++ le4 (sum zs)) = shn 32 ones := by
  rw [crc_append, le4_crc _ _ (sum_lt zs), sum_xor zs hz, ← Nat.xor_assoc, Nat.xor_self, Nat.zero_xor]
theorem turned {zs cur : List Int} {M t : Nat} (hz : ∀ z ∈ zs, z < 256) (ht : t ≠ 0) (ht2 : t < 2 ^ 32) (h : crc ones cur = crc ones (zs ++ le4 (sum zs)) ^^^ shn M t) (xs : List Int) (hx : ∀ z ∈ xs, z < 256) : xs ++ le4 (sum xs) ≠ cur := by
  intro e
  rw [← e, sealed xs hx, sealed zs hz] at h
  have h2 := congrArg (shn 32 ones ^^^ ·) h
  simp only [← Nat.xor_assoc, Nat.xor_self, Nat.zero_xor] at h2
  exact shn_pos M ht ht2 h2.symm
end Cr
end Go.Proofs.YtfdbcfkjablnkaaGreat

namespace Go.Proofs.YtfdbcfkjablnkaaGreat
open Go.RowKit
set_option maxRecDepth 100000

/-- the table lies in block b, below B -/
def TabAt (w : World) (B b : Nat) : Prop := b < B ∧ ∀ k i : Nat, k < 4 → i < 256 → w.cell? ⟨b, k * 256 + i, none⟩ = some (.int .u32 ((Cr.shn (8 * (k + 1)) i : Nat) : Int))
theorem TabAt.below {w w' : World} {B b : Nat} (h : TabAt w B b) (hb : Below B w w') : TabAt w' B b := ⟨h.1, fun k i hk hi => (hb.cell (p := ⟨b, k * 256 + i, none⟩) h.1).trans (h.2 k i hk hi)⟩
theorem TabAt.mono {w : World} {B B' b : Nat} (h : TabAt w B b) (hB : B ≤ B') : TabAt w B' b := ⟨Nat.lt_of_lt_of_le h.1 hB, h.2⟩
end Go.Proofs.YtfdbcfkjablnkaaGreat

namespace Go.Proofs.YtfdbcfkjablnkaaGreat
open Go.RowKit
set_option maxRecDepth 100000

/-- what of the table is told: the columns below i, and of column i the rows below k -/
def TabTo (cs : Array Value) (i k : Nat) : Prop := cs.size = 1024 ∧ ∀ k' i' : Nat, k' < 4 → i' < 256 → (i' < i ∨ (i' = i ∧ k' < k)) → cs[k' * 256 + i']? = some (.int .u32 ((Cr.shn (8 * (k' + 1)) i' : Nat) : Int))
theorem TabTo.next {cs : Array Value} {i k : Nat} (h : TabTo cs i k) (hk : k < 4) (hi : i < 256) : TabTo (cs.setIfInBounds (k * 256 + i) (.int .u32 ((Cr.shn (8 * (k + 1)) i : Nat) : Int))) i (k + 1) := by
  refine ⟨by simp [h.1], fun k' i' hk' hi' hd => ?_⟩
  rw [Array.getElem?_setIfInBounds]
  by_cases he : k * 256 + i = k' * 256 + i'
  · have e1 : k = k' := by omega
    have e2 : i = i' := by omega
    subst e1 e2
    rw [if_pos rfl, if_pos (by rw [h.1]; omega)]
  · rw [if_neg he]
    exact h.2 k' i' hk' hi' (by omega)
end Go.Proofs.YtfdbcfkjablnkaaGreat

namespace Go.Proofs.YtfdbcfkjablnkaaGreat
open Go.RowKit Go.Shelf
set_option maxRecDepth 100000
attribute [local go_sem] Oper.semAt_some

/-- a frame as a value -/
def frC (v k s i c : Int) (p : Value) : Array Value := #[.int .i64 v, .int .i64 k, .int .u32 s, .int .i64 i, .int .i64 c, p]
def frV (v k s i c : Int) (p : Value) : Value := .agg (frC v k s i c p)
/-- a codec lies there, and its table -/
def CodAt (w : World) (B b : Nat) : Prop := ∃ t, b < B ∧ w.cell? ⟨b, 0, none⟩ = some (.pointer (some ⟨t, 0, none⟩)) ∧ TabAt w B t
theorem CodAt.below {w w' : World} {B b : Nat} (h : CodAt w B b) (hb : Below B w w') : CodAt w' B b := by
  obtain ⟨t, h1, h2, h3⟩ := h
  exact ⟨t, h1, (hb.cell (p := ⟨b, 0, none⟩) h1).trans h2, h3.below hb⟩
theorem CodAt.mono {w : World} {B B' b : Nat} (h : CodAt w B b) (hB : B ≤ B') : CodAt w B' b := by
  obtain ⟨t, h1, h2, h3⟩ := h
  exact ⟨t, by omega, h2, h3.mono hB⟩

/-- what Check tells -/
def fchk (v k i c : Int) (n : Nat) : Int := if chk v k i c ≠ 0 then chk v k i c else if n = 0 then 13 else if 242 < n then 2 else 0
theorem fr_block {W : World} {b : Nat} {v k s i c : Int} {p : Value} {t : TypeId} (h : W.heap[b]? = some (.cells (frC v k s i c p) t (0, 0))) :
    W.cell? ⟨b, 0, none⟩ = some (.int .i64 v) ∧ W.cell? ⟨b, 1, none⟩ = some (.int .i64 k) ∧ W.cell? ⟨b, 2, none⟩ = some (.int .u32 s) ∧ W.cell? ⟨b, 3, none⟩ = some (.int .i64 i) ∧ W.cell? ⟨b, 4, none⟩ = some (.int .i64 c) ∧ W.cell? ⟨b, 5, none⟩ = some p := by
  simp [World.cell?, h, frC]
end Go.Proofs.YtfdbcfkjablnkaaGreat

namespace Go.Proofs.YtfdbcfkjablnkaaGreat
open Go.RowKit
set_option maxRecDepth 100000
theorem byteInfo : (Tryz.prog.info? 5).map (fun i => (i.zero, i.size, i.bytes)) = some (some (.int .u8 0), 1, 1) := by kernel_rfl
end Go.Proofs.YtfdbcfkjablnkaaGreat

namespace Go.Proofs.YtfdbcfkjablnkaaGreat
open Go.RowKit

theorem wpList_append_any {P : Program} {w : World} {ops : Array Oper} {rest : List Oper} {o : Oper} {a : Act} {Q : Exit → Act → World → Prop} (hwt : Region.wanted o (yielded ops a.tmps) = true) (s x : Operand) (t : TypeId)
    (ho : o.op = .call { callee := .builtin .append, args := #[s, x], argTypes := #[t, t] })
    (base : Nat) (e : TypeId) (i : TypeInfo) (z : Value) (bytes : Nat) (ht : P.underlying t = some (.slice e)) (hi : P.info? e = some i) (hz : i.zero = some z) (hsize : i.size = 1) (hby : i.bytes = bytes) (hzs : z.cells.size = 1)
    (k : IntKind) (L zs : List Int) (v : Value) (hs : a.eval s = v) (hown : w.ownsRow base e 1 v L.length (L.map (Value.int k))) (A : Option Addr) (m c B : Nat) (hx : a.eval x = .slice A m c) (hm : zs.length = m) (hn : Nums k w B A zs)
    (h63 : L.length + m ≤ maxLen) (hbytes : (L.length + m) * bytes ≤ 140737488355328) (hbase : base ≤ w.heap.size)
    (h : ∀ v' w', w'.ownsRow base e 1 v' (L.length + zs.length) (L.map (Value.int k) ++ zs.map (Value.int k)) → w.grownBy w' v.ownBlock → wpList P ops Q rest (a.put o.dst v') w') : wpList P ops Q (o :: rest) a w := by
  subst hm
  simp only [wpList, hwt, if_true]
  left
  by_cases hz0 : zs = []
  · subst hz0
    have hv : ∃ b n cap, v = .slice b n cap ∧ n ≤ cap := by
      rcases hown.2 with ⟨rfl, _⟩ | ⟨g, cap, cur, rfl, _, _, hle, _⟩
      · exact ⟨_, _, _, rfl, Nat.le_refl _⟩
      · exact ⟨_, _, _, rfl, hle⟩
    obtain ⟨b, n, cap, rfl, hle⟩ := hv
    refine Lib.wp_append_run w s x t t ho _ _ hs hx _ w (run_append_nothing w t t o.type e i ht hi b n cap hle _ ?_) (h _ _ (by simpa using hown) ⟨rfl, rfl, rfl, Nat.le_refl _, fun _ _ _ => rfl⟩)
    cases A with
    | none => exact ⟨.inl ⟨e, ht⟩, fun _ => rfl, run_firstCells_none w i.size 0 0 c, run_firstCells_none w.drew i.size 0 0 c, by simp, fun _ h => by cases h⟩
    | some ad => exact Src.ofSlice w ht ad 0 c [] (by simp) (by simp) (fun _ h => by cases h)
  · obtain ⟨b1, o1, rfl, hb1, hc⟩ := hn hz0
    refine wp_append_own w s x t ho base e i z 1 bytes ht hi hz hsize hby hzs (by decide) v L.length _ hs hown ⟨b1, o1, none⟩ zs.length c (zs.map (Value.int k)) hx (by simp) (fun j u hj => ?_) (fun u hu => by obtain ⟨y, _, rfl⟩ := List.mem_map.1 hu; rfl) h63 hbytes hbase fun v' w' h1 h2 _ => h v' w' h1 h2
    rw [List.getElem?_map] at hj
    obtain ⟨y, hy, rfl⟩ := Option.map_eq_some_iff.1 hj
    rw [Addr.add_lit]
    exact hc j y hy

section
variable {e : TypeId} {k : IntKind} {w w1 w2 : World} {L zs : List Int} {v v' : Value}
theorem MadeK.more (h : MadeK e k w w1 L v) (hown : w2.ownsRow w.heap.size e 1 v' (L.length + zs.length) (L.map (Value.int k) ++ zs.map (Value.int k))) (hg : w1.grownBy w2 v.ownBlock) : MadeK e k w w2 (L ++ zs) v' :=
  ⟨by simpa using hown, h.2.grown hg (by have := h.2.size; omega) (fun g hk => (h.own_ge hk).1)⟩
/-- an empty literal -/
theorem MadeK.lit (e : TypeId) (k : IntKind) (h : Below w.heap.size w w1) : MadeK e k w (w1.alloc (.cells #[] e)) [] (.slice (some ⟨w1.heap.size, 0, none⟩) 0 0) :=
  ⟨World.ownsRow_made w1 #[] 0 h.size (Nat.zero_le _) rfl, h.alloc h.size _⟩
/-- a store elsewhere, above -/
theorem MadeK.store {q : Addr} (h : MadeK e k w w1 L v) (hq : ∀ g, v.ownBlock = some g → g ≠ q.block) (hw : w.heap.size ≤ q.block) (u : Value) : MadeK e k w (w1.setCell q u) L v := by
  refine ⟨h.1.kept (row := some q.block) ⟨rfl, rfl, rfl, by simp [World.setCell], fun j _ hj => Below.heap_setCell _ _ _ _ (fun e => hj (by rw [e]))⟩ ?_, h.2.setCell hw u⟩
  right
  intro he
  exact hq _ he rfl
theorem MadeK.since {w0 : World} (h : MadeK e k w w1 L v) (hb : Below w0.heap.size w0 w) : MadeK e k w0 w1 L v := by
  have hs := hb.size
  refine ⟨⟨h.1.1, ?_⟩, hb.trans (h.2.mono hs)⟩
  rcases h.1.2 with h | ⟨g, cap, cur, hv, hg, rest⟩
  · exact .inl h
  · exact .inr ⟨g, cap, cur, hv, by omega, rest⟩
end
end Go.Proofs.YtfdbcfkjablnkaaGreat

namespace Go.Proofs.YtfdbcfkjablnkaaGreat
open Go.RowKit

theorem run_append_any {P : Program} {w : World} (t ty : TypeId) (base : Nat) (e : TypeId) (i : TypeInfo) (z : Value) (bytes : Nat) (ht : P.underlying t = some (.slice e)) (hi : P.info? e = some i) (hz : i.zero = some z) (hsize : i.size = 1) (hby : i.bytes = bytes) (hzs : z.cells.size = 1)
    (k : IntKind) (n : Nat) (xs : List Value) (zs : List Int) (v : Value) (hown : w.ownsRow base e 1 v n xs) (A : Option Addr) (m c B : Nat) (hm : zs.length = m) (hn : Nums k w B A zs)
    (h63 : n + m ≤ maxLen) (hbytes : (n + m) * bytes ≤ 140737488355328) (hbase : base ≤ w.heap.size) :
    ∃ v' w', (Builtin.append_ #[t, t] ty #[v, .slice A m c]).run P w = .ok v' w' ∧ w'.ownsRow base e 1 v' (n + m) (xs ++ zs.map (Value.int k)) ∧ w.grownBy w' v.ownBlock := by
  subst hm
  by_cases hz0 : zs = []
  · subst hz0
    have hv : ∃ b n cap, v = .slice b n cap ∧ n ≤ cap := by
      rcases hown.2 with ⟨rfl, _⟩ | ⟨g, cap, cur, rfl, _, _, hle, _⟩
      · exact ⟨_, _, _, rfl, Nat.le_refl _⟩
      · exact ⟨_, _, _, rfl, hle⟩
    obtain ⟨b, q, cap, rfl, hle⟩ := hv
    refine ⟨_, _, run_append_nothing w t t ty e i ht hi b q cap hle _ ?_, by simpa using hown, ⟨rfl, rfl, rfl, Nat.le_refl _, fun _ _ _ => rfl⟩⟩
    cases A with
    | none => exact ⟨.inl ⟨e, ht⟩, fun _ => rfl, run_firstCells_none w i.size 0 0 c, run_firstCells_none w.drew i.size 0 0 c, by simp, fun _ h => by cases h⟩
    | some ad => exact Src.ofSlice w ht ad 0 c [] (by simp) (by simp) (fun _ h => by cases h)
  · obtain ⟨b1, o1, rfl, hb1, hc⟩ := hn hz0
    obtain ⟨v', w', h1, h2, h3, _⟩ := run_append_own (P := P) w base t ty e i z 1 bytes ht hi hz hsize hby hzs (by decide) v n xs hown ⟨b1, o1, none⟩ zs.length c (zs.map (Value.int k)) (by simp) (fun j u hj => by
      rw [List.getElem?_map] at hj
      obtain ⟨y, hy, rfl⟩ := Option.map_eq_some_iff.1 hj
      rw [Addr.add_lit]
      exact hc j y hy) (fun u hu => by obtain ⟨y, _, rfl⟩ := List.mem_map.1 hu; rfl) h63 hbytes hbase
    exact ⟨v', w', h1, h2, h3⟩

theorem wpListIn_append_any {F : Fence} {nF : Nat} {P : Program} {w : World} {ops : Array Oper} {rest : List Oper} {o : Oper} {a : Act} {Q : Exit → Act → World → Prop} (hg : o.guard = none) (s x : Operand) (t : TypeId)
    (hop : o.op = Op.call { callee := Callee.builtin Builtin.append, args := #[s, x], argTypes := #[t, t] })
    (base : Nat) (e : TypeId) (i : TypeInfo) (z : Value) (bytes : Nat) (ht : P.underlying t = some (.slice e)) (hi : P.info? e = some i) (hz : i.zero = some z) (hsize : i.size = 1) (hby : i.bytes = bytes) (hzs : z.cells.size = 1)
    (k : IntKind) (n : Nat) (xs : List Value) (zs : List Int) (v : Value) (hs : a.eval s = v) (hown : w.ownsRow base e 1 v n xs) (A : Option Addr) (m c B : Nat) (hx : a.eval x = .slice A m c) (hm : zs.length = m) (hn : Nums k w B A zs)
    (h63 : n + m ≤ maxLen) (hbytes : (n + m) * bytes ≤ 140737488355328) (hbase : base ≤ w.heap.size)
    (hK : ∀ v' w', w'.ownsRow base e 1 v' (n + m) (xs ++ zs.map (Value.int k)) → w.grownBy w' v.ownBlock → wpListIn F nF P ops Q rest (a.put o.dst v') w') :
    wpListIn F nF P ops Q (o :: rest) a w := by
  refine wpListIn_plain hg fun K hK' => ?_
  obtain ⟨v', w', hrun, r1, r2⟩ := run_append_any (P := P) (w := w) t o.type base e i z bytes ht hi hz hsize hby hzs k n xs zs v hown A m c B hm hn h63 hbytes hbase
  unfold Oper.wpIn
  refine ⟨?_, ?_⟩
  · simp [Oper.about, hop, resolve, Target.leads, Sem.run_pure]
  · rw [Oper.semAt_plain F _ _ (by rw [hop]; intro c hc'; cases hc')]
    simp [execOp, hop, resolve, invoke, builtin, hs, hx, hrun, Result.andThen]
    exact hK' _ _ (hK v' w' r1 r2)

/-- what has grown behind a new block has grown -/
theorem grown_of_alloc {W w1 : World} {o : Obj} {row : Option Nat} (h : (W.alloc o).grownBy w1 row) : W.grownBy w1 row :=
  ⟨h.os, h.tape, h.output, by have := h.size; rw [World.size_alloc] at this; omega, fun k hk hne => (h.block k (by rw [World.size_alloc]; omega) hne).trans (Below.heap_alloc W o k hk)⟩

end Go.Proofs.YtfdbcfkjablnkaaGreat

namespace Go.Proofs.YtfdbcfkjablnkaaGreat
open Go.RowKit Go.Shelf
set_option maxRecDepth 100000
attribute [local go_sem] Oper.semAt_some

/-- slices.Clone of bytes, up to the form's own reach -/
theorem clone_big (a : Option Addr) (n cap : Nat) (zs : List Int) (w : World) (hn : zs.length = n) (hl : n ≤ 140737488351232) (h1 : Nums .u8 w w.heap.size a zs) :
    Calls Tryz.prog 78 #[.slice a n cap] w fun e w' => ∃ v, e = .returned v ∧ MadeK 5 .u8 w w' zs v := by
  subst hn
  obtain ⟨i0, hi, hz0, hz1, hz2⟩ := info_parts byteInfo
  cases a with
  | none =>
    have : zs = [] := by
      apply Classical.byContradiction
      intro hn
      obtain ⟨b, off, e, _⟩ := h1 hn
      cases e
    subst this
    have hq := fun w => Lib.run_eql_slice_nil (P := Tryz.prog) w 40 5 none 0 cap 0 0 Tryz.underlying40
    go_enter Tryz.func78, Tryz.ntmps78
    go_wp2
    go_ret
    exact ⟨_, rfl, MadeK.nil _ _ (Below.refl _ _)⟩
  | some x =>
    have hq := fun w => Lib.run_eql_slice_nil (P := Tryz.prog) w 40 5 (some x) zs.length cap 0 0 Tryz.underlying40
    have HL := Lib.hid (MadeK.lit 5 .u8 (Below.refl w.heap.size w))
    have HN := Lib.hid (h1.below ((Below.refl w.heap.size w).alloc (Nat.le_refl _) (.cells #[] 5)))
    have HX1 : Hid (([] : List Int).length + zs.length ≤ maxLen) := by show _ ≤ _; unfold maxLen; simp only [List.length_nil]; omega
    have HX2 : Hid ((([] : List Int).length + zs.length) * 1 ≤ 140737488355328) := by show _ ≤ _; simp only [List.length_nil]; omega
    go_enter Tryz.func78, Tryz.ntmps78
    go_wp2_with (at_builtin; refine wpList_append_any rfl (.tmp 5) (.tmp 6) 40 rfl w.heap.size 5 i0 (.int .u8 0) 1 Tryz.underlying40 hi hz0 hz1 hz2 rfl .u8 [] zs _ rfl HL.out.1 _ _ _ _ rfl rfl HN.out HX1.out HX2.out HL.out.2.size ?_)
    intro v' w1 hown hg
    have HM := Lib.hid (HL.out.more (zs := zs) (v' := v') (by simpa using hown) hg)
    rw [List.nil_append] at HM
    go_wp2
    go_ret
    exact ⟨_, rfl, HM.out⟩
/-- slices.Clone of bytes -/
theorem clone_any (a : Option Addr) (n cap : Nat) (zs : List Int) (w : World) (hn : zs.length = n) (hl : n ≤ 1000000) (h1 : Nums .u8 w w.heap.size a zs) :
    Calls Tryz.prog 78 #[.slice a n cap] w fun e w' => ∃ v, e = .returned v ∧ MadeK 5 .u8 w w' zs v := clone_big a n cap zs w hn (by omega) h1
end Go.Proofs.YtfdbcfkjablnkaaGreat

namespace Go.Proofs.YtfdbcfkjablnkaaGreat
open Go.RowKit
section
variable {P : Program} {ops : Array Oper} {md : Region.Mode}

/-- it stands while memory grows -/
def Closed (I : World → Prop) : Prop := ∀ w w', I w → Below w.heap.size w w' → I w'
def calmUpon (P : Program) (w : World) (v : Value) : Result Next → Prop
  | .ok (.value u) w' => w' = w ∧ u = v
  | .ok .skip w' => w' = w ∧ v = undef
  | .ok (.enter f args) w' => w' = w ∧ Calls P f args w (fun e w'' => e = .returned v ∧ Below w.heap.size w w'')
  | _ => False
def srcUpon (P : Program) (F : Value → World → Prop) (w : World) : Result Next → Prop
  | .ok (.value u) w' => F u w' ∧ Below w.heap.size w w'
  | .ok (.enter f args) w' => w' = w ∧ Calls P f args w (fun e w'' => ∃ u, e = .returned u ∧ F u w'' ∧ Below w.heap.size w w'')
  | _ => False
/-- one value, in every world of the class -/
def CalmIn (P : Program) (ops : Array Oper) (I : World → Prop) (o : Oper) (v : Value) (a : Act) : Prop :=
  (Region.wanted o (yielded ops a.tmps) = true ∧ ∀ w, I w → calmUpon P w v ((execOp a.eval o).run P w)) ∨ (Region.wanted o (yielded ops a.tmps) = false ∧ v = undef)
theorem put_same {a : Act} {d : Tmp} (v : Value) (h : d < a.tmps.size) : (a.put (some d) v).tmps[d]? = some v := by simp [Act.put, h]
theorem put_other {a : Act} {x : Option Tmp} {d : Tmp} (v : Value) (h : x ≠ some d) : (a.put x v).tmps[d]? = a.tmps[d]? := by
  cases x with
  | none => rfl
  | some e =>
    have hne : e ≠ d := fun he => h (by rw [he])
    simp [Act.put, Array.getElem?_setIfInBounds_ne hne]
theorem put_size (a : Act) (x : Option Tmp) (v : Value) : (a.put x v).tmps.size = a.tmps.size := by cases x <;> simp [Act.put]
theorem put_defers (a : Act) (x : Option Tmp) (v : Value) : (a.put x v).defers = a.defers := by cases x <;> rfl
def fill : List Tmp → (Tmp → Value) → Act → Act
  | [], _, a => a
  | s :: r, xs, a => fill r xs (a.put (some s) (xs s))
theorem fill_size : ∀ (fs : List Tmp) (xs : Tmp → Value) (a : Act), (fill fs xs a).tmps.size = a.tmps.size ∧ (fill fs xs a).defers = a.defers
  | [], _, _ => ⟨rfl, rfl⟩
  | s :: r, xs, a => by
    obtain ⟨h1, h2⟩ := fill_size r xs (a.put (some s) (xs s))
    exact ⟨h1.trans (put_size ..), h2.trans (put_defers ..)⟩
theorem fill_out : ∀ (fs : List Tmp) (xs : Tmp → Value) (a : Act) (d : Tmp), d ∉ fs → (fill fs xs a).tmps[d]? = a.tmps[d]?
  | [], _, _, _, _ => rfl
  | s :: r, xs, a, d, h => by
    rw [List.mem_cons, not_or] at h
    exact (fill_out r xs _ d h.2).trans (put_other _ (by simpa using fun e => h.1 e.symm))
theorem fill_in : ∀ (fs : List Tmp) (xs : Tmp → Value) (a : Act) (d : Tmp), d ∈ fs → d < a.tmps.size → (fill fs xs a).tmps[d]? = some (xs d)
  | s :: r, xs, a, d, h, hlt => by
    by_cases hr : d ∈ r
    · exact fill_in r xs _ d hr (by rw [put_size]; exact hlt)
    · rcases List.mem_cons.1 h with rfl | h
      · exact (fill_out r xs _ d hr).trans (put_same _ hlt)
      · exact absurd h hr
/-- what is to be shown of one operation: it looks at no source; it is one; it looks at one; it is one and looks at others -/
def Ob (P : Program) (ops : Array Oper) (I : World → Prop) (fs : List Tmp) (FS : Tmp → Value → World → Prop) (o : Oper) (v : Value) (a : Act) : Prop :=
  ((∀ d ∈ o.looksAt ops, d ∉ fs) ∧ (∀ d, o.dst = some d → d ∉ fs) ∧ CalmIn P ops I o v a) ∨
  (∃ s, s ∈ fs ∧ o.dst = some s ∧ (∀ d ∈ o.looksAt ops, d ∉ fs) ∧ Region.wanted o (yielded ops a.tmps) = true ∧ ∀ w, I w → srcUpon P (FS s) w ((execOp a.eval o).run P w)) ∨
  (∃ s, s ∈ fs ∧ (∃ j, (ops[j]?).bind (·.dst) = some s ∧ o.after.any (fun e => Region.binds .any e && e.on == j) = true) ∧ (∀ d ∈ o.looksAt ops, d ∈ fs → d = s) ∧ (∀ d, o.dst = some d → d ∉ fs) ∧
    ∀ x w, I w → FS s x w → Region.wanted o (yielded ops (a.put (some s) x).tmps) = true ∧ calmUpon P w v ((execOp (a.put (some s) x).eval o).run P w)) ∨
  (∃ s R, s ∈ fs ∧ o.dst = some s ∧ (∀ r ∈ R, r ∈ fs ∧ ∃ j, (ops[j]?).bind (·.dst) = some r ∧ o.after.any (fun e => Region.binds .any e && e.on == j) = true) ∧ (∀ d ∈ o.looksAt ops, d ∈ fs → d ∈ R) ∧
    ∀ xs w, I w → (∀ r ∈ R, FS r (xs r) w) → Region.wanted o (yielded ops (fill R xs a).tmps) = true ∧ srcUpon P (FS s) w ((execOp (fill R xs a).eval o).run P w))
/-- the walk in the text's order -/
def wpF (P : Program) (ops : Array Oper) (I : World → Prop) (fs : List Tmp) (FS : Tmp → Value → World → Prop) (E : Act → Prop) : List Oper → Act → Prop
  | [], a => E a
  | o :: r, a => ∃ v, Ob P ops I fs FS o v a ∧ wpF P ops I fs FS E r (a.put o.dst v)
def lex : List Oper → List Value → Act → Nat → Act
  | o :: r, v :: vs, a, k + 1 => lex r vs (a.put o.dst v) k
  | _, _, a, _ => a
theorem lex_zero (l : List Oper) (vs : List Value) (a : Act) : lex l vs a 0 = a := by cases l <;> cases vs <;> rfl
section
variable {I : World → Prop} {fs : List Tmp} {FS : Tmp → Value → World → Prop} {E : Act → Prop}
theorem wpF_vals : ∀ (l : List Oper) (a : Act), wpF P ops I fs FS E l a → ∃ vs : List Value, vs.length = l.length ∧
    (∀ (k : Nat) o v, l[k]? = some o → vs[k]? = some v → Ob P ops I fs FS o v (lex l vs a k)) ∧ E (lex l vs a l.length)
  | [], a, h => ⟨[], rfl, by simp, h⟩
  | o :: r, a, ⟨v, hob, hr⟩ => by
    obtain ⟨vs, h1, h2, h3⟩ := wpF_vals r _ hr
    refine ⟨v :: vs, by simp [h1], fun k o' v' ho hv => ?_, h3⟩
    cases k with
    | zero =>
      simp only [List.getElem?_cons_zero, Option.some.injEq] at ho hv
      subst ho hv
      exact hob
    | succ k =>
      simp only [List.getElem?_cons_succ] at ho hv
      exact h2 k o' v' ho hv
end
theorem lex_size : ∀ (l : List Oper) (vs : List Value) (a : Act) (k : Nat), (lex l vs a k).tmps.size = a.tmps.size ∧ (lex l vs a k).defers = a.defers
  | o :: r, v :: vs, a, k + 1 => by
    obtain ⟨h1, h2⟩ := lex_size r vs (a.put o.dst v) k
    exact ⟨h1.trans (put_size ..), h2.trans (put_defers ..)⟩
  | [], _, _, _ => by simp [lex]
  | _ :: _, [], _, _ => by simp [lex]
  | _ :: _, _ :: _, _, 0 => by simp [lex]
theorem lex_out : ∀ (l : List Oper) (vs : List Value) (a : Act) (k : Nat) (d : Tmp), (∀ (j : Nat) o, l[j]? = some o → j < k → o.dst ≠ some d) → (lex l vs a k).tmps[d]? = a.tmps[d]?
  | o :: r, v :: vs, a, k + 1, d, h => by
    have h0 := h 0 o rfl (by omega)
    exact (lex_out r vs (a.put o.dst v) k d fun j o' hj hk => h (j + 1) o' (by simpa using hj) (by omega)).trans (put_other v h0)
  | [], _, _, _, _, _ => by simp [lex]
  | _ :: _, [], _, _, _, _ => by simp [lex]
  | _ :: _, _ :: _, _, 0, _, _ => by simp [lex]
theorem lex_in : ∀ (l : List Oper) (vs : List Value) (a : Act) (k j : Nat) (o : Oper) (d : Tmp) (v : Value), l[j]? = some o → j < k → vs[j]? = some v → o.dst = some d → d < a.tmps.size →
    (∀ (i : Nat) oi, l[i]? = some oi → i < k → i ≠ j → oi.dst ≠ some d) → (lex l vs a k).tmps[d]? = some v
  | o :: r, v :: vs, a, k + 1, 0, o', d, v', ho, _, hv, hd, hlt, hu => by
    simp only [List.getElem?_cons_zero, Option.some.injEq] at ho hv
    subst ho hv
    refine (lex_out r vs _ k d fun i oi hi hik => hu (i + 1) oi (by simpa using hi) (by omega) (by omega)).trans ?_
    rw [hd]
    exact put_same v hlt
  | o :: r, v :: vs, a, k + 1, j + 1, o', d, v', ho, hjk, hv, hd, hlt, hu => by
    simp only [List.getElem?_cons_succ] at ho hv
    exact lex_in r vs _ k j o' d v' ho (by omega) hv hd (by rw [put_size]; exact hlt) fun i oi hi hik hij => hu (i + 1) oi (by simpa using hi) (by omega) (by omega)
  | [], _, _, _, _, _, _, _, ho, _, _, _, _, _ => by simp at ho
  | _ :: _, [], _, _, _, _, _, _, _, _, hv, _, _, _ => by simp at hv
  | _ :: _, _ :: _, _, 0, _, _, _, _, _, hk, _, _, _, _ => by omega

/-- k waits for j -/
def seenB (md : Region.Mode) (ops : Array Oper) (k j : Nat) : Bool :=
  match ops[k]? with
  | some o => o.after.any fun e => Region.binds md e && e.on == j
  | none => false
/-- each operation waits for earlier ones alone; slots are written once; who looks at a slot waits for its writer, or the writer for him -/
def rgB (md : Region.Mode) (ops : Array Oper) (N : Nat) : Bool :=
  Region.noSelect ops && (List.range ops.size).all fun k =>
    match ops[k]? with
    | none => false
    | some o =>
      (match o.dst with | some d => decide (d < N) | none => true) && o.after.all (fun e => !Region.binds md e || decide (e.on < k)) &&
      (List.range ops.size).all fun j =>
        match ops[j]? with
        | none => false
        | some oj =>
          match oj.dst with
          | none => true
          | some d => (k == j || o.dst != some d) && (!(o.looksAt ops).contains d || (decide (j < k) && seenB md ops k j) || (decide (k < j) && seenB md ops j k))
structure RG (md : Region.Mode) (ops : Array Oper) (N : Nat) : Prop where
  sel : ∀ (j : Nat) (o : Oper) cs b, ops[j]? = some o → o.op ≠ .select cs b
  small : ∀ (k : Nat) o d, ops[k]? = some o → o.dst = some d → d < N
  back : ∀ (k : Nat) o, ops[k]? = some o → ∀ e ∈ o.after, Region.binds md e = true → e.on < k
  once : ∀ (k j : Nat) o oj d, ops[k]? = some o → ops[j]? = some oj → oj.dst = some d → k ≠ j → o.dst ≠ some d
  look : ∀ (k j : Nat) o oj d, ops[k]? = some o → ops[j]? = some oj → oj.dst = some d → d ∈ o.looksAt ops →
    (j < k ∧ ∃ e ∈ o.after, Region.binds md e = true ∧ e.on = j) ∨ (k < j ∧ ∃ e ∈ oj.after, Region.binds md e = true ∧ e.on = k)
theorem seenB_spec {k j : Nat} {o : Oper} (ho : ops[k]? = some o) (h : seenB md ops k j = true) : ∃ e ∈ o.after, Region.binds md e = true ∧ e.on = j := by
  simp only [seenB, ho] at h
  obtain ⟨e, he, hb⟩ := Array.any_eq_true'.1 h
  simp only [Bool.and_eq_true, beq_iff_eq] at hb
  exact ⟨e, he, hb.1, hb.2⟩
theorem rgB_spec {N : Nat} (h : rgB md ops N = true) : RG md ops N := by
  simp only [rgB, Bool.and_eq_true, List.all_eq_true, List.mem_range] at h
  obtain ⟨hs, h⟩ := h
  have at_ : ∀ (k : Nat) o, ops[k]? = some o → ((match o.dst with | some d => decide (d < N) | none => true) = true ∧ o.after.all (fun e => !Region.binds md e || decide (e.on < k)) = true) ∧
      ∀ (j : Nat) oj, ops[j]? = some oj → (match oj.dst with | none => true | some d => (k == j || o.dst != some d) && (!(o.looksAt ops).contains d || (decide (j < k) && seenB md ops k j) || (decide (k < j) && seenB md ops j k))) = true := fun k o ho => by
    have h1 := h k (Array.getElem?_eq_some_iff.1 ho).1
    simp only [ho, Bool.and_eq_true, List.all_eq_true, List.mem_range] at h1
    refine ⟨h1.1, fun j oj hj => ?_⟩
    have h2 := h1.2 j (Array.getElem?_eq_some_iff.1 hj).1
    simpa only [hj] using h2
  refine ⟨fun j o cs b hj => Region.noSelect_spec hs j o cs b hj, fun k o d ho hd => ?_, fun k o ho e he hb => ?_, fun k j o oj d ho hj hd hne => ?_, fun k j o oj d ho hj hd hl => ?_⟩
  · have := (at_ k o ho).1.1
    simpa [hd] using this
  · have := (at_ k o ho).1.2
    rw [Array.all_eq_true_iff_forall_mem] at this
    have := this e he
    simpa [hb] using this
  · have := (at_ k o ho).2 j oj hj
    simp only [hd, Bool.and_eq_true, Bool.or_eq_true, beq_iff_eq, hne, false_or, bne_iff_ne, ne_eq] at this
    exact this.1
  · have := (at_ k o ho).2 j oj hj
    simp only [hd, Bool.and_eq_true, Bool.or_eq_true, decide_eq_true_eq, Bool.not_eq_true'] at this
    rcases this.2 with (h1 | h1) | h1
    · have : (o.looksAt ops).contains d = true := by simpa using hl
      rw [this] at h1; cases h1
    · exact .inl ⟨h1.1, seenB_spec ho h1.2⟩
    · exact .inr ⟨h1.1, seenB_spec hj h1.2⟩

/-- two frames agree at the slots that an operation looks at -/
theorem exec_agree {o : Oper} {a b : Act} (hs : ∀ cs c, o.op ≠ .select cs c) (h : ∀ d ∈ o.looksAt ops, a.tmps[d]? = b.tmps[d]?) : execOp a.eval o = execOp b.eval o :=
  execOp_congr o hs fun x hx => by
    cases x with
    | tmp t =>
      have := h t (List.mem_append_left _ (List.mem_filterMap.2 ⟨.tmp t, by simpa using hx, rfl⟩))
      simp [Act.eval, this]
    | _ => rfl
theorem wanted_agree {o : Oper} {a b : Act} (h : ∀ d ∈ o.looksAt ops, a.tmps[d]? = b.tmps[d]?) : Region.wanted o (yielded ops a.tmps) = Region.wanted o (yielded ops b.tmps) := by
  unfold Region.wanted
  cases hg : o.guard with
  | none => rfl
  | some gw =>
    obtain ⟨g, want⟩ := gw
    have hy : yielded ops a.tmps g = yielded ops b.tmps g := by
      unfold yielded
      cases ht : (ops[g]?).bind (·.dst) with
      | none => rfl
      | some t =>
        have := h t (List.mem_append_right _ (by simp [hg, ht]))
        simp [this]
    simp only [hy]

/-! ### what an actual run has left so far -/
section
variable {l : List Oper} {vs : List Value} {fs : List Tmp} {FS : Tmp → Value → World → Prop} {I : World → Prop} {a0 : Act}
structure Inv (l : List Oper) (vs : List Value) (fs : List Tmp) (FS : Tmp → Value → World → Prop) (I : World → Prop) (a0 : Act) (listed : Array Bool) (b : Act) (w : World) : Prop where
  cls : I w
  size : b.tmps.size = a0.tmps.size
  defers : b.defers = a0.defers
  out : ∀ d, (∀ (j : Nat) o, l[j]? = some o → listed.getD j true = true → o.dst ≠ some d) → b.tmps[d]? = a0.tmps[d]?
  ins : ∀ (j : Nat) o d v, l[j]? = some o → listed.getD j true = true → o.dst = some d → vs[j]? = some v → (d ∈ fs → ∃ x, b.tmps[d]? = some x ∧ FS d x w) ∧ (d ∉ fs → b.tmps[d]? = some v)
  down : ∀ (j : Nat) o, l[j]? = some o → listed.getD j true = true → ∀ e ∈ o.after, Region.binds .any e = true → listed.getD e.on true = true
  lsize : listed.size = l.length
theorem getD_set_same (L : Array Bool) (i : Nat) : (L.setIfInBounds i true).getD i true = true := by
  rw [Array.getD_eq_getD_getElem?, Array.getElem?_setIfInBounds, if_pos rfl]
  split <;> rfl
theorem getD_set_far (L : Array Bool) {i j : Nat} (h : i ≠ j) : (L.setIfInBounds i true).getD j true = L.getD j true := by
  rw [Array.getD_eq_getD_getElem?, Array.getElem?_setIfInBounds, if_neg h, ← Array.getD_eq_getD_getElem?]
theorem getD_set_up (L : Array Bool) {i j : Nat} (h : L.getD j true = true) : (L.setIfInBounds i true).getD j true = true := by
  by_cases hij : i = j
  · subst hij; exact getD_set_same L i
  · rw [getD_set_far L hij]; exact h
theorem Inv.next {N : Nat} (hR : RG .any l.toArray N) (hN : N ≤ a0.tmps.size) (hI : Closed I) (hF : ∀ s x w w', FS s x w → Below w.heap.size w w' → FS s x w') {listed : Array Bool} {b : Act} {w w' : World} {i : Nat} {o : Oper} {u : Value}
    (h : Inv l vs fs FS I a0 listed b w) (ho : l[i]? = some o) (hp : ∀ e ∈ o.after, Region.binds .any e = true → listed.getD e.on true = true) (hb : Below w.heap.size w w')
    (hu : ∀ d, o.dst = some d → (d ∈ fs → FS d u w') ∧ (d ∉ fs → vs[i]? = some u)) : Inv l vs fs FS I a0 (listed.setIfInBounds i true) (b.put o.dst u) w' := by
  have ho' : l.toArray[i]? = some o := by simpa using ho
  refine ⟨hI w w' h.cls hb, (put_size ..).trans h.size, (put_defers ..).trans h.defers, fun d hd => ?_, fun j oj d v hj hlj hdj hv => ?_, fun j oj hj hlj e he hbe => ?_, by simpa using h.lsize⟩
  · rw [put_other u (hd i o ho (getD_set_same _ _))]
    exact h.out d fun j oj hj hlj => hd j oj hj (getD_set_up _ hlj)
  · by_cases hij : i = j
    · subst hij
      obtain rfl : o = oj := Option.some.inj (ho.symm.trans hj)
      obtain ⟨h1, h2⟩ := hu d hdj
      rw [hdj]
      have hlt : d < b.tmps.size := by rw [h.size]; exact Nat.lt_of_lt_of_le (hR.small i o d ho' hdj) hN
      refine ⟨fun hd => ⟨u, put_same u hlt, h1 hd⟩, fun hd => ?_⟩
      rw [put_same u hlt]
      exact (h2 hd).symm.trans hv
    · rw [getD_set_far _ hij] at hlj
      obtain ⟨h1, h2⟩ := h.ins j oj d v hj hlj hdj hv
      have hne : o.dst ≠ some d := hR.once i j o oj d ho' (by simpa using hj) hdj hij
      rw [put_other u hne]
      exact ⟨fun hd => let ⟨x, hx, hfx⟩ := h1 hd; ⟨x, hx, hF d x w w' hfx hb⟩, h2⟩
  · by_cases hij : i = j
    · subst hij
      obtain rfl : o = oj := Option.some.inj (ho.symm.trans hj)
      exact getD_set_up _ (hp e he hbe)
    · rw [getD_set_far _ hij] at hlj
      exact getD_set_up _ (h.down j oj hj hlj e he hbe)
/-- at what an operation looks at, the run and the walk agree -/
theorem Inv.agree {N : Nat} (hR : RG .any l.toArray N) (hN : N ≤ a0.tmps.size) (hlen : vs.length = l.length) {listed : Array Bool} {b : Act} {w : World} {k : Nat} {o : Oper}
    (h : Inv l vs fs FS I a0 listed b w) (ho : l[k]? = some o) (hun : listed.getD k true = false) (hp : ∀ e ∈ o.after, Region.binds .any e = true → listed.getD e.on true = true) {d : Tmp} (hd : d ∈ o.looksAt l.toArray) (hf : d ∉ fs) :
    (lex l vs a0 k).tmps[d]? = b.tmps[d]? := by
  have ho' : l.toArray[k]? = some o := by simpa using ho
  by_cases hw : ∃ (j : Nat) (oj : Oper), l[j]? = some oj ∧ oj.dst = some d
  · obtain ⟨j, oj, hj, hdj⟩ := hw
    have hj' : l.toArray[j]? = some oj := by simpa using hj
    rcases hR.look k j o oj d ho' hj' hdj hd with ⟨hjk, e, he, hbe, rfl⟩ | ⟨hkj, e, he, hbe, rfl⟩
    · obtain ⟨v, hv⟩ : ∃ v, vs[e.on]? = some v := ⟨_, List.getElem?_eq_getElem (by rw [hlen]; exact (List.getElem?_eq_some_iff.1 hj).1)⟩
      rw [lex_in l vs a0 k e.on oj d v hj hjk hv hdj (Nat.lt_of_lt_of_le (hR.small _ _ _ hj' hdj) hN) fun i oi hi _ hne => hR.once i e.on oi oj d (by simpa using hi) hj' hdj hne]
      exact ((h.ins e.on oj d v hj (hp e he hbe) hdj hv).2 hf).symm
    · have hjun : listed.getD j true = false := by
        cases hc : listed.getD j true with
        | false => rfl
        | true => rw [h.down j oj hj hc e he hbe] at hun; cases hun
      rw [lex_out l vs a0 _ d fun i oi hi hik hdi => hR.once i j oi oj d (by simpa using hi) hj' hdj (by omega) hdi]
      refine (h.out d fun i oi hi hli hdi => ?_).symm
      by_cases hij : i = j
      · subst hij; rw [hjun] at hli; cases hli
      · exact hR.once i j oi oj d (by simpa using hi) hj' hdj hij hdi
  · rw [lex_out l vs a0 k d fun i oi hi _ hdi => hw ⟨i, oi, hi, hdi⟩]
    exact (h.out d fun i oi hi _ hdi => hw ⟨i, oi, hi, hdi⟩).symm
theorem count_zero {L : Array Bool} (h : L.toList.count false = 0) (j : Nat) : L.getD j true = true := by
  rw [List.count_eq_zero] at h
  rw [Array.getD_eq_getD_getElem?]
  cases hc : L[j]? with
  | none => rfl
  | some x =>
    cases x with
    | true => rfl
    | false => exact absurd (Array.mem_toList_iff.2 (Array.mem_of_getElem? hc)) h
theorem count_set {L : Array Bool} {i : Nat} (h : L.getD i true = false) : (L.setIfInBounds i true).toList.count false + 1 = L.toList.count false := by
  have h1 : L.toList[i]? = some false := by
    rw [Array.getD_eq_getD_getElem?] at h
    cases hc : L[i]? with
    | none => rw [hc] at h; simp at h
    | some x => rw [hc] at h; simp at h; subst h; simpa using hc
  rw [Array.toList_setIfInBounds]
  generalize L.toList = M at h1
  clear h
  induction M generalizing i with
  | nil => simp at h1
  | cons y M ih =>
    cases i with
    | zero =>
      simp at h1
      subst h1
      simp
    | succ i =>
      have := ih (i := i) (by simpa using h1)
      rw [List.set_cons_succ, List.count_cons, List.count_cons, ← this]
      omega
theorem ready_all {N : Nat} (hR : RG .any l.toArray N) {listed : Array Bool} (hs : listed.size = l.length) (h : Region.ready .any l.toArray listed = []) : ∀ j, listed.getD j true = true := by
  intro j
  induction j using Nat.strongRecOn with
  | ind j ih =>
    cases hc : listed.getD j true with
    | true => rfl
    | false =>
      have hlt : j < l.length := by
        rcases Nat.lt_or_ge j l.length with h1 | h1
        · exact h1
        · rw [Array.getD_eq_getD_getElem?, Array.getElem?_eq_none (by omega)] at hc; simp at hc
      have ho : l.toArray[j]? = some l[j] := by simp [hlt]
      have : j ∈ Region.ready .any l.toArray listed := mem_ready.2 ⟨hc, l[j], ho, fun e he hb => by
        have hlt2 := hR.back j l[j] ho e he hb
        have := ih e.on hlt2
        rw [Array.getD_eq_getD_getElem?] at this ⊢
        rw [Array.getElem?_eq_getElem (show e.on < listed.size by omega)] at this ⊢
        simpa using this⟩
      rw [h] at this
      cases this

theorem any_of_F {N : Nat} {Q' : Exit → Act → World → Prop} (hR : RG .any l.toArray N) (hN : N ≤ a0.tmps.size) (hlen : vs.length = l.length) (hI : Closed I) (hF : ∀ s x w w', FS s x w → Below w.heap.size w w' → FS s x w')
    (hob : ∀ (k : Nat) o v, l[k]? = some o → vs[k]? = some v → Ob P l.toArray I fs FS o v (lex l vs a0 k))
    (hQ : ∀ (listed : Array Bool) b w, (∀ j, listed.getD j true = true) → Inv l vs fs FS I a0 listed b w → Q' .normal b w) :
    ∀ (fuel : Nat) (listed : Array Bool) (b : Act) (w : World), listed.toList.count false ≤ fuel → Inv l vs fs FS I a0 listed b w → wpAny P .any l.toArray Q' fuel listed b w
  | 0, listed, b, w, hc, h => by
    have hall := count_zero (L := listed) (by omega)
    refine ⟨?_, hQ listed b w hall h⟩
    rw [List.eq_nil_iff_forall_not_mem]
    intro i hi
    have := (mem_ready.1 hi).1
    rw [hall i] at this
    cases this
  | fuel + 1, listed, b, w, hc, h => by
    refine ⟨fun h0 => hQ listed b w (ready_all hR h.lsize h0) h, fun i hi => ?_⟩
    obtain ⟨hun, o, ho, hall⟩ := mem_ready.1 hi
    have ho2 : l[i]? = some o := by simpa using ho
    have hp : ∀ e ∈ o.after, Region.binds .any e = true → listed.getD e.on true = true := fun e he hb => by
      have h1 := hall e he hb
      rw [Array.getD_eq_getD_getElem?] at h1 ⊢
      cases hx : listed[e.on]? with
      | none => rfl
      | some y => rw [hx] at h1; simpa using h1
    obtain ⟨v, hv⟩ : ∃ v, vs[i]? = some v := ⟨_, List.getElem?_eq_getElem (by rw [hlen]; exact (List.getElem?_eq_some_iff.1 ho2).1)⟩
    have K : ∀ u w', Below w.heap.size w w' → (∀ d, o.dst = some d → (d ∈ fs → FS d u w') ∧ (d ∉ fs → vs[i]? = some u)) → wpAny P .any l.toArray Q' fuel (listed.setIfInBounds i true) (b.put o.dst u) w' := fun u w' hb hu =>
      any_of_F hR hN hlen hI hF hob hQ fuel _ _ _ (by have := count_set hun; omega) (h.next hR hN hI hF ho2 hp hb hu)
    have hsel : ∀ cs c, o.op ≠ .select cs c := fun cs c => hR.sel i o cs c ho
    have ag : ∀ d ∈ o.looksAt l.toArray, d ∉ fs → (lex l vs a0 i).tmps[d]? = b.tmps[d]? := fun d hd hf => h.agree hR hN hlen ho2 hun hp hd hf
    unfold Go.wpOp
    simp only [ho]
    rcases hob i o v ho2 hv with ⟨h1, h2, hcalm⟩ | ⟨s, hs, hds, h1, hwt, hsrc⟩ | ⟨s, hs, ⟨j, hj, hje⟩, h1, h2, huse⟩ | ⟨s, R, hs, hds, hRs, h1, hmix⟩
    · have he := exec_agree (ops := l.toArray) hsel fun d hd => ag d hd (h1 d hd)
      have hw := wanted_agree (ops := l.toArray) fun d hd => ag d hd (h1 d hd)
      have kv : ∀ w', Below w.heap.size w w' → wpAny P .any l.toArray Q' fuel (listed.setIfInBounds i true) (b.put o.dst v) w' := fun w' hb => K v w' hb fun d hd => ⟨fun hf => absurd hf (h2 d hd), fun _ => hv⟩
      rcases hcalm with ⟨hwt, hval⟩ | ⟨hwf, rfl⟩
      · rw [hw] at hwt
        rw [if_pos hwt]
        left
        have h3 := hval w h.cls
        rw [he] at h3
        unfold Oper.wp
        generalize (execOp b.eval o).run P w = r at h3
        cases r with
        | ok n w' =>
          cases n <;> simp only [calmUpon] at h3 <;> simp only [Oper.upon]
          case value u => obtain ⟨rfl, rfl⟩ := h3; exact kv _ (Below.refl _ _)
          case skip => obtain ⟨rfl, rfl⟩ := h3; exact kv _ (Below.refl _ _)
          case enter f args =>
            obtain ⟨rfl, hcc⟩ := h3
            exact hcc.mono fun e w'' ⟨he, hb⟩ => by subst he; exact kv _ hb
        | halt x w' => simp only [calmUpon] at h3
      · rw [hw] at hwf
        rw [hwf, if_neg (by simp)]
        exact kv w (Below.refl _ _)
    · have he := exec_agree (ops := l.toArray) hsel fun d hd => ag d hd (h1 d hd)
      have hw := wanted_agree (ops := l.toArray) fun d hd => ag d hd (h1 d hd)
      rw [hw] at hwt
      rw [if_pos hwt]
      left
      have h3 := hsrc w h.cls
      rw [he] at h3
      have kf : ∀ u w', FS s u w' → Below w.heap.size w w' → wpAny P .any l.toArray Q' fuel (listed.setIfInBounds i true) (b.put o.dst u) w' := fun u w' hf hb => K u w' hb fun d hd => by
        obtain rfl : d = s := Option.some.inj (hd.symm.trans hds)
        exact ⟨fun _ => hf, fun hnf => absurd hs hnf⟩
      unfold Oper.wp
      generalize (execOp b.eval o).run P w = r at h3
      cases r with
      | ok n w' =>
        cases n <;> simp only [srcUpon] at h3 <;> simp only [Oper.upon]
        case value u => exact kf u w' h3.1 h3.2
        case enter f args =>
          obtain ⟨rfl, hcc⟩ := h3
          exact hcc.mono fun e w'' ⟨u, he, hf, hb⟩ => by subst he; exact kf u w'' hf hb
      | halt x w' => simp only [srcUpon] at h3
    · obtain ⟨e, hee, heb⟩ := Array.any_eq_true'.1 hje
      simp only [Bool.and_eq_true, beq_iff_eq] at heb
      obtain ⟨hbe, rfl⟩ := heb
      obtain ⟨oj, hoj, hdj⟩ := Option.bind_eq_some_iff.1 hj
      have hoj2 : l[e.on]? = some oj := by simpa using hoj
      obtain ⟨vj, hvj⟩ : ∃ v, vs[e.on]? = some v := ⟨_, List.getElem?_eq_getElem (by rw [hlen]; exact (List.getElem?_eq_some_iff.1 hoj2).1)⟩
      obtain ⟨x, hbx, hfx⟩ := (h.ins e.on oj s vj hoj2 (hp e hee hbe) hdj hvj).1 hs
      have hslt : s < (lex l vs a0 i).tmps.size := by rw [(lex_size l vs a0 i).1]; exact Nat.lt_of_lt_of_le (hR.small _ _ _ hoj hdj) hN
      have ag2 : ∀ d ∈ o.looksAt l.toArray, ((lex l vs a0 i).put (some s) x).tmps[d]? = b.tmps[d]? := fun d hd => by
        by_cases hsd : s = d
        · subst hsd
          rw [put_same x hslt, hbx]
        · rw [put_other x (by simpa using hsd)]
          exact ag d hd fun hf => hsd (h1 d hd hf).symm
      obtain ⟨hwt, h3⟩ := huse x w h.cls hfx
      rw [wanted_agree (ops := l.toArray) ag2] at hwt
      rw [exec_agree (ops := l.toArray) hsel ag2] at h3
      have kv : ∀ w', Below w.heap.size w w' → wpAny P .any l.toArray Q' fuel (listed.setIfInBounds i true) (b.put o.dst v) w' := fun w' hb => K v w' hb fun d hd => ⟨fun hf => absurd hf (h2 d hd), fun _ => hv⟩
      rw [if_pos hwt]
      left
      unfold Oper.wp
      generalize (execOp b.eval o).run P w = r at h3
      cases r with
      | ok n w' =>
        cases n <;> simp only [calmUpon] at h3 <;> simp only [Oper.upon]
        case value u => obtain ⟨rfl, rfl⟩ := h3; exact kv _ (Below.refl _ _)
        case skip => obtain ⟨rfl, rfl⟩ := h3; exact kv _ (Below.refl _ _)
        case enter f args =>
          obtain ⟨rfl, hcc⟩ := h3
          exact hcc.mono fun e w'' ⟨he, hb⟩ => by subst he; exact kv _ hb
      | halt x w' => simp only [calmUpon] at h3

    · have got : ∀ r ∈ R, ∃ x, b.tmps[r]? = some x ∧ FS r x w ∧ r < (lex l vs a0 i).tmps.size := fun r hr => by
        obtain ⟨hrf, j, hj, hje⟩ := hRs r hr
        obtain ⟨e, hee, heb⟩ := Array.any_eq_true'.1 hje
        simp only [Bool.and_eq_true, beq_iff_eq] at heb
        obtain ⟨hbe, rfl⟩ := heb
        obtain ⟨oj, hoj, hdj⟩ := Option.bind_eq_some_iff.1 hj
        have hoj2 : l[e.on]? = some oj := by simpa using hoj
        obtain ⟨vj, hvj⟩ : ∃ v, vs[e.on]? = some v := ⟨_, List.getElem?_eq_getElem (by rw [hlen]; exact (List.getElem?_eq_some_iff.1 hoj2).1)⟩
        obtain ⟨x, hbx, hfx⟩ := (h.ins e.on oj r vj hoj2 (hp e hee hbe) hdj hvj).1 hrf
        exact ⟨x, hbx, hfx, by rw [(lex_size l vs a0 i).1]; exact Nat.lt_of_lt_of_le (hR.small _ _ _ hoj hdj) hN⟩
      have ag2 : ∀ d ∈ o.looksAt l.toArray, (fill R (fun s => b.tmps.getD s undef) (lex l vs a0 i)).tmps[d]? = b.tmps[d]? := fun d hd => by
        by_cases hdR : d ∈ R
        · obtain ⟨x, hbx, _, hlt⟩ := got d hdR
          rw [fill_in R _ _ d hdR hlt, hbx]
          simp [hbx]
        · rw [fill_out R _ _ d hdR]
          exact ag d hd fun hf => hdR (h1 d hd hf)
      obtain ⟨hwt, h3⟩ := hmix (fun s => b.tmps.getD s undef) w h.cls fun r hr => by
        obtain ⟨x, hbx, hfx, _⟩ := got r hr
        simpa [hbx] using hfx
      rw [wanted_agree (ops := l.toArray) ag2] at hwt
      rw [exec_agree (ops := l.toArray) hsel ag2] at h3
      rw [if_pos hwt]
      left
      have kf : ∀ u w', FS s u w' → Below w.heap.size w w' → wpAny P .any l.toArray Q' fuel (listed.setIfInBounds i true) (b.put o.dst u) w' := fun u w' hf hb => K u w' hb fun d hd => by
        obtain rfl : d = s := Option.some.inj (hd.symm.trans hds)
        exact ⟨fun _ => hf, fun hnf => absurd hs hnf⟩
      unfold Oper.wp
      generalize (execOp b.eval o).run P w = r at h3
      cases r with
      | ok n w' =>
        cases n <;> simp only [srcUpon] at h3 <;> simp only [Oper.upon]
        case value u => exact kf u w' h3.1 h3.2
        case enter f args =>
          obtain ⟨rfl, hcc⟩ := h3
          exact hcc.mono fun e w'' ⟨u, he, hf, hb⟩ => by subst he; exact kf u w'' hf hb
      | halt x w' => simp only [srcUpon] at h3

/-- ONE WALK IN THE TEXT's ORDER SERVES EVERY ORDER -/
theorem wp_region_F {id : Nat} {Q : Exit → Act → World → Prop} {a : Act} {w : World} {l : List Oper} (N : Nat) (fs : List Tmp) (FS : Tmp → Value → World → Prop) (I : World → Prop) (hm : P.follows .mixedOrders = true) (hB : rgB .any l.toArray N = true)
    (hfs : (fs.all fun s => l.any fun o => o.dst == some s) = true) (hN : N ≤ a.tmps.size) (hI : Closed I) (hF : ∀ s x w w', FS s x w → Below w.heap.size w w' → FS s x w') (hC : I w.drew)
    (h : wpF P l.toArray I fs FS (fun a' => ∀ xs w', I w' → (∀ s ∈ fs, FS s (xs s) w') → Q .normal (fill fs xs a') w') l a) : (Code.region id l.toArray true).wp P Q a w := by
  have hR := rgB_spec hB
  obtain ⟨vs, hlen, hob, hE⟩ := wpF_vals l a h
  refine wp_region_any hm ?_
  refine any_of_F (l := l) (vs := vs) (fs := fs) (FS := FS) (I := I) (a0 := a) hR hN hlen hI hF hob ?_ _ _ _ _ ?_ ?_
  · intro listed b w' hall hinv
    have hw : ∀ s ∈ fs, ∃ x, b.tmps[s]? = some x ∧ FS s x w' := fun s hs => by
      rw [List.all_eq_true] at hfs
      have h1 := hfs s hs
      rw [List.any_eq_true] at h1
      obtain ⟨o, ho, hd⟩ := h1
      obtain ⟨j, hj, rfl⟩ := List.getElem_of_mem ho
      have hd' : (l[j]).dst = some s := by simpa using hd
      obtain ⟨v, hv⟩ : ∃ v, vs[j]? = some v := ⟨_, List.getElem?_eq_getElem (by rw [hlen]; exact hj)⟩
      exact (hinv.ins j l[j] s v (List.getElem?_eq_getElem hj) (hall j) hd' hv).1 hs
    have hb : b = fill fs (fun s => b.tmps.getD s undef) (lex l vs a l.length) := by
      have ht : b.tmps = (fill fs (fun s => b.tmps.getD s undef) (lex l vs a l.length)).tmps := by
        apply Array.ext_getElem?
        intro d
        by_cases hd : d ∈ fs
        · obtain ⟨x, hx, _⟩ := hw d hd
          have hlt : d < (lex l vs a l.length).tmps.size := by
            rw [(lex_size l vs a l.length).1, ← hinv.size]
            exact (Array.getElem?_eq_some_iff.1 hx).1
          rw [fill_in fs _ _ d hd hlt, hx]
          simp [hx]
        · rw [fill_out fs _ _ d hd]
          by_cases hwr : ∃ (j : Nat) (oj : Oper), l[j]? = some oj ∧ oj.dst = some d
          · obtain ⟨j, oj, hj, hdj⟩ := hwr
            obtain ⟨v, hv⟩ : ∃ v, vs[j]? = some v := ⟨_, List.getElem?_eq_getElem (by rw [hlen]; exact (List.getElem?_eq_some_iff.1 hj).1)⟩
            have hj' : l.toArray[j]? = some oj := by simpa using hj
            rw [(hinv.ins j oj d v hj (hall j) hdj hv).2 hd]
            exact (lex_in l vs a l.length j oj d v hj (List.getElem?_eq_some_iff.1 hj).1 hv hdj (Nat.lt_of_lt_of_le (hR.small _ _ _ hj' hdj) hN) fun i oi hi _ hne => hR.once i j oi oj d (by simpa using hi) hj' hdj hne).symm
          · rw [lex_out l vs a l.length d fun i oi hi _ hdi => hwr ⟨i, oi, hi, hdi⟩]
            exact hinv.out d fun i oi hi _ hdi => hwr ⟨i, oi, hi, hdi⟩
      have hd : b.defers = (fill fs (fun s => b.tmps.getD s undef) (lex l vs a l.length)).defers := by
        rw [(fill_size ..).2, (lex_size ..).2]
        exact hinv.defers
      cases b
      simp only at ht hd
      rw [Act.mk.injEq]
      exact ⟨ht, hd⟩
    rw [hb]
    refine hE _ w' hinv.cls fun s hs => ?_
    obtain ⟨x, hx, hf⟩ := hw s hs
    simpa [hx] using hf
  · simp
  · refine ⟨hC, rfl, rfl, fun _ _ => rfl, fun j o d v hj hlj => ?_, fun j o hj hlj => ?_, by simp⟩
    all_goals
      have hlt := (List.getElem?_eq_some_iff.1 hj).1
      rw [Array.getD_eq_getD_getElem?] at hlj
      simp [hlt] at hlj
end
end
end Go.Proofs.YtfdbcfkjablnkaaGreat

namespace Go.Proofs.YtfdbcfkjablnkaaGreat
open Go.RowKit
section
variable {P : Program} {l : List Oper} {I : World → Prop} {fs : List Tmp} {FS : Tmp → Value → World → Prop} {E : Act → Prop} {o : Oper} {rest : List Oper} {a : Act}
def noB (ops : Array Oper) (fs : List Tmp) (o : Oper) : Bool := ((o.looksAt ops).all fun d => !fs.contains d) && (match o.dst with | some d => !fs.contains d | none => true)
theorem noB_spec (h : noB l.toArray fs o = true) : (∀ d ∈ o.looksAt l.toArray, d ∉ fs) ∧ (∀ d, o.dst = some d → d ∉ fs) := by
  simp only [noB, Bool.and_eq_true, List.all_eq_true, Bool.not_eq_true'] at h
  refine ⟨fun d hd hf => ?_, fun d hd hf => ?_⟩
  · have := h.1 d hd
    simp [hf] at this
  · have := h.2
    rw [hd] at this
    simp [hf] at this
/-- it looks at no memory and enters no function -/
theorem wpF_pure (hk : kindOf o = 0) (hn : noB l.toArray fs o = true) (h : wpQuiet P l.toArray (fun _ => True) (fun a' => wpF P l.toArray I fs FS E rest a') [o] a) : wpF P l.toArray I fs FS E (o :: rest) a := by
  obtain ⟨h1, h2⟩ := noB_spec hn
  unfold wpQuiet at h
  by_cases hw : Region.wanted o (yielded l.toArray a.tmps) = true
  · simp only [hw, if_true] at h
    obtain ⟨v, hv, hr⟩ := h
    refine ⟨v, .inl ⟨h1, h2, .inl ⟨hw, fun w _ => ?_⟩⟩, hr⟩
    have h3 := hv w trivial
    have h4 := pure_no_enter (P := P) (kind_pure hk) a.eval w
    unfold Oper.quietAt at h3
    generalize (execOp a.eval o).run P w = r at h3 h4
    cases r with
    | ok n w' =>
      cases n with
      | enter f args => exact absurd rfl (h4 w' f args)
      | value u => exact h3
      | skip => exact h3
      | _ => simp only [Oper.quietUpon] at h3
    | halt x w' => simp only [Oper.quietUpon] at h3
  · simp only [hw] at h
    exact ⟨undef, .inl ⟨h1, h2, .inr ⟨by simpa using hw, rfl⟩⟩, h⟩
/-- a call of one value -/
theorem wpF_call {f : FuncId} {args : Array Value} (v : Value) (hn : noB l.toArray fs o = true) (hw : Region.wanted o (yielded l.toArray a.tmps) = true) (hrun : ∀ w, (execOp a.eval o).run P w = .ok (.enter f args) w)
    (hc : ∀ w, I w → Calls P f args w fun e w'' => e = .returned v ∧ Below w.heap.size w w'') (h : wpF P l.toArray I fs FS E rest (a.put o.dst v)) : wpF P l.toArray I fs FS E (o :: rest) a := by
  obtain ⟨h1, h2⟩ := noB_spec hn
  refine ⟨v, .inl ⟨h1, h2, .inl ⟨hw, fun w hI => ?_⟩⟩, h⟩
  rw [hrun w]
  exact ⟨rfl, hc w hI⟩
/-- a load -/
theorem wpF_load {t : TypeId} {x : Operand} {ad : Addr} (v : Value) (hop : o.op = .load t x) (hn : noB l.toArray fs o = true) (hw : Region.wanted o (yielded l.toArray a.tmps) = true) (hx : a.eval x = .pointer (some ad))
    (hrun : ∀ w, I w → (Instr.loadAt t (.pointer (some ad))).run P w = .ok v w) (h : wpF P l.toArray I fs FS E rest (a.put o.dst v)) : wpF P l.toArray I fs FS E (o :: rest) a := by
  obtain ⟨h1, h2⟩ := noB_spec hn
  refine ⟨v, .inl ⟨h1, h2, .inl ⟨hw, fun w hI => ?_⟩⟩, h⟩
  unfold execOp
  simp only [hop, hx]
  rw [Sem.run_bind, hrun w hI]
  exact ⟨rfl, rfl⟩
/-- an operation that makes memory: its value is known by what it is good for -/
theorem wpF_src (s : Tmp) (hs : s ∈ fs) (hd : o.dst = some s) (hn : ((o.looksAt l.toArray).all fun d => !fs.contains d) = true) (hw : Region.wanted o (yielded l.toArray a.tmps) = true)
    (hrun : ∀ w, I w → ∃ u w', (execOp a.eval o).run P w = .ok (.value u) w' ∧ FS s u w' ∧ Below w.heap.size w w') (h : wpF P l.toArray I fs FS E rest (a.put o.dst undef)) : wpF P l.toArray I fs FS E (o :: rest) a := by
  refine ⟨undef, .inr (.inl ⟨s, hs, hd, fun d hd hf => ?_, hw, fun w hI => ?_⟩), h⟩
  · rw [List.all_eq_true] at hn
    have := hn d hd
    simp [hf] at this
  · obtain ⟨u, w', hr, h1, h2⟩ := hrun w hI
    rw [hr]
    exact ⟨h1, h2⟩
/-- a call that is handed such a value -/
theorem wpF_use (s : Tmp) (j : Nat) {f : FuncId} (args : Value → Array Value) (v : Value) (hs : s ∈ fs) (hj : (l[j]?).bind (·.dst) = some s) (hje : (o.after.any fun e => Region.binds .any e && e.on == j) = true)
    (hn : ((o.looksAt l.toArray).all fun d => !fs.contains d || d == s) = true) (hdst : (match o.dst with | some d => !fs.contains d | none => true) = true) (hw : ∀ x, Region.wanted o (yielded l.toArray (a.put (some s) x).tmps) = true)
    (hrun : ∀ x w, (execOp (a.put (some s) x).eval o).run P w = .ok (.enter f (args x)) w)
    (hc : ∀ x w, I w → FS s x w → Calls P f (args x) w fun e w'' => e = .returned v ∧ Below w.heap.size w w'') (h : wpF P l.toArray I fs FS E rest (a.put o.dst v)) : wpF P l.toArray I fs FS E (o :: rest) a := by
  refine ⟨v, .inr (.inr (.inl ⟨s, hs, ⟨j, by simpa using hj, hje⟩, fun d hd hf => ?_, fun d hd hf => ?_, fun x w hI hx => ⟨hw x, ?_⟩⟩)), h⟩
  · rw [List.all_eq_true] at hn
    have := hn d hd
    simpa [hf] using this
  · rw [hd] at hdst
    simp [hf] at hdst
  · rw [hrun x w]
    exact ⟨rfl, hc x w hI hx⟩
/-- a call that hands back a value that is known by what it is good for -/
theorem wpF_callsrc (s : Tmp) {f : FuncId} {args : Array Value} (hs : s ∈ fs) (hd : o.dst = some s) (hn : ((o.looksAt l.toArray).all fun d => !fs.contains d) = true) (hw : Region.wanted o (yielded l.toArray a.tmps) = true)
    (hrun : ∀ w, (execOp a.eval o).run P w = .ok (.enter f args) w) (hc : ∀ w, I w → Calls P f args w fun e w'' => ∃ u, e = .returned u ∧ FS s u w'' ∧ Below w.heap.size w w'') (h : wpF P l.toArray I fs FS E rest (a.put o.dst undef)) : wpF P l.toArray I fs FS E (o :: rest) a := by
  refine ⟨undef, .inr (.inl ⟨s, hs, hd, fun d hd hf => ?_, hw, fun w hI => ?_⟩), h⟩
  · rw [List.all_eq_true] at hn
    have := hn d hd
    simp [hf] at this
  · rw [hrun w]
    exact ⟨rfl, hc w hI⟩
/-- an operation that looks at such values (R) and yields such a value -/
theorem wpF_mix (s : Tmp) (R : List Tmp) (hs : s ∈ fs) (hd : o.dst = some s)
    (hR : (R.all fun r => fs.contains r && (List.range l.length).any fun j => (((l[j]?).bind (·.dst)) == some r) && o.after.any fun e => Region.binds .any e && e.on == j) = true)
    (hn : ((o.looksAt l.toArray).all fun d => !fs.contains d || R.contains d) = true) (hw : ∀ xs, Region.wanted o (yielded l.toArray (fill R xs a).tmps) = true)
    (hrun : ∀ xs w, I w → (∀ r ∈ R, FS r (xs r) w) → ∃ u w', (execOp (fill R xs a).eval o).run P w = .ok (.value u) w' ∧ FS s u w' ∧ Below w.heap.size w w') (h : wpF P l.toArray I fs FS E rest (a.put o.dst undef)) : wpF P l.toArray I fs FS E (o :: rest) a := by
  refine ⟨undef, .inr (.inr (.inr ⟨s, R, hs, hd, fun r hr => ?_, fun d hd hf => ?_, fun xs w hI hx => ⟨hw xs, ?_⟩⟩)), h⟩
  · rw [List.all_eq_true] at hR
    have := hR r hr
    simp only [Bool.and_eq_true, List.contains_iff_mem, List.any_eq_true, beq_iff_eq] at this
    obtain ⟨h1, j, _, h2, h3⟩ := this
    exact ⟨h1, j, by simpa using h2, h3⟩
  · rw [List.all_eq_true] at hn
    have := hn d hd
    simpa [hf] using this
  · obtain ⟨u, w', hr, h1, h2⟩ := hrun xs w hI hx
    rw [hr]
    exact ⟨h1, h2⟩
/-- a call that is handed such values (R) and hands back such a value -/
theorem wpF_mixcall (s : Tmp) (R : List Tmp) {f : FuncId} (args : (Tmp → Value) → Array Value) (hs : s ∈ fs) (hd : o.dst = some s)
    (hR : (R.all fun r => fs.contains r && (List.range l.length).any fun j => (((l[j]?).bind (·.dst)) == some r) && o.after.any fun e => Region.binds .any e && e.on == j) = true)
    (hn : ((o.looksAt l.toArray).all fun d => !fs.contains d || R.contains d) = true) (hw : ∀ xs, Region.wanted o (yielded l.toArray (fill R xs a).tmps) = true)
    (hrun : ∀ xs w, (execOp (fill R xs a).eval o).run P w = .ok (.enter f (args xs)) w)
    (hc : ∀ xs w, I w → (∀ r ∈ R, FS r (xs r) w) → Calls P f (args xs) w fun e w'' => ∃ u, e = .returned u ∧ FS s u w'' ∧ Below w.heap.size w w'') (h : wpF P l.toArray I fs FS E rest (a.put o.dst undef)) : wpF P l.toArray I fs FS E (o :: rest) a := by
  refine ⟨undef, .inr (.inr (.inr ⟨s, R, hs, hd, fun r hr => ?_, fun d hd hf => ?_, fun xs w hI hx => ⟨hw xs, ?_⟩⟩)), h⟩
  · rw [List.all_eq_true] at hR
    have := hR r hr
    simp only [Bool.and_eq_true, List.contains_iff_mem, List.any_eq_true, beq_iff_eq] at this
    obtain ⟨h1, j, _, h2, h3⟩ := this
    exact ⟨h1, j, by simpa using h2, h3⟩
  · rw [List.all_eq_true] at hn
    have := hn d hd
    simpa [hf] using this
  · rw [hrun xs w]
    exact ⟨rfl, hc xs w hI hx⟩
end
end Go.Proofs.YtfdbcfkjablnkaaGreat

namespace Go.Proofs.YtfdbcfkjablnkaaGreat
open Go.RowKit
section
variable {P : Program} {l : List Oper} {vs : List Value} {fs : List Tmp} {FS : Tmp → Value → World → Prop} {I : World → Prop} {a0 : Act}
/-- one operation of such a run -/
theorem op_of_F {N : Nat} {Q' : Exit → Act → World → Prop} {K : Act → World → Prop} (hR : RG .any l.toArray N) (hN : N ≤ a0.tmps.size) (hlen : vs.length = l.length) {listed : Array Bool} {b : Act} {w : World} {i : Nat} {o : Oper} {v : Value}
    (h : Inv l vs fs FS I a0 listed b w) (ho2 : l[i]? = some o) (hun : listed.getD i true = false) (hp : ∀ e ∈ o.after, Region.binds .any e = true → listed.getD e.on true = true) (hv : vs[i]? = some v) (hob : Ob P l.toArray I fs FS o v (lex l vs a0 i))
    (hK : ∀ u w', Below w.heap.size w w' → (∀ d, o.dst = some d → (d ∈ fs → FS d u w') ∧ (d ∉ fs → vs[i]? = some u)) → K (b.put o.dst u) w') : Go.wpOp P l.toArray Q' i K b w := by
  have ho : l.toArray[i]? = some o := by simpa using ho2
  have hsel : ∀ cs c, o.op ≠ .select cs c := fun cs c => hR.sel i o cs c ho
  have ag : ∀ d ∈ o.looksAt l.toArray, d ∉ fs → (lex l vs a0 i).tmps[d]? = b.tmps[d]? := fun d hd hf => h.agree hR hN hlen ho2 hun hp hd hf
  unfold Go.wpOp
  simp only [ho]
  rcases hob with ⟨h1, h2, hcalm⟩ | ⟨s, hs, hds, h1, hwt, hsrc⟩ | ⟨s, hs, ⟨j, hj, hje⟩, h1, h2, huse⟩ | ⟨s, R, hs, hds, hRs, h1, hmix⟩
  · have he := exec_agree (ops := l.toArray) hsel fun d hd => ag d hd (h1 d hd)
    have hw := wanted_agree (ops := l.toArray) fun d hd => ag d hd (h1 d hd)
    have kv : ∀ w', Below w.heap.size w w' → K (b.put o.dst v) w' := fun w' hb => hK v w' hb fun d hd => ⟨fun hf => absurd hf (h2 d hd), fun _ => hv⟩
    rcases hcalm with ⟨hwt, hval⟩ | ⟨hwf, rfl⟩
    · rw [hw] at hwt
      rw [if_pos hwt]
      left
      have h3 := hval w h.cls
      rw [he] at h3
      unfold Oper.wp
      generalize (execOp b.eval o).run P w = r at h3
      cases r with
      | ok n w' =>
        cases n <;> simp only [calmUpon] at h3 <;> simp only [Oper.upon]
        case value u => obtain ⟨rfl, rfl⟩ := h3; exact kv _ (Below.refl _ _)
        case skip => obtain ⟨rfl, rfl⟩ := h3; exact kv _ (Below.refl _ _)
        case enter f args =>
          obtain ⟨rfl, hcc⟩ := h3
          exact hcc.mono fun e w'' ⟨he, hb⟩ => by subst he; exact kv _ hb
      | halt x w' => simp only [calmUpon] at h3
    · rw [hw] at hwf
      rw [hwf, if_neg (by simp)]
      exact kv w (Below.refl _ _)
  · have he := exec_agree (ops := l.toArray) hsel fun d hd => ag d hd (h1 d hd)
    have hw := wanted_agree (ops := l.toArray) fun d hd => ag d hd (h1 d hd)
    rw [hw] at hwt
    rw [if_pos hwt]
    left
    have h3 := hsrc w h.cls
    rw [he] at h3
    have kf : ∀ u w', FS s u w' → Below w.heap.size w w' → K (b.put o.dst u) w' := fun u w' hf hb => hK u w' hb fun d hd => by
      obtain rfl : d = s := Option.some.inj (hd.symm.trans hds)
      exact ⟨fun _ => hf, fun hnf => absurd hs hnf⟩
    unfold Oper.wp
    generalize (execOp b.eval o).run P w = r at h3
    cases r with
    | ok n w' =>
      cases n <;> simp only [srcUpon] at h3 <;> simp only [Oper.upon]
      case value u => exact kf u w' h3.1 h3.2
      case enter f args =>
        obtain ⟨rfl, hcc⟩ := h3
        exact hcc.mono fun e w'' ⟨u, he, hf, hb⟩ => by subst he; exact kf u w'' hf hb
    | halt x w' => simp only [srcUpon] at h3
  · obtain ⟨e, hee, heb⟩ := Array.any_eq_true'.1 hje
    simp only [Bool.and_eq_true, beq_iff_eq] at heb
    obtain ⟨hbe, rfl⟩ := heb
    obtain ⟨oj, hoj, hdj⟩ := Option.bind_eq_some_iff.1 hj
    have hoj2 : l[e.on]? = some oj := by simpa using hoj
    obtain ⟨vj, hvj⟩ : ∃ v, vs[e.on]? = some v := ⟨_, List.getElem?_eq_getElem (by rw [hlen]; exact (List.getElem?_eq_some_iff.1 hoj2).1)⟩
    obtain ⟨x, hbx, hfx⟩ := (h.ins e.on oj s vj hoj2 (hp e hee hbe) hdj hvj).1 hs
    have hslt : s < (lex l vs a0 i).tmps.size := by rw [(lex_size l vs a0 i).1]; exact Nat.lt_of_lt_of_le (hR.small _ _ _ hoj hdj) hN
    have ag2 : ∀ d ∈ o.looksAt l.toArray, ((lex l vs a0 i).put (some s) x).tmps[d]? = b.tmps[d]? := fun d hd => by
      by_cases hsd : s = d
      · subst hsd
        rw [put_same x hslt, hbx]
      · rw [put_other x (by simpa using hsd)]
        exact ag d hd fun hf => hsd (h1 d hd hf).symm
    obtain ⟨hwt, h3⟩ := huse x w h.cls hfx
    rw [wanted_agree (ops := l.toArray) ag2] at hwt
    rw [exec_agree (ops := l.toArray) hsel ag2] at h3
    have kv : ∀ w', Below w.heap.size w w' → K (b.put o.dst v) w' := fun w' hb => hK v w' hb fun d hd => ⟨fun hf => absurd hf (h2 d hd), fun _ => hv⟩
    rw [if_pos hwt]
    left
    unfold Oper.wp
    generalize (execOp b.eval o).run P w = r at h3
    cases r with
    | ok n w' =>
      cases n <;> simp only [calmUpon] at h3 <;> simp only [Oper.upon]
      case value u => obtain ⟨rfl, rfl⟩ := h3; exact kv _ (Below.refl _ _)
      case skip => obtain ⟨rfl, rfl⟩ := h3; exact kv _ (Below.refl _ _)
      case enter f args =>
        obtain ⟨rfl, hcc⟩ := h3
        exact hcc.mono fun e w'' ⟨he, hb⟩ => by subst he; exact kv _ hb
    | halt x w' => simp only [calmUpon] at h3

  · have got : ∀ r ∈ R, ∃ x, b.tmps[r]? = some x ∧ FS r x w ∧ r < (lex l vs a0 i).tmps.size := fun r hr => by
      obtain ⟨hrf, j, hj, hje⟩ := hRs r hr
      obtain ⟨e, hee, heb⟩ := Array.any_eq_true'.1 hje
      simp only [Bool.and_eq_true, beq_iff_eq] at heb
      obtain ⟨hbe, rfl⟩ := heb
      obtain ⟨oj, hoj, hdj⟩ := Option.bind_eq_some_iff.1 hj
      have hoj2 : l[e.on]? = some oj := by simpa using hoj
      obtain ⟨vj, hvj⟩ : ∃ v, vs[e.on]? = some v := ⟨_, List.getElem?_eq_getElem (by rw [hlen]; exact (List.getElem?_eq_some_iff.1 hoj2).1)⟩
      obtain ⟨x, hbx, hfx⟩ := (h.ins e.on oj r vj hoj2 (hp e hee hbe) hdj hvj).1 hrf
      exact ⟨x, hbx, hfx, by rw [(lex_size l vs a0 i).1]; exact Nat.lt_of_lt_of_le (hR.small _ _ _ hoj hdj) hN⟩
    have ag2 : ∀ d ∈ o.looksAt l.toArray, (fill R (fun s => b.tmps.getD s undef) (lex l vs a0 i)).tmps[d]? = b.tmps[d]? := fun d hd => by
      by_cases hdR : d ∈ R
      · obtain ⟨x, hbx, _, hlt⟩ := got d hdR
        rw [fill_in R _ _ d hdR hlt, hbx]
        simp [hbx]
      · rw [fill_out R _ _ d hdR]
        exact ag d hd fun hf => hdR (h1 d hd hf)
    obtain ⟨hwt, h3⟩ := hmix (fun s => b.tmps.getD s undef) w h.cls fun r hr => by
      obtain ⟨x, hbx, hfx, _⟩ := got r hr
      simpa [hbx] using hfx
    rw [wanted_agree (ops := l.toArray) ag2] at hwt
    rw [exec_agree (ops := l.toArray) hsel ag2] at h3
    rw [if_pos hwt]
    left
    have kf : ∀ u w', FS s u w' → Below w.heap.size w w' → K (b.put o.dst u) w' := fun u w' hf hb => hK u w' hb fun d hd => by
      obtain rfl : d = s := Option.some.inj (hd.symm.trans hds)
      exact ⟨fun _ => hf, fun hnf => absurd hs hnf⟩
    unfold Oper.wp
    generalize (execOp b.eval o).run P w = r at h3
    cases r with
    | ok n w' =>
      cases n <;> simp only [srcUpon] at h3 <;> simp only [Oper.upon]
      case value u => exact kf u w' h3.1 h3.2
      case enter f args =>
        obtain ⟨rfl, hcc⟩ := h3
        exact hcc.mono fun e w'' ⟨u, he, hf, hb⟩ => by subst he; exact kf u w'' hf hb
    | halt x w' => simp only [srcUpon] at h3

/-- an operation that looks at no memory, in whatever world -/
def purUpon (w : World) (v : Value) : Result Next → Prop
  | .ok (.value u) w' => w' = w ∧ u = v
  | .ok .skip w' => w' = w ∧ v = undef
  | _ => False
def PureOb (P : Program) (ops : Array Oper) (fs : List Tmp) (o : Oper) (v : Value) (a : Act) : Prop :=
  (∀ d ∈ o.looksAt ops, d ∉ fs) ∧ (∀ d, o.dst = some d → d ∉ fs) ∧
  ((Region.wanted o (yielded ops a.tmps) = true ∧ ∀ w, purUpon w v ((execOp a.eval o).run P w)) ∨ (Region.wanted o (yielded ops a.tmps) = false ∧ v = undef))
theorem PureOb.ob {ops : Array Oper} {o : Oper} {v : Value} {a : Act} (h : PureOb P ops fs o v a) : Ob P ops I fs FS o v a := by
  obtain ⟨h1, h2, h3⟩ := h
  refine .inl ⟨h1, h2, h3.imp (fun h => ⟨h.1, fun w _ => ?_⟩) id⟩
  have h4 := h.2 w
  generalize (execOp a.eval o).run P w = r at h4
  cases r with
  | ok n w' =>
    cases n <;> simp only [purUpon] at h4
    case value u => exact h4
    case skip => exact h4
  | halt x w' => simp only [purUpon] at h4
def stUpon (S : World → Prop) : Result Next → Prop
  | .ok (.value _) w' => S w'
  | .ok .skip w' => S w'
  | _ => False
/-- the store -/
def StOb (P : Program) (ops : Array Oper) (I : World → Prop) (fs : List Tmp) (FS : Tmp → Value → World → Prop) (St : (Tmp → Value) → World → World → Prop) (o : Oper) (a : Act) : Prop :=
  o.dst = none ∧ ∀ xs w, I w → (∀ s ∈ fs, FS s (xs s) w) → Region.wanted o (yielded ops (fill fs xs a).tmps) = true ∧ stUpon (St xs w) ((execOp (fill fs xs a).eval o).run P w)
/-- the walk in the text's order: so many operations, the store, the rest -/
def wpFS (P : Program) (ops : Array Oper) (I : World → Prop) (fs : List Tmp) (FS : Tmp → Value → World → Prop) (St : (Tmp → Value) → World → World → Prop) (E : Act → Prop) : Option Nat → List Oper → Act → Prop
  | _, [], a => E a
  | some 0, o :: r, a => StOb P ops I fs FS St o a ∧ wpFS P ops I fs FS St E none r a
  | some (c + 1), o :: r, a => ∃ v, Ob P ops I fs FS o v a ∧ wpFS P ops I fs FS St E (some c) r (a.put o.dst v)
  | none, o :: r, a => ∃ v, PureOb P ops fs o v a ∧ wpFS P ops I fs FS St E none r (a.put o.dst v)
section
variable {ops : Array Oper} {St : (Tmp → Value) → World → World → Prop} {E : Act → Prop}
theorem wpFS_vals0 : ∀ (l : List Oper) (a : Act), wpFS P ops I fs FS St E none l a → ∃ vs : List Value, vs.length = l.length ∧
    (∀ (j : Nat) o v, l[j]? = some o → vs[j]? = some v → PureOb P ops fs o v (lex l vs a j)) ∧ E (lex l vs a l.length)
  | [], a, h => ⟨[], rfl, by simp, h⟩
  | o :: r, a, ⟨v, hob, hr⟩ => by
    obtain ⟨vs, h1, h2, h3⟩ := wpFS_vals0 r _ hr
    refine ⟨v :: vs, by simp [h1], fun j o' v' ho hv => ?_, h3⟩
    cases j with
    | zero =>
      simp only [List.getElem?_cons_zero, Option.some.injEq] at ho hv
      subst ho hv
      exact hob
    | succ j =>
      simp only [List.getElem?_cons_succ] at ho hv
      exact h2 j o' v' ho hv
theorem wpFS_vals : ∀ (k : Nat) (l : List Oper) (a : Act), wpFS P ops I fs FS St E (some k) l a → ∃ vs : List Value, vs.length = l.length ∧
    (∀ (j : Nat) o v, l[j]? = some o → vs[j]? = some v → (j < k → Ob P ops I fs FS o v (lex l vs a j)) ∧ (j = k → StOb P ops I fs FS St o (lex l vs a j)) ∧ (k < j → PureOb P ops fs o v (lex l vs a j))) ∧ E (lex l vs a l.length)
  | _, [], a, h => ⟨[], rfl, by simp, h⟩
  | 0, o :: r, a, ⟨hob, hr⟩ => by
    obtain ⟨vs, h1, h2, h3⟩ := wpFS_vals0 r _ hr
    have hput : a.put o.dst undef = a := by rw [hob.1]; rfl
    refine ⟨undef :: vs, by simp [h1], fun j o' v' ho hv => ?_, ?_⟩
    · cases j with
      | zero =>
        simp only [List.getElem?_cons_zero, Option.some.injEq] at ho hv
        subst ho hv
        exact ⟨by omega, fun _ => hob, by omega⟩
      | succ j =>
        simp only [List.getElem?_cons_succ] at ho hv
        refine ⟨by omega, by omega, fun _ => ?_⟩
        show PureOb P ops fs o' v' (lex r vs (a.put o.dst undef) j)
        rw [hput]
        exact h2 j o' v' ho hv
    · show E (lex r vs (a.put o.dst undef) r.length)
      rw [hput]
      exact h3
  | k + 1, o :: r, a, ⟨v, hob, hr⟩ => by
    obtain ⟨vs, h1, h2, h3⟩ := wpFS_vals k r _ hr
    refine ⟨v :: vs, by simp [h1], fun j o' v' ho hv => ?_, h3⟩
    cases j with
    | zero =>
      simp only [List.getElem?_cons_zero, Option.some.injEq] at ho hv
      subst ho hv
      exact ⟨fun _ => hob, by omega, by omega⟩
    | succ j =>
      simp only [List.getElem?_cons_succ] at ho hv
      obtain ⟨q1, q2, q3⟩ := h2 j o' v' ho hv
      exact ⟨fun h => q1 (by omega), fun h => q2 (by omega), fun h => q3 (by omega)⟩
end
/-- k waits for j, by way of others -/
def reachB (md : Region.Mode) (ops : Array Oper) : Nat → Nat → Nat → Bool
  | 0, _, _ => false
  | f + 1, k, j => match ops[k]? with
    | none => false
    | some o => o.after.any fun e => Region.binds md e && (e.on == j || reachB md ops f e.on j)
theorem reach_listed {listed : Array Bool} {b : Act} {w : World} (h : Inv l vs fs FS I a0 listed b w) : ∀ (f m j : Nat), listed.getD m true = true → reachB .any l.toArray f m j = true → listed.getD j true = true
  | 0, _, _, _, hr => by simp [reachB] at hr
  | f + 1, m, j, hm, hr => by
    unfold reachB at hr
    cases ho : l.toArray[m]? with
    | none => rw [ho] at hr; cases hr
    | some o =>
      rw [ho] at hr
      obtain ⟨e, he, hb⟩ := Array.any_eq_true'.1 hr
      simp only [Bool.and_eq_true, Bool.or_eq_true, beq_iff_eq] at hb
      have h1 := h.down m o (by simpa using ho) hm e he hb.1
      rcases hb.2 with rfl | h2
      · exact h1
      · exact reach_listed h f e.on j h1 h2
theorem reach_ready {listed : Array Bool} {b : Act} {w : World} (h : Inv l vs fs FS I a0 listed b w) {k : Nat} {o : Oper} (ho : l[k]? = some o) (hp : ∀ e ∈ o.after, Region.binds .any e = true → listed.getD e.on true = true) (f j : Nat) (hr : reachB .any l.toArray f k j = true) : listed.getD j true = true := by
  cases f with
  | zero => simp [reachB] at hr
  | succ f =>
    unfold reachB at hr
    have ho' : l.toArray[k]? = some o := by simpa using ho
    rw [ho'] at hr
    obtain ⟨e, he, hb⟩ := Array.any_eq_true'.1 hr
    simp only [Bool.and_eq_true, Bool.or_eq_true, beq_iff_eq] at hb
    have h1 := hp e he hb.1
    rcases hb.2 with rfl | h2
    · exact h1
    · exact reach_listed h f e.on j h1 h2

theorem any_of_FS {N k f : Nat} {late : Nat → Bool} {Q' : Exit → Act → World → Prop} {St : (Tmp → Value) → World → World → Prop} (hR : RG .any l.toArray N) (hN : N ≤ a0.tmps.size) (hlen : vs.length = l.length) (hI : Closed I) (hF : ∀ s x w w', FS s x w → Below w.heap.size w w' → FS s x w')
    (hob : ∀ (j : Nat) o v, l[j]? = some o → vs[j]? = some v → (j < k → Ob P l.toArray I fs FS o v (lex l vs a0 j)) ∧ (j = k → StOb P l.toArray I fs FS St o (lex l vs a0 j)) ∧ (k < j ∨ late j = true → PureOb P l.toArray fs o v (lex l vs a0 j)))
    (hk : k < l.length) (hreach : ∀ j, j < k → late j = false → reachB .any l.toArray f k j = true) (hfs : ∀ s ∈ fs, ∃ (j : Nat) (o : Oper), j < k ∧ late j = false ∧ l[j]? = some o ∧ o.dst = some s)
    (hQ : ∀ (listed : Array Bool) b W w xs, (∀ j, listed.getD j true = true) → Inv l vs fs FS I a0 listed b W → (∀ s ∈ fs, b.tmps[s]? = some (xs s) ∧ FS s (xs s) W) → St xs W w → Q' .normal b w) :
    ∀ (fuel : Nat) (listed : Array Bool) (b : Act) (W w : World), listed.toList.count false ≤ fuel → Inv l vs fs FS I a0 listed b W →
      ((listed.getD k true = false ∧ w = W) ∨ (listed.getD k true = true ∧ ∃ xs, (∀ s ∈ fs, b.tmps[s]? = some (xs s) ∧ FS s (xs s) W) ∧ St xs W w)) → wpAny P .any l.toArray Q' fuel listed b w
  | 0, listed, b, W, w, hc, h, hp => by
    have hall := count_zero (L := listed) (by omega)
    rcases hp with ⟨h0, _⟩ | ⟨_, xs, hx, hst⟩
    · rw [hall k] at h0; cases h0
    refine ⟨?_, hQ listed b W w xs hall h hx hst⟩
    rw [List.eq_nil_iff_forall_not_mem]
    intro i hi
    have := (mem_ready.1 hi).1
    rw [hall i] at this
    cases this
  | fuel + 1, listed, b, W, w, hc, h, hph => by
    refine ⟨fun h0 => ?_, fun i hi => ?_⟩
    · have hall := ready_all hR h.lsize h0
      rcases hph with ⟨h0, _⟩ | ⟨_, xs, hx, hst⟩
      · rw [hall k] at h0; cases h0
      · exact hQ listed b W w xs hall h hx hst
    obtain ⟨hun, o, ho, hall⟩ := mem_ready.1 hi
    have ho2 : l[i]? = some o := by simpa using ho
    have hp : ∀ e ∈ o.after, Region.binds .any e = true → listed.getD e.on true = true := fun e he hb => by
      have h1 := hall e he hb
      rw [Array.getD_eq_getD_getElem?] at h1 ⊢
      cases hx : listed[e.on]? with
      | none => rfl
      | some y => rw [hx] at h1; simpa using h1
    obtain ⟨v, hv⟩ : ∃ v, vs[i]? = some v := ⟨_, List.getElem?_eq_getElem (by rw [hlen]; exact (List.getElem?_eq_some_iff.1 ho2).1)⟩
    obtain ⟨q1, q2, q3⟩ := hob i o v ho2 hv
    have hcnt := count_set hun
    have hsel : ∀ cs c, o.op ≠ .select cs c := fun cs c => hR.sel i o cs c ho
    have ag : ∀ d ∈ o.looksAt l.toArray, d ∉ fs → (lex l vs a0 i).tmps[d]? = b.tmps[d]? := fun d hd hf => h.agree hR hN hlen ho2 hun hp hd hf
    rcases hph with ⟨hk0, rfl⟩ | ⟨hk1, xs, hx, hst⟩
    · by_cases hik : i = k
      · subst hik
        obtain ⟨hdst, hstore⟩ := q2 rfl
        have got : ∀ s ∈ fs, ∃ x, b.tmps[s]? = some x ∧ FS s x w ∧ s < (lex l vs a0 i).tmps.size := fun s hs => by
          obtain ⟨j, oj, hji, hlj, hoj, hdj⟩ := hfs s hs
          obtain ⟨vj, hvj⟩ : ∃ v, vs[j]? = some v := ⟨_, List.getElem?_eq_getElem (by rw [hlen]; exact (List.getElem?_eq_some_iff.1 hoj).1)⟩
          obtain ⟨x, hbx, hfx⟩ := (h.ins j oj s vj hoj (reach_ready h ho2 hp f j (hreach j hji hlj)) hdj hvj).1 hs
          exact ⟨x, hbx, hfx, by rw [(lex_size l vs a0 i).1]; exact Nat.lt_of_lt_of_le (hR.small j oj s (by simpa using hoj) hdj) hN⟩
        have hxs : ∀ s ∈ fs, b.tmps[s]? = some (b.tmps.getD s undef) ∧ FS s (b.tmps.getD s undef) w := fun s hs => by
          obtain ⟨x, hbx, hfx, _⟩ := got s hs
          simpa [hbx] using hfx
        have ag2 : ∀ d ∈ o.looksAt l.toArray, (fill fs (fun s => b.tmps.getD s undef) (lex l vs a0 i)).tmps[d]? = b.tmps[d]? := fun d hd => by
          by_cases hdf : d ∈ fs
          · obtain ⟨x, hbx, _, hlt⟩ := got d hdf
            rw [fill_in fs _ _ d hdf hlt, hbx]
            simp [hbx]
          · rw [fill_out fs _ _ d hdf]
            exact ag d hd hdf
        obtain ⟨hwt, h3⟩ := hstore (fun s => b.tmps.getD s undef) w h.cls fun s hs => (hxs s hs).2
        rw [wanted_agree (ops := l.toArray) ag2] at hwt
        rw [exec_agree (ops := l.toArray) hsel ag2] at h3
        have hin : ∀ u, Inv l vs fs FS I a0 (listed.setIfInBounds i true) (b.put o.dst u) w := fun u => h.next hR hN hI hF ho2 hp (Below.refl _ _) fun d hd => by rw [hdst] at hd; cases hd
        have hput : ∀ u, b.put o.dst u = b := fun u => by rw [hdst]; rfl
        have kk : ∀ u w', St (fun s => b.tmps.getD s undef) w w' → wpAny P .any l.toArray Q' fuel (listed.setIfInBounds i true) (b.put o.dst u) w' := fun u w' hs =>
          any_of_FS hR hN hlen hI hF hob hk hreach hfs hQ fuel _ _ w w' (by omega) (hin u) (.inr ⟨getD_set_same _ _, _, by rw [hput u]; exact hxs, hs⟩)
        unfold Go.wpOp
        simp only [ho]
        rw [if_pos hwt]
        left
        unfold Oper.wp
        generalize (execOp b.eval o).run P w = r at h3
        cases r with
        | ok n w' =>
          cases n <;> simp only [stUpon] at h3 <;> simp only [Oper.upon]
          case value u => exact kk _ _ h3
          case skip => exact kk _ _ h3
        | halt x w' => simp only [stUpon] at h3
      · have hob' : Ob P l.toArray I fs FS o v (lex l vs a0 i) := by
          rcases Nat.lt_or_gt_of_ne hik with hlt | hgt
          · exact q1 hlt
          · exact (q3 (.inl hgt)).ob
        exact op_of_F hR hN hlen h ho2 hun hp hv hob' fun u w' hb hu =>
          any_of_FS hR hN hlen hI hF hob hk hreach hfs hQ fuel _ _ w' w' (by omega) (h.next hR hN hI hF ho2 hp hb hu) (.inl ⟨by rw [getD_set_far _ hik]; exact hk0, rfl⟩)
    · have hki : k < i ∨ late i = true := by
        rcases Nat.lt_trichotomy i k with hlt | rfl | hgt
        · cases hla : late i with
          | true => exact .inr rfl
          | false => rw [reach_listed h f k i hk1 (hreach i hlt hla)] at hun; cases hun
        · rw [hk1] at hun; cases hun
        · exact .inl hgt
      obtain ⟨h1, h2, h3⟩ := q3 hki
      have he := exec_agree (ops := l.toArray) hsel fun d hd => ag d hd (h1 d hd)
      have hw := wanted_agree (ops := l.toArray) fun d hd => ag d hd (h1 d hd)
      have kv : wpAny P .any l.toArray Q' fuel (listed.setIfInBounds i true) (b.put o.dst v) w :=
        any_of_FS hR hN hlen hI hF hob hk hreach hfs hQ fuel _ _ W w (by omega) (h.next hR hN hI hF ho2 hp (Below.refl _ _) fun d hd => ⟨fun hf => absurd hf (h2 d hd), fun _ => hv⟩)
          (.inr ⟨getD_set_up _ hk1, xs, fun s hs => ⟨by rw [put_other v (fun e => h2 s e hs)]; exact (hx s hs).1, (hx s hs).2⟩, hst⟩)
      unfold Go.wpOp
      simp only [ho]
      rcases h3 with ⟨hwt, hval⟩ | ⟨hwf, rfl⟩
      · rw [hw] at hwt
        rw [if_pos hwt]
        left
        have h4 := hval w
        rw [he] at h4
        unfold Oper.wp
        generalize (execOp b.eval o).run P w = r at h4
        cases r with
        | ok n w' =>
          cases n <;> simp only [purUpon] at h4 <;> simp only [Oper.upon]
          case value u => obtain ⟨rfl, rfl⟩ := h4; exact kv
          case skip => obtain ⟨rfl, rfl⟩ := h4; exact kv
        | halt x w' => simp only [purUpon] at h4
      · rw [hw] at hwf
        rw [hwf, if_neg (by simp)]
        exact kv

theorem anyof_FS {Q : Exit → Act → World → Prop} {a : Act} {w : World} {l : List Oper} {vs : List Value} {N k f : Nat} {late : Nat → Bool} {fs : List Tmp} {FS : Tmp → Value → World → Prop} {I : World → Prop} {St : (Tmp → Value) → World → World → Prop} (hR : RG .any l.toArray N)
    (hk' : k < l.length) (hreach : ∀ j, j < k → late j = false → reachB .any l.toArray f k j = true) (hfs' : ∀ s ∈ fs, ∃ (j : Nat) (o : Oper), j < k ∧ late j = false ∧ l[j]? = some o ∧ o.dst = some s) (hN : N ≤ a.tmps.size) (hI : Closed I) (hF : ∀ s x w w', FS s x w → Below w.heap.size w w' → FS s x w') (hC : I w.drew)
    (hlen : vs.length = l.length) (hob : ∀ (j : Nat) o v, l[j]? = some o → vs[j]? = some v → (j < k → Ob P l.toArray I fs FS o v (lex l vs a j)) ∧ (j = k → StOb P l.toArray I fs FS St o (lex l vs a j)) ∧ (k < j ∨ late j = true → PureOb P l.toArray fs o v (lex l vs a j)))
    (hE : ∀ xs W w', I W → (∀ s ∈ fs, FS s (xs s) W) → St xs W w' → Q .normal (fill fs xs (lex l vs a l.length)) w') : wpAny P .any l.toArray Q l.toArray.size (Array.replicate l.toArray.size false) a w.drew := by
  refine any_of_FS (l := l) (vs := vs) (fs := fs) (FS := FS) (I := I) (a0 := a) (St := St) (k := k) (f := f) (late := late) hR hN hlen hI hF hob hk' hreach hfs' ?_ _ _ _ w.drew _ ?_ ?_ ?_
  · intro listed b W w' xs hall hinv hx hst
    have hb : b = fill fs xs (lex l vs a l.length) := by
      have ht : b.tmps = (fill fs xs (lex l vs a l.length)).tmps := by
        apply Array.ext_getElem?
        intro d
        by_cases hd : d ∈ fs
        · have hlt : d < (lex l vs a l.length).tmps.size := by
            rw [(lex_size l vs a l.length).1, ← hinv.size]
            exact (Array.getElem?_eq_some_iff.1 (hx d hd).1).1
          rw [fill_in fs _ _ d hd hlt, (hx d hd).1]
        · rw [fill_out fs _ _ d hd]
          by_cases hwr : ∃ (j : Nat) (oj : Oper), l[j]? = some oj ∧ oj.dst = some d
          · obtain ⟨j, oj, hj, hdj⟩ := hwr
            obtain ⟨v, hv⟩ : ∃ v, vs[j]? = some v := ⟨_, List.getElem?_eq_getElem (by rw [hlen]; exact (List.getElem?_eq_some_iff.1 hj).1)⟩
            have hj' : l.toArray[j]? = some oj := by simpa using hj
            rw [(hinv.ins j oj d v hj (hall j) hdj hv).2 hd]
            exact (lex_in l vs a l.length j oj d v hj (List.getElem?_eq_some_iff.1 hj).1 hv hdj (Nat.lt_of_lt_of_le (hR.small _ _ _ hj' hdj) hN) fun i oi hi _ hne => hR.once i j oi oj d (by simpa using hi) hj' hdj hne).symm
          · rw [lex_out l vs a l.length d fun i oi hi _ hdi => hwr ⟨i, oi, hi, hdi⟩]
            exact hinv.out d fun i oi hi _ hdi => hwr ⟨i, oi, hi, hdi⟩
      have hd : b.defers = (fill fs xs (lex l vs a l.length)).defers := by
        rw [(fill_size ..).2, (lex_size ..).2]
        exact hinv.defers
      cases b
      simp only at ht hd
      rw [Act.mk.injEq]
      exact ⟨ht, hd⟩
    rw [hb]
    exact hE xs W w' hinv.cls (fun s hs => (hx s hs).2) hst
  · simp
  · refine ⟨hC, rfl, rfl, fun _ _ => rfl, fun j o d v hj hlj => ?_, fun j o hj hlj => ?_, by simp⟩
    all_goals
      have hlt := (List.getElem?_eq_some_iff.1 hj).1
      rw [Array.getD_eq_getD_getElem?] at hlj
      simp [hlt] at hlj
  · refine .inl ⟨?_, rfl⟩
    rw [Array.getD_eq_getD_getElem?]
    simp [hk']
theorem region_of_FS {id : Nat} {Q : Exit → Act → World → Prop} {a : Act} {w : World} {l : List Oper} {vs : List Value} {N k f : Nat} {late : Nat → Bool} {fs : List Tmp} {FS : Tmp → Value → World → Prop} {I : World → Prop} {St : (Tmp → Value) → World → World → Prop} (hm : P.follows .mixedOrders = true) (hR : RG .any l.toArray N)
    (hk' : k < l.length) (hreach : ∀ j, j < k → late j = false → reachB .any l.toArray f k j = true) (hfs' : ∀ s ∈ fs, ∃ (j : Nat) (o : Oper), j < k ∧ late j = false ∧ l[j]? = some o ∧ o.dst = some s) (hN : N ≤ a.tmps.size) (hI : Closed I) (hF : ∀ s x w w', FS s x w → Below w.heap.size w w' → FS s x w') (hC : I w.drew)
    (hlen : vs.length = l.length) (hob : ∀ (j : Nat) o v, l[j]? = some o → vs[j]? = some v → (j < k → Ob P l.toArray I fs FS o v (lex l vs a j)) ∧ (j = k → StOb P l.toArray I fs FS St o (lex l vs a j)) ∧ (k < j ∨ late j = true → PureOb P l.toArray fs o v (lex l vs a j)))
    (hE : ∀ xs W w', I W → (∀ s ∈ fs, FS s (xs s) W) → St xs W w' → Q .normal (fill fs xs (lex l vs a l.length)) w') : (Code.region id l.toArray true).wp P Q a w :=
  wp_region_any hm (anyof_FS (vs := vs) (k := k) (f := f) (late := late) (fs := fs) (FS := FS) (I := I) (St := St) hR hk' hreach hfs' hN hI hF hC hlen hob hE)
/-- ONE WALK IN THE TEXT's ORDER SERVES EVERY ORDER, the store at place k -/
theorem any_region_FS {Q : Exit → Act → World → Prop} {a : Act} {w : World} {l : List Oper} (N k f : Nat) (fs : List Tmp) (FS : Tmp → Value → World → Prop) (I : World → Prop) (St : (Tmp → Value) → World → World → Prop) (hB : rgB .any l.toArray N = true)
    (hk : decide (k < l.length) = true) (hreach : ((List.range k).all fun j => reachB .any l.toArray f k j) = true) (hfs : (fs.all fun s => (l.take k).any fun o => o.dst == some s) = true) (hN : N ≤ a.tmps.size) (hI : Closed I) (hF : ∀ s x w w', FS s x w → Below w.heap.size w w' → FS s x w') (hC : I w.drew)
    (h : wpFS P l.toArray I fs FS St (fun a' => ∀ xs W w', I W → (∀ s ∈ fs, FS s (xs s) W) → St xs W w' → Q .normal (fill fs xs a') w') (some k) l a) : wpAny P .any l.toArray Q l.toArray.size (Array.replicate l.toArray.size false) a w.drew := by
  have hR := rgB_spec hB
  have hk' : k < l.length := by simpa using hk
  obtain ⟨vs, hlen, hob, hE⟩ := wpFS_vals k l a h
  have hfs' : ∀ s ∈ fs, ∃ (j : Nat) (o : Oper), j < k ∧ (fun _ : Nat => false) j = false ∧ l[j]? = some o ∧ o.dst = some s := fun s hs => by
    rw [List.all_eq_true] at hfs
    have h1 := hfs s hs
    rw [List.any_eq_true] at h1
    obtain ⟨o, ho, hd⟩ := h1
    obtain ⟨j, hj, rfl⟩ := List.getElem_of_mem ho
    have hj1 : j < k := by rw [List.length_take] at hj; omega
    have hj2 : j < l.length := by rw [List.length_take] at hj; omega
    exact ⟨j, l[j], hj1, rfl, List.getElem?_eq_getElem hj2, by simpa using hd⟩
  exact anyof_FS (late := fun _ => false) hR hk' (fun j hj _ => by rw [List.all_eq_true] at hreach; exact hreach j (List.mem_range.2 hj)) hfs' hN hI hF hC hlen (fun j o v h1 h2 => ⟨(hob j o v h1 h2).1, (hob j o v h1 h2).2.1, fun h => (hob j o v h1 h2).2.2 (h.elim (fun h => h) (fun h => absurd h Bool.false_ne_true))⟩) hE
theorem wp_region_FS {id : Nat} {Q : Exit → Act → World → Prop} {a : Act} {w : World} {l : List Oper} (N k f : Nat) (fs : List Tmp) (FS : Tmp → Value → World → Prop) (I : World → Prop) (St : (Tmp → Value) → World → World → Prop) (hm : P.follows .mixedOrders = true) (hB : rgB .any l.toArray N = true)
    (hk : decide (k < l.length) = true) (hreach : ((List.range k).all fun j => reachB .any l.toArray f k j) = true) (hfs : (fs.all fun s => (l.take k).any fun o => o.dst == some s) = true) (hN : N ≤ a.tmps.size) (hI : Closed I) (hF : ∀ s x w w', FS s x w → Below w.heap.size w w' → FS s x w') (hC : I w.drew)
    (h : wpFS P l.toArray I fs FS St (fun a' => ∀ xs W w', I W → (∀ s ∈ fs, FS s (xs s) W) → St xs W w' → Q .normal (fill fs xs a') w') (some k) l a) : (Code.region id l.toArray true).wp P Q a w :=
  wp_region_any hm (any_region_FS N k f fs FS I St hB hk hreach hfs hN hI hF hC h)

/-! ### its steps -/
section
variable {St : (Tmp → Value) → World → World → Prop} {E : Act → Prop} {o : Oper} {rest : List Oper} {a : Act}
/-- any of XQ6's steps: shown of the operation alone, with what follows taken as it comes -/
theorem wpFS_step {k : Nat} (h : wpF P l.toArray I fs FS (fun a' => wpFS P l.toArray I fs FS St E (some k) rest a') [o] a) : wpFS P l.toArray I fs FS St E (some (k + 1)) (o :: rest) a := by
  obtain ⟨v, hob, hr⟩ := h
  exact ⟨v, hob, hr⟩
/-- the store -/
theorem wpFS_store {t : TypeId} {x y : Operand} (ho : o.op = .store t x y) (hd : o.dst = none) (hg : o.guard = none) (ad : Addr) (v : (Tmp → Value) → Value) (hx : ∀ xs, (fill fs xs a).eval x = .pointer (some ad)) (hy : ∀ xs, (fill fs xs a).eval y = v xs)
    (hrun : ∀ xs w, I w → (∀ s ∈ fs, FS s (xs s) w) → ∃ w', (Instr.storeAt t (.pointer (some ad)) (v xs)).run P w = .ok () w' ∧ St xs w w') (h : wpFS P l.toArray I fs FS St E none rest a) : wpFS P l.toArray I fs FS St E (some 0) (o :: rest) a := by
  refine ⟨⟨hd, fun xs w hI hs => ⟨by simp [Region.wanted, hg], ?_⟩⟩, h⟩
  obtain ⟨w', hr, hst⟩ := hrun xs w hI hs
  unfold execOp
  simp only [ho, hx xs, hy xs]
  rw [Sem.run_bind, hr]
  exact hst
/-- behind the store -/
theorem wpFS_pure (hk : kindOf o = 0) (hn : noB l.toArray fs o = true) (h : wpQuiet P l.toArray (fun _ => True) (fun a' => wpFS P l.toArray I fs FS St E none rest a') [o] a) : wpFS P l.toArray I fs FS St E none (o :: rest) a := by
  obtain ⟨h1, h2⟩ := noB_spec hn
  unfold wpQuiet at h
  by_cases hw : Region.wanted o (yielded l.toArray a.tmps) = true
  · simp only [hw, if_true] at h
    obtain ⟨v, hv, hr⟩ := h
    refine ⟨v, ⟨h1, h2, .inl ⟨hw, fun w => ?_⟩⟩, hr⟩
    have h3 := hv w trivial
    have h4 := pure_no_enter (P := P) (kind_pure hk) a.eval w
    unfold Oper.quietAt at h3
    generalize (execOp a.eval o).run P w = r at h3 h4
    cases r with
    | ok n w' =>
      cases n with
      | enter f args => exact absurd rfl (h4 w' f args)
      | value u => exact h3
      | skip => exact h3
      | _ => simp only [Oper.quietUpon] at h3
    | halt x w' => simp only [Oper.quietUpon] at h3
  · simp only [hw] at h
    exact ⟨undef, ⟨h1, h2, .inr ⟨by simpa using hw, rfl⟩⟩, h⟩
end
end
end Go.Proofs.YtfdbcfkjablnkaaGreat

namespace Go.Proofs.YtfdbcfkjablnkaaGreat
open Go.RowKit
section
variable {P : Program} {l : List Oper} {fs : List Tmp} {FS : Tmp → Value → World → Prop} {I : World → Prop} {E : Act → Prop} {o : Oper} {rest : List Oper} {a : Act}
/-- an operation whose value is the same in every world of the class, and which leaves the world -/
theorem wpF_val (v : Value) (hn : noB l.toArray fs o = true) (hw : Region.wanted o (yielded l.toArray a.tmps) = true)
    (hrun : ∀ w, I w → (execOp a.eval o).run P w = .ok (.value v) w) (h : wpF P l.toArray I fs FS E rest (a.put o.dst v)) : wpF P l.toArray I fs FS E (o :: rest) a := by
  obtain ⟨h1, h2⟩ := noB_spec hn
  refine ⟨v, .inl ⟨h1, h2, .inl ⟨hw, fun w hI => ?_⟩⟩, h⟩
  rw [hrun w hI]
  exact ⟨rfl, rfl⟩
theorem wpF_nil {x : Operand} {ad : Addr} (hop : o.op = .nilCheck x) (hn : noB l.toArray fs o = true) (hw : Region.wanted o (yielded l.toArray a.tmps) = true) (hx : a.eval x = .pointer (some ad))
    (h : wpF P l.toArray I fs FS E rest (a.put o.dst (.pointer (some ad)))) : wpF P l.toArray I fs FS E (o :: rest) a :=
  wpF_val _ hn hw (fun w _ => by simp only [execOp, hop, hx]; rfl) h
/-- the store of XQ7's law, to an address that a source has given -/
theorem wpFS_storeX {St : (Tmp → Value) → World → World → Prop} {t : TypeId} {x y : Operand} (ho : o.op = .store t x y) (hd : o.dst = none) (hg : o.guard = none)
    (hrun : ∀ xs w, I w → (∀ s ∈ fs, FS s (xs s) w) → ∃ w', (Instr.storeAt t ((fill fs xs a).eval x) ((fill fs xs a).eval y)).run P w = .ok () w' ∧ St xs w w') (h : wpFS P l.toArray I fs FS St E none rest a) : wpFS P l.toArray I fs FS St E (some 0) (o :: rest) a := by
  refine ⟨⟨hd, fun xs w hI hs => ⟨by simp [Region.wanted, hg], ?_⟩⟩, h⟩
  obtain ⟨w', hr, hst⟩ := hrun xs w hI hs
  unfold execOp
  simp only [ho]
  rw [Sem.run_bind, hr]
  exact hst
end
end Go.Proofs.YtfdbcfkjablnkaaGreat

namespace Go.Proofs.YtfdbcfkjablnkaaGreat
open Go.RowKit
section
variable {P : Program} {l : List Oper} {vs : List Value} {fs : List Tmp} {FS : Tmp → Value → World → Prop} {I : World → Prop} {a0 : Act}
theorem lex_take : ∀ (l : List Oper) (vs us : List Value) (a : Act) (n j : Nat), j ≤ n → vs.length = (l.take n).length → lex (l.take n) vs a j = lex l (vs ++ us) a j
  | _, _, _, _, _, 0, _, _ => by rw [lex_zero, lex_zero]
  | [], vs, us, a, n, j + 1, _, _ => by simp [lex]
  | o :: r, [], us, a, n + 1, j + 1, _, h2 => by simp at h2
  | o :: r, v :: vs, us, a, n + 1, j + 1, h1, h2 => by
    rw [List.take_succ_cons, List.cons_append, lex, lex]
    exact lex_take r vs us _ n j (by omega) (by simpa using h2)
theorem count_take {L : Array Bool} {n i : Nat} (hi : i < n) (h : L.getD i true = false) : ((L.setIfInBounds i true).toList.take n).count false + 1 = (L.toList.take n).count false := by
  have hL : (L.setIfInBounds i true).toList.take n = (((L.toList.take n).toArray).setIfInBounds i true).toList := by
    simp [List.take_set]
  rw [hL]
  refine count_set (L := (L.toList.take n).toArray) ?_
  rw [Array.getD_eq_getD_getElem?] at h ⊢
  simpa [List.getElem?_take, hi] using h
theorem count_take_zero {L : Array Bool} {n : Nat} (h : (L.toList.take n).count false = 0) (j : Nat) (hj : j < n) : L.getD j true = true := by
  have := count_zero (L := (L.toList.take n).toArray) (by simpa using h) j
  rw [Array.getD_eq_getD_getElem?] at this ⊢
  simpa [List.getElem?_take, hj] using this
theorem count_take_pos {L : Array Bool} {n f : Nat} (h : (L.toList.take n).count false = f + 1) : ∃ i, i < n ∧ L.getD i true = false := by
  have : 0 < (L.toList.take n).count false := by omega
  rw [List.count_pos_iff] at this
  obtain ⟨i, hi, hv⟩ := List.getElem_of_mem this
  rw [List.length_take] at hi
  refine ⟨i, by omega, ?_⟩
  rw [Array.getD_eq_getD_getElem?]
  have h2 : i < L.size := by have : L.toList.length = L.size := by simp
                             omega
  rw [List.getElem_take] at hv
  simp [h2]
  simpa using hv

theorem any_of_FT {N n : Nat} {Q' : Exit → Act → World → Prop} (hR : RG .any l.toArray N) (hN : N ≤ a0.tmps.size) (hlen : vs.length = l.length) (hI : Closed I) (hF : ∀ s x w w', FS s x w → Below w.heap.size w w' → FS s x w')
    (hob : ∀ (j : Nat) o v, j < n → l[j]? = some o → vs[j]? = some v → Ob P l.toArray I fs FS o v (lex l vs a0 j)) (hn : n < l.length) (hs : Region.sinkB .any l.toArray n = true) (hc : Region.chainB .any l.toArray n = true)
    (hQ : ∀ (listed : Array Bool) b w, (∀ j, j < n → listed.getD j true = true) → (∀ t, n ≤ t → t < l.length → listed.getD t true = false) → Inv l vs fs FS I a0 listed b w → wpAny P .any l.toArray Q' (l.length - n) listed b w) :
    ∀ (f : Nat) (listed : Array Bool) (b : Act) (w : World), (listed.toList.take n).count false = f → HeadInv .any l.toArray n listed → Inv l vs fs FS I a0 listed b w → wpAny P .any l.toArray Q' (f + (l.length - n)) listed b w
  | 0, listed, b, w, hcn, hh, h => by
    rw [Nat.zero_add]
    exact hQ listed b w (fun j hj => count_take_zero hcn j hj) (fun t h1 h2 => hh.tail t h1 (by simpa using h2)) h
  | f + 1, listed, b, w, hcn, hh, h => by
    obtain ⟨i0, hi0, hu0⟩ := count_take_pos hcn
    rw [show f + 1 + (l.length - n) = (f + (l.length - n)) + 1 by omega]
    refine ⟨fun h0 => ?_, fun i hi => ?_⟩
    · have hall := ready_all hR h.lsize h0
      rw [hall i0] at hu0
      cases hu0
    have hin : i < n := by
      rcases Nat.lt_or_ge i n with h1 | h1
      · exact h1
      · exact absurd hi (tail_waits hs hc (by simpa using hn) hh _ i0 rfl hi0 hu0 i h1)
    obtain ⟨hun, o, ho, hall⟩ := mem_ready.1 hi
    have ho2 : l[i]? = some o := by simpa using ho
    have hp : ∀ e ∈ o.after, Region.binds .any e = true → listed.getD e.on true = true := fun e he hb => by
      have h1 := hall e he hb
      rw [Array.getD_eq_getD_getElem?] at h1 ⊢
      cases hx : listed[e.on]? with
      | none => rfl
      | some y => rw [hx] at h1; simpa using h1
    obtain ⟨v, hv⟩ : ∃ v, vs[i]? = some v := ⟨_, List.getElem?_eq_getElem (by rw [hlen]; exact (List.getElem?_eq_some_iff.1 ho2).1)⟩
    have hcnt := count_take hin hun
    exact op_of_F hR hN hlen h ho2 hun hp hv (hob i o v hin ho2 hv) fun u w' hb hu =>
      any_of_FT hR hN hlen hI hF hob hn hs hc hQ f _ _ w' (by omega) (hh.set hi hin) (h.next hR hN hI hF ho2 hp hb hu)

/-- ONE WALK IN THE TEXT's ORDER SERVES EVERY ORDER; the tail, behind place n, as it stands -/
theorem wp_region_FT {id : Nat} {Q : Exit → Act → World → Prop} {a : Act} {w : World} {l : List Oper} (N n : Nat) (fs : List Tmp) (FS : Tmp → Value → World → Prop) (I : World → Prop) (hm : P.follows .mixedOrders = true) (hB : rgB .any l.toArray N = true)
    (hn : decide (n < l.length) = true) (hs : Region.sinkB .any l.toArray n = true) (hc : Region.chainB .any l.toArray n = true)
    (hq : Region.seqB .any l.toArray (l.length - n) n (List.replicate n true ++ List.replicate (l.length - n) false).toArray = true)
    (hfs : (fs.all fun s => (l.take n).any fun o => o.dst == some s) = true) (hN : N ≤ a.tmps.size) (hI : Closed I) (hF : ∀ s x w w', FS s x w → Below w.heap.size w w' → FS s x w') (hC : I w.drew)
    (h : wpF P l.toArray I fs FS (fun a' => ∀ xs w', I w' → (∀ s ∈ fs, FS s (xs s) w') → wpList P l.toArray Q (l.drop n) (fill fs xs a') w') (l.take n) a) : (Code.region id l.toArray true).wp P Q a w := by
  have hR := rgB_spec hB
  have hn' : n < l.length := by simpa using hn
  obtain ⟨vs0, hlen0, hob0, hE0⟩ := wpF_vals (l.take n) a h
  have htl : (l.take n).length = n := by rw [List.length_take]; omega
  rw [htl] at hlen0 hE0
  obtain ⟨vs, hvs⟩ : ∃ vs, vs0 ++ List.replicate (l.length - n) undef = vs := ⟨_, rfl⟩
  have hlen : vs.length = l.length := by rw [← hvs, List.length_append, List.length_replicate]; omega
  have hlex : ∀ j, j ≤ n → lex (l.take n) vs0 a j = lex l vs a j := fun j hj => by rw [← hvs]; exact lex_take l vs0 _ a n j hj (by rw [hlen0, htl])
  have hob : ∀ (j : Nat) o v, j < n → l[j]? = some o → vs[j]? = some v → Ob P l.toArray I fs FS o v (lex l vs a j) := fun j o v hj ho hv => by
    rw [← hlex j (by omega)]
    refine hob0 j o v (by rw [List.getElem?_take, if_pos hj]; exact ho) ?_
    rw [← hvs, List.getElem?_append_left (by omega)] at hv
    exact hv
  rw [hlex n (Nat.le_refl _)] at hE0
  have inv0 : HeadInv .any l.toArray n (Array.replicate l.toArray.size false) :=
    ⟨by simp, fun j oj _ hl => (by rw [getD_replicate_false] at hl; cases hl), fun t _ ht => getD_in (by simpa using ht) (getD_replicate_false _ _)⟩
  refine wp_region_any hm ?_
  have key := any_of_FT (Q' := Q) (l := l) (vs := vs) (fs := fs) (FS := FS) (I := I) (a0 := a) (n := n) hR hN hlen hI hF hob hn' hs hc ?_ n (Array.replicate l.toArray.size false) a w.drew (by
      simp only [List.size_toArray, Array.toList_replicate, List.take_replicate, List.count_replicate_self]; omega) inv0 ?_
  · rw [show n + (l.length - n) = l.toArray.size by simp; omega] at key
    exact key
  · intro listed b W hall hno hinv
    have hw : ∀ s ∈ fs, ∃ x, b.tmps[s]? = some x ∧ FS s x W := fun s hs => by
      rw [List.all_eq_true] at hfs
      have h1 := hfs s hs
      rw [List.any_eq_true] at h1
      obtain ⟨o, ho, hd⟩ := h1
      obtain ⟨j, hj, rfl⟩ := List.getElem_of_mem ho
      have hj1 : j < n := by rw [List.length_take] at hj; omega
      have hj2 : j < l.length := by omega
      have hd' : (l[j]).dst = some s := by simpa using hd
      obtain ⟨v, hv⟩ : ∃ v, vs[j]? = some v := ⟨_, List.getElem?_eq_getElem (by rw [hlen]; exact hj2)⟩
      exact (hinv.ins j l[j] s v (List.getElem?_eq_getElem hj2) (hall j hj1) hd' hv).1 hs
    have hb : b = fill fs (fun s => b.tmps.getD s undef) (lex l vs a n) := by
      have ht : b.tmps = (fill fs (fun s => b.tmps.getD s undef) (lex l vs a n)).tmps := by
        apply Array.ext_getElem?
        intro d
        by_cases hd : d ∈ fs
        · obtain ⟨x, hx, _⟩ := hw d hd
          have hlt : d < (lex l vs a n).tmps.size := by
            rw [(lex_size l vs a n).1, ← hinv.size]
            exact (Array.getElem?_eq_some_iff.1 hx).1
          rw [fill_in fs _ _ d hd hlt, hx]
          simp [hx]
        · rw [fill_out fs _ _ d hd]
          by_cases hwr : ∃ (j : Nat) (oj : Oper), j < n ∧ l[j]? = some oj ∧ oj.dst = some d
          · obtain ⟨j, oj, hjn, hj, hdj⟩ := hwr
            obtain ⟨v, hv⟩ : ∃ v, vs[j]? = some v := ⟨_, List.getElem?_eq_getElem (by rw [hlen]; exact (List.getElem?_eq_some_iff.1 hj).1)⟩
            have hj' : l.toArray[j]? = some oj := by simpa using hj
            rw [(hinv.ins j oj d v hj (hall j hjn) hdj hv).2 hd]
            exact (lex_in l vs a n j oj d v hj hjn hv hdj (Nat.lt_of_lt_of_le (hR.small _ _ _ hj' hdj) hN) fun i oi hi _ hne => hR.once i j oi oj d (by simpa using hi) hj' hdj hne).symm
          · rw [lex_out l vs a n d fun i oi hi hin hdi => hwr ⟨i, oi, hin, hi, hdi⟩]
            refine hinv.out d fun i oi hi hli hdi => hwr ⟨i, oi, ?_, hi, hdi⟩
            rcases Nat.lt_or_ge i n with h1 | h1
            · exact h1
            · rw [hno i h1 (List.getElem?_eq_some_iff.1 hi).1] at hli; cases hli
      have hd : b.defers = (fill fs (fun s => b.tmps.getD s undef) (lex l vs a n)).defers := by
        rw [(fill_size ..).2, (lex_size ..).2]
        exact hinv.defers
      cases b
      simp only at ht hd
      rw [Act.mk.injEq]
      exact ⟨ht, hd⟩
    have hL : listed = (List.replicate n true ++ List.replicate (l.length - n) false).toArray := by
      apply Array.ext
      · simp [hinv.lsize]; omega
      · intro j h1 h2
        have hj : j < l.length := by rw [← hinv.lsize]; exact h1
        by_cases hjn : j < n
        · have h3 := hall j hjn
          rw [Array.getD_eq_getD_getElem?, Array.getElem?_eq_getElem h1] at h3
          simp only [List.getElem_toArray]
          rw [List.getElem_append_left (by simpa using hjn)]
          simpa using h3
        · have h3 := hno j (by omega) hj
          rw [Array.getD_eq_getD_getElem?, Array.getElem?_eq_getElem h1] at h3
          simp only [List.getElem_toArray]
          rw [List.getElem_append_right (by simpa using Nat.le_of_not_lt hjn)]
          simpa using h3
    have hE := hE0 (fun s => b.tmps.getD s undef) W hinv.cls fun s hs => by
      obtain ⟨x, hx, hf⟩ := hw s hs
      simpa [hx] using hf
    rw [← hb] at hE
    have := wpAny_of_seq (md := .any) (Q' := Q) (l.drop n) n listed b W (fun j => by simp [List.getElem?_drop]) (by rw [List.length_drop, hL]; exact hq) hE
    rwa [List.length_drop] at this
  · refine ⟨hC, rfl, rfl, fun _ _ => rfl, fun j o d v hj hlj => ?_, fun j o hj hlj => ?_, by simp⟩
    all_goals
      have hlt := (List.getElem?_eq_some_iff.1 hj).1
      rw [Array.getD_eq_getD_getElem?] at hlj
      simp [hlt] at hlj
end
end Go.Proofs.YtfdbcfkjablnkaaGreat

namespace Go.Proofs.YtfdbcfkjablnkaaGreat
open Go.RowKit
set_option maxRecDepth 100000

section
variable {w : World} {b m : Nat} {v k s c : Int} {E : List Pl}
theorem tot_le {D R E : List Pl} (hp : (D ++ R).Perm E) : Sl.tot (D.map Pl.ct) ≤ Sl.tot (E.map Pl.ct) := by
  rw [← Sl.tot_perm (hp.map Pl.ct)]
  simp [Sl.tot]
theorem ssize_any (h : SlotAt w b m v k s c E) : Calls Tryz.prog 90 #[.pointer (some ⟨b, 0, none⟩)] w fun e w' => e = .returned (.int .i64 (Sl.tot (E.map Pl.ct) : Int)) ∧ Below w.heap.size w w' := by
  obtain ⟨c0, c1, c2, c3, c4, c5⟩ := h.cells
  have hmap := h.map
  have hmost := h.most
  clear h c0 c1 c2 c3 c4
  go_enter Tryz.func90, Tryz.ntmps90
  go_wp2_with (at_range; refine wpList_range_map rfl (.tmp 11) 145 rfl 3 40 Tryz.underlying145 rfl hmap ?_; intro w0 hrg0 hb0 hs0)
  go_frame
  go_loopw [3] (fun n wr => ∃ D : List Pl, RangeAt wr m w.heap.size E D ∧ Below w.heap.size w wr ∧ n = .int .i64 (Sl.tot (D.map Pl.ct) : Int)) (fun _ wr => wr.rangeLeft m w.heap.size)
  case atStart => exact ⟨[], hrg0, hb0, rfl⟩
  case round =>
    obtain ⟨D, hrg, hbw, rfl⟩ := hrel
    go_wp2_with (at_next; refine wpList_next_map rfl (.tmp 12) rfl rfl hrg ?_ ?_)
    · intro hd
      have e1 := Lib.hid (Sl.tot_perm (hd.map Pl.ct))
      go_wp2
      go_ret
      exact ⟨by rw [← e1.out]; rfl, hbw⟩
    · intro p w1 hp hrg1 ho1 hs1 hen
      have hd1 := hrg1.left
      have hd0 := hrg.left
      obtain ⟨R, hperm⟩ := hrg1.sub
      have htot := tot_le hperm
      have hlen := hperm.length_eq
      have e1 : Sl.tot ((D ++ [p]).map Pl.ct) = Sl.tot (D.map Pl.ct) + p.zs.length := by rw [List.map_append]; exact Sl.tot_push _ _
      rw [e1] at htot
      have hb1 : Below w.heap.size w w1 := hbw.trans (ho1.below (fun q hq => by subst hq; exact Nat.le_refl _) hbw.size)
      go_wp2
      go_roundw
      case rel => exact ⟨D ++ [p], hrg1, hb1, by rw [e1]; simp⟩
      case measure =>
        rw [hd1, hd0]
        simp at hlen ⊢
        omega
end
/-- the first error of a frame that comes to a slot -/
def sErr (v k s c v' k' s' i' c' : Int) (C : Sl.Ct) (zs : List Int) : Int :=
  if mateZ v k s c v' k' s' c' = false then 17 else if i' < 0 ∨ c ≤ i' then 3 else if zs.length = 0 then 13 else if Sl.has C i'.toNat then 16 else if 192 < Sl.tot C + zs.length then 6 else 0
theorem sErr_zero {v k s c v' k' s' i' c' : Int} {C : Sl.Ct} {zs : List Int} (h : sErr v k s c v' k' s' i' c' C zs = 0) :
    (v = v' ∧ k = k' ∧ s = s' ∧ c = c') ∧ 0 ≤ i' ∧ i' < c ∧ zs ≠ [] ∧ Sl.has C i'.toNat = false ∧ Sl.tot C + zs.length ≤ 192 := by
  unfold sErr at h
  repeat' split at h
  all_goals first | omega | skip
  rename_i h1 h2 h3 h4 h5
  refine ⟨by simpa [mateZ] using h1, by omega, by omega, ?_, by simpa using h4, by omega⟩
  intro e; subst e; simp at h3

theorem ret_intS {a b : Int} (h : a = b) : Ending.returned (.int .i64 a) = Ending.returned (.int .i64 b) := by rw [h]
set_option maxHeartbeats 8000000 in
theorem scheck_any {w : World} {b m : Nat} {v k s c : Int} {E : List Pl} (h : SlotAt w b m v k s c E) (v' k' s' i' c' : Int) (a : Option Addr) (n cp : Nat) (zs : List Int) (hn : zs.length = n) :
    Calls Tryz.prog 77 #[.pointer (some ⟨b, 0, none⟩), frV v' k' s' i' c' (.slice a n cp)] w fun e w' => e = .returned (.int .i64 (sErr v k s c v' k' s' i' c' (E.map Pl.ct) zs)) ∧ Below w.heap.size w w' := by
  obtain ⟨w1, hw1⟩ : ∃ w1, w.alloc (.cells (frC v' k' s' i' c' (.slice a n cp)) 42) = w1 := ⟨_, rfl⟩
  have hlt := h.size
  have hb1 : Below w.heap.size w w1 := by rw [← hw1]; exact (Below.refl _ w).alloc (Nat.le_refl _) _
  have hs1 : w1.heap.size = w.heap.size + 1 := by rw [← hw1]; simp
  have h1 := h.below hb1
  have hbx : w1.heap[w.heap.size]? = some (.cells (frC v' k' s' i' c' (.slice a n cp)) 42 (0, 0)) := by rw [← hw1]; exact World.alloc_heap_new _ _
  have SL : ∀ V, Below w1.heap.size w1 V → SlotAt V b m v k s c E := fun V hV => h1.below hV
  have BX : ∀ V, Below w1.heap.size w1 V → V.cell? ⟨w.heap.size, 0, none⟩ = some (.int .i64 v') ∧ V.cell? ⟨w.heap.size, 1, none⟩ = some (.int .i64 k') ∧ V.cell? ⟨w.heap.size, 2, none⟩ = some (.int .u32 s') ∧ V.cell? ⟨w.heap.size, 3, none⟩ = some (.int .i64 i') ∧ V.cell? ⟨w.heap.size, 4, none⟩ = some (.int .i64 c') ∧ V.cell? ⟨w.heap.size, 5, none⟩ = some (.slice a n cp) :=
    fun V hV => fr_block ((hV.block _ (by omega)).trans hbx)
  have L1 : ∀ V, Below w1.heap.size w1 V → (Instr.loadAt 39 (.pointer (some ⟨b, 0, none⟩))).run Tryz.prog V = .ok (.agg #[.int .i64 v, .int .i64 k, .int .u32 s, .int .i64 0, .int .i64 c]) V := fun V hV => by
    obtain ⟨d0, d1, d2, d3, d4, d5⟩ := (SL V hV).cells
    simp [Instr.loadAt, go_sem, d0, d1, d2, d3, d4]
  have L2 : ∀ V, Below w1.heap.size w1 V → (Instr.loadAt 39 (.pointer (some ⟨w.heap.size, 0, none⟩))).run Tryz.prog V = .ok (.agg #[.int .i64 v', .int .i64 k', .int .u32 s', .int .i64 i', .int .i64 c']) V := fun V hV => by
    obtain ⟨d0, d1, d2, d3, d4, d5⟩ := BX V hV
    simp [Instr.loadAt, go_sem, d0, d1, d2, d3, d4]
  have L3 : ∀ V, Below w1.heap.size w1 V → (Instr.loadAt 3 (.pointer (some ⟨w.heap.size, 3, none⟩))).run Tryz.prog V = .ok (.int .i64 i') V := fun V hV => by
    obtain ⟨d0, d1, d2, d3, d4, d5⟩ := BX V hV
    simp [Instr.loadAt, go_sem, d3]
  have L4 : ∀ V, Below w1.heap.size w1 V → (Instr.loadAt 3 (.pointer (some ⟨b, 4, none⟩))).run Tryz.prog V = .ok (.int .i64 c) V := fun V hV => by
    obtain ⟨d0, d1, d2, d3, d4, d5⟩ := (SL V hV).cells
    simp [Instr.loadAt, go_sem, d4]
  have L5 : ∀ V, Below w1.heap.size w1 V → (Instr.loadAt 40 (.pointer (some ⟨w.heap.size, 5, none⟩))).run Tryz.prog V = .ok (.slice a n cp) V := fun V hV => by
    obtain ⟨d0, d1, d2, d3, d4, d5⟩ := BX V hV
    simp [Instr.loadAt, go_sem, d5]
  have KM := Lib.hid (fun (V : World) (_ : Below w1.heap.size w1 V) => mates_any v k s 0 c v' k' s' i' c' V)
  have KS := Lib.hid (fun (V : World) (hV : Below w1.heap.size w1 V) => ssize_any (SL V hV))
  obtain ⟨nc, hnc, nc1, nc2, _⟩ := h.count
  have KH := Lib.hid (fun (V : World) (hV : Below w1.heap.size w1 V) (j : Nat) (hj : j ≤ 255) => shas_any (SL V hV) j hj)
  have HT := Lib.hid h.most
  have HSL := Lib.hid SL
  have HBX := Lib.hid BX
  have HW1 : Hid (w.alloc (.cells #[.int .i64 v', .int .i64 k', .int .u32 s', .int .i64 i', .int .i64 c', .slice a n cp] 42) = w1) := Lib.hid hw1
  have HB1 := Lib.hid hb1
  have HSE := Lib.hid (show sErr v k s c v' k' s' i' c' (E.map Pl.ct) zs = if mateZ v k s c v' k' s' c' = false then 17 else if i' < 0 ∨ c ≤ i' then 3 else if n = 0 then 13 else if Sl.has (E.map Pl.ct) i'.toNat then 16 else if 192 < Sl.tot (E.map Pl.ct) + n then 6 else 0 by rw [← hn]; rfl)
  have HHas := Lib.hid (fun j => Pl.has_ct E j)
  clear h h1 hbx hw1 hb1 SL BX hn
  generalize sErr v k s c v' k' s' i' c' (E.map Pl.ct) zs = SE at *
  generalize Sl.tot (E.map Pl.ct) = T at *
  generalize mateZ v k s c v' k' s' c' = M at *
  unfold frV frC hdV at *
  go_enter Tryz.func77, Tryz.ntmps77
  go_wp2_with fail
  rw [HW1.out]
  refine wp_region_F 50 [] (fun _ _ _ => True) (fun V => Below w1.heap.size w1 V) (by kernel_rfl) (by kernel_rfl) (by rfl) (by simp) (fun W W' h hb => h.trans (hb.mono h.size)) (fun _ _ _ _ _ _ => trivial) (Below.refl _ _).drew ?_
  repeat (first | (refine wpF_nil rfl rfl rfl rfl ?_; simp only [Act.put, List.setIfInBounds_toArray, List.set_cons_succ, List.set_cons_zero]) | (refine wpF_pure rfl rfl ?_; go_big_quiet_step (fail); refine wpQuiet_nil ?_))
  refine wpF_load _ rfl (by rfl) (by rfl) (by rfl) L1 ?_
  simp only [Act.put, List.setIfInBounds_toArray, List.set_cons_succ, List.set_cons_zero]
  repeat (refine wpF_pure rfl rfl ?_; go_big_quiet_step (fail); refine wpQuiet_nil ?_)
  refine wpF_load _ rfl (by rfl) (by rfl) (by rfl) L2 ?_
  simp only [Act.put, List.setIfInBounds_toArray, List.set_cons_succ, List.set_cons_zero]
  refine wpF_call (f := 98) (args := #[.agg #[.int .i64 v, .int .i64 k, .int .u32 s, .int .i64 0, .int .i64 c], .agg #[.int .i64 v', .int .i64 k', .int .u32 s', .int .i64 i', .int .i64 c']]) (.bool M) rfl rfl (fun x => by first | rfl | (simp [go_sem]; done)) KM.out ?_
  simp only [Act.put, List.setIfInBounds_toArray, List.set_cons_succ, List.set_cons_zero]
  repeat (refine wpF_pure rfl rfl ?_; go_big_quiet_step (fail); refine wpQuiet_nil ?_)
  intro xs' V hV _
  simp only [fill]
  have HV := Lib.hid (HB1.out.trans (hV.mono HB1.out.size))
  cases M with
  | false =>
    rw [if_pos rfl] at HSE
    clear L1 L2 L3 L4 L5
    go_wp2
    go_ret
    exact ⟨ret_intS HSE.out.symm, HV.out⟩
  | true =>
    rw [if_neg (by simp)] at HSE
    obtain ⟨d0, d1, d2, d3, d4, d5⟩ := HBX.out V hV
    have HVV := Lib.hid hV
    clear hV
    by_cases hi0 : i' < 0
    · rw [if_pos (.inl hi0)] at HSE
      clear L1 L2 L3 L4 L5
      go_wp2
      go_ret
      exact ⟨ret_intS HSE.out.symm, HV.out⟩
    · go_wp2_with fail
      refine wp_region_F 50 [] (fun _ _ _ => True) (fun V => Below w1.heap.size w1 V) (by kernel_rfl) (by kernel_rfl) (by rfl) (by simp) (fun W W' h hb => h.trans (hb.mono h.size)) (fun _ _ _ _ _ _ => trivial) HVV.out.drew ?_
      repeat (first | (refine wpF_nil rfl rfl rfl rfl ?_; simp only [Act.put, List.setIfInBounds_toArray, List.set_cons_succ, List.set_cons_zero]) | (refine wpF_pure rfl rfl ?_; go_big_quiet_step (fail); refine wpQuiet_nil ?_))
      refine wpF_load _ rfl (by rfl) (by rfl) (by rfl) L3 ?_
      simp only [Act.put, List.setIfInBounds_toArray, List.set_cons_succ, List.set_cons_zero]
      repeat (first | (refine wpF_nil rfl rfl rfl rfl ?_; simp only [Act.put, List.setIfInBounds_toArray, List.set_cons_succ, List.set_cons_zero]) | (refine wpF_pure rfl rfl ?_; go_big_quiet_step (fail); refine wpQuiet_nil ?_))
      refine wpF_load _ rfl (by rfl) (by rfl) (by rfl) L4 ?_
      simp only [Act.put, List.setIfInBounds_toArray, List.set_cons_succ, List.set_cons_zero]
      repeat (first | (refine wpF_nil rfl rfl rfl rfl ?_; simp only [Act.put, List.setIfInBounds_toArray, List.set_cons_succ, List.set_cons_zero]) | (refine wpF_pure rfl rfl ?_; go_big_quiet_step (fail); refine wpQuiet_nil ?_))
      clear d0 d1 d2 d3 d4 d5 HV HVV
      intro xs2 V2 hV2 _
      simp only [fill]
      have HV2 := Lib.hid (HB1.out.trans (hV2.mono HB1.out.size))
      obtain ⟨d0, d1, d2, d3, d4, d5⟩ := HBX.out V2 hV2
      by_cases hi1 : c ≤ i'
      · rw [if_pos (.inr hi1)] at HSE
        clear L1 L2 L3 L4 L5
        go_wp2
        go_ret
        exact ⟨ret_intS HSE.out.symm, HV2.out⟩
      · rw [if_neg (by omega)] at HSE
        obtain ⟨j, rfl⟩ := Int.eq_ofNat_of_zero_le (a := i') (by omega)
        by_cases hn0 : n = 0
        · rw [if_pos hn0] at HSE
          subst hn0
          clear L1 L2 L3 L4 L5
          go_wp2
          go_ret
          exact ⟨ret_intS HSE.out.symm, HV2.out⟩
        · rw [if_neg hn0, Int.toNat_natCast, HHas.out] at HSE
          have hn0' : ¬ (n : Int) = 0 := by omega
          have KH2 := KH.out V2 hV2 j (by omega)
          have HVV2 := Lib.hid hV2
          generalize (Pl.at E j).isSome = has at *
          clear hV2 HHas
          go_wp2_with fail
          refine KH2.mono ?_
          rintro e V3 ⟨rfl, rfl⟩
          cases has with
          | true =>
            rw [if_pos rfl] at HSE
            clear L1 L2 L3 L4 L5
            go_wp2
            go_ret
            exact ⟨ret_intS HSE.out.symm, HV2.out⟩
          | false =>
            rw [if_neg (by simp)] at HSE
            have hT := HT.out
            go_wp2_with fail
            refine wp_region_F 50 [] (fun _ _ _ => True) (fun V => Below w1.heap.size w1 V) (by kernel_rfl) (by kernel_rfl) (by rfl) (by simp) (fun W W' h hb => h.trans (hb.mono h.size)) (fun _ _ _ _ _ _ => trivial) HVV2.out.drew ?_
            repeat (first | (refine wpF_nil rfl rfl rfl rfl ?_; simp only [Act.put, List.setIfInBounds_toArray, List.set_cons_succ, List.set_cons_zero]) | (refine wpF_pure rfl rfl ?_; go_big_quiet_step (fail); refine wpQuiet_nil ?_))
            refine wpF_load _ rfl (by rfl) (by rfl) (by rfl) L5 ?_
            simp only [Act.put, List.setIfInBounds_toArray, List.set_cons_succ, List.set_cons_zero]
            repeat (first | (refine wpF_nil rfl rfl rfl rfl ?_; simp only [Act.put, List.setIfInBounds_toArray, List.set_cons_succ, List.set_cons_zero]) | (refine wpF_pure rfl rfl ?_; go_big_quiet_step (fail); refine wpQuiet_nil ?_))
            refine wpF_call (f := 90) (args := #[.pointer (some ⟨b, 0, none⟩)]) (.int .i64 (T : Int)) rfl rfl (fun x => by first | rfl | (simp [go_sem]; done)) KS.out ?_
            simp only [Act.put, List.setIfInBounds_toArray, List.set_cons_succ, List.set_cons_zero]
            repeat (first | (refine wpF_nil rfl rfl rfl rfl ?_; simp only [Act.put, List.setIfInBounds_toArray, List.set_cons_succ, List.set_cons_zero]) | (refine wpF_pure rfl rfl ?_; go_big_quiet_step (fail); refine wpQuiet_nil ?_))
            intro xs3 V4 hV4 _
            simp only [fill]
            have HV4 := Lib.hid (HB1.out.trans (hV4.mono HB1.out.size))
            clear L1 L2 L3 L4 L5 hV4 d0 d1 d2 d3 d4 d5
            by_cases ht : 192 < T + n
            · rw [if_pos ht] at HSE
              have ht2 : (192 : Int) - (T : Int) < (n : Int) := by omega
              go_wp2
              go_ret
              exact ⟨ret_intS HSE.out.symm, HV4.out⟩
            · rw [if_neg ht] at HSE
              have ht2 : ¬ (192 : Int) - (T : Int) < (n : Int) := by omega
              go_wp2
              go_ret
              exact ⟨ret_intS HSE.out.symm, HV4.out⟩
end Go.Proofs.YtfdbcfkjablnkaaGreat

namespace Go.Proofs.YtfdbcfkjablnkaaGreat
open Go.RowKit
set_option maxRecDepth 100000

end Go.Proofs.YtfdbcfkjablnkaaGreat

namespace Go.Proofs.YtfdbcfkjablnkaaGreat
open Go.RowKit
set_option maxRecDepth 100000

end Go.Proofs.YtfdbcfkjablnkaaGreat

namespace Go.Proofs.YtfdbcfkjablnkaaGreat
open Go.RowKit
set_option maxRecDepth 100000

/-- a part: where its bytes lie, its room, its bytes -/
structure Part where
  a : Option Addr
  c : Nat
  zs : List Int
/-- a part as it is in a world -/
structure Part.At (w : World) (B : Nat) (p : Part) : Prop where
  room : p.zs.length ≤ p.c
  few : p.zs.length ≤ 9223372036854775807
  byte : Bytes p.zs
  nums : Nums .u8 w B p.a p.zs
theorem Part.At.below {w w' : World} {B : Nat} {p : Part} (h : p.At w B) (hb : Below B w w') : p.At w' B := ⟨h.room, h.few, h.byte, h.nums.below hb⟩
theorem Part.At.mono {w : World} {B B' : Nat} {p : Part} (h : p.At w B) (hB : B ≤ B') : p.At w B' := ⟨h.room, h.few, h.byte, h.nums.mono hB⟩
/-- parts that lie at a place -/
def Parts (w : World) (B : Nat) (a : Option Addr) (ps : List Part) : Prop :=
  (∀ p ∈ ps, p.At w B) ∧ (ps ≠ [] → ∃ b off, a = some ⟨b, off, none⟩ ∧ ∀ (j : Nat) (p : Part), ps[j]? = some p → w.cell? ⟨b, off + j, none⟩ = some (.slice p.a p.zs.length p.c))
theorem Parts.nil (w : World) (B : Nat) (a : Option Addr) : Parts w B a [] := ⟨by simp, fun h => absurd rfl h⟩
/-- parts that have just been laid -/
theorem Parts.new {w : World} {B : Nat} {ps : List Part} (t : TypeId) (cs : Array Value) (h : ∀ p ∈ ps, p.At w B) (hB : B ≤ w.heap.size) (hc : cs = (ps.map fun p => Value.slice p.a p.zs.length p.c).toArray) : Parts (w.alloc (.cells cs t)) B (some ⟨w.heap.size, 0, none⟩) ps := by
  refine ⟨fun p hp => (h p hp).below ((Below.refl B w).alloc hB _), fun _ => ⟨w.heap.size, 0, rfl, fun j p hj => ?_⟩⟩
  rw [World.cell?_alloc_at _ _ _ _ rfl, hc]
  simp [hj]
end Go.Proofs.YtfdbcfkjablnkaaGreat

namespace Go.Proofs.YtfdbcfkjablnkaaGreat
open Go.RowKit
set_option maxRecDepth 100000

/-- a row that was made later -/
theorem ownsRow_lower {w : World} {e : TypeId} {s n : Nat} {v : Value} {xs : List Value} {b b' : Nat} (h : w.ownsRow b e s v n xs) (hb : b' ≤ b) : w.ownsRow b' e s v n xs := by
  refine ⟨h.1, ?_⟩
  rcases h.2 with h | ⟨g, cap, cur, hv, hg, rest⟩
  · exact .inl h
  · exact .inr ⟨g, cap, cur, hv, by omega, rest⟩

end Go.Proofs.YtfdbcfkjablnkaaGreat

namespace Go.Proofs.YtfdbcfkjablnkaaGreat
open Go.RowKit Go.Shelf
set_option maxRecDepth 100000
attribute [local go_sem] Oper.semAt_some

end Go.Proofs.YtfdbcfkjablnkaaGreat

namespace Go.Proofs.YtfdbcfkjablnkaaGreat
open Go.RowKit
set_option maxRecDepth 100000

end Go.Proofs.YtfdbcfkjablnkaaGreat

namespace Go.Proofs.YtfdbcfkjablnkaaGreat
namespace Vi

/-- the bytes of a number: seven bits each, the lowest first -/
def enc (n : Nat) : List Int := if n < 128 then [(n : Int)] else ((n % 128 + 128 : Nat) : Int) :: enc (n / 128)
termination_by n
decreasing_by omega

/-! ### sizes by the length of the bits -/
end Vi
end Go.Proofs.YtfdbcfkjablnkaaGreat

namespace Go.Proofs.YtfdbcfkjablnkaaGreat
namespace Vi

/-- how many bytes with the highest bit set come first -/
def high : List Int → Nat
  | [] => 0
  | c :: r => if 128 ≤ c then high r + 1 else 0

/-- the number of bytes: seven bits each, the lowest first -/
def val : List Int → Nat
  | [] => 0
  | c :: r => c.toNat % 128 + 128 * val r

/-- the number that bytes begin with, how many bytes it has, the error (the document's P1.2) -/
def get (l : List Int) : Nat × Nat × Nat :=
  if 10 ≤ high l then (0, 0, 3)
  else if l.length ≤ high l then (0, 0, 4)
  else if 18446744073709551616 ≤ val (l.take (high l + 1)) ∨ (0 < high l ∧ l.getD (high l) 0 = 0) then (0, 0, 3)
  else (val (l.take (high l + 1)), high l + 1, 0)

/-- the parts of any list: the high bytes that come first, and what is behind them -/
theorem parts (l : List Int) : ∃ p r, l = p ++ r ∧ (∀ c ∈ p, 128 ≤ c) ∧ (r = [] ∨ ∃ c r', r = c :: r' ∧ c < 128) := by
  induction l with
  | nil => exact ⟨[], [], rfl, by simp, .inl rfl⟩
  | cons c l ih =>
    by_cases hc : 128 ≤ c
    · obtain ⟨p, r, e, hp, hr⟩ := ih
      refine ⟨c :: p, r, by rw [e]; rfl, ?_, hr⟩
      intro d hd
      simp only [List.mem_cons] at hd
      rcases hd with rfl | hd
      · exact hc
      · exact hp d hd
    · exact ⟨[], c :: l, rfl, by simp, .inr ⟨c, l, rfl, by omega⟩⟩

/-! ### one byte more, in the model's own words -/
end Vi
end Go.Proofs.YtfdbcfkjablnkaaGreat

namespace Go.Proofs.YtfdbcfkjablnkaaGreat
open Go.RowKit
set_option maxRecDepth 100000

/-- the bytes of numbers, one behind the other -/
def puts (zs : List Int) : List Int := zs.flatMap fun z => Vi.enc z.toNat
/-- bytes that a call has made -/
def Made (w w' : World) (L : List Int) (v : Value) : Prop := w'.ownsRow w.heap.size 5 1 v L.length (L.map (Value.int .u8)) ∧ Below w.heap.size w w'
theorem Made.nil (w : World) : Made w w [] (.slice none 0 0) := ⟨World.ownsRow_nil _ _ _ _, Below.refl _ _⟩
theorem Made.slice {w w' : World} {L : List Int} {v : Value} (h : Made w w' L v) : ∃ A c, v = .slice A L.length c ∧ L.length ≤ c ∧ Nums .u8 w' w'.heap.size A L := by
  have h1 := h.1
  obtain ⟨_, h2⟩ := h1
  rcases h2 with ⟨rfl, h0⟩ | ⟨g, cap, cur, rfl, hg, hh, hn, _⟩
  · have : L = [] := List.eq_nil_of_length_eq_zero h0
    subst this
    exact ⟨none, 0, rfl, by simp, Nums.nil⟩
  · exact ⟨some ⟨g, 0, none⟩, cap, rfl, hn, Nums.of_own h.1⟩
end Go.Proofs.YtfdbcfkjablnkaaGreat

namespace Go.Proofs.YtfdbcfkjablnkaaGreat
open Go.RowKit
set_option maxRecDepth 100000

end Go.Proofs.YtfdbcfkjablnkaaGreat

namespace Go.Proofs.YtfdbcfkjablnkaaGreat
open Go.RowKit
set_option maxRecDepth 100000
end Go.Proofs.YtfdbcfkjablnkaaGreat

namespace Go.Proofs.YtfdbcfkjablnkaaGreat
namespace Cb

/-- how many numbers stand ahead of the first 0 -/
def nz : List Int → Nat
  | [] => 0
  | z :: r => if z = 0 then 0 else nz r + 1
def NZ (b : List Int) : Prop := ∀ c ∈ b, c ≠ 0
theorem NZ.append {x y : List Int} (hx : NZ x) (hy : NZ y) : NZ (x ++ y) := fun c hc => by
  rcases List.mem_append.1 hc with h | h
  · exact hx c h
  · exact hy c h
theorem NZ.take {x : List Int} (h : NZ x) (n : Nat) : NZ (x.take n) := fun c hc => h c (List.mem_of_mem_take hc)

/-- how many bytes the first block has -/
def fst (l : List Int) : Nat := nz (l.take 254)
/-- the blocks of bytes -/
def blocks (l : List Int) : List (List Int) :=
  if h : l.drop (fst l) = [] then [l.take (fst l)]
  else if h2 : fst l < 254 then l.take (fst l) :: blocks (l.drop (fst l + 1))
  else l.take (fst l) :: blocks (l.drop (fst l))
termination_by l.length
decreasing_by
  · have h3 : fst l < l.length := by
      rcases Nat.lt_or_ge (fst l) l.length with h' | h'
      · exact h'
      · exact absurd (List.drop_eq_nil_of_le h') h
    rw [List.length_drop]; omega
  · have h3 : fst l < l.length := by
      rcases Nat.lt_or_ge (fst l) l.length with h' | h'
      · exact h'
      · exact absurd (List.drop_eq_nil_of_le h') h
    rw [List.length_drop]; omega
/-- a block, stuffed -/
def one (b : List Int) : List Int := ((b.length + 1 : Nat) : Int) :: b
/-- bytes, stuffed -/
def join (bs : List (List Int)) : List Int := bs.flatMap one
def enc (l : List Int) : List Int := join (blocks l)
/-! ### decoding, as the program goes -/
/-! ### blocks, as the document's answer goes -/
/-! ### decoding, as the document's answer goes -/
/-- at a place of stuffed bytes: what has been decoded, and what is left; behind a block of 254 something is left -/
def At (x out rest : List Int) : Prop := x = out ++ rest
end Cb
end Go.Proofs.YtfdbcfkjablnkaaGreat

namespace Go.Proofs.YtfdbcfkjablnkaaGreat
open Go.RowKit
set_option maxRecDepth 100000

end Go.Proofs.YtfdbcfkjablnkaaGreat

namespace Go.Proofs.YtfdbcfkjablnkaaGreat
open Go.RowKit
set_option maxRecDepth 100000

end Go.Proofs.YtfdbcfkjablnkaaGreat

namespace Go.Proofs.YtfdbcfkjablnkaaGreat
open Go.RowKit Go.Shelf
set_option maxRecDepth 100000
attribute [local go_sem] Oper.semAt_some

section
variable {w : World} {S : Nat → Prop}
end
end Go.Proofs.YtfdbcfkjablnkaaGreat

namespace Go.Proofs.YtfdbcfkjablnkaaGreat
open Go.RowKit Go.Shelf
set_option maxRecDepth 100000
attribute [local go_sem] Oper.semAt_some

/-! ### only one block has turned -/
end Go.Proofs.YtfdbcfkjablnkaaGreat

namespace Go.Proofs.YtfdbcfkjablnkaaGreat
open Go.RowKit Go.Shelf
set_option maxRecDepth 100000
attribute [local go_sem] Oper.semAt_some

end Go.Proofs.YtfdbcfkjablnkaaGreat
