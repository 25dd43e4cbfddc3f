/-
  The law's words: all words that a lens gives, against the document's.
-/
import Derived.Test.YtmilcmgohlfpiaaWordsS
import Derived.Test.YtmilcmgohlfpiaaRefW
namespace Go.Proofs.Ytmilcmgohlfpiaa
open Go.RowKit Go.Shelf
set_option maxRecDepth 100000
attribute [local go_sem] Oper.semAt_some

/-- the worlds of the law's loop over words: the lens is at q, the document's at m; the call's own boxes -/
structure WW (w : World) (lo b : Nat) (zs : List Int) (e : Nat) (A : Option Addr) (n c : Nat) (s : Int) (q m : Nat) (W : World) : Prop where
  lens : LensAt W lo b zs q e
  off : Off (fun j => j = b) w W
  hm : W.heap[w.heap.size]? = some (.cells #[.slice A n c, .int .i64 m, .int .i64 e] 27 (0, 0))
  hs : W.heap[w.heap.size + 1]? = some (.cells #[.int .i64 s] 3 (0, 0))
  hr : W.heap[w.heap.size + 2]? = some (.cells #[.slice none 0 0, .int .i64 (0 : Nat), .int .i64 (0 : Nat)] 27 (0, 0))
  hk : W.heap[w.heap.size + 3]? = some (.cells #[.bool true] 4 (0, 0))
  hp : W.heap[w.heap.size + 4]? = some (.cells #[.pointer (some ⟨b, 0, none⟩)] 24 (0, 0))
  hz : W.heap[w.heap.size + 5]? = some (.cells #[.int .i64 s] 3 (0, 0))
section
variable {w W W' W2 : World} {lo b e n c q m q' m' : Nat} {zs : List Int} {A : Option Addr} {s : Int}
theorem WW.lt (h : WW w lo b zs e A n c s q m W) : w.heap.size + 6 ≤ W.heap.size := (Array.getElem?_eq_some_iff.1 h.hz).1
/-- what turns neither the lens nor the boxes -/
theorem WW.move (h : WW w lo b zs e A n c s q m W) (hbw : b < w.heap.size) (hk : ∀ k, k < w.heap.size + 6 → W'.heap[k]? = W.heap[k]?) (hs : W.heap.size ≤ W'.heap.size) (ho : W'.os = W.os ∧ W'.tape = W.tape ∧ W'.output = W.output) : WW w lo b zs e A n c s q m W' := by
  have hlt := h.lt
  refine ⟨h.lens.keeps ⟨hs, fun k _ h2 => hk k (by omega)⟩, ⟨ho.1.trans h.off.os, ho.2.1.trans h.off.tape, ho.2.2.trans h.off.output, Nat.le_trans h.off.size hs, fun k h1 h2 => (hk k (by omega)).trans (h.off.block k h1 h2)⟩, ?_, ?_, ?_, ?_, ?_, ?_⟩
  · exact (hk _ (by omega)).trans h.hm
  · exact (hk _ (by omega)).trans h.hs
  · exact (hk _ (by omega)).trans h.hr
  · exact (hk _ (by omega)).trans h.hk
  · exact (hk _ (by omega)).trans h.hp
  · exact (hk _ (by omega)).trans h.hz
theorem WW.below (h : WW w lo b zs e A n c s q m W) (hbw : b < w.heap.size) (hb : Below W.heap.size W W') : WW w lo b zs e A n c s q m W' :=
  h.move hbw (fun k hk => hb.block k (by have := h.lt; omega)) hb.size ⟨hb.os, hb.tape, hb.output⟩
theorem WW.putObj (h : WW w lo b zs e A n c s q m W) (hbw : b < w.heap.size) {l : Nat} {o : Obj} (hl : w.heap.size + 6 ≤ l) : WW w lo b zs e A n c s q m (W.putObj l o) :=
  h.move hbw (fun k hk => World.putObj_heap_other (by omega)) (by simp [World.putObj]) ⟨rfl, rfl, rfl⟩
/-- the lens moves -/
theorem WW.read (h : WW w lo b zs e A n c s q m W) (hbw : b < w.heap.size) (hl : LensAt W' lo b zs q' e) (ho : Off (fun j => j = b) W W') : WW w lo b zs e A n c s q' m W' := by
  have hlt := h.lt
  have hk : ∀ k, k < w.heap.size + 6 → k ≠ b → W'.heap[k]? = W.heap[k]? := fun k h1 h2 => ho.block k (by omega) h2
  exact ⟨hl, h.off.trans ho (fun _ _ h => h), (hk _ (by omega) (by omega)).trans h.hm, (hk _ (by omega) (by omega)).trans h.hs, (hk _ (by omega) (by omega)).trans h.hr, (hk _ (by omega) (by omega)).trans h.hk, (hk _ (by omega) (by omega)).trans h.hp, (hk _ (by omega) (by omega)).trans h.hz⟩
/-- the document's lens moves: three stores, and one of 'true' -/
theorem WW.next (h : WW w lo b zs e A n c s q m W) (hbw : b < w.heap.size) :
    WW w lo b zs e A n c s q m' ((((W.setCell ⟨w.heap.size, 0, none⟩ (.slice A n c)).setCell ⟨w.heap.size, 1, none⟩ (.int .i64 m')).setCell ⟨w.heap.size, 2, none⟩ (.int .i64 e)).setCell ⟨w.heap.size + 3, 0, none⟩ (.bool true)) := by
  have hlt := h.lt
  have hlo := h.lens.lo_le
  have hx : ∀ k, k ≠ w.heap.size → k ≠ w.heap.size + 3 → ((((W.setCell ⟨w.heap.size, 0, none⟩ (.slice A n c)).setCell ⟨w.heap.size, 1, none⟩ (.int .i64 m')).setCell ⟨w.heap.size, 2, none⟩ (.int .i64 e)).setCell ⟨w.heap.size + 3, 0, none⟩ (.bool true)).heap[k]? = W.heap[k]? := fun k h1 h2 => by
    rw [Below.heap_setCell _ _ _ _ (by simp; omega), Below.heap_setCell _ _ _ _ (by simp; omega), Below.heap_setCell _ _ _ _ (by simp; omega), Below.heap_setCell _ _ _ _ (by simp; omega)]
  refine ⟨h.lens.keeps ⟨by simp [World.setCell], fun k h1 h2 => hx k (by omega) (by omega)⟩, ⟨h.off.os, h.off.tape, h.off.output, by simpa [World.setCell] using h.off.size, fun k h1 h2 => (hx k (by omega) (by omega)).trans (h.off.block k h1 h2)⟩, ?_, (hx _ (by omega) (by omega)).trans h.hs, (hx _ (by omega) (by omega)).trans h.hr, ?_, (hx _ (by omega) (by omega)).trans h.hp, (hx _ (by omega) (by omega)).trans h.hz⟩
  · rw [Below.heap_setCell _ _ _ _ (by simp), setCell_at (setCell_at (setCell_at h.hm))]; rfl
  · rw [setCell_at (cs := #[.bool true]) (t := 4)]
    · rfl
    · rw [Below.heap_setCell _ _ _ _ (by simp), Below.heap_setCell _ _ _ _ (by simp), Below.heap_setCell _ _ _ _ (by simp)]; exact h.hk
theorem WW.cells (h : WW w lo b zs e A n c s q m W) : W.cell? ⟨w.heap.size, 0, none⟩ = some (.slice A n c) ∧ W.cell? ⟨w.heap.size, 1, none⟩ = some (.int .i64 m) ∧ W.cell? ⟨w.heap.size, 2, none⟩ = some (.int .i64 e) ∧ W.cell? ⟨w.heap.size + 1, 0, none⟩ = some (.int .i64 s) ∧ W.cell? ⟨w.heap.size + 3, 0, none⟩ = some (.bool true) ∧
    W.frozen? ⟨w.heap.size, 0, none⟩ = false ∧ W.frozen? ⟨w.heap.size, 1, none⟩ = false ∧ W.frozen? ⟨w.heap.size, 2, none⟩ = false ∧ W.frozen? ⟨w.heap.size + 3, 0, none⟩ = false :=
  ⟨by simp [World.cell?, h.hm], by simp [World.cell?, h.hm], by simp [World.cell?, h.hm], by simp [World.cell?, h.hs], by simp [World.cell?, h.hk], by simp [World.frozen?, h.hm], by simp [World.frozen?, h.hm], by simp [World.frozen?, h.hm], by simp [World.frozen?, h.hk]⟩
theorem WW.boxes (h : WW w lo b zs e A n c s q m W) : W.cell? ⟨w.heap.size + 4, 0, none⟩ = some (.pointer (some ⟨b, 0, none⟩)) ∧ W.cell? ⟨w.heap.size + 5, 0, none⟩ = some (.int .i64 s) :=
  ⟨by simp [World.cell?, h.hp], by simp [World.cell?, h.hz]⟩
/-- .. and another block is laid; the fourth block's place as the walk spells it -/
theorem ww_alloc (h : WW w lo b zs e A n c s q m W) (hbw : b < w.heap.size) (o : Obj) : WW w lo b zs e A n c s q m (W.alloc o) := h.below hbw ((Below.refl _ W).alloc (Nat.le_refl _) o)
theorem ww_all (h : ∀ o, WW w lo b zs e A n c s q m (W.alloc o)) :
    (∀ o, (W.alloc o).cell? ⟨w.heap.size, 0, none⟩ = some (.slice A n c)) ∧ (∀ o, (W.alloc o).cell? ⟨w.heap.size, 1, none⟩ = some (.int .i64 m)) ∧ (∀ o, (W.alloc o).cell? ⟨w.heap.size, 2, none⟩ = some (.int .i64 e)) ∧ (∀ o, (W.alloc o).cell? ⟨w.heap.size + 1, 0, none⟩ = some (.int .i64 s)) ∧ (∀ o, (W.alloc o).cell? ⟨w.heap.size + 1 + 1 + 1, 0, none⟩ = some (.bool true)) ∧
    (∀ o, (W.alloc o).frozen? ⟨w.heap.size, 0, none⟩ = false) ∧ (∀ o, (W.alloc o).frozen? ⟨w.heap.size, 1, none⟩ = false) ∧ (∀ o, (W.alloc o).frozen? ⟨w.heap.size, 2, none⟩ = false) ∧ (∀ o, (W.alloc o).frozen? ⟨w.heap.size + 1 + 1 + 1, 0, none⟩ = false) :=
  ⟨fun o => (h o).cells.1, fun o => (h o).cells.2.1, fun o => (h o).cells.2.2.1, fun o => (h o).cells.2.2.2.1, fun o => (h o).cells.2.2.2.2.1, fun o => (h o).cells.2.2.2.2.2.1, fun o => (h o).cells.2.2.2.2.2.2.1, fun o => (h o).cells.2.2.2.2.2.2.2.1, fun o => (h o).cells.2.2.2.2.2.2.2.2⟩
theorem keepsFrom_below {B : Nat} (h : Below W.heap.size W W') : KeepsFrom B W W' := ⟨h.size, fun k _ _ hk _ => (h.block k (Array.getElem?_eq_some_iff.1 hk).1).trans hk⟩
theorem keepsFrom_next {B : Nat} {v0 v1 v2 v3 : Value} {x y : Nat} (h : KeepsFrom B W W') : KeepsFrom B W ((((W'.setCell ⟨x, 0, none⟩ v0).setCell ⟨x, 1, none⟩ v1).setCell ⟨x, 2, none⟩ v2).setCell ⟨y, 0, none⟩ v3) :=
  h.trans (((((KeepsOthers.setCell _ _ _).trans (KeepsOthers.setCell _ _ _)).trans (KeepsOthers.setCell _ _ _)).trans (KeepsOthers.setCell _ _ _)).from _)
end
theorem old_at {W : World} {o x : Obj} {k : Nat} (h : W.heap[k]? = some x) : (W.alloc o).heap[k]? = some x := (Below.heap_alloc W o k (Array.getElem?_eq_some_iff.1 h).1).trans h
theorem new_at {W : World} {o : Obj} {s : Nat} (h : W.heap.size = s) : (W.alloc o).heap[s]? = some o := by subst h; exact heap_alloc_new W o
/-- the end: the result is stored, the block of the deferred calls is shut -/
theorem ww_end0 {w W : World} {lo b e n c q m D : Nat} {zs : List Int} {A : Option Addr} {s : Int} (h : WW w lo b zs e A n c s q m W) (hbw : b < w.heap.size) (hD : w.heap.size + 6 ≤ D) (hK : W.heap[D]? = some (.deferred (some []))) {ev : Int} (hev : ev = (e : Int)) {F : World}
    (hF : F = (((W.setCell ⟨w.heap.size + 1 + 1, 0, none⟩ (.slice A n c)).setCell ⟨w.heap.size + 1 + 1, 1, none⟩ (.int .i64 m)).setCell ⟨w.heap.size + 1 + 1, 2, none⟩ (.int .i64 ev)).drew) :
    F.heap[D]? = some (.deferred (some [])) ∧ (F.putObj D (.deferred none)).cell? ⟨w.heap.size + 1 + 1, 0, none⟩ = some (.slice A n c) ∧ (F.putObj D (.deferred none)).cell? ⟨w.heap.size + 1 + 1, 1, none⟩ = some (.int .i64 m) ∧ (F.putObj D (.deferred none)).cell? ⟨w.heap.size + 1 + 1, 2, none⟩ = some (.int .i64 ev) ∧
      LensAt (F.putObj D (.deferred none)) lo b zs q e ∧ Off (fun j => j = b) w (F.putObj D (.deferred none)) := by
  subst hev
  subst hF
  have hlo := h.lens.lo_le
  have hx : ∀ k, k ≠ w.heap.size + 1 + 1 → (((W.setCell ⟨w.heap.size + 1 + 1, 0, none⟩ (.slice A n c)).setCell ⟨w.heap.size + 1 + 1, 1, none⟩ (.int .i64 m)).setCell ⟨w.heap.size + 1 + 1, 2, none⟩ (.int .i64 e)).heap[k]? = W.heap[k]? := fun k h1 => by
    rw [Below.heap_setCell _ _ _ _ (by simpa using h1), Below.heap_setCell _ _ _ _ (by simpa using h1), Below.heap_setCell _ _ _ _ (by simpa using h1)]
  have hres : (((W.setCell ⟨w.heap.size + 1 + 1, 0, none⟩ (.slice A n c)).setCell ⟨w.heap.size + 1 + 1, 1, none⟩ (.int .i64 m)).setCell ⟨w.heap.size + 1 + 1, 2, none⟩ (.int .i64 e)).heap[w.heap.size + 1 + 1]? = some (.cells #[.slice A n c, .int .i64 m, .int .i64 e] 27 (0, 0)) := by
    have h0 : W.heap[w.heap.size + 1 + 1]? = some (.cells #[.slice none 0 0, .int .i64 (0 : Nat), .int .i64 (0 : Nat)] 27 (0, 0)) := h.hr
    rw [setCell_at (setCell_at (setCell_at h0))]; rfl
  generalize hG : ((W.setCell ⟨w.heap.size + 1 + 1, 0, none⟩ (.slice A n c)).setCell ⟨w.heap.size + 1 + 1, 1, none⟩ (.int .i64 m)).setCell ⟨w.heap.size + 1 + 1, 2, none⟩ (.int .i64 e) = G at *
  have hGo : G.os = W.os ∧ G.tape = W.tape ∧ G.output = W.output ∧ G.heap.size = W.heap.size := by subst hG; exact ⟨rfl, rfl, rfl, by simp [World.setCell]⟩
  have hDl := (Array.getElem?_eq_some_iff.1 hK).1
  have hp : ∀ k, k ≠ D → (G.drew.putObj D (.deferred none)).heap[k]? = G.heap[k]? := fun k hk => World.putObj_heap_other hk
  have hr2 := (hp _ (show w.heap.size + 1 + 1 ≠ D by omega)).trans hres
  have hall : ∀ k, k < w.heap.size → (G.drew.putObj D (.deferred none)).heap[k]? = W.heap[k]? := fun k hk => (hp k (by omega)).trans (hx k (by omega))
  have hsz : (G.drew.putObj D (.deferred none)).heap.size = W.heap.size := by simp [World.putObj]; exact hGo.2.2.2
  refine ⟨(hx D (by omega)).trans hK, by simp [World.cell?, hr2], by simp [World.cell?, hr2], by simp [World.cell?, hr2], ?_, ?_⟩
  · exact h.lens.keeps ⟨by rw [hsz]; exact Nat.le_refl _, fun k _ h2 => hall k (by omega)⟩
  · exact ⟨hGo.1.trans h.off.os, hGo.2.1.trans h.off.tape, hGo.2.2.1.trans h.off.output, by rw [hsz]; exact h.off.size, fun k h1 h2 => (hall k h1).trans (h.off.block k h1 h2)⟩
/-- 'true' is stored once more -/
theorem WW.okset {w W : World} {lo b e n c q m : Nat} {zs : List Int} {A : Option Addr} {s : Int} (h : WW w lo b zs e A n c s q m W) (hbw : b < w.heap.size) : WW w lo b zs e A n c s q m (W.setCell ⟨w.heap.size + 1 + 1 + 1, 0, none⟩ (.bool true)) := by
  have hlo := h.lens.lo_le
  have hx : ∀ k, k ≠ w.heap.size + 1 + 1 + 1 → (W.setCell ⟨w.heap.size + 1 + 1 + 1, 0, none⟩ (.bool true)).heap[k]? = W.heap[k]? := fun k h1 => Below.heap_setCell _ _ _ _ (by simpa using h1)
  refine ⟨h.lens.keeps ⟨by simp [World.setCell], fun k h1 h2 => hx k (by omega)⟩, ⟨h.off.os, h.off.tape, h.off.output, by simpa [World.setCell] using h.off.size, fun k h1 h2 => (hx k (by omega)).trans (h.off.block k h1 h2)⟩, (hx _ (by omega)).trans h.hm, (hx _ (by omega)).trans h.hs, (hx _ (by omega)).trans h.hr, ?_, (hx _ (by omega)).trans h.hp, (hx _ (by omega)).trans h.hz⟩
  exact setCell_at (cs := #[.bool true]) h.hk
/-- the end: the result is stored, the block of the deferred calls is shut -/
theorem ww_end {w W : World} {lo b e n c q m D : Nat} {zs : List Int} {A : Option Addr} {s : Int} (h : WW w lo b zs e A n c s q m W) (hbw : b < w.heap.size) (hD : w.heap.size + 6 ≤ D) (hK : W.heap[D]? = some (.deferred (some []))) {ev : Int} (hev : ev = (e : Int)) {F : World}
    (hF : F = ((((W.setCell ⟨w.heap.size + 1 + 1 + 1, 0, none⟩ (.bool true)).setCell ⟨w.heap.size + 1 + 1, 0, none⟩ (.slice A n c)).setCell ⟨w.heap.size + 1 + 1, 1, none⟩ (.int .i64 m)).setCell ⟨w.heap.size + 1 + 1, 2, none⟩ (.int .i64 ev)).drew) :
    F.heap[D]? = some (.deferred (some [])) ∧ (F.putObj D (.deferred none)).cell? ⟨w.heap.size + 1 + 1, 0, none⟩ = some (.slice A n c) ∧ (F.putObj D (.deferred none)).cell? ⟨w.heap.size + 1 + 1, 1, none⟩ = some (.int .i64 m) ∧ (F.putObj D (.deferred none)).cell? ⟨w.heap.size + 1 + 1, 2, none⟩ = some (.int .i64 ev) ∧
      LensAt (F.putObj D (.deferred none)) lo b zs q e ∧ Off (fun j => j = b) w (F.putObj D (.deferred none)) :=
  ww_end0 (h.okset hbw) hbw hD ((Below.heap_setCell _ _ _ _ (by simp; omega)).trans hK) hev hF
/-- the boxes are laid -/
theorem ww_start {w : World} {lo b p e n c : Nat} {zs : List Int} {A : Option Addr} {s : Int} (h : LensAt w lo b zs p e) :
    WW w lo b zs e A n c s p p ((((((w.alloc (RefC A n c p e)).alloc (.cells #[.int .i64 s] 3)).alloc (RefC none 0 0 0 0)).alloc (.cells #[.bool true] 4)).alloc (.cells #[.pointer (some ⟨b, 0, none⟩)] 24)).alloc (.cells #[.int .i64 s] 3)) := by
  have hlt := h.lt
  have hb : Below w.heap.size w ((((((w.alloc (RefC A n c p e)).alloc (.cells #[.int .i64 s] 3)).alloc (RefC none 0 0 0 0)).alloc (.cells #[.bool true] 4)).alloc (.cells #[.pointer (some ⟨b, 0, none⟩)] 24)).alloc (.cells #[.int .i64 s] 3)) :=
    ((((((Below.refl _ w).alloc (Nat.le_refl _) _).alloc (by simp) _).alloc (by simp; omega) _).alloc (by simp; omega) _).alloc (by simp; omega) _).alloc (by simp; omega) _
  refine ⟨h.below hb, Off.of_below hb, ?_, ?_, ?_, ?_, ?_, ?_⟩
  · exact old_at (old_at (old_at (old_at (old_at (new_at rfl)))))
  · exact old_at (old_at (old_at (old_at (new_at (by simp)))))
  · exact old_at (old_at (old_at (new_at (by simp))))
  · exact old_at (old_at (new_at (by simp)))
  · exact old_at (new_at (by simp))
  · exact new_at (by simp)

set_option maxHeartbeats 4000000 in
/-- words that are given -/
theorem lawwords_some (lo b : Nat) (zs : List Int) (p n s N : Nat) (A : Option Addr) (c : Nat) (w : World) (h : LensAt w lo b zs p 0) (hn : zs.length = n) (hl : n ≤ 1000000000) (hz : ∀ x ∈ zs, 0 ≤ x ∧ x ≤ 255) (h1 : Nums .u8 w w.heap.size A zs) (hA : zs ≠ [] → ∀ g, blockOf A g → g ≠ b)
    (hs : s = 1 ∨ s = 2 ∨ s = 4) (hN : p + N * s ≤ n) (hN1 : n < p + (N + 1) * s) :
    Calls Try.prog 21 #[.pointer (some ⟨b, 0, none⟩), RefL A n c p 0, .int .i64 s] w fun r w' => r = .returned (.tuple #[RefL A n c (p + N * s) 0, .bool true]) ∧ LensAt w' lo b zs (p + N * s) 0 ∧ Off (fun j => j = b) w w' := by
  have hbw := h.lt
  have HW0 : Hid (Calls Try.prog 36 #[.pointer (some ⟨b, 0, none⟩), .int .i64 s] ((((w.alloc (RefC A n c p 0)).alloc (.cells #[.int .i64 s] 3)).alloc (RefC none 0 0 0 0)).alloc (.cells #[.bool true] 4)) fun e w' => e = .returned (.func (.func 58) #[] #[.pointer (some ⟨w.heap.size + 4, 0, none⟩), .pointer (some ⟨w.heap.size + 5, 0, none⟩)]) ∧ WW w lo b zs 0 A n c s p p w') := by
    refine (lwords_any _ _ _).mono ?_
    rintro e w1 ⟨rfl, rfl⟩
    refine ⟨by simp, ww_start h⟩
  have HNA := Lib.hid (And.intro h1 hA)
  have HZ := Lib.hid hz
  clear h h1 hA hz
  refine (callsIn_wide (n := 3)).1 ?_
  refine callsIn_of_wp_marks Try.func21 rfl trivial ?_ rfl
  simp only [Try.ntmps21, List.size_toArray, List.length_cons, List.length_nil, Nat.reduceAdd, Nat.reduceSub, Array.replicate_succ, Array.replicate_zero, List.push_toArray, List.append_toArray, List.nil_append, List.cons_append]
  gi_wp2_with fail
  refine ⟨trivial, ?_⟩
  refine (callsIn_wide.2 HW0.out).mono ?_
  rintro e w1 ⟨rfl, hw⟩
  clear HW0
  have hfn := wfunc_not_nil (w.heap.size + 4) (w.heap.size + 5)
  have hw6 := hw.lt
  have hfit : ∀ j, j < N → p + (j + 1) * s ≤ zs.length := fun j hj => by rw [hn]; exact Nat.le_trans (Nat.add_le_add_left (Nat.mul_le_mul_right s hj) p) hN
  gi_wp2_with fail
  refine range_turns rfl (by omega) (gf := 58) (lb := #[.pointer (some ⟨w.heap.size + 4, 0, none⟩), .pointer (some ⟨w.heap.size + 5, 0, none⟩)]) rfl trivial (enters_of Try.func58 (by kernel_rfl) rfl)
    (fun j => #[.int .u32 (wordAt zs p s j)]) (fun _ => rfl) (fun j W => WW w lo b zs 0 A n c s (p + (j + 1) * s) (p + j * s) W) (fun j W => WW w lo b zs 0 A n c s (p + j * s) (p + j * s) W) N
    (fun j W l o o' h hl _ _ => h.putObj hbw (by omega)) (fun j W l o o' h hl _ _ => h.putObj hbw (by omega))
    (fun o => by rw [Nat.zero_mul, Nat.add_zero]; exact hw.below hbw (((Below.refl _ w1).alloc (Nat.le_refl _) _).alloc (by simp) _)) ?a1 ?assign ?body ?iter ?done
  case assign =>
    intro l j W K hK
    gi_wp2
    exact hK
  case body =>
    rintro l j W hR hj
    have hRW := rword_any A n c (p + j * s) 0 s zs W hn hl (by have := hfit j hj; rw [Nat.succ_mul] at this; omega) (by omega) HZ.out ((HNA.out.1.off hR.off HNA.out.2).mono hR.off.size)
    have HRW : Hid (Calls Try.prog 9 #[RefL A n c (p + j * s) 0, .int .i64 s] W fun r w' => r = .returned (.tuple #[RefL A n c (p + (j + 1) * s) 0, .int .u32 (wordAt zs p s j)]) ∧ Below W.heap.size W w') := hRW.mono fun r w' ⟨g1, g2⟩ => ⟨by rw [g1, wordR_at (hfit j hj)]; simp [placeOf, errOf, ansI, Nat.succ_mul, Nat.add_assoc], g2⟩
    obtain ⟨m0, hm0⟩ : ∃ m, p + j * s = m := ⟨_, rfl⟩
    obtain ⟨m1, hm1⟩ : ∃ m, p + (j + 1) * s = m := ⟨_, rfl⟩
    rw [hm0, hm1] at HRW hR
    rw [hm1]
    have HR := Lib.hid hR
    obtain ⟨c0, c1, c2, c3, _, _, _, _, _⟩ := hR.cells
    clear hRW hm0 hm1 hR hw hfit hN hN1 hfn
    generalize wordAt zs p s j = x at *
    gi_wp2_with (refine ⟨trivial, ?_⟩; gi_at_call 9; refine (CallsIn.inRound l (callsIn_wide.2 HRW.out)).mono ?_; rintro e W2 ⟨rfl, hb⟩; have HR2 := Lib.hid (HR.out.below hbw hb); have HKF : Hid (KeepsFrom w1.heap.size W W2) := keepsFrom_below hb; have hd := fun o => ww_alloc HR2.out hbw o; clear hb; obtain ⟨d0, d1, d2, d3, d4, g0, g1, g2, g4⟩ := ww_all hd; clear hd)
    exact ⟨keepsFrom_next (HKF.out.trans (keepsFrom_below ((Below.refl _ W2).alloc (Nat.le_refl _) _))), (ww_alloc HR2.out hbw _).next hbw⟩
  case iter =>
    intro Bk l W hBk hBlt hD hB hY
    have hdr : ∀ j W k, WW w lo b zs 0 A n c s (p + j * s) (p + j * s) W → WW w lo b zs 0 A n c s (p + j * s) (p + j * s) (W.drewN k) := fun j W k h => h.below hbw (below_drewN (Below.refl _ _) k)
    have hBd : ∀ W k, Bk W → Bk (World.drewN W k) := fun W k h => hBk _ _ h (Nat.le_refl _) fun _ _ _ => rfl
    have hst : ∀ j W r W2, j < N → WW w lo b zs 0 A n c s (p + j * s) (p + j * s) W → Bk W → ReadI .u32 lo b zs (p + j * s) 0 (wordAt zs p s j, s, 0) W r W2 → WW w lo b zs 0 A n c s (p + (j + 1) * s) (p + j * s) W2 ∧ Bk W2 := fun j W r W2 _ h hB hr => by
      obtain ⟨_, hl2, ho⟩ := hr
      have hsz := hBlt W hB
      refine ⟨h.read hbw ?_ ho, hBk _ _ hB ho.size fun k h1 h2 => ho.block k (by omega) (by omega)⟩
      have : placeOf (p + j * s) 0 s = p + (j + 1) * s := by rw [Nat.succ_mul]; simp [placeOf]; omega
      simpa [this, errOf] using hl2
    have hDL : ∀ j W, WW w lo b zs 0 A n c s (p + j * s) (p + j * s) W → LensAt W lo b zs (p + j * s) 0 ∧ W.cell? ⟨w.heap.size + 4, 0, none⟩ = some (.pointer (some ⟨b, 0, none⟩)) ∧ W.cell? ⟨w.heap.size + 5, 0, none⟩ = some (.int .i64 s) := fun j W h => ⟨h.lens, h.boxes.1, h.boxes.2⟩
    rcases hs with rfl | rfl | rfl
    · exact words_some1 (by omega) (by omega) HZ.out (by omega) (by omega) rfl (by omega) (by omega) hDL hdr hBd hst hY W hD hB
    · exact words_some2 (by omega) (by omega) HZ.out (by omega) (by omega) rfl rfl (by omega) (by omega) hDL hdr hBd hst hY W hD hB
    · exact words_some4 (by omega) (by omega) HZ.out (by omega) (by omega) rfl rfl rfl (by omega) (by omega) hDL hdr hBd hst hY W hD hB
  case done =>
    rintro D W hD hW hK
    obtain ⟨m1, hm1⟩ : ∃ m, p + N * s = m := ⟨_, rfl⟩
    rw [hm1] at hW
    have HM1 := Lib.hid hm1
    obtain ⟨c0, c1, c2, c3, c4, f0, f1, f2, f4⟩ := hW.cells
    have hlt : (n : Int) - (m1 : Int) < (s : Int) := by rw [Nat.succ_mul] at hN1; omega
    have hmn0 : m1 ≤ n := by omega
    have c4' : W.cell? ⟨w.heap.size + 1 + 1 + 1, 0, none⟩ = some (.bool true) := c4
    have f4' : W.frozen? ⟨w.heap.size + 1 + 1 + 1, 0, none⟩ = false := f4
    have hr' : W.heap[w.heap.size + 1 + 1]? = _ := hW.hr
    have r0 : W.cell? ⟨w.heap.size + 1 + 1, 0, none⟩ = some (.slice none 0 0) := by simp [World.cell?, hr']
    have r1 : W.cell? ⟨w.heap.size + 1 + 1, 1, none⟩ = some (.int .i64 0) := by simp [World.cell?, hr']
    have r2 : W.cell? ⟨w.heap.size + 1 + 1, 2, none⟩ = some (.int .i64 0) := by simp [World.cell?, hr']
    have q0 : W.frozen? ⟨w.heap.size + 1 + 1, 0, none⟩ = false := by simp [World.frozen?, hr']
    have q1 : W.frozen? ⟨w.heap.size + 1 + 1, 1, none⟩ = false := by simp [World.frozen?, hr']
    have q2 : W.frozen? ⟨w.heap.size + 1 + 1, 2, none⟩ = false := by simp [World.frozen?, hr']
    have HW := Lib.hid hW
    clear hW hw hfit hN hN1 hm1
    have hmx : Try.prog.follows .mixedOrders = true := by kernel_rfl
    have hmn : (m1 : Int) ≤ (n : Int) := by omega
    have HE := Lib.hid (ww_end (D := D) (ev := 0) HW.out hbw (by omega) hK rfl rfl)
    clear hK
    rcases hs with rfl | rfl | rfl
    · have hlt' : (n : Int) - (m1 : Int) < 1 := by omega
      clear hlt
      gi_wp2
      refine wpIn_wide.2 ?_
      go_region
      all_goals gi_wp2
      all_goals obtain ⟨hK, k0, k1, k2, hl, ho⟩ := HE.out
      all_goals refine ⟨by simp, .inl ⟨_, _, rfl, run_takeDeferred hK, ?_⟩⟩
      all_goals refine ⟨_, (by simp [results, Try.results21, go_sem, k0, k1, k2]; try rfl), ?_, ?_, ho⟩
      all_goals first | (rw [HM1.out]; rfl) | (rw [HM1.out]; exact hl)
    · have hlt' : (n : Int) - (m1 : Int) < 2 := by omega
      clear hlt
      gi_wp2
      refine wpIn_wide.2 ?_
      go_region
      all_goals gi_wp2
      all_goals obtain ⟨hK, k0, k1, k2, hl, ho⟩ := HE.out
      all_goals refine ⟨by simp, .inl ⟨_, _, rfl, run_takeDeferred hK, ?_⟩⟩
      all_goals refine ⟨_, (by simp [results, Try.results21, go_sem, k0, k1, k2]; try rfl), ?_, ?_, ho⟩
      all_goals first | (rw [HM1.out]; rfl) | (rw [HM1.out]; exact hl)
    · have hlt' : (n : Int) - (m1 : Int) < 4 := by omega
      clear hlt
      gi_wp2
      refine wpIn_wide.2 ?_
      go_region
      all_goals gi_wp2
      all_goals obtain ⟨hK, k0, k1, k2, hl, ho⟩ := HE.out
      all_goals refine ⟨by simp, .inl ⟨_, _, rfl, run_takeDeferred hK, ?_⟩⟩
      all_goals refine ⟨_, (by simp [results, Try.results21, go_sem, k0, k1, k2]; try rfl), ?_, ?_, ho⟩
      all_goals first | (rw [HM1.out]; rfl) | (rw [HM1.out]; exact hl)
end Go.Proofs.Ytmilcmgohlfpiaa
