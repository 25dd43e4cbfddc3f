/-
  The worlds of LensReads: a lens, and the document's in a box of the call's own.
-/
import Derived.Test.YtmilcmgohlfpiaaWordsM
import Derived.Test.YtmilcmgohlfpiaaRefF
import Derived.Test.YtmilcmgohlfpiaaAlike
namespace Go.Proofs.Ytmilcmgohlfpiaa
open Go.RowKit
set_option maxRecDepth 100000

/-- the lens at (q, e), the document's at (m, f); below the call's memory all is as it was -/
structure RS (w : World) (lo bl : Nat) (zs : List Int) (A : Option Addr) (n c bm q e m f : Nat) (W : World) : Prop where
  lens : LensAt W lo bl zs q e
  box : W.heap[bm]? = some (.cells #[.slice A n c, .int .i64 m, .int .i64 f] 27 (0, 0))
  nums : Nums .u8 W W.heap.size A zs
  base : Below w.heap.size w W
  hlo : w.heap.size ≤ lo
  hbm : bl < bm
  hA : zs ≠ [] → ∀ g, blockOf A g → g ≠ bl ∧ g ≠ bm
section
variable {w W W' : World} {lo bl n c bm q e m f m' f' : Nat} {zs : List Int} {A : Option Addr} {k : IntKind} {x : Int × Nat × Nat} {y : List Int × Nat × Nat} {r : Ending}
theorem RS.lt (h : RS w lo bl zs A n c bm q e m f W) : bm < W.heap.size := (Array.getElem?_eq_some_iff.1 h.box).1
theorem RS.below (h : RS w lo bl zs A n c bm q e m f W) (hb : Below W.heap.size W W') : RS w lo bl zs A n c bm q e m f W' :=
  ⟨h.lens.below hb, (hb.block _ h.lt).trans h.box, (h.nums.below hb).mono hb.size, h.base.trans (hb.mono h.base.size), h.hlo, h.hbm, h.hA⟩
theorem RS.off {q' e' : Nat} (h : RS w lo bl zs A n c bm q e m f W) (hl : LensAt W' lo bl zs q' e') (ho : Off (fun j => j = bl) W W') : RS w lo bl zs A n c bm q' e' m f W' := by
  have h1 := h.lens.lo_le
  have h2 := h.hlo
  have h3 := h.hbm
  exact ⟨hl, (ho.block _ h.lt (by omega)).trans h.box, (h.nums.off ho (fun hz g hg => (h.hA hz g hg).1)).mono ho.size, h.base.trans (ho.below (by intro k hk; omega) h.base.size), h.hlo, h.hbm, h.hA⟩
theorem RS.int (h : RS w lo bl zs A n c bm q e m f W) (hr : ReadI k lo bl zs q e x W r W') : r = .returned (.int k (ansI e x.1)) ∧ RS w lo bl zs A n c bm (placeOf q e x.2.1) (errOf e x.2.2) m f W' := ⟨hr.1, h.off hr.2.1 hr.2.2⟩
theorem RS.bytes (h : RS w lo bl zs A n c bm q e m f W) (hr : ReadB lo bl zs q e y W r W') :
    (∃ A2 c2, r = .returned (.slice A2 (ansB e y.1).length c2) ∧ NumsIn .u8 W' W.heap.size W'.heap.size A2 (ansB e y.1)) ∧ RS w lo bl zs A n c bm (placeOf q e y.2.1) (errOf e y.2.2) m f W' := by
  obtain ⟨⟨A2, c2, h1, _, h2⟩, h3, h4⟩ := hr
  exact ⟨⟨A2, c2, h1, h2⟩, h.off h3 h4⟩
theorem RS.set (h : RS w lo bl zs A n c bm q e m f W) : RS w lo bl zs A n c bm q e m' f' (((W.setCell ⟨bm, 0, none⟩ (.slice A n c)).setCell ⟨bm, 1, none⟩ (.int .i64 m')).setCell ⟨bm, 2, none⟩ (.int .i64 f')) := by
  have h1 := h.lens.lo_le
  have h2 := h.hlo
  have h3 := h.hbm
  have ho : Off (fun j => j = bm) W (((W.setCell ⟨bm, 0, none⟩ (.slice A n c)).setCell ⟨bm, 1, none⟩ (.int .i64 m')).setCell ⟨bm, 2, none⟩ (.int .i64 f')) :=
    (((Off.refl (fun j => j = bm) W).setCell (p := ⟨bm, 0, none⟩) rfl _).setCell (p := ⟨bm, 1, none⟩) rfl _).setCell (p := ⟨bm, 2, none⟩) rfl _
  exact ⟨h.lens.off ho (by intro k _ hk e; omega), by rw [setCell_at (setCell_at (setCell_at h.box))]; rfl, (h.nums.off ho (fun hz g hg => (h.hA hz g hg).2)).mono ho.size, h.base.trans (ho.below (by intro k hk; omega) h.base.size), h.hlo, h.hbm, h.hA⟩
theorem RS.cells (h : RS w lo bl zs A n c bm q e m f W) : W.cell? ⟨bm, 0, none⟩ = some (.slice A n c) ∧ W.cell? ⟨bm, 1, none⟩ = some (.int .i64 m) ∧ W.cell? ⟨bm, 2, none⟩ = some (.int .i64 f) ∧ W.frozen? ⟨bm, 0, none⟩ = false ∧ W.frozen? ⟨bm, 1, none⟩ = false ∧ W.frozen? ⟨bm, 2, none⟩ = false :=
  ⟨by simp [World.cell?, h.box], by simp [World.cell?, h.box], by simp [World.cell?, h.box], by simp [World.frozen?, h.box], by simp [World.frozen?, h.box], by simp [World.frozen?, h.box]⟩
/-- a store into another block of the call's own, below the lens -/
theorem RS.out {g o : Nat} (h : RS w lo bl zs A n c bm q e m f W) (hg : w.heap.size ≤ g) (hg2 : g < lo) (hA2 : zs ≠ [] → ∀ q, blockOf A q → q ≠ g) (v : Value) : RS w lo bl zs A n c bm q e m f (W.setCell ⟨g, o, none⟩ v) := by
  have h1 := h.lens.lo_le
  have h3 := h.hbm
  have ho : Off (fun j => j = g) W (W.setCell ⟨g, o, none⟩ v) := (Off.refl (fun j => j = g) W).setCell (p := ⟨g, o, none⟩) rfl _
  exact ⟨h.lens.off ho (by intro k hk _ e; omega), (ho.block _ h.lt (by omega)).trans h.box, (h.nums.off ho (fun hz k hk => hA2 hz k hk)).mono ho.size, h.base.trans (ho.below (by intro k hk; omega) h.base.size), h.hlo, h.hbm, h.hA⟩
/-- what a read made is still there behind the store -/
theorem nums_set3 {bm s : Nat} {v0 v1 v2 : Value} {a : Option Addr} {L : List Int} (h : NumsIn .u8 W s W.heap.size a L) (hb : bm < s) : Nums .u8 (((W.setCell ⟨bm, 0, none⟩ v0).setCell ⟨bm, 1, none⟩ v1).setCell ⟨bm, 2, none⟩ v2) (((W.setCell ⟨bm, 0, none⟩ v0).setCell ⟨bm, 1, none⟩ v1).setCell ⟨bm, 2, none⟩ v2).heap.size a L := by
  have hs : (((W.setCell ⟨bm, 0, none⟩ v0).setCell ⟨bm, 1, none⟩ v1).setCell ⟨bm, 2, none⟩ v2).heap.size = W.heap.size := by simp [World.setCell]
  rw [hs]
  exact (h.keeps ⟨by rw [hs]; exact Nat.le_refl _, fun k h1 _ => by rw [Below.heap_setCell _ _ _ _ (by simp; omega), Below.heap_setCell _ _ _ _ (by simp; omega), Below.heap_setCell _ _ _ _ (by simp; omega)]⟩).nums
/-- the law's words, at whatever size -/
theorem RS.words {s : Int} (h : RS w lo bl zs A n c bm q e q e W) (hn : zs.length = n) (hl : n ≤ 1000000000) (hz : ∀ x ∈ zs, 0 ≤ x ∧ x ≤ 255) :
    Calls Try.prog 21 #[.pointer (some ⟨bl, 0, none⟩), RefL A n c q e, .int .i64 s] W fun r W' => ∃ q', r = .returned (.tuple #[RefL A n c q' e, .bool true]) ∧ RS w lo bl zs A n c bm q' e q e W' := by
  have hp := h.lens.place
  have none : (e ≠ 0 ∨ (e = 0 ∧ (n : Int) - q < s) ∨ (e = 0 ∧ s ≤ (n : Int) - q ∧ s ≠ 1 ∧ s ≠ 2 ∧ s ≠ 4)) → Calls Try.prog 21 #[.pointer (some ⟨bl, 0, none⟩), RefL A n c q e, .int .i64 s] W fun r W' => ∃ q', r = .returned (.tuple #[RefL A n c q' e, .bool true]) ∧ RS w lo bl zs A n c bm q' e q e W' := fun hc =>
    (lawwords_none lo bl zs q e n s A c W h.lens hn hl hc).mono fun r W' ⟨h1, h2, h3⟩ => ⟨q, h1, h.off h2 h3⟩
  by_cases he : e = 0
  · by_cases hs : s = 1 ∨ s = 2 ∨ s = 4
    · by_cases hlt : (n : Int) - q < s
      · exact none (.inr (.inl ⟨he, hlt⟩))
      · subst he
        obtain ⟨t, rfl⟩ := Int.eq_ofNat_of_zero_le (show 0 ≤ s by omega)
        have ht : t = 1 ∨ t = 2 ∨ t = 4 := by omega
        have h1 : q + (n - q) / t * t ≤ n ∧ n < q + ((n - q) / t + 1) * t := by
          rcases ht with rfl | rfl | rfl <;> omega
        exact (lawwords_some lo bl zs q n t ((n - q) / t) A c W h.lens hn hl hz h.nums (fun hz g hg => (h.hA hz g hg).1) ht h1.1 h1.2).mono fun r W' ⟨g1, g2, g3⟩ => ⟨_, g1, h.off g2 g3⟩
    · by_cases hlt : (n : Int) - q < s
      · exact none (.inr (.inl ⟨he, hlt⟩))
      · exact none (.inr (.inr ⟨he, by omega, by omega, by omega, by omega⟩))
  · exact none (.inl he)
end
end Go.Proofs.Ytmilcmgohlfpiaa
