/-
  Contract of layer 7's Parse.
-/
import Derived.Test.YtmmffifndheafaaDoorHdC
import Derived.Test.YtmmffifndheafaaDoorMeths
import Derived.Test.YtmmffifndheafaaDoorBts
import Derived.Handy
namespace Go.Proofs.YtmmffifndheafaaDoor
open Go.RowKit
set_option maxRecDepth 100000

/-- the head of bytes, and what is wrong -/
def prs : List Int → (Int × Int × Int × Int × Int) × Int
  | [z0, z1, z2, z3, z4, z5, z6, z7] => if chk z0 z1 z6 z7 = 0 then ((z0, z1, le [z2, z3, z4, z5], z6, z7), 0) else ((0, 0, 0, 0, 0), chk z0 z1 z6 z7)
  | zs => ((0, 0, 0, 0, 0), if zs.length < 8 then 13 else 3)
def hdP (x : Int × Int × Int × Int × Int) : Value := hdV x.1 x.2.1 x.2.2.1 x.2.2.2.1 x.2.2.2.2
theorem prs_8 (z0 z1 z2 z3 z4 z5 z6 z7 : Int) : prs [z0, z1, z2, z3, z4, z5, z6, z7] = if chk z0 z1 z6 z7 = 0 then ((z0, z1, le [z2, z3, z4, z5], z6, z7), 0) else ((0, 0, 0, 0, 0), chk z0 z1 z6 z7) := rfl
theorem prs_short {zs : List Int} (h : zs.length < 8) : prs zs = ((0, 0, 0, 0, 0), 13) := by
  unfold prs
  split
  · simp at h
  · rw [if_pos h]
theorem prs_long {zs : List Int} (h : 8 < zs.length) : prs zs = ((0, 0, 0, 0, 0), 3) := by
  unfold prs
  split
  · simp at h
  · rw [if_neg (by omega)]
theorem eight {zs : List Int} (h : zs.length = 8) : ∃ z0 z1 z2 z3 z4 z5 z6 z7, zs = [z0, z1, z2, z3, z4, z5, z6, z7] := by
  match zs, h with
  | [z0, z1, z2, z3, z4, z5, z6, z7], _ => exact ⟨z0, z1, z2, z3, z4, z5, z6, z7, rfl⟩

/-- five cells written one by one -/
theorem set5 {W : World} {R : Nat} {t : TypeId} {x0 x1 x2 x3 x4 : Value} (y0 y1 y2 y3 y4 : Value) (h : W.heap[R]? = some (.cells #[x0, x1, x2, x3, x4] t (0, 0))) :
    (((((W.setCell ⟨R, 0, none⟩ y0).setCell ⟨R, 1, none⟩ y1).setCell ⟨R, 2, none⟩ y2).setCell ⟨R, 3, none⟩ y3).setCell ⟨R, 4, none⟩ y4).heap[R]? = some (.cells #[y0, y1, y2, y3, y4] t (0, 0)) := by
  have := setCell_at (j := 4) (u := y4) (setCell_at (j := 3) (u := y3) (setCell_at (j := 2) (u := y2) (setCell_at (j := 1) (u := y1) (setCell_at (j := 0) (u := y0) h))))
  simpa using this
theorem below5 {w W : World} {R : Nat} (y0 y1 y2 y3 y4 : Value) (hR : w.heap.size ≤ R) (h : Below w.heap.size w W) :
    Below w.heap.size w (((((W.setCell ⟨R, 0, none⟩ y0).setCell ⟨R, 1, none⟩ y1).setCell ⟨R, 2, none⟩ y2).setCell ⟨R, 3, none⟩ y3).setCell ⟨R, 4, none⟩ y4) :=
  ((((h.setCell (p := ⟨R, 0, none⟩) hR y0).setCell (p := ⟨R, 1, none⟩) hR y1).setCell (p := ⟨R, 2, none⟩) hR y2).setCell (p := ⟨R, 3, none⟩) hR y3).setCell (p := ⟨R, 4, none⟩) hR y4

theorem hparse_short (a : Option Addr) (n cap : Nat) (w : World) (hn : n < 8) :
    Calls Tryd.prog 12 #[.slice a n cap] w fun e w' => e = .returned (.tuple #[hdV 0 0 0 0 0, .int .i64 13]) ∧ Below w.heap.size w w' := by
  have h1 : (n : Int) < 8 := by omega
  go_enter Tryd.func12, Tryd.ntmps12
  go_wp2
  refine bodyPost_ret (v := .tuple #[hdV 0 0 0 0 0, .int .i64 13]) (by simp [results, Tryd.results12, go_sem, hdV]) rfl ⟨rfl, (Below.refl _ w).alloc (Nat.le_refl _) _⟩
theorem hparse_long (a : Option Addr) (n cap : Nat) (w : World) (hn : 8 < n) :
    Calls Tryd.prog 12 #[.slice a n cap] w fun e w' => e = .returned (.tuple #[hdV 0 0 0 0 0, .int .i64 3]) ∧ Below w.heap.size w w' := by
  have h1 : ¬ (n : Int) < 8 := by omega
  have h2 : 8 < (n : Int) := by omega
  go_enter Tryd.func12, Tryd.ntmps12
  go_wp2
  refine bodyPost_ret (v := .tuple #[hdV 0 0 0 0 0, .int .i64 3]) (by simp [results, Tryd.results12, go_sem, hdV]) rfl ⟨rfl, (Below.refl _ w).alloc (Nat.le_refl _) _⟩

section
variable {w : World} {lo b p : Nat} {zs : List Int}
theorem u8_at {z : Int} (h : LensAt w lo b zs p 0) (hl : zs.length ≤ 1000000000) (hz : ∀ x ∈ zs, 0 ≤ x ∧ x ≤ 255) (hp : zs[p]? = some z) :
    Calls Tryd.prog 23 #[.pointer (some ⟨b, 0, none⟩)] w fun r w' => r = .returned (.int .u8 z) ∧ LensAt w' lo b zs (p + 1) 0 ∧ Off (fun j => j = b) w w' := by
  refine (lu8_any lo b zs p 0 w h hl hz).mono fun r w' hr => ?_
  have hlt : p < zs.length := (List.getElem?_eq_some_iff.1 hp).1
  have hw : wordR (zs.drop p) 1 = (z, 1, 0) := by
    unfold wordR
    rw [if_neg (by rw [List.length_drop]; omega), List.drop_eq_getElem_cons hlt]
    have := (List.getElem?_eq_some_iff.1 hp).2
    simp [le, this]
  unfold ReadI at hr
  rw [hw] at hr
  exact hr
theorem u32_at (h : LensAt w lo b zs p 0) (hl : zs.length ≤ 1000000000) (hz : ∀ x ∈ zs, 0 ≤ x ∧ x ≤ 255) (hp : p + 4 ≤ zs.length) :
    Calls Tryd.prog 24 #[.pointer (some ⟨b, 0, none⟩)] w fun r w' => r = .returned (.int .u32 (le ((zs.drop p).take 4))) ∧ LensAt w' lo b zs (p + 4) 0 ∧ Off (fun j => j = b) w w' := by
  refine (lu32_any lo b zs p 0 w h hl hz).mono fun r w' hr => ?_
  have hw : wordR (zs.drop p) 4 = (le ((zs.drop p).take 4), 4, 0) := by
    unfold wordR
    rw [if_neg (by rw [List.length_drop]; omega)]
  unfold ReadI at hr
  rw [hw] at hr
  exact hr
end
end Go.Proofs.YtmmffifndheafaaDoor
