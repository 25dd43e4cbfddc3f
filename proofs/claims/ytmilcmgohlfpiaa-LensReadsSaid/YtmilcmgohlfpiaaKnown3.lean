/-
  A lens above a block; the chapter's example (known).
-/
import Derived.Test.YtmilcmgohlfpiaaMeths
namespace Go.Proofs.Ytmilcmgohlfpiaa
open Go.RowKit
set_option maxRecDepth 100000

/-- a lens above block B; below it all is as in w0 -/
def Ln (B : Nat) (w0 : World) (lo b : Nat) (zs : List Int) (p e : Nat) (w : World) : Prop := LensAt w lo b zs p e ∧ B ≤ lo ∧ Below B w0 w
section
variable {B lo b p e : Nat} {w0 w w' : World} {zs : List Int} {k : IntKind} {x : Int × Nat × Nat} {y : List Int × Nat × Nat} {r : Ending}
theorem Ln.size (h : Ln B w0 lo b zs p e w) : B ≤ w.heap.size := by
  have := h.1.lt; have := h.1.lo_le; have := h.2.1; omega
theorem Ln.below (h : Ln B w0 lo b zs p e w) (hb : Below w.heap.size w w') : Ln B w0 lo b zs p e w' := ⟨h.1.below hb, h.2.1, h.2.2.trans (hb.mono h.size)⟩
theorem Ln.drewN (h : Ln B w0 lo b zs p e w) (n : Nat) : Ln B w0 lo b zs p e (w.drewN n) := h.below (below_drewN (Below.refl _ _) n)
theorem Ln.int (h : Ln B w0 lo b zs p e w) (hr : ReadI k lo b zs p e x w r w') : r = .returned (.int k (ansI e x.1)) ∧ Ln B w0 lo b zs (placeOf p e x.2.1) (errOf e x.2.2) w' :=
  ⟨hr.1, hr.2.1, h.2.1, h.2.2.trans (hr.2.2.below (by intro k hk; have := h.1.lo_le; have := h.2.1; omega) h.size)⟩
theorem Ln.bytes (h : Ln B w0 lo b zs p e w) (hr : ReadB lo b zs p e y w r w') : (∃ A c, r = .returned (.slice A (ansB e y.1).length c) ∧ (ansB e y.1).length ≤ c ∧ NumsIn .u8 w' w.heap.size w'.heap.size A (ansB e y.1)) ∧ Ln B w0 lo b zs (placeOf p e y.2.1) (errOf e y.2.2) w' :=
  ⟨hr.1, hr.2.1, h.2.1, h.2.2.trans (hr.2.2.below (by intro k hk; have := h.1.lo_le; have := h.2.1; omega) h.size)⟩
end
/-- the example's bytes -/
def exB : List Int := [2, 1, 172, 2, 9]
theorem exB_bytes : ∀ x ∈ exB, 0 ≤ x ∧ x ≤ 255 := by decide
section
variable {B lo b : Nat} {w0 w : World}
theorem ex_u16 (h : Ln B w0 lo b exB 0 0 w) : Calls Try.prog 10 #[.pointer (some ⟨b, 0, none⟩)] w fun r w' => r = .returned (.int .u16 258) ∧ Ln B w0 lo b exB 2 0 w' :=
  (lu16_any lo b exB 0 0 w h.1 (by decide) exB_bytes).mono fun r w' hr => by
    rw [show wordR (exB.drop 0) 2 = (258, 2, 0) by decide] at hr; exact h.int hr
theorem ex_num (h : Ln B w0 lo b exB 2 0 w) : Calls Try.prog 12 #[.pointer (some ⟨b, 0, none⟩), .int .u64 1000] w fun r w' => r = .returned (.int .u64 300) ∧ Ln B w0 lo b exB 4 0 w' :=
  (lnum_any lo b exB 2 0 w 1000 h.1 (by decide) exB_bytes).mono fun r w' hr => by
    rw [show numR (exB.drop 2) 1000 = (300, 2, 0) by decide +kernel] at hr; exact h.int hr
theorem ex_end (h : Ln B w0 lo b exB 4 0 w) : Calls Try.prog 35 #[.pointer (some ⟨b, 0, none⟩)] w fun r w' => r = .returned (.int .i64 3) ∧ Ln B w0 lo b exB 4 0 w' :=
  (lend_any lo b exB 4 0 w h.1 (by decide)).mono fun r w' hr => by
    obtain ⟨rfl, n, rfl⟩ := hr; exact ⟨rfl, h.drewN n⟩
theorem ex_u32 (h : Ln B w0 lo b exB 4 0 w) : Calls Try.prog 11 #[.pointer (some ⟨b, 0, none⟩)] w fun r w' => r = .returned (.int .u32 0) ∧ Ln B w0 lo b exB 4 4 w' :=
  (lu32_any lo b exB 4 0 w h.1 (by decide) exB_bytes).mono fun r w' hr => by
    rw [show wordR (exB.drop 4) 4 = (0, 0, 4) by decide] at hr; exact h.int hr
theorem ex_err (h : Ln B w0 lo b exB 4 4 w) : Calls Try.prog 39 #[.pointer (some ⟨b, 0, none⟩)] w fun r w' => r = .returned (.int .i64 4) ∧ w = w' :=
  lerr_any lo b exB 4 4 w h.1
end
theorem ex_new (w : World) : Calls Try.prog 7 #[.slice (some ⟨w.heap.size, 0, none⟩) 5 5] (w.alloc (.cells #[.int .u8 2, .int .u8 1, .int .u8 172, .int .u8 2, .int .u8 9] 5)) fun r w' => ∃ lo b, r = .returned (.pointer (some ⟨b, 0, none⟩)) ∧ Ln w.heap.size w lo b exB 0 0 w' := by
  have hb : Below w.heap.size w (w.alloc (.cells #[.int .u8 2, .int .u8 1, .int .u8 172, .int .u8 2, .int .u8 9] 5)) := (Below.refl _ w).alloc (Nat.le_refl _) _
  refine (lnew_any _ 5 5 exB _ rfl (by decide) ((Nums.new .u8 w 5 exB _ rfl).mono (by simp))).mono ?_
  rintro r w' ⟨b, rfl, hl, hb2⟩
  exact ⟨_, b, rfl, hl, by simp, hb.trans (hb2.mono hb.size)⟩

set_option maxHeartbeats 1000000 in
theorem known3_any (w : World) : Calls Try.prog 24 #[] w fun e w' => e = .returned (.bool true) ∧ Below w.heap.size w w' := by
  have HN := ex_new w
  go_enter Try.func24, Try.ntmps24
  go_wp2_with (first
    | (go_at_call 7; refine HN.mono ?_; rintro e w2 ⟨lo, b, rfl, hl⟩; have HL1 := Lib.hid hl; clear hl)
    | (go_at_call 10; refine (ex_u16 HL1.out).mono ?_; rintro e w2 ⟨rfl, hl⟩; have HL2 := Lib.hid hl; clear hl)
    | (go_at_call 12; refine (ex_num HL2.out).mono ?_; rintro e w2 ⟨rfl, hl⟩; have HL3 := Lib.hid hl; clear hl)
    | (go_at_call 35; refine (ex_end HL3.out).mono ?_; rintro e w2 ⟨rfl, hl⟩; have HL4 := Lib.hid hl; clear hl)
    | (go_at_call 11; refine (ex_u32 HL4.out).mono ?_; rintro e w2 ⟨rfl, hl⟩; have HL5 := Lib.hid hl; clear hl)
    | (go_at_call 39; refine (ex_err HL5.out).mono ?_; rintro e w2 ⟨rfl, rfl⟩))
  go_ret
  exact ⟨rfl, HL5.out.2.2⟩
end Go.Proofs.Ytmilcmgohlfpiaa
