/-
  The walk of PenNil.
-/
import Derived.Test.YtajeefnogdledaaPn
namespace Go.Proofs.Ytajeefnogdledaa
open Go.RowKit
set_option maxRecDepth 100000
set_option maxHeartbeats 1000000 in
theorem nil_go (a0 : Int) (a1 : Option Addr) (len1 cap1 : Nat) (w : World) (h0 : 0 ≤ a0) (h1 : a0 ≤ 4294967295) (hl : len1 ≤ 9223372036854775807) :
    Calls Try.prog 5 #[.int .u32 a0, .slice a1 len1 cap1] w fun e w' => e = .returned (.bool true) ∧ Below w.heap.size w w' := by
  have HB : Hid (Below w.heap.size w w) := Below.refl _ _
  go_enter Try.func5, Try.ntmps5
  go_wp2_with (first
    | (go_at_call 17; refine (known_any _).mono ?_; rintro e w2 ⟨rfl, hb⟩; replace HB : Hid _ := Lib.hid (HB.out.trans (hb.mono HB.out.size)); clear hb)
    | (go_at_call 18; refine (u8_nil _ _).mono ?_; rintro e w2 ⟨rfl, hb⟩; replace HB : Hid _ := Lib.hid (HB.out.trans (hb.mono HB.out.size)); clear hb)
    | (go_at_call 19; refine (u16_nil _ _ (by omega) (by omega)).mono ?_; rintro e w2 ⟨rfl, hb⟩; replace HB : Hid _ := Lib.hid (HB.out.trans (hb.mono HB.out.size)); clear hb)
    | (go_at_call 20; refine (u32_nil _ _ h0 h1).mono ?_; rintro e w2 ⟨rfl, hb⟩; replace HB : Hid _ := Lib.hid (HB.out.trans (hb.mono HB.out.size)); clear hb)
    | (go_at_call 21; refine (number_nil _ _ _ 1 1 [a0] (by decide) rfl (by simp; omega) (Nat.le_of_eq (by simp)) (Nums.new .u64 _ 45 [a0] _ rfl)).mono ?_; rintro e w2 ⟨rfl, hb⟩; replace HB : Hid _ := Lib.hid ((HB.out.alloc HB.out.size _).trans (hb.mono (HB.out.alloc HB.out.size _).size)); clear hb)
    | (go_at_call 22; refine (signed_nil _ _ _ 1 1 [a0] (by decide) rfl (by simp; omega) (Nat.le_of_eq (by simp)) (Nums.new .i64 _ 2 [a0] _ rfl)).mono ?_; rintro e w2 ⟨rfl, hb⟩; replace HB : Hid _ := Lib.hid ((HB.out.alloc HB.out.size _).trans (hb.mono (HB.out.alloc HB.out.size _).size)); clear hb)
    | (go_at_call 23; refine (raw_nil _ _ _ _).mono ?_; rintro e w2 ⟨rfl, hb⟩; replace HB : Hid _ := Lib.hid (HB.out.trans (hb.mono HB.out.size)); clear hb)
    | (go_at_call 24; refine (field_nil _ _ _ _ hl).mono ?_; rintro e w2 ⟨rfl, hb⟩; replace HB : Hid _ := Lib.hid (HB.out.trans (hb.mono HB.out.size)); clear hb)
    | (go_at_call 13; refine (Bytes_nil _).mono ?_; rintro e w2 ⟨rfl, rfl⟩)
    | (go_at_call 14; refine (len_nil _).mono ?_; rintro e w2 ⟨rfl, rfl⟩)
    | (go_at_call 15; refine (Left_nil _).mono ?_; rintro e w2 ⟨rfl, rfl⟩)
    | (go_at_call 16; refine (err_nil _).mono ?_; rintro e w2 ⟨rfl, rfl⟩))
  go_ret
  exact ⟨rfl, HB.out⟩
theorem walk_nil (a0 : Int) (a1 : Option Addr) (len1 cap1 : Nat) (z1 : List Int) (w : World) (w0 : (Lit.int .u32 a0).wf = true) (w1 : IsRow .u8 w a1 len1 cap1 z1) :
    Calls Try.prog 5 #[.int .u32 a0, .slice a1 len1 cap1] w fun e w' => e = .returned (.bool true) ∧ Below w.heap.size w w' := by
  obtain ⟨es, hes, hlc, hcm, _⟩ := w1.elems
  have hr : 0 ≤ a0 ∧ a0 ≤ 4294967295 := by
    have h := w0
    simp [Lit.wf] at h
    exact h
  exact nil_go a0 a1 len1 cap1 w hr.1 hr.2 (by unfold maxLen at hcm; omega)
end Go.Proofs.Ytajeefnogdledaa
