/-
  Contracts of a lens's methods that read: word, U8, U16, U32, Number, Signed, Raw, Field, Rest; and of a nil lens.
-/
import Derived.Test.YtmmffifndheafaaDoorMeth
namespace Go.Proofs.YtmmffifndheafaaDoor
open Go.RowKit
set_option maxRecDepth 100000
theorem ansI_range {e : Nat} {x a b : Int} (h0 : a ≤ x) (h1 : x ≤ b) (ha : a ≤ 0) (hb : 0 ≤ b) : a ≤ ansI e x ∧ ansI e x ≤ b := by
  unfold ansI; split <;> omega
theorem wordR_range {l : List Int} (hz : ∀ x ∈ l, 0 ≤ x ∧ x ≤ 255) {m : Nat} (hm : m ≤ 4) : 0 ≤ (wordR l m).1 ∧ (wordR l m).1 ≤ 4294967295 := by
  unfold wordR; split
  · simp
  · exact le_bound4 (fun x hx => hz x (List.mem_of_mem_take hx)) (n := m) (by rw [List.length_take]; omega) hm
theorem wordR_range2 {l : List Int} (hz : ∀ x ∈ l, 0 ≤ x ∧ x ≤ 255) : 0 ≤ (wordR l 2).1 ∧ (wordR l 2).1 ≤ 65535 := by
  unfold wordR; split
  · simp
  · exact le_bound2 (fun x hx => hz x (List.mem_of_mem_take hx)) (n := 2) (by rw [List.length_take]; omega) (by decide)
theorem wordR_range1 {l : List Int} (hz : ∀ x ∈ l, 0 ≤ x ∧ x ≤ 255) : 0 ≤ (wordR l 1).1 ∧ (wordR l 1).1 ≤ 255 := by
  unfold wordR; split
  · simp
  · exact le_bound1 (fun x hx => hz x (List.mem_of_mem_take hx)) (by rw [List.length_take]; omega)
section
variable (lo b : Nat) (zs : List Int) (p e : Nat) (w : World)
theorem lword_any (m : Nat) (hm : m ≤ 4) (h : LensAt w lo b zs p e) (hl : zs.length ≤ 1000000000) (hz : ∀ x ∈ zs, 0 ≤ x ∧ x ≤ 255) :
    Calls Tryd.prog 30 #[.pointer (some ⟨b, 0, none⟩), .int .i64 m] w fun r w' => ReadI .u32 lo b zs p e (wordR (zs.drop p) m) w r w' := by
  have hb : Below w.heap.size w (w.alloc (.cells #[.int .i64 m] 3)) := (Below.refl _ w).alloc (Nat.le_refl _) _
  have HC := (rdW_any lo b zs p e (w.alloc (.cells #[.int .i64 m] 3)) w.heap.size m hm (h.below hb) hl hz (by simp) (by simp)).mono fun r w' hr => hr.later hb
  clear h hb hz
  go_enter Tryd.func30, Tryd.ntmps30
  go_wp2_with (go_at_call 36; refine HC.mono ?_; rintro r w2 ⟨rfl, hr1, hr2⟩)
  go_ret
  exact ⟨rfl, hr1, hr2⟩
theorem lu8_any (h : LensAt w lo b zs p e) (hl : zs.length ≤ 1000000000) (hz : ∀ x ∈ zs, 0 ≤ x ∧ x ≤ 255) :
    Calls Tryd.prog 23 #[.pointer (some ⟨b, 0, none⟩)] w fun r w' => ReadI .u8 lo b zs p e (wordR (zs.drop p) 1) w r w' := by
  have HC := lword_any lo b zs p e w 1 (by decide) h hl hz
  have hr := wordR_range1 (drop_bytes hz p)
  have hr' := ansI_range (e := e) hr.1 hr.2 (by decide) (by decide)
  obtain ⟨X, hX⟩ : ∃ X, ansI e (wordR (zs.drop p) 1).1 = X := ⟨_, rfl⟩
  unfold ReadI at HC ⊢
  rw [hX] at HC hr' ⊢
  clear h hz hr hX
  go_enter Tryd.func23, Tryd.ntmps23
  go_wp2_with (go_at_call 30; refine HC.mono ?_; rintro r w2 ⟨rfl, hr1, hr2⟩)
  go_ret
  exact ⟨rfl, hr1, hr2⟩
theorem lu32_any (h : LensAt w lo b zs p e) (hl : zs.length ≤ 1000000000) (hz : ∀ x ∈ zs, 0 ≤ x ∧ x ≤ 255) :
    Calls Tryd.prog 24 #[.pointer (some ⟨b, 0, none⟩)] w fun r w' => ReadI .u32 lo b zs p e (wordR (zs.drop p) 4) w r w' := by
  have HC := lword_any lo b zs p e w 4 (by decide) h hl hz
  clear h hz
  go_enter Tryd.func24, Tryd.ntmps24
  go_wp2_with (go_at_call 30; refine HC.mono ?_; rintro r w2 ⟨rfl, hr1, hr2⟩)
  go_ret
  exact ⟨rfl, hr1, hr2⟩
end
theorem lword_nil (w : World) (m : Int) : Calls Tryd.prog 30 #[.pointer none, .int .i64 m] w fun r w' => r = .returned (.int .u32 0) ∧ Below w.heap.size w w' := by
  go_enter Tryd.func30, Tryd.ntmps30
  go_wp2_with (go_at_call 36; refine (rdW_nil _ _).mono ?_; rintro r w2 ⟨rfl, rfl⟩)
  go_ret
  exact ⟨rfl, (Below.refl _ w).alloc (Nat.le_refl _) _⟩
theorem lu8_nil (w : World) : Calls Tryd.prog 23 #[.pointer none] w fun r w' => r = .returned (.int .u8 0) ∧ Below w.heap.size w w' := by
  go_enter Tryd.func23, Tryd.ntmps23
  go_wp2_with (go_at_call 30; refine (lword_nil _ 1).mono ?_; rintro r w2 ⟨rfl, hb⟩)
  go_ret
  exact ⟨rfl, hb⟩
theorem lu32_nil (w : World) : Calls Tryd.prog 24 #[.pointer none] w fun r w' => r = .returned (.int .u32 0) ∧ Below w.heap.size w w' := by
  go_enter Tryd.func24, Tryd.ntmps24
  go_wp2_with (go_at_call 30; refine (lword_nil _ 4).mono ?_; rintro r w2 ⟨rfl, hb⟩)
  go_ret
  exact ⟨rfl, hb⟩
end Go.Proofs.YtmmffifndheafaaDoor
