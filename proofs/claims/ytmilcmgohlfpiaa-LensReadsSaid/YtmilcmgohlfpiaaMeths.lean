/-
  Contracts of a lens's methods that read: word, U8, U16, U32, Number, Signed, Raw, Field, Rest; and of a nil lens.
-/
import Derived.Test.YtmilcmgohlfpiaaMeth
namespace Go.Proofs.Ytmilcmgohlfpiaa
open Go.RowKit
set_option maxRecDepth 100000
theorem ansI_range {e : Nat} {x a b : Int} (h0 : a ≤ x) (h1 : x ≤ b) (ha : a ≤ 0) (hb : 0 ≤ b) : a ≤ ansI e x ∧ ansI e x ≤ b := by
  unfold ansI; split <;> omega
theorem wordR_range {l : List Int} (hz : ∀ x ∈ l, 0 ≤ x ∧ x ≤ 255) {m : Nat} (hm : m ≤ 4) : 0 ≤ (wordR l m).1 ∧ (wordR l m).1 ≤ 4294967295 := by
  unfold wordR; split
  · simp
  · exact le_bound4 (fun x hx => hz x (List.mem_of_mem_take hx)) (n := m) (by rw [List.length_take]; omega) hm
theorem wordR_range2 {l : List Int} (hz : ∀ x ∈ l, 0 ≤ x ∧ x ≤ 255) : 0 ≤ (wordR l 2).1 ∧ (wordR l 2).1 ≤ 65535 := by
  unfold wordR; split
  · simp
  · exact le_bound2 (fun x hx => hz x (List.mem_of_mem_take hx)) (n := 2) (by rw [List.length_take]; omega) (by decide)
theorem wordR_range1 {l : List Int} (hz : ∀ x ∈ l, 0 ≤ x ∧ x ≤ 255) : 0 ≤ (wordR l 1).1 ∧ (wordR l 1).1 ≤ 255 := by
  unfold wordR; split
  · simp
  · exact le_bound1 (fun x hx => hz x (List.mem_of_mem_take hx)) (by rw [List.length_take]; omega)
section
variable (lo b : Nat) (zs : List Int) (p e : Nat) (w : World)
theorem lword_any (m : Nat) (hm : m ≤ 4) (h : LensAt w lo b zs p e) (hl : zs.length ≤ 1000000000) (hz : ∀ x ∈ zs, 0 ≤ x ∧ x ≤ 255) :
    Calls Try.prog 41 #[.pointer (some ⟨b, 0, none⟩), .int .i64 m] w fun r w' => ReadI .u32 lo b zs p e (wordR (zs.drop p) m) w r w' := by
  have hb : Below w.heap.size w (w.alloc (.cells #[.int .i64 m] 3)) := (Below.refl _ w).alloc (Nat.le_refl _) _
  have HC := (rdW_any lo b zs p e (w.alloc (.cells #[.int .i64 m] 3)) w.heap.size m hm (h.below hb) hl hz (by simp) (by simp)).mono fun r w' hr => hr.later hb
  clear h hb hz
  go_enter Try.func41, Try.ntmps41
  go_wp2_with (go_at_call 59; refine HC.mono ?_; rintro r w2 ⟨rfl, hr1, hr2⟩)
  go_ret
  exact ⟨rfl, hr1, hr2⟩
theorem lu8_any (h : LensAt w lo b zs p e) (hl : zs.length ≤ 1000000000) (hz : ∀ x ∈ zs, 0 ≤ x ∧ x ≤ 255) :
    Calls Try.prog 8 #[.pointer (some ⟨b, 0, none⟩)] w fun r w' => ReadI .u8 lo b zs p e (wordR (zs.drop p) 1) w r w' := by
  have HC := lword_any lo b zs p e w 1 (by decide) h hl hz
  have hr := wordR_range1 (drop_bytes hz p)
  have hr' := ansI_range (e := e) hr.1 hr.2 (by decide) (by decide)
  obtain ⟨X, hX⟩ : ∃ X, ansI e (wordR (zs.drop p) 1).1 = X := ⟨_, rfl⟩
  unfold ReadI at HC ⊢
  rw [hX] at HC hr' ⊢
  clear h hz hr hX
  go_enter Try.func8, Try.ntmps8
  go_wp2_with (go_at_call 41; refine HC.mono ?_; rintro r w2 ⟨rfl, hr1, hr2⟩)
  go_ret
  exact ⟨rfl, hr1, hr2⟩
theorem lu16_any (h : LensAt w lo b zs p e) (hl : zs.length ≤ 1000000000) (hz : ∀ x ∈ zs, 0 ≤ x ∧ x ≤ 255) :
    Calls Try.prog 10 #[.pointer (some ⟨b, 0, none⟩)] w fun r w' => ReadI .u16 lo b zs p e (wordR (zs.drop p) 2) w r w' := by
  have HC := lword_any lo b zs p e w 2 (by decide) h hl hz
  have hr := wordR_range2 (drop_bytes hz p)
  have hr' := ansI_range (e := e) hr.1 hr.2 (by decide) (by decide)
  obtain ⟨X, hX⟩ : ∃ X, ansI e (wordR (zs.drop p) 2).1 = X := ⟨_, rfl⟩
  unfold ReadI at HC ⊢
  rw [hX] at HC hr' ⊢
  clear h hz hr hX
  go_enter Try.func10, Try.ntmps10
  go_wp2_with (go_at_call 41; refine HC.mono ?_; rintro r w2 ⟨rfl, hr1, hr2⟩)
  go_ret
  exact ⟨rfl, hr1, hr2⟩
theorem lu32_any (h : LensAt w lo b zs p e) (hl : zs.length ≤ 1000000000) (hz : ∀ x ∈ zs, 0 ≤ x ∧ x ≤ 255) :
    Calls Try.prog 11 #[.pointer (some ⟨b, 0, none⟩)] w fun r w' => ReadI .u32 lo b zs p e (wordR (zs.drop p) 4) w r w' := by
  have HC := lword_any lo b zs p e w 4 (by decide) h hl hz
  clear h hz
  go_enter Try.func11, Try.ntmps11
  go_wp2_with (go_at_call 41; refine HC.mono ?_; rintro r w2 ⟨rfl, hr1, hr2⟩)
  go_ret
  exact ⟨rfl, hr1, hr2⟩
theorem lnum_any (most : Int) (h : LensAt w lo b zs p e) (hl : zs.length ≤ 1000000000) (hz : ∀ x ∈ zs, 0 ≤ x ∧ x ≤ 255) :
    Calls Try.prog 12 #[.pointer (some ⟨b, 0, none⟩), .int .u64 most] w fun r w' => ReadI .u64 lo b zs p e (numR (zs.drop p) most) w r w' := by
  have hb : Below w.heap.size w (w.alloc (.cells #[.int .u64 most] 28)) := (Below.refl _ w).alloc (Nat.le_refl _) _
  have HC := (rdN_any lo b zs p e (w.alloc (.cells #[.int .u64 most] 28)) w.heap.size most (h.below hb) hl hz (by simp)).mono fun r w' hr => hr.later hb
  clear h hb hz
  go_enter Try.func12, Try.ntmps12
  go_wp2_with (go_at_call 43; refine HC.mono ?_; rintro r w2 ⟨rfl, hr1, hr2⟩)
  go_ret
  exact ⟨rfl, hr1, hr2⟩
theorem lsig_any (least most : Int) (h : LensAt w lo b zs p e) (hl : zs.length ≤ 1000000000) (hz : ∀ x ∈ zs, 0 ≤ x ∧ x ≤ 255) :
    Calls Try.prog 14 #[.pointer (some ⟨b, 0, none⟩), .int .i64 least, .int .i64 most] w fun r w' => ReadI .i64 lo b zs p e (sigR (zs.drop p) least most) w r w' := by
  have hb : Below w.heap.size w ((w.alloc (.cells #[.int .i64 least] 2)).alloc (.cells #[.int .i64 most] 2)) := ((Below.refl _ w).alloc (Nat.le_refl _) _).alloc (by simp) _
  have HC := (rdS_any lo b zs p e ((w.alloc (.cells #[.int .i64 least] 2)).alloc (.cells #[.int .i64 most] 2)) w.heap.size (w.heap.size + 1) least most (h.below hb) hl hz (by simp) (by simp)).mono fun r w' hr => hr.later hb
  clear h hb hz
  go_enter Try.func14, Try.ntmps14
  go_wp2_with (go_at_call 47; refine HC.mono ?_; rintro r w2 ⟨rfl, hr1, hr2⟩)
  go_ret
  exact ⟨rfl, hr1, hr2⟩
theorem lraw_any (m : Int) (h : LensAt w lo b zs p e) (hl : zs.length ≤ 1000000000) :
    Calls Try.prog 16 #[.pointer (some ⟨b, 0, none⟩), .int .i64 m] w fun r w' => ReadB lo b zs p e (rawR (zs.drop p) m) w r w' := by
  have hb : Below w.heap.size w (w.alloc (.cells #[.int .i64 m] 3)) := (Below.refl _ w).alloc (Nat.le_refl _) _
  have HC := (rdR_any lo b zs p e (w.alloc (.cells #[.int .i64 m] 3)) w.heap.size m (h.below hb) hl (by simp)).mono fun r w' hr => hr.later hb
  clear h hb
  go_enter Try.func16, Try.ntmps16
  go_wp2_with (go_at_call 51; refine HC.mono ?_; rintro r w2 ⟨⟨A, c, rfl, hr0, hr3⟩, hr1, hr2⟩)
  go_ret
  exact ⟨⟨A, c, rfl, hr0, hr3⟩, hr1, hr2⟩
theorem lfld_any (m : Int) (hm0 : -9223372036854775808 ≤ m) (hm1 : m ≤ 9223372036854775807) (h : LensAt w lo b zs p e) (hl : zs.length ≤ 1000000000) (hz : ∀ x ∈ zs, 0 ≤ x ∧ x ≤ 255) :
    Calls Try.prog 18 #[.pointer (some ⟨b, 0, none⟩), .int .i64 m] w fun r w' => ReadB lo b zs p e (fldR (zs.drop p) m) w r w' := by
  have hb : Below w.heap.size w (w.alloc (.cells #[.int .i64 m] 3)) := (Below.refl _ w).alloc (Nat.le_refl _) _
  have HC := (rdF_any lo b zs p e (w.alloc (.cells #[.int .i64 m] 3)) w.heap.size m hm0 hm1 (h.below hb) hl hz (by simp)).mono fun r w' hr => hr.later hb
  clear h hb hz
  go_enter Try.func18, Try.ntmps18
  go_wp2_with (go_at_call 51; refine HC.mono ?_; rintro r w2 ⟨⟨A, c, rfl, hr0, hr3⟩, hr1, hr2⟩)
  go_ret
  exact ⟨⟨A, c, rfl, hr0, hr3⟩, hr1, hr2⟩
theorem lrest_any (h : LensAt w lo b zs p e) (hl : zs.length ≤ 1000000000) :
    Calls Try.prog 20 #[.pointer (some ⟨b, 0, none⟩)] w fun r w' => ReadB lo b zs p e (rawR (zs.drop p) ((zs.length : Int) - p)) w r w' := by
  have HL := lleft_any lo b zs p e w h hl
  have HC : ∀ n, Calls Try.prog 16 #[.pointer (some ⟨b, 0, none⟩), .int .i64 ((zs.length : Int) - p)] (w.drewN n) fun r w' => ReadB lo b zs p e (rawR (zs.drop p) ((zs.length : Int) - p)) w r w' := fun n =>
    (lraw_any lo b zs p e (w.drewN n) _ h hl).mono fun r w' hr => hr.later (below_drewN (Below.refl _ _) n)
  clear h
  go_enter Try.func20, Try.ntmps20
  go_wp2_with (first
    | (go_at_call 37; refine HL.mono ?_; rintro r w2 ⟨rfl, n, rfl⟩)
    | (go_at_call 16; refine (HC n).mono ?_; rintro r w2 ⟨⟨A, c, rfl, hr0, hr3⟩, hr1, hr2⟩))
  go_ret
  exact ⟨⟨A, c, rfl, hr0, hr3⟩, hr1, hr2⟩
end
theorem lword_nil (w : World) (m : Int) : Calls Try.prog 41 #[.pointer none, .int .i64 m] w fun r w' => r = .returned (.int .u32 0) ∧ Below w.heap.size w w' := by
  go_enter Try.func41, Try.ntmps41
  go_wp2_with (go_at_call 59; refine (rdW_nil _ _).mono ?_; rintro r w2 ⟨rfl, rfl⟩)
  go_ret
  exact ⟨rfl, (Below.refl _ w).alloc (Nat.le_refl _) _⟩
theorem lnum_nil (w : World) (m : Int) : Calls Try.prog 12 #[.pointer none, .int .u64 m] w fun r w' => r = .returned (.int .u64 0) ∧ Below w.heap.size w w' := by
  go_enter Try.func12, Try.ntmps12
  go_wp2_with (go_at_call 43; refine (rdN_nil _ _).mono ?_; rintro r w2 ⟨rfl, rfl⟩)
  go_ret
  exact ⟨rfl, (Below.refl _ w).alloc (Nat.le_refl _) _⟩
theorem lsig_nil (w : World) (m m2 : Int) : Calls Try.prog 14 #[.pointer none, .int .i64 m, .int .i64 m2] w fun r w' => r = .returned (.int .i64 0) ∧ Below w.heap.size w w' := by
  go_enter Try.func14, Try.ntmps14
  go_wp2_with (go_at_call 47; refine (rdS_nil _ _).mono ?_; rintro r w2 ⟨rfl, rfl⟩)
  go_ret
  exact ⟨rfl, ((Below.refl _ w).alloc (Nat.le_refl _) _).alloc (by simp) _⟩
theorem lraw_nil (w : World) (m : Int) : Calls Try.prog 16 #[.pointer none, .int .i64 m] w fun r w' => r = .returned (.slice none 0 0) ∧ Below w.heap.size w w' := by
  go_enter Try.func16, Try.ntmps16
  go_wp2_with (go_at_call 51; refine (rdR_nil _ _).mono ?_; rintro r w2 ⟨rfl, rfl⟩)
  go_ret
  exact ⟨rfl, (Below.refl _ w).alloc (Nat.le_refl _) _⟩
theorem lfld_nil (w : World) (m : Int) : Calls Try.prog 18 #[.pointer none, .int .i64 m] w fun r w' => r = .returned (.slice none 0 0) ∧ Below w.heap.size w w' := by
  go_enter Try.func18, Try.ntmps18
  go_wp2_with (go_at_call 51; refine (rdR_nil _ _).mono ?_; rintro r w2 ⟨rfl, rfl⟩)
  go_ret
  exact ⟨rfl, (Below.refl _ w).alloc (Nat.le_refl _) _⟩
theorem lu8_nil (w : World) : Calls Try.prog 8 #[.pointer none] w fun r w' => r = .returned (.int .u8 0) ∧ Below w.heap.size w w' := by
  go_enter Try.func8, Try.ntmps8
  go_wp2_with (go_at_call 41; refine (lword_nil _ 1).mono ?_; rintro r w2 ⟨rfl, hb⟩)
  go_ret
  exact ⟨rfl, hb⟩
theorem lu16_nil (w : World) : Calls Try.prog 10 #[.pointer none] w fun r w' => r = .returned (.int .u16 0) ∧ Below w.heap.size w w' := by
  go_enter Try.func10, Try.ntmps10
  go_wp2_with (go_at_call 41; refine (lword_nil _ 2).mono ?_; rintro r w2 ⟨rfl, hb⟩)
  go_ret
  exact ⟨rfl, hb⟩
theorem lu32_nil (w : World) : Calls Try.prog 11 #[.pointer none] w fun r w' => r = .returned (.int .u32 0) ∧ Below w.heap.size w w' := by
  go_enter Try.func11, Try.ntmps11
  go_wp2_with (go_at_call 41; refine (lword_nil _ 4).mono ?_; rintro r w2 ⟨rfl, hb⟩)
  go_ret
  exact ⟨rfl, hb⟩
theorem lrest_nil (w : World) : Calls Try.prog 20 #[.pointer none] w fun r w' => r = .returned (.slice none 0 0) ∧ Below w.heap.size w w' := by
  go_enter Try.func20, Try.ntmps20
  go_wp2_with (first
    | (go_at_call 37; refine (lleft_nil _).mono ?_; rintro r w2 ⟨rfl, rfl⟩)
    | (go_at_call 16; refine (lraw_nil _ _).mono ?_; rintro r w2 ⟨rfl, hb⟩))
  go_ret
  exact ⟨rfl, hb⟩
end Go.Proofs.Ytmilcmgohlfpiaa
