/-
  Contract of law 17's known: the chapter's example.
-/
import Derived.Test.YtnbhiamnoapmlaaMsgW
namespace Go.Proofs.Ytnbhiamnoapmlaa
open Go.RowKit Go.Shelf
set_option maxRecDepth 100000
attribute [local go_sem] Oper.semAt_some

theorem mnew_two : mnew 2 = ⟨2, 0, 0, 0, 0, 0, 0, [], [], ⟨#[]⟩, ⟨#[]⟩⟩ := by decide
theorem mset_two : setM ⟨2, 0, 0, 0, 0, 0, 0, [], [], ⟨#[]⟩, ⟨#[]⟩⟩ ⟨#[122, 111, 110, 101]⟩ 7 = ⟨2, 0, 0, 7, 0, 0, 0, [], [], ⟨#[]⟩, ⟨#[]⟩⟩ := by decide
theorem mpl_two : plB (fnd (FD 2) ⟨#[122, 111, 110, 101]⟩) = true := by decide
theorem mproj_two : mproj ⟨2, 0, 0, 7, 0, 0, 0, [], [], ⟨#[]⟩, ⟨#[]⟩⟩ 1 = ⟨2, 0, 0, 0, 0, 0, 0, [], [], ⟨#[]⟩, ⟨#[]⟩⟩ := by decide
theorem mget_two : getM ⟨2, 0, 0, 0, 0, 0, 0, [], [], ⟨#[]⟩, ⟨#[]⟩⟩ ⟨#[122, 111, 110, 101]⟩ = 0 := by decide
theorem msm_small (k a b c d e f : Int) : Msm ⟨k, a, b, c, d, e, f, [], [], ⟨#[]⟩, ⟨#[]⟩⟩ := ⟨by simp, by simp, by show (ByteArray.mk #[]).size ≤ 80; decide, by show (ByteArray.mk #[]).size ≤ 80; decide⟩
set_option maxHeartbeats 8000000 in
theorem mknown_any (w : World) : Calls Try.prog 16 #[] w fun e w' => e = .returned (.bool true) ∧ Below w.heap.size w w' := by
  have KN := mnew_any 2 w
  rw [mnew_two] at KN
  have KN := Lib.hid KN
  go_enter Try.func16, Try.ntmps16
  go_wp2_with fail
  refine KN.out.mono ?_
  intro e w1 h
  unfold MR mV mC at h
  obtain ⟨P, C, rfl, ho, hb1⟩ := h
  obtain ⟨⟨a1, c1, rfl, _, _⟩, ⟨d1, e1, rfl, _, _⟩⟩ := ho.at
  dsimp only [List.length_nil] at ho ⊢
  clear KN
  obtain ⟨w2, hw2⟩ : ∃ w2, w1.alloc (.cells #[.int .i64 2, .int .i64 0, .int .i64 0, .int .i64 0, .int .i64 0, .int .i64 0, .int .i64 0, .slice a1 0 c1, .slice d1 0 e1, .string ⟨#[]⟩, .string ⟨#[]⟩] 26) = w2 := ⟨_, rfl⟩
  have hb12 : Below w1.heap.size w1 w2 := by rw [← hw2]; exact (Below.refl _ w1).alloc (Nat.le_refl _) _
  have r2 : w2.heap[w1.heap.size]? = some (.cells (mC ⟨2, 0, 0, 0, 0, 0, 0, [], [], ⟨#[]⟩, ⟨#[]⟩⟩ (.slice a1 0 c1) (.slice d1 0 e1)) 26 (0, 0)) := by rw [← hw2]; exact World.alloc_heap_new _ _
  have KS := mset_any ⟨2, 0, 0, 0, 0, 0, 0, [], [], ⟨#[]⟩, ⟨#[]⟩⟩ (.slice a1 0 c1) (.slice d1 0 e1) ⟨#[122, 111, 110, 101]⟩ 7 w2 (msm_small ..) (ho.later hb12).at
  rw [mset_two, mpl_two] at KS
  simp only [mV, mC] at KS
  have KS := Lib.hid KS
  have HW := Lib.hid hw2
  have HB2 := Lib.hid (hb1.trans (hb12.mono hb1.size))
  have HR2 := Lib.hid r2
  clear ho hb1 hb12 r2 hw2
  go_wp2_with fail
  rw [HW.out]
  refine KS.out.mono ?_
  intro e w3 h
  unfold MSR mV mC at h
  obtain ⟨P3, C3, rfl, ho, hb3⟩ := h
  obtain ⟨⟨a3, c3, rfl, _, _⟩, ⟨d3, e3, rfl, _, _⟩⟩ := ho.at
  dsimp only [List.length_nil] at ho ⊢
  obtain ⟨w4, hw4⟩ : ∃ w4, w3.alloc (.cells #[.int .i64 2, .int .i64 0, .int .i64 0, .int .i64 7, .int .i64 0, .int .i64 0, .int .i64 0, .slice a3 0 c3, .slice d3 0 e3, .string ⟨#[]⟩, .string ⟨#[]⟩] 26) = w4 := ⟨_, rfl⟩
  have hb34 : Below w3.heap.size w3 w4 := by rw [← hw4]; exact (Below.refl _ w3).alloc (Nat.le_refl _) _
  have r4 : w4.heap[w3.heap.size]? = some (.cells (mC ⟨2, 0, 0, 7, 0, 0, 0, [], [], ⟨#[]⟩, ⟨#[]⟩⟩ (.slice a3 0 c3) (.slice d3 0 e3)) 26 (0, 0)) := by rw [← hw4]; exact World.alloc_heap_new _ _
  have hb24 := hb3.trans (hb34.mono hb3.size)
  have hR := (hb24.block _ (Array.getElem?_eq_some_iff.1 HR2.out).1).trans HR2.out
  have KP := mproject_any ⟨2, 0, 0, 7, 0, 0, 0, [], [], ⟨#[]⟩, ⟨#[]⟩⟩ (.slice a3 0 c3) (.slice d3 0 e3) 1 w4 (msm_small ..) (ho.later hb34).at
  rw [mproj_two] at KP
  simp only [mV, mC] at KP
  have KP := Lib.hid KP
  have HW4 := Lib.hid hw4
  have HB4 := Lib.hid (HB2.out.trans (hb24.mono HB2.out.size))
  have HR4 := Lib.hid (And.intro hR r4)
  clear KS HW HB2 HR2 ho hb3 hb34 hb24 hR r4 hw4
  go_wp2_with fail
  rw [HW4.out]
  refine KP.out.mono ?_
  intro e w5 h
  unfold MR mV mC at h
  obtain ⟨P5, C5, rfl, ho5, hb5⟩ := h
  dsimp only at ho5 ⊢
  have KG := mget_any ⟨2, 0, 0, 0, 0, 0, 0, [], [], ⟨#[]⟩, ⟨#[]⟩⟩ P5 C5 ⟨#[122, 111, 110, 101]⟩ w5
  rw [mget_two, mpl_two] at KG
  simp only [mV, mC] at KG
  have KG := Lib.hid KG
  have HB5 := Lib.hid (HB4.out.trans (hb5.mono HB4.out.size))
  have HR5 := Lib.hid (And.intro ((hb5.block _ (Array.getElem?_eq_some_iff.1 HR4.out.1).1).trans HR4.out.1) ((hb5.block _ (Array.getElem?_eq_some_iff.1 HR4.out.2).1).trans HR4.out.2))
  clear KP HW4 HB4 HR4 ho5 hb5
  go_wp2_with fail
  refine KG.out.mono ?_
  rintro e w6 ⟨rfl, hb6⟩
  have HB6 := Lib.hid (HB5.out.trans (hb6.mono HB5.out.size))
  obtain ⟨x0, x1, x2, x3, x4, x5, x6, _⟩ := mg_block ((hb6.block _ (Array.getElem?_eq_some_iff.1 HR5.out.1).1).trans HR5.out.1)
  obtain ⟨_, _, _, y3, _⟩ := mg_block ((hb6.block _ (Array.getElem?_eq_some_iff.1 HR5.out.2).1).trans HR5.out.2)
  have he : ∀ W, (binOp .eql 22 (.agg #[.int .i64 0, .int .i64 0, .int .i64 0, .int .i64 0, .int .i64 0, .int .i64 0]) (.agg #[.int .i64 0, .int .i64 0, .int .i64 0, .int .i64 0, .int .i64 0, .int .i64 0])).run Try.prog W = .ok (.bool true) W := fun W => by rw [eql_six]; rfl
  dsimp only at x0 x1 x2 x3 x4 x5 x6 y3
  clear KG HB5 HR5 hb6
  go_wp2
  go_ret
  exact ⟨rfl, HB6.out⟩
end Go.Proofs.Ytnbhiamnoapmlaa
