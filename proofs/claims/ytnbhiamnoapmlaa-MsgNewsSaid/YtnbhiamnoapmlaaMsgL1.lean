/-
  The walk of the law MsgNews: it returns true. (Written by tools/gen_msgl1.py.)
-/
import Derived.Test.YtnbhiamnoapmlaaMsgV
import Derived.Test.YtnbhiamnoapmlaaQ10
namespace Go.Proofs.Ytnbhiamnoapmlaa
open Go.RowKit Go.Shelf
set_option maxRecDepth 100000
attribute [local go_sem] Oper.semAt_some

theorem mkind_of (kind : Int) : ∃ K, wrap64 (1 + wrap64 ((IntKind.u64.wrap kind).tmod 5)) = K ∧ 1 ≤ K ∧ K ≤ 5 := by
  have h0 : IntKind.u64.wrap kind = kind % 18446744073709551616 := by
    simp [IntKind.wrap, IntKind.bits, IntKind.signed]
  refine ⟨_, rfl, ?_⟩
  rw [h0, Int.tmod_eq_emod_of_nonneg (Int.emod_nonneg _ (by decide))]
  unfold wrap64
  omega
theorem FD_kind {k : Int} (h : 1 ≤ k ∧ k ≤ 5) : 1 ≤ (FD k).length ∧ ∀ f ∈ FD k, fnd (FD k) f.nm = some f := by
  have hk : k = 1 ∨ k = 2 ∨ k = 3 ∨ k = 4 ∨ k = 5 := by omega
  rcases hk with rfl | rfl | rfl | rfl | rfl
  all_goals
    refine ⟨by decide, fun f hf => ?_⟩
    simp [FD, raw, pls] at hf
    rcases hf with rfl | rfl | rfl | rfl | rfl | rfl <;> rfl
theorem mnew_small (k : Int) : Msm (mnew k) := by
  rcases kind_ways k with rfl | rfl | rfl | rfl | rfl | ⟨h1, h2, h3, h4, h5⟩
  case' inr.inr.inr.inr.inr => rw [show mnew k = Mg.zero 0 by unfold mnew; rw [show FD k = [] by simp [FD, raw, h1, h2, h3, h4, h5, pls]]; rfl]
  all_goals exact ⟨by decide, by decide, by decide, by decide⟩
theorem idx_of (place : Int) {n : Nat} (h1 : 1 ≤ n) (h6 : n ≤ 6) : ∃ j : Nat, (IntKind.u64.wrap place).tmod (n : Int) = (j : Int) ∧ j < n := by
  have h0 : IntKind.u64.wrap place = place % 18446744073709551616 := by
    simp [IntKind.wrap, IntKind.bits, IntKind.signed]
  rw [h0, Int.tmod_eq_emod_of_nonneg (Int.emod_nonneg _ (by decide))]
  have h2 := Int.emod_nonneg (place % 18446744073709551616) (show (n : Int) ≠ 0 by omega)
  have h3 := Int.emod_lt_of_pos (place % 18446744073709551616) (show 0 < (n : Int) by omega)
  exact ⟨(place % 18446744073709551616 % (n : Int)).toNat, by omega, by omega⟩
/-- a message that a call has made -/
def FMs (M : Mg) (x : Value) (W : World) : Prop := ∃ P C, x = mV M P C ∧ MAt W W.heap.size M P C
theorem FMs.later {M : Mg} {x : Value} {W W' : World} (h : FMs M x W) (hb : Below W.heap.size W W') : FMs M x W' := by
  obtain ⟨P, C, h1, h2⟩ := h
  exact ⟨P, C, h1, h2.later hb⟩

set_option maxHeartbeats 16000000 in
theorem news_go (kind place v : Int) (w : World) : Calls Try.prog 6 #[.int .i64 kind, .int .i64 place, .int .i64 v] w fun e w' => e = .returned (.bool true) ∧ Below w.heap.size w w' := by
  obtain ⟨K, hK, hK15⟩ := mkind_of kind
  have KR := Lib.hid (rall_any K)
  have KN := Lib.hid (mnew_any K)
  go_enter Try.func6, Try.ntmps6
  go_wp2_with fail
  rw [hK]
  refine (KR.out w).mono ?_
  intro e w2 hOf
  obtain ⟨A, cA, rfl, hcA, hA, hb2⟩ := hOf
  clear KR hK
  obtain ⟨hl1, huniq⟩ := FD_kind hK15
  have hl6 := FD_few K
  have KF := FD_fdok K
  have KSet := fun f hf j hp v R hR => mck_set hK15 (f := f) hf (j := j) hp v R hR
  obtain ⟨L, hL⟩ : ∃ L, FD K = L := ⟨_, rfl⟩
  rw [hL] at hl1 hl6 hcA hA huniq KF KSet ⊢
  obtain ⟨n, hn⟩ : ∃ n, L.length = n := ⟨_, rfl⟩
  rw [hn] at hl1 hl6 hcA ⊢
  obtain ⟨j, hj, hjn⟩ := idx_of place hl1 hl6
  have hwn : IntKind.u64.wrap (n : Int) = (n : Int) := by simp [IntKind.wrap, IntKind.bits, IntKind.signed]; omega
  have hn0 : ((n : Int) == 0) = false := by simp; omega
  have hn00 : ¬ (n : Int) = 0 := by omega
  obtain ⟨f, hf⟩ : ∃ f, L[j]? = some f := ⟨_, List.getElem?_eq_getElem (by rw [hn]; exact hjn)⟩
  obtain ⟨g, rfl, _, hg, d0, d1, d2, d3, d4, d5, d6⟩ := hA.seven hf
  have hfm := List.mem_of_getElem? hf
  have HU := Lib.hid (huniq f hfm)
  have HOK := Lib.hid (KF f hfm)
  have HFM := Lib.hid hfm
  have HL := Lib.hid hL
  have HKSet := Lib.hid (KSet f hfm)
  have HB2 := Lib.hid hb2
  clear hA hn hL hb2 huniq KF KSet hfm hf
  go_wp2_with fail
  obtain ⟨w3, hw3⟩ : ∃ w3, w2.alloc (.cells #[.string f.nm, .int .i64 f.so, .int .i64 f.pl, .int .i64 f.le, .int .i64 f.mo, .int .i64 f.si, .int .i64 f.ab] 49) = w3 := ⟨_, rfl⟩
  have hb23 : Below w2.heap.size w2 w3 := by rw [← hw3]; exact (Below.refl _ w2).alloc (Nat.le_refl _) _
  have r3 : w3.heap[w2.heap.size]? = some (.cells f.cs 49 (0, 0)) := by rw [← hw3]; exact World.alloc_heap_new _ _
  rw [hw3]
  have HR3 := Lib.hid r3
  have HB3 := Lib.hid (HB2.out.trans (hb23.mono HB2.out.size))
  have hs23 := (Array.getElem?_eq_some_iff.1 r3).1
  clear hw3 hb23 r3 d0 d1 d2 d3 d4 d5 d6
  refine (KN.out w3).mono ?_
  intro e w4 hMR
  unfold MR at hMR
  have hk0 : (mnew K).k = K := by rw [mnew_k, if_neg (fun e => by have h := HL.out; rw [e] at h; have := HFM.out; rw [← h] at this; simp at this)]
  have hck0 : mck (mnew K) = 0 := by
    rcases mck_new K with h | h
    · omega
    · exact h
  have hpj := fun v => mproj_new K v hK15
  have hsm := mnew_small K
  obtain ⟨m0, hm0⟩ : ∃ m0, mnew K = m0 := ⟨_, rfl⟩
  have HKS2 := HKSet.out
  rw [hm0] at hMR hk0 hck0 hpj hsm HKS2
  have HKS2 := Lib.hid HKS2
  have HK0 := Lib.hid hk0
  clear hk0
  obtain ⟨P, C, rfl, ho4, hb4⟩ := hMR
  obtain ⟨⟨a1, c1, rfl, _, _⟩, ⟨b1, d1, rfl, _, _⟩⟩ := ho4.at
  obtain ⟨np, hnp⟩ : ∃ np, m0.p.length = np := ⟨_, rfl⟩
  obtain ⟨nc, hnc⟩ : ∃ nc, m0.c.length = nc := ⟨_, rfl⟩
  unfold mV mC
  rw [hnp, hnc] at ho4 ⊢
  have HB4 := Lib.hid (HB3.out.trans (hb4.mono HB3.out.size))
  have r4f := (hb4.block _ hs23).trans HR3.out
  clear KN HR3 HB3 HKSet hm0
  obtain ⟨w5, hw5⟩ : ∃ w5, w4.alloc (.cells #[.int .i64 m0.k, .int .i64 m0.n0, .int .i64 m0.n1, .int .i64 m0.n2, .int .i64 m0.n3, .int .i64 m0.n4, .int .i64 m0.n5, .slice a1 np c1, .slice b1 nc d1, .string m0.tx, .string m0.tg] 26) = w5 := ⟨_, rfl⟩
  have hb45 : Below w4.heap.size w4 w5 := by rw [← hw5]; exact (Below.refl _ w4).alloc (Nat.le_refl _) _
  have r5 : w5.heap[w4.heap.size]? = some (.cells (mC m0 (.slice a1 np c1) (.slice b1 nc d1)) 26 (0, 0)) := by rw [← hw5]; exact World.alloc_heap_new _ _
  have hl4 := (Array.getElem?_eq_some_iff.1 r5).1
  have r5f := (hb45.block _ (Array.getElem?_eq_some_iff.1 r4f).1).trans r4f
  have hl5f := (Array.getElem?_eq_some_iff.1 r5f).1
  have hat := (ho4.later hb45).at
  have HW5 := Lib.hid hw5
  have HB5 := Lib.hid (HB4.out.trans (hb45.mono HB4.out.size))
  have HX5 := Lib.hid (And.intro r5 r5f)
  have HAT := Lib.hid hat
  have hck := fun W (hW : Below w5.heap.size w5 W) => mcheck_any m0 (.slice a1 np c1) (.slice b1 nc d1) W hsm ((hat.below hW).mono hW.size)
  have hpr := fun v W (hW : Below w5.heap.size w5 W) => mproject_any m0 (.slice a1 np c1) (.slice b1 nc d1) v W hsm ((hat.below hW).mono hW.size)
  have hsa := fun x W (hW : Below w5.heap.size w5 W) (hx : FMs m0 x W) => (show Calls Try.prog 14 #[x, mV m0 (.slice a1 np c1) (.slice b1 nc d1)] W fun e w' => e = .returned (.bool true) ∧ Below W.heap.size W w' from by
    obtain ⟨P, C, rfl, hx2⟩ := hx
    have := msame_any m0 m0 P C (.slice a1 np c1) (.slice b1 nc d1) W hsm hx2 ((hat.below hW).mono hW.size)
    rwa [decide_eq_true rfl] at this)
  simp only [hck0, hpj] at hck hpr
  unfold mV mC at hck hpr hsa
  have HCK := Lib.hid hck
  have HPR := Lib.hid (show ∀ v W, Below w5.heap.size w5 W → Calls Try.prog 9 #[.agg #[.int .i64 m0.k, .int .i64 m0.n0, .int .i64 m0.n1, .int .i64 m0.n2, .int .i64 m0.n3, .int .i64 m0.n4, .int .i64 m0.n5, .slice a1 np c1, .slice b1 nc d1, .string m0.tx, .string m0.tg], .int .i64 v] W fun e w'' => ∃ u, e = .returned u ∧ FMs m0 u w'' ∧ Below W.heap.size W w'' from fun v W hW => (hpr v W hW).mono fun e w'' h => by
    obtain ⟨P, C, h1, h2, h3⟩ := h
    exact ⟨_, h1, ⟨P, C, rfl, h2.at⟩, h3⟩)
  have HSA := Lib.hid hsa
  have lM : ∀ W, Below w5.heap.size w5 W → (Instr.loadAt 26 (.pointer (some ⟨w4.heap.size, 0, none⟩))).run Try.prog W = .ok (.agg #[.int .i64 m0.k, .int .i64 m0.n0, .int .i64 m0.n1, .int .i64 m0.n2, .int .i64 m0.n3, .int .i64 m0.n4, .int .i64 m0.n5, .slice a1 np c1, .slice b1 nc d1, .string m0.tx, .string m0.tg]) W := fun W hW => by
    obtain ⟨f0, f1, f2, f3, f4, f5, f6, f7, f8, f9, f10⟩ := mg_block ((hW.block _ hl4).trans HX5.out.1)
    simp [Instr.loadAt, go_sem, f0, f1, f2, f3, f4, f5, f6, f7, f8, f9, f10]
  clear hw5 hb45 r5 r5f r4f hat hck hpr hsa ho4 hb4 HB4 hpj hck0
  go_wp2_with fail
  rw [HW5.out]
  refine wp_region_F 97 [38, 45] (fun _ x W => FMs m0 x W) (fun W => Below w5.heap.size w5 W) (by kernel_rfl) (by kernel_rfl) (by rfl) (by simp) (fun W W' h hb => h.trans (hb.mono h.size)) (fun s x W W' h hb => h.later hb) (Below.refl _ _).drew ?_
  refine wpF_load (ad := ⟨w4.heap.size, 0, none⟩) (.agg #[.int .i64 m0.k, .int .i64 m0.n0, .int .i64 m0.n1, .int .i64 m0.n2, .int .i64 m0.n3, .int .i64 m0.n4, .int .i64 m0.n5, .slice a1 np c1, .slice b1 nc d1, .string m0.tx, .string m0.tg]) rfl (by rfl) (by rfl) (by rfl) lM ?_
  simp only [Act.put, List.setIfInBounds_toArray, List.set_cons_succ, List.set_cons_zero]
  refine wpF_call (f := 8) (args := #[.agg #[.int .i64 m0.k, .int .i64 m0.n0, .int .i64 m0.n1, .int .i64 m0.n2, .int .i64 m0.n3, .int .i64 m0.n4, .int .i64 m0.n5, .slice a1 np c1, .slice b1 nc d1, .string m0.tx, .string m0.tg]]) (.int .i64 0) rfl rfl (fun x => by first | rfl | (simp [go_sem]; done)) (fun W hW => HCK.out W hW) ?_
  simp only [Act.put, List.setIfInBounds_toArray, List.set_cons_succ, List.set_cons_zero]
  repeat (refine wpF_pure rfl rfl ?_; go_big_quiet_step (fail); refine wpQuiet_nil ?_)
  refine wpF_load (ad := ⟨w4.heap.size, 0, none⟩) (.agg #[.int .i64 m0.k, .int .i64 m0.n0, .int .i64 m0.n1, .int .i64 m0.n2, .int .i64 m0.n3, .int .i64 m0.n4, .int .i64 m0.n5, .slice a1 np c1, .slice b1 nc d1, .string m0.tx, .string m0.tg]) rfl (by rfl) (by rfl) (by rfl) lM ?_
  simp only [Act.put, List.setIfInBounds_toArray, List.set_cons_succ, List.set_cons_zero]
  refine wpF_callsrc 38 (f := 9) (args := #[.agg #[.int .i64 m0.k, .int .i64 m0.n0, .int .i64 m0.n1, .int .i64 m0.n2, .int .i64 m0.n3, .int .i64 m0.n4, .int .i64 m0.n5, .slice a1 np c1, .slice b1 nc d1, .string m0.tx, .string m0.tg], .int .i64 1]) (by simp) rfl rfl rfl (fun x => by first | rfl | (simp [go_sem]; done)) (fun W hW => HPR.out 1 W hW) ?_
  simp only [Act.put, List.setIfInBounds_toArray, List.set_cons_succ, List.set_cons_zero]
  refine wpF_load (ad := ⟨w4.heap.size, 0, none⟩) (.agg #[.int .i64 m0.k, .int .i64 m0.n0, .int .i64 m0.n1, .int .i64 m0.n2, .int .i64 m0.n3, .int .i64 m0.n4, .int .i64 m0.n5, .slice a1 np c1, .slice b1 nc d1, .string m0.tx, .string m0.tg]) rfl (by rfl) (by rfl) (by rfl) lM ?_
  simp only [Act.put, List.setIfInBounds_toArray, List.set_cons_succ, List.set_cons_zero]
  refine wpF_use 38 5 (f := 14) (fun x => #[x, .agg #[.int .i64 m0.k, .int .i64 m0.n0, .int .i64 m0.n1, .int .i64 m0.n2, .int .i64 m0.n3, .int .i64 m0.n4, .int .i64 m0.n5, .slice a1 np c1, .slice b1 nc d1, .string m0.tx, .string m0.tg]]) (.bool true) (by simp) rfl (by kernel_rfl) (by kernel_rfl) (by kernel_rfl) (fun _ => rfl) (fun v x => by first | rfl | (simp [go_sem]; done)) (fun x W hW hx => HSA.out x W hW hx) ?_
  simp only [Act.put, List.setIfInBounds_toArray, List.set_cons_succ, List.set_cons_zero]
  repeat (refine wpF_pure rfl rfl ?_; go_big_quiet_step (fail); refine wpQuiet_nil ?_)
  refine wpF_load (ad := ⟨w4.heap.size, 0, none⟩) (.agg #[.int .i64 m0.k, .int .i64 m0.n0, .int .i64 m0.n1, .int .i64 m0.n2, .int .i64 m0.n3, .int .i64 m0.n4, .int .i64 m0.n5, .slice a1 np c1, .slice b1 nc d1, .string m0.tx, .string m0.tg]) rfl (by rfl) (by rfl) (by rfl) lM ?_
  simp only [Act.put, List.setIfInBounds_toArray, List.set_cons_succ, List.set_cons_zero]
  refine wpF_callsrc 45 (f := 9) (args := #[.agg #[.int .i64 m0.k, .int .i64 m0.n0, .int .i64 m0.n1, .int .i64 m0.n2, .int .i64 m0.n3, .int .i64 m0.n4, .int .i64 m0.n5, .slice a1 np c1, .slice b1 nc d1, .string m0.tx, .string m0.tg], .int .i64 2]) (by simp) rfl rfl rfl (fun x => by first | rfl | (simp [go_sem]; done)) (fun W hW => HPR.out 2 W hW) ?_
  simp only [Act.put, List.setIfInBounds_toArray, List.set_cons_succ, List.set_cons_zero]
  refine wpF_load (ad := ⟨w4.heap.size, 0, none⟩) (.agg #[.int .i64 m0.k, .int .i64 m0.n0, .int .i64 m0.n1, .int .i64 m0.n2, .int .i64 m0.n3, .int .i64 m0.n4, .int .i64 m0.n5, .slice a1 np c1, .slice b1 nc d1, .string m0.tx, .string m0.tg]) rfl (by rfl) (by rfl) (by rfl) lM ?_
  simp only [Act.put, List.setIfInBounds_toArray, List.set_cons_succ, List.set_cons_zero]
  refine wpF_use 45 12 (f := 14) (fun x => #[x, .agg #[.int .i64 m0.k, .int .i64 m0.n0, .int .i64 m0.n1, .int .i64 m0.n2, .int .i64 m0.n3, .int .i64 m0.n4, .int .i64 m0.n5, .slice a1 np c1, .slice b1 nc d1, .string m0.tx, .string m0.tg]]) (.bool true) (by simp) rfl (by kernel_rfl) (by kernel_rfl) (by kernel_rfl) (fun _ => rfl) (fun v x => by first | rfl | (simp [go_sem]; done)) (fun x W hW hx => HSA.out x W hW hx) ?_
  simp only [Act.put, List.setIfInBounds_toArray, List.set_cons_succ, List.set_cons_zero]
  repeat (refine wpF_pure rfl rfl ?_; go_big_quiet_step (fail); refine wpQuiet_nil ?_)
  intro xs W6 hW6 hxs
  simp only [fill]
  generalize xs 38 = x38
  generalize xs 45 = x45
  have HB6 := Lib.hid (HB5.out.trans (hW6.mono HB5.out.size))
  have HM6 := Lib.hid ((hW6.block _ hl4).trans HX5.out.1)
  have HF6 := Lib.hid ((hW6.block _ hl5f).trans HX5.out.2)
  have hat6 := (HAT.out.below hW6).mono hW6.size
  have KS := mset_any m0 (.slice a1 np c1) (.slice b1 nc d1) f.nm v W6 hsm hat6
  have hk0 := HK0.out
  rw [hk0, HL.out, HU.out] at KS
  have hset : setM m0 f.nm v = if plB (some f) then m0.put f.pl.toNat v else m0 := by unfold setM; rw [hk0, HL.out, HU.out]; rfl
  rw [hset] at KS
  have HAT6 := Lib.hid hat6
  obtain ⟨e0, e1, e2, e3, e4, e5, e6⟩ := fd_block HF6.out
  obtain ⟨f0, f1, f2, f3, f4, f5, f6, f7, f8, f9, f10⟩ := mg_block HM6.out
  have hpB : plB (some f) = decide (0 ≤ f.pl) := by simp [plB]
  clear hk0
  have hlM := (Array.getElem?_eq_some_iff.1 HM6.out).1
  have hlF := (Array.getElem?_eq_some_iff.1 HF6.out).1
  clear HX5 HAT hW6 hxs lM HCK HPR HSA hat6 hset HB5 HW5
  by_cases h3 : f.so < 3
  · obtain ⟨jn, hjn6, hpl⟩ := HOK.out.pl h3
    rw [hpB, decide_eq_true (by omega), if_pos rfl, hpl, Int.toNat_natCast] at KS
    obtain ⟨R, hR⟩ : ∃ R : Int, R = if f.le ≤ v ∧ v ≤ f.mo then 0 else 5 := ⟨_, rfl⟩
    have hmR := HKS2.out jn hpl v R hR
    rw [hpl] at e2
    obtain ⟨m1, hm1⟩ : ∃ m1, m0.put jn v = m1 := ⟨_, rfl⟩
    have hsm1 : Msm m1 := by rw [← hm1]; exact ⟨by rw [Mg.put_p]; exact hsm.p, by rw [Mg.put_c]; exact hsm.c, by rw [Mg.put_tx]; exact hsm.tx, by rw [Mg.put_tg]; exact hsm.tg⟩
    rw [hm1] at KS hmR
    unfold mV mC at KS
    have KS := Lib.hid KS
    clear hm1
    go_wp2_with fail
    refine KS.out.mono ?_
    intro e w7 hMS
    unfold MSR mV at hMS
    obtain ⟨P7, C7, rfl, ho7, hb7⟩ := hMS
    obtain ⟨⟨a7, c7, rfl, _, _⟩, ⟨b7, d7, rfl, _, _⟩⟩ := ho7.at
    obtain ⟨np7, hnp7⟩ : ∃ np, m1.p.length = np := ⟨_, rfl⟩
    obtain ⟨nc7, hnc7⟩ : ∃ nc, m1.c.length = nc := ⟨_, rfl⟩
    unfold mC
    rw [hnp7, hnc7] at ho7 ⊢
    obtain ⟨w8, hw8⟩ : ∃ w8, w7.alloc (.cells #[.int .i64 m1.k, .int .i64 m1.n0, .int .i64 m1.n1, .int .i64 m1.n2, .int .i64 m1.n3, .int .i64 m1.n4, .int .i64 m1.n5, .slice a7 np7 c7, .slice b7 nc7 d7, .string m1.tx, .string m1.tg] 26) = w8 := ⟨_, rfl⟩
    have hb78 : Below w7.heap.size w7 w8 := by rw [← hw8]; exact (Below.refl _ w7).alloc (Nat.le_refl _) _
    have hb68 := hb7.trans (hb78.mono hb7.size)
    have hF8 := (hb68.block _ hlF).trans HF6.out
    have hF7 := (hb7.block _ hlF).trans HF6.out
    have KC := mcheck_any m1 (.slice a7 np7 c7) (.slice b7 nc7 d7) w8 hsm1 (ho7.later hb78).at
    rw [hmR] at KC
    unfold mV mC at KC
    have KC := Lib.hid KC
    have HB8 := Lib.hid (HB6.out.trans (hb68.mono HB6.out.size))
    have HF8 := Lib.hid hF8
    have HW8 := Lib.hid hw8
    obtain ⟨_, _, t2, t3, t4, _, _⟩ := fd_block hF7
    rw [hpl] at t2
    have hlF7 := (Array.getElem?_eq_some_iff.1 hF7).1
    have hjn0 : (0 : Int) ≤ (jn : Int) := by omega
    clear KS ho7 hb7 hb78 hb68 hw8 hF8 hF7 hnp7 hnc7 e0 e1 e2 e3 e4 e5 e6 f0 f1 f2 f3 f4 f5 f6 f7 f8 f9 f10
    go_wp2_with fail
    rw [HW8.out]
    refine KC.out.mono ?_
    rintro e w9 ⟨rfl, hb9⟩
    have hF9 := (hb9.block _ (Array.getElem?_eq_some_iff.1 HF8.out).1).trans HF8.out
    obtain ⟨_, _, _, u3, u4, _, _⟩ := fd_block hF9
    have HB9 := Lib.hid (HB8.out.trans (hb9.mono HB8.out.size))
    clear KC HB8 HF8 HW8 hb9 hF9
    by_cases hin : f.le ≤ v ∧ v ≤ f.mo
    · rw [if_pos hin] at hR
      subst hR
      go_wp2_with fail
      refine (mknown_any w9).mono ?_
      rintro e wA ⟨rfl, hbA⟩
      have HBA := Lib.hid (HB9.out.trans (hbA.mono HB9.out.size))
      clear hbA
      go_wp2
      go_ret
      exact ⟨rfl, HBA.out⟩
    · rw [if_neg hin] at hR
      subst hR
      have hin2 : (v < f.le ∧ v ≤ f.mo) ∨ (v < f.le ∧ f.mo < v) ∨ (f.le ≤ v ∧ f.mo < v) := by omega
      clear hin
      rcases hin2 with ⟨hv1, hv2⟩ | ⟨hv1, hv2⟩ | ⟨hv1, hv2⟩
      all_goals
        go_wp2_with fail
        refine (mknown_any w9).mono ?_
        rintro e wA ⟨rfl, hbA⟩
        have HBA := Lib.hid (HB9.out.trans (hbA.mono HB9.out.size))
        clear hbA
        go_wp2
        go_ret
        refine ⟨?_, HBA.out⟩
        first | rfl | (simp [go_sem]; done) | (simp [go_sem]; omega)
  · have hno := HOK.out.no h3
    rw [hpB, decide_eq_false (by omega), if_neg (by simp)] at KS
    rw [hno] at e2
    unfold mV mC at KS
    have KS := Lib.hid KS
    go_wp2_with fail
    refine KS.out.mono ?_
    intro e w7 hMS
    unfold MSR mV at hMS
    obtain ⟨P7, C7, rfl, ho7, hb7⟩ := hMS
    obtain ⟨⟨a7, c7, rfl, _, _⟩, ⟨b7, d7, rfl, _, _⟩⟩ := ho7.at
    unfold mC
    rw [hnp, hnc] at ho7 ⊢
    obtain ⟨w8, hw8⟩ : ∃ w8, w7.alloc (.cells #[.int .i64 m0.k, .int .i64 m0.n0, .int .i64 m0.n1, .int .i64 m0.n2, .int .i64 m0.n3, .int .i64 m0.n4, .int .i64 m0.n5, .slice a7 np c7, .slice b7 nc d7, .string m0.tx, .string m0.tg] 26) = w8 := ⟨_, rfl⟩
    have hb78 : Below w7.heap.size w7 w8 := by rw [← hw8]; exact (Below.refl _ w7).alloc (Nat.le_refl _) _
    have hb68 := hb7.trans (hb78.mono hb7.size)
    have hF7 := (hb7.block _ hlF).trans HF6.out
    obtain ⟨_, _, t2, _, _, _, _⟩ := fd_block hF7
    rw [hno] at t2
    have hlF7 := (Array.getElem?_eq_some_iff.1 hF7).1
    have r8 : w8.heap[w7.heap.size]? = some (.cells (mC m0 (.slice a7 np c7) (.slice b7 nc d7)) 26 (0, 0)) := by rw [← hw8]; exact World.alloc_heap_new _ _
    have hM8 := (hb68.block _ hlM).trans HM6.out
    have HB8 := Lib.hid (HB6.out.trans (hb68.mono HB6.out.size))
    have HW8 := Lib.hid hw8
    have HR8 := Lib.hid (And.intro r8 hM8)
    have HO8 := Lib.hid (And.intro (ho7.later hb78).at ((HAT6.out.below hb68).mono hb68.size))
    clear KS ho7 hb7 hb78 hb68 hw8 r8 hM8 hF7 e0 e1 e2 e3 e4 e5 e6 f0 f1 f2 f3 f4 f5 f6 f7 f8 f9 f10
    go_wp2_with fail
    rw [HW8.out]
    refine (mknown_any w8).mono ?_
    rintro e w9 ⟨rfl, hb9⟩
    have HB9 := Lib.hid (HB8.out.trans (hb9.mono HB8.out.size))
    have KSm := msame_any m0 m0 (.slice a7 np c7) (.slice b7 nc d7) (.slice a1 np c1) (.slice b1 nc d1) w9 hsm ((HO8.out.1.below hb9).mono hb9.size) ((HO8.out.2.below hb9).mono hb9.size)
    rw [decide_eq_true rfl] at KSm
    unfold mV mC at KSm
    have KSm := Lib.hid KSm
    obtain ⟨f0, f1, f2, f3, f4, f5, f6, f7, f8, f9, f10⟩ := mg_block ((hb9.block _ (Array.getElem?_eq_some_iff.1 HR8.out.1).1).trans HR8.out.1)
    obtain ⟨g0, g1, g2, g3, g4, g5, g6, g7, g8, g9, g10⟩ := mg_block ((hb9.block _ (Array.getElem?_eq_some_iff.1 HR8.out.2).1).trans HR8.out.2)
    clear hb9 HB8 HR8 HO8 HW8
    go_wp2_with fail
    refine KSm.out.mono ?_
    rintro e wA ⟨rfl, hbA⟩
    have HBA := Lib.hid (HB9.out.trans (hbA.mono HB9.out.size))
    clear hbA
    go_wp2
    go_ret
    exact ⟨rfl, HBA.out⟩
theorem walk_mnews (a0 a1 a2 : Int) (_w0 : (Lit.int .i64 a0).wf = true) (_w1 : (Lit.int .i64 a1).wf = true) (_w2 : (Lit.int .i64 a2).wf = true) (w : World) :
    Calls Try.prog 6 #[.int .i64 a0, .int .i64 a1, .int .i64 a2] w fun e w' => e = .returned (.bool true) ∧ Below w.heap.size w w' := news_go a0 a1 a2 w
end Go.Proofs.Ytnbhiamnoapmlaa
