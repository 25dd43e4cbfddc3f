/-
  Contracts of layer 17's Get and Set.
-/
import Derived.Test.YtnbhiamnoapmlaaMsgD
namespace Go.Proofs.Ytnbhiamnoapmlaa
open Go.RowKit Go.Shelf
set_option maxRecDepth 100000
attribute [local go_sem] Oper.semAt_some

theorem mC_put {j : Nat} (hj : j < 6) (M : Mg) (P C : Value) (v : Int) : (mC M P C).setIfInBounds (1 + j) (.int .i64 v) = mC (M.put j v) P C := by
  rcases j with _ | _ | _ | _ | _ | _ | j <;> first | rfl | omega
theorem mC_at {j : Nat} (hj : j < 6) (M : Mg) (P C : Value) : (mC M P C)[1 + j]? = some (.int .i64 (M.at' j)) := by
  rcases j with _ | _ | _ | _ | _ | _ | j <;> first | rfl | omega
theorem mg_at {W : World} {b : Nat} {M : Mg} {P C : Value} {t : TypeId} (h : W.heap[b]? = some (.cells (mC M P C) t (0, 0))) {j : Nat} (hj : j < 6) : W.cell? ⟨b, 1 + j, none⟩ = some (.int .i64 (M.at' j)) := row_cell h _ _ (mC_at hj M P C)
/-- the place that a name tells -/
theorem plB_at {k : Int} {nm : ByteArray} (h : plB (fnd (FD k) nm) = true) : ∃ (f : Fd) (j : Nat), fnd (FD k) nm = some f ∧ f ∈ FD k ∧ f.nm = nm ∧ f.so < 3 ∧ j < 6 ∧ f.pl = (j : Int) := by
  unfold plB at h
  rw [Bool.and_eq_true, decide_eq_true_eq] at h
  obtain ⟨f, hf⟩ := Option.isSome_iff_exists.1 h.1
  rw [hf, Option.getD_some] at h
  unfold fnd at hf
  have hm := List.mem_of_find?_eq_some hf
  have hn := List.find?_some hf
  have ok := FD_fdok k f hm
  by_cases h3 : f.so < 3
  · obtain ⟨j, hj, e⟩ := ok.pl h3
    exact ⟨f, j, hf, hm, by simpa using hn, h3, hj, e⟩
  · have := ok.no h3
    have := h.2
    omega
/-- what Get tells -/
def getM (M : Mg) (nm : ByteArray) : Int := if plB (fnd (FD M.k) nm) then M.at' ((fnd (FD M.k) nm).getD Fd.zero).pl.toNat else 0
/-- what Set makes -/
def setM (M : Mg) (nm : ByteArray) (v : Int) : Mg := if plB (fnd (FD M.k) nm) then M.put ((fnd (FD M.k) nm).getD Fd.zero).pl.toNat v else M
theorem setM_k (M : Mg) (nm : ByteArray) (v : Int) : (setM M nm v).k = M.k := by
  unfold setM
  split
  · exact Mg.put_k ..
  · rfl
theorem setM_p (M : Mg) (nm : ByteArray) (v : Int) : (setM M nm v).p = M.p := by
  unfold setM
  split
  · exact Mg.put_p ..
  · rfl
theorem setM_c (M : Mg) (nm : ByteArray) (v : Int) : (setM M nm v).c = M.c := by
  unfold setM
  split
  · exact Mg.put_c ..
  · rfl

set_option maxHeartbeats 4000000 in
theorem mget_any (M : Mg) (P C : Value) (nm : ByteArray) (w : World) : Calls Try.prog 22 #[mV M P C, .string nm] w fun e w' => e = .returned (.tuple #[.int .i64 (getM M nm), .bool (plB (fnd (FD M.k) nm))]) ∧ Below w.heap.size w w' := by
  obtain ⟨w2, hw2⟩ : ∃ w2, w2 = w.alloc (.cells (mC M P C) 26) := ⟨_, rfl⟩
  have hb2 : Below w.heap.size w w2 := by rw [hw2]; exact (Below.refl _ w).alloc (Nat.le_refl _) _
  have q1 : w2.heap[w.heap.size]? = some (.cells (mC M P C) 26 (0, 0)) := by rw [hw2]; exact World.alloc_heap_new _ _
  have hat := fun (W : World) (hW : Below w2.heap.size w2 W) (j : Nat) (hj : j < 6) => mg_at ((hW.block _ (Array.getElem?_eq_some_iff.1 q1).1).trans q1) hj
  have HAT := Lib.hid hat
  have HB2 := Lib.hid hb2
  have KP := Lib.hid (mplace_any M.k nm w2)
  obtain ⟨G, hG⟩ : ∃ G, getM M nm = G := ⟨_, rfl⟩
  rw [hG]
  obtain ⟨D, hD⟩ : ∃ D, plB (fnd (FD M.k) nm) = D := ⟨_, rfl⟩
  have hpl := fun h => plB_at (k := M.k) (nm := nm) (hD.trans h)
  unfold getM at hG
  obtain ⟨o, ho⟩ : ∃ o, fnd (FD M.k) nm = o := ⟨_, rfl⟩
  rw [ho] at KP hD hG hpl ⊢
  rw [hD] at KP hG ⊢
  clear ho q1 hb2 hat
  unfold mV
  unfold mC at hw2 ⊢
  have HW := Lib.hid hw2
  have HD := Lib.hid hD
  have HG := Lib.hid hG
  have HPL := Lib.hid hpl
  clear hw2 hD hG hpl
  go_enter Try.func22, Try.ntmps22
  go_wp2_with fail
  rw [← HW.out]
  refine KP.out.mono ?_
  rintro e w3 ⟨rfl, hb3⟩
  have HB3 := Lib.hid (HB2.out.trans (hb3.mono HB2.out.size))
  have HAT3 := Lib.hid (HAT.out w3 hb3)
  clear hb3 KP HB2 HAT HW
  cases D
  · obtain rfl : 0 = G := HG.out
    go_wp2
    go_ret2
    exact ⟨rfl, HB3.out⟩
  · obtain ⟨f, j, rfl, _, _, _, hj, hp⟩ := HPL.out rfl
    have hG := HG.out
    simp only [Option.getD_some, if_true] at hG ⊢
    rw [hp] at hG ⊢
    rw [Int.toNat_natCast] at hG
    have c := HAT3.out j hj
    rw [hG] at c
    clear hG
    go_wp2
    go_ret2
    exact ⟨rfl, HB3.out⟩

/-- what Set answers -/
def MSR (w : World) (M : Mg) (ok : Bool) (e : Ending) (w' : World) : Prop := ∃ P C, e = .returned (.tuple #[mV M P C, .bool ok]) ∧ MOwn w.heap.size w' M P C ∧ Below w.heap.size w w'
theorem mg_results {W : World} {b : Nat} {M : Mg} {P C : Value} {t : TypeId} (h : W.heap[b]? = some (.cells (mC M P C) t (0, 0))) : (loadCellsFrom ⟨b, 0, none⟩ 0 11 #[]).run Try.prog W = .ok (mC M P C) W := by
  obtain ⟨f0, f1, f2, f3, f4, f5, f6, f7, f8, f9, f10⟩ := mg_block h
  simp [loadCellsFrom, go_sem, f0, f1, f2, f3, f4, f5, f6, f7, f8, f9, f10, mC]
set_option maxHeartbeats 8000000 in
theorem mset_any (M : Mg) (P C : Value) (nm : ByteArray) (v : Int) (w : World) (hs : Msm M) (h1 : MAt w w.heap.size M P C) : Calls Try.prog 23 #[mV M P C, .string nm, .int .i64 v] w fun e w' => MSR w (setM M nm v) (plB (fnd (FD M.k) nm)) e w' := by
  obtain ⟨w2, hw2⟩ : ∃ w2, w2 = (w.alloc (.cells (mC M P C) 26)).alloc (.cells (mC (Mg.zero 0) (.slice none 0 0) (.slice none 0 0)) 26) := ⟨_, rfl⟩
  have hs2 : w2.heap.size = w.heap.size + 2 := by rw [hw2]; simp
  have hb2 : Below w.heap.size w w2 := by rw [hw2]; exact ((Below.refl _ w).alloc (Nat.le_refl _) _).alloc (by simp) _
  have q1 : w2.heap[w.heap.size]? = some (.cells (mC M P C) 26 (0, 0)) := by
    rw [hw2, Below.heap_alloc _ _ _ (by simp)]; exact World.alloc_heap_new _ _
  have q2 : w2.heap[w.heap.size + 1]? = some (.cells (mC (Mg.zero 0) (.slice none 0 0) (.slice none 0 0)) 26 (0, 0)) := by
    have := World.alloc_heap_new (w.alloc (.cells (mC M P C) 26)) (.cells (mC (Mg.zero 0) (.slice none 0 0) (.slice none 0 0)) 26)
    rw [World.size_alloc] at this
    rw [hw2]; exact this
  have KC := Lib.hid (mcopy_any M P C w2 hs ((h1.below hb2).mono hb2.size))
  have KP := Lib.hid (mplace_any M.k nm)
  have HS := Lib.hid (show ∃ D, plB (fnd (FD M.k) nm) = D from ⟨_, rfl⟩)
  obtain ⟨D, hD⟩ := HS.out
  obtain ⟨G, hG⟩ : ∃ G, setM M nm v = G := ⟨_, rfl⟩
  rw [hG]
  have hpl := fun h => plB_at (k := M.k) (nm := nm) (hD.trans h)
  unfold setM at hG
  obtain ⟨o, ho⟩ : ∃ o, fnd (FD M.k) nm = o := ⟨_, rfl⟩
  rw [ho] at KP hD hG hpl ⊢
  rw [hD] at KP hG ⊢
  clear HS ho h1 hs
  unfold MSR
  unfold mV at KC ⊢
  simp only [mC, Mg.zero] at hw2 KC q1 q2 ⊢
  have HW := Lib.hid hw2
  have HD := Lib.hid hD
  have HG := Lib.hid hG
  have HPL := Lib.hid hpl
  have HB2 := Lib.hid hb2
  have HQ2 := Lib.hid q2
  have HQ1 := Lib.hid q1
  clear hw2 hD hG hpl hb2 q2 q1
  go_enter Try.func23, Try.ntmps23
  go_wp2_with fail
  rw [← HW.out]
  refine KC.out.mono ?_
  intro e w3 hMR
  unfold MR at hMR
  obtain ⟨P3, C3, rfl, ho3, hb3⟩ := hMR
  obtain ⟨⟨a3, cp3, rfl, _, _⟩, ⟨b3, cb3, rfl, _, _⟩⟩ := ho3.at
  obtain ⟨np, hnp⟩ : ∃ np, M.p.length = np := ⟨_, rfl⟩
  obtain ⟨nc, hnc⟩ : ∃ nc, M.c.length = nc := ⟨_, rfl⟩
  unfold mV mC
  rw [hnp, hnc] at ho3 ⊢
  have HLT := Lib.hid (And.intro ho3.p.lt ho3.c.lt)
  obtain ⟨w4, hw4⟩ : ∃ w4, w3.alloc (.cells #[.int .i64 M.k, .int .i64 M.n0, .int .i64 M.n1, .int .i64 M.n2, .int .i64 M.n3, .int .i64 M.n4, .int .i64 M.n5, .slice a3 np cp3, .slice b3 nc cb3, .string M.tx, .string M.tg] 26) = w4 := ⟨_, rfl⟩
  have hs4 : w4.heap.size = w3.heap.size + 1 := by rw [← hw4]; simp
  have hb34 : Below w3.heap.size w3 w4 := by rw [← hw4]; exact (Below.refl _ w3).alloc (Nat.le_refl _) _
  have r4 : w4.heap[w3.heap.size]? = some (.cells (mC M (.slice a3 np cp3) (.slice b3 nc cb3)) 26 (0, 0)) := by rw [← hw4]; exact World.alloc_heap_new _ _
  have ho4 := ho3.later hb34
  have hs3 := hb3.size
  have hb24 : Below w2.heap.size w2 w4 := hb3.trans (hb34.mono hs3)
  have p1 := (hb24.block w.heap.size (by omega)).trans HQ1.out
  have p2 := (hb24.block (w.heap.size + 1) (by omega)).trans HQ2.out
  have kk := row_cell p1 0 _ rfl
  rw [← hw4] at kk
  have HW4 := Lib.hid hw4
  have HO4 := Lib.hid ho4
  have HR4 := Lib.hid r4
  have HP2 := Lib.hid p2
  have HB4 := Lib.hid (HB2.out.trans (hb24.mono HB2.out.size))
  have HS4 := Lib.hid (And.intro hs2 (And.intro hs3 hs4))
  clear KC HW hw4 ho3 ho4 r4 p1 p2 hb3 hb34 hb24 HQ1 HQ2 HB2 hs2 hs3 hs4
  go_wp2_with fail
  rw [HW4.out]
  refine (KP.out w4).mono ?_
  rintro e w5 ⟨rfl, hb5⟩
  have HB5 := Lib.hid (HB4.out.trans (hb5.mono HB4.out.size))
  have HR5 := Lib.hid ((hb5.block _ (by have := HS4.out; omega)).trans HR4.out)
  have HO5 := Lib.hid (HO4.out.later hb5)
  have HP5 := Lib.hid ((hb5.block _ (by have := HS4.out; omega)).trans HP2.out)
  have hge : w.heap.size + 2 ≤ w3.heap.size := by have := HS4.out; omega
  have HSZ := Lib.hid (show w.heap.size + 2 = w2.heap.size by have := HS4.out; omega)
  clear KP HR4 HO4 HP2 HB4 hb5 HS4
  cases D
  · obtain rfl : M = G := HG.out
    have f := fun j x hx => row_cell HR5.out j x hx
    have f0 := f 0 _ rfl; have f1 := f 1 _ rfl; have f2 := f 2 _ rfl; have f3 := f 3 _ rfl; have f4 := f 4 _ rfl; have f5 := f 5 _ rfl
    have f6 := f 6 _ rfl; have f7 := f 7 _ rfl; have f8 := f 8 _ rfl; have f9 := f 9 _ rfl; have f10 := f 10 _ rfl
    clear f
    go_wp2_with (refine wpList_store_row rfl 26 (.tmp 6) (.tmp 25) rfl (w.heap.size + 1) #[.int .i64 M.k, .int .i64 M.n0, .int .i64 M.n1, .int .i64 M.n2, .int .i64 M.n3, .int .i64 M.n4, .int .i64 M.n5, .slice a3 np cp3, .slice b3 nc cb3, .string M.tx, .string M.tg] rfl rfl 26 _ HP5.out mgInfo rfl (by simp [Value.oneCell']) ?_)
    have hfin := setRow_heap w5 (w.heap.size + 1) _ #[.int .i64 M.k, .int .i64 M.n0, .int .i64 M.n1, .int .i64 M.n2, .int .i64 M.n3, .int .i64 M.n4, .int .i64 M.n5, .slice a3 np cp3, .slice b3 nc cb3, .string M.tx, .string M.tg] _ _ HP5.out
    have hoff := Off.setRow (S := fun k => k = w.heap.size + 1) (Off.refl _ w5) rfl #[.int .i64 M.k, .int .i64 M.n0, .int .i64 M.n1, .int .i64 M.n2, .int .i64 M.n3, .int .i64 M.n4, .int .i64 M.n5, .slice a3 np cp3, .slice b3 nc cb3, .string M.tx, .string M.tg]
    have hbf := HB5.out.trans (hoff.below (B := w.heap.size) (fun k hk => by omega) HB5.out.size)
    have hof := HO5.out.off hoff (fun g hg e => by have := (HLT.out.1 g hg).1; have := HSZ.out; omega) (fun g hg e => by have := (HLT.out.2 g hg).1; have := HSZ.out; omega)
    generalize w5.setRow (w.heap.size + 1) _ = Wf at *
    have y := fun j x hx => row_cell hfin j x hx
    have y0 := y 0 _ rfl; have y1 := y 1 _ rfl; have y2 := y 2 _ rfl; have y3 := y 3 _ rfl; have y4 := y 4 _ rfl; have y5 := y 5 _ rfl
    have y6 := y 6 _ rfl; have y7 := y 7 _ rfl; have y8 := y 8 _ rfl; have y9 := y 9 _ rfl; have y10 := y 10 _ rfl
    refine bodyPost_ret (v := .tuple #[.agg #[.int .i64 M.k, .int .i64 M.n0, .int .i64 M.n1, .int .i64 M.n2, .int .i64 M.n3, .int .i64 M.n4, .int .i64 M.n5, .slice a3 np cp3, .slice b3 nc cb3, .string M.tx, .string M.tg], .bool false]) (by simp [results, Try.results23, go_sem, y0, y1, y2, y3, y4, y5, y6, y7, y8, y9, y10]) rfl ?_
    exact ⟨_, _, rfl, hof.less (by have := HSZ.out; omega), hbf⟩
  · obtain ⟨f, j, rfl, _, _, _, hj, hp⟩ := HPL.out rfl
    have hG := HG.out
    simp only [Option.getD_some, if_true] at hG ⊢
    rw [hp] at hG ⊢
    rw [Int.toNat_natCast] at hG
    have z := frozen_of_row w5 w3.heap.size (1 + j) _ _ HR5.out
    have c := mg_at HR5.out hj
    obtain ⟨w6, hw6⟩ : ∃ w6, w5.setCell ⟨w3.heap.size, 1 + j, none⟩ (.int .i64 v) = w6 := ⟨_, rfl⟩
    have r6 : w6.heap[w3.heap.size]? = some (.cells (mC G (.slice a3 np cp3) (.slice b3 nc cb3)) 26 (0, 0)) := by rw [← hw6, setCell_at HR5.out, mC_put hj, hG]
    have HP6 := Lib.hid ((Below.heap_setCell w5 ⟨w3.heap.size, 1 + j, none⟩ (.int .i64 v) (w.heap.size + 1) (by show _ ≠ w3.heap.size; omega)).trans HP5.out)
    have HB6 := Lib.hid (HB5.out.setCell (p := ⟨w3.heap.size, 1 + j, none⟩) (by show w.heap.size ≤ w3.heap.size; omega) (.int .i64 v))
    have ho6 : MOwn w2.heap.size w6 M (.slice a3 np cp3) (.slice b3 nc cb3) := by
      rw [← hw6]
      exact HO5.out.off ((Off.refl (fun g => g = w3.heap.size) w5).setCell (p := ⟨w3.heap.size, 1 + j, none⟩) rfl _) (fun g hg e => by have := (HLT.out.1 g hg).2; omega) (fun g hg e => by have := (HLT.out.2 g hg).2; omega)
    have ho6' : MOwn w2.heap.size w6 G (.slice a3 np cp3) (.slice b3 nc cb3) := by
      rw [← hG]
      exact ⟨by rw [Mg.put_p]; exact ho6.p, by rw [Mg.put_c]; exact ho6.c⟩
    rw [hw6] at HP6 HB6
    have HR6 := Lib.hid r6
    have HO6 := Lib.hid ho6'
    have HW6 := Lib.hid hw6
    obtain ⟨f0, f1, f2, f3, f4, f5, f6, f7, f8, f9, f10⟩ := mg_block r6
    rw [← hw6] at f0 f1 f2 f3 f4 f5 f6 f7 f8 f9 f10
    clear hG hw6 r6 ho6 ho6' hp
    have HP6' := Lib.hid (HW6.out ▸ HP6.out)
    go_wp2_with (refine wpList_store_row rfl 26 (.tmp 6) (.tmp 25) rfl (w.heap.size + 1) #[.int .i64 G.k, .int .i64 G.n0, .int .i64 G.n1, .int .i64 G.n2, .int .i64 G.n3, .int .i64 G.n4, .int .i64 G.n5, .slice a3 np cp3, .slice b3 nc cb3, .string G.tx, .string G.tg] rfl rfl 26 _ HP6'.out mgInfo rfl (by simp [Value.oneCell']) ?_)
    rw [HW6.out]
    have hfin := setRow_heap w6 (w.heap.size + 1) _ #[.int .i64 G.k, .int .i64 G.n0, .int .i64 G.n1, .int .i64 G.n2, .int .i64 G.n3, .int .i64 G.n4, .int .i64 G.n5, .slice a3 np cp3, .slice b3 nc cb3, .string G.tx, .string G.tg] _ _ HP6.out
    have hoff := Off.setRow (S := fun k => k = w.heap.size + 1) (Off.refl _ w6) rfl #[.int .i64 G.k, .int .i64 G.n0, .int .i64 G.n1, .int .i64 G.n2, .int .i64 G.n3, .int .i64 G.n4, .int .i64 G.n5, .slice a3 np cp3, .slice b3 nc cb3, .string G.tx, .string G.tg]
    have hbf := HB6.out.trans (hoff.below (B := w.heap.size) (fun k hk => by omega) HB6.out.size)
    have hof := HO6.out.off hoff (fun g hg e => by have := (HLT.out.1 g hg).1; have := HSZ.out; omega) (fun g hg e => by have := (HLT.out.2 g hg).1; have := HSZ.out; omega)
    generalize w6.setRow (w.heap.size + 1) _ = Wf at *
    have y := fun j x hx => row_cell hfin j x hx
    have y0 := y 0 _ rfl; have y1 := y 1 _ rfl; have y2 := y 2 _ rfl; have y3 := y 3 _ rfl; have y4 := y 4 _ rfl; have y5 := y 5 _ rfl
    have y6 := y 6 _ rfl; have y7 := y 7 _ rfl; have y8 := y 8 _ rfl; have y9 := y 9 _ rfl; have y10 := y 10 _ rfl
    refine bodyPost_ret (v := .tuple #[.agg #[.int .i64 G.k, .int .i64 G.n0, .int .i64 G.n1, .int .i64 G.n2, .int .i64 G.n3, .int .i64 G.n4, .int .i64 G.n5, .slice a3 np cp3, .slice b3 nc cb3, .string G.tx, .string G.tg], .bool true]) (by simp [results, Try.results23, go_sem, y0, y1, y2, y3, y4, y5, y6, y7, y8, y9, y10]) rfl ?_
    exact ⟨_, _, rfl, hof.less (by have := HSZ.out; omega), hbf⟩
end Go.Proofs.Ytnbhiamnoapmlaa
