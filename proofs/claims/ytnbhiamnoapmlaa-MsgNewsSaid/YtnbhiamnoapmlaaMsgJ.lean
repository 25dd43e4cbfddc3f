/-
  Contract of layer 17's Project. (Written by tools/gen_msgj.py.)
-/
import Derived.Test.YtnbhiamnoapmlaaMsgK
import Derived.Test.YtnbhiamnoapmlaaQ22
namespace Go.Proofs.Ytnbhiamnoapmlaa
open Go.RowKit Go.Shelf
set_option maxRecDepth 100000
attribute [local go_sem] Oper.semAt_some

theorem mg_store (w : World) (R : Nat) (old cs : Array Value) (h : w.heap[R]? = some (.cells old 26 (0, 0))) (ho : old.size = 11) (hc : cs.size = 11) (h1 : cs.all (·.oneCell') = true) :
    (Instr.storeAt 26 (.pointer (some ⟨R, 0, none⟩)) (.agg cs)).run Try.prog w = .ok () (w.setRow R cs) := by
  simp only [Instr.storeAt, Instr.sureAddr, Sem.run_bind, Sem.run_pure, Result.andThen]
  exact run_storeVar_row w R 26 26 old cs h (by rw [hc]; exact mgInfo) (by omega) h1
/-- a message's box bp whose lists' slices stay -/
structure PjB (bp : Nat) (w5 : World) (P C : Value) (M : Mg) (V : World) : Prop where
  m : V.heap[bp]? = some (.cells (mC M P C) 26 (0, 0))
  off : Off (fun q => q = bp) w5 V
section
variable {bp : Nat} {w5 V V' : World} {P C : Value} {M M' : Mg}
theorem PjB.later (h : PjB bp w5 P C M V) (hb : Below V.heap.size V V') : PjB bp w5 P C M V' := ⟨(hb.block _ (Array.getElem?_eq_some_iff.1 h.m).1).trans h.m, off_below h.off (hb.mono h.off.size)⟩
theorem PjB.putObj {l : Nat} {o' : Obj} (h : PjB bp w5 P C M V) (hw : w5.heap.size ≤ l) (hbp : bp < w5.heap.size) : PjB bp w5 P C M (V.putObj l o') := ⟨(World.putObj_heap_other (by omega)).trans h.m, off_below h.off (below_put V o' hw)⟩
theorem PjB.set (h : PjB bp w5 P C M V) (j : Nat) (u : Value) (hM : (mC M P C).setIfInBounds j u = mC M' P C) : PjB bp w5 P C M' (V.setCell ⟨bp, j, none⟩ u) := ⟨by rw [setCell_at h.m, hM], h.off.setCell (p := ⟨bp, j, none⟩) rfl _⟩
end
theorem kf_one {V W : World} {b s : Nat} (h : Off (fun q => q = b) V W) (hb : b < s) : KeepsFrom s V W := ⟨h.size, fun q o hq ho _ => (h.block q (Array.getElem?_eq_some_iff.1 ho).1 (by omega)).trans ho⟩
theorem ket_one {V W : World} {b lo : Nat} {tf ti : TypeId} (h : Off (fun q => q = b) V W) (hb : b < lo) : KeT tf ti lo V W := ⟨h.size, fun q cs t hq _ hA => h.block q (Array.getElem?_eq_some_iff.1 hA).1 (by omega)⟩
theorem prj_p (M : Mg) (f : Fd) : (prj M f).p = M.p := by
  unfold prj
  repeat' split
  all_goals first | rfl | exact Mg.put_p ..
theorem prj_c (M : Mg) (f : Fd) : (prj M f).c = M.c := by
  unfold prj
  repeat' split
  all_goals first | rfl | exact Mg.put_c ..
theorem fold_prj_p : ∀ (L : List Fd) (M : Mg), (L.foldl prj M).p = M.p
  | [], _ => rfl
  | f :: r, M => by rw [List.foldl_cons, fold_prj_p r, prj_p]
theorem fold_prj_c : ∀ (L : List Fd) (M : Mg), (L.foldl prj M).c = M.c
  | [], _ => rfl
  | f :: r, M => by rw [List.foldl_cons, fold_prj_c r, prj_c]

set_option maxHeartbeats 16000000 in
theorem mproject_any (M : Mg) (P C : Value) (v : Int) (w : World) (hs : Msm M) (h1 : MAt w w.heap.size M P C) : Calls Try.prog 9 #[mV M P C, .int .i64 v] w fun e w' => MR w (mproj M v) e w' := by
  obtain ⟨w2, hw2⟩ : ∃ w2, w2 = ((w.alloc (.cells (mC M P C) 26)).alloc (.cells #[.int .i64 v] 3)).alloc (.cells (mC (Mg.zero 0) (.slice none 0 0) (.slice none 0 0)) 26) := ⟨_, rfl⟩
  have hs2 : w2.heap.size = w.heap.size + 3 := by rw [hw2]; simp
  have hb2 : Below w.heap.size w w2 := by rw [hw2]; exact (((Below.refl _ w).alloc (Nat.le_refl _) _).alloc (by simp) _).alloc (by simp; omega) _
  have q0 : w2.heap[w.heap.size]? = some (.cells (mC M P C) 26 (0, 0)) := by
    rw [hw2, Below.heap_alloc _ _ _ (by simp; omega), Below.heap_alloc _ _ _ (by simp)]; exact World.alloc_heap_new _ _
  have q1 : w2.heap[w.heap.size + 1]? = some (.cells #[.int .i64 v] 3 (0, 0)) := by
    have := World.alloc_heap_new (w.alloc (.cells (mC M P C) 26)) (.cells #[.int .i64 v] 3)
    rw [World.size_alloc] at this
    rw [hw2, Below.heap_alloc _ _ _ (by simp)]; exact this
  have q2 : w2.heap[w.heap.size + 2]? = some (.cells (mC (Mg.zero 0) (.slice none 0 0) (.slice none 0 0)) 26 (0, 0)) := by
    have := World.alloc_heap_new ((w.alloc (.cells (mC M P C) 26)).alloc (.cells #[.int .i64 v] 3)) (.cells (mC (Mg.zero 0) (.slice none 0 0) (.slice none 0 0)) 26)
    rw [World.size_alloc, World.size_alloc] at this
    rw [hw2]; exact this
  obtain ⟨G, hG⟩ : ∃ G, mproj M v = G := ⟨_, rfl⟩
  rw [hG]
  unfold mproj at hG
  have KC := Lib.hid (mcopy_any M P C w2 hs ((h1.below hb2).mono hb2.size))
  unfold MR
  unfold mV at KC ⊢
  simp only [mC, Mg.zero] at hw2 KC q0 q1 q2 ⊢
  have HW := Lib.hid hw2
  have HB2 := Lib.hid hb2
  have HQ := Lib.hid (And.intro q0 (And.intro q1 q2))
  clear hw2 hb2 q0 q1 q2 h1 hs
  by_cases hv : v = 1
  case neg =>
    go_enter Try.func9, Try.ntmps9
    go_wp2
    refine wp_scope_straight ?_
    go_wp2_with fail
    rw [← HW.out]
    refine KC.out.mono ?_
    intro e w3 hMR
    unfold MR at hMR
    obtain ⟨P3, C3, rfl, ho3, hb3⟩ := hMR
    obtain ⟨⟨a3, cp3, rfl, _, _⟩, ⟨b3, cb3, rfl, _, _⟩⟩ := ho3.at
    obtain ⟨np, hnp⟩ : ∃ np, M.p.length = np := ⟨_, rfl⟩
    obtain ⟨nc, hnc⟩ : ∃ nc, M.c.length = nc := ⟨_, rfl⟩
    unfold mV mC
    rw [hnp, hnc] at ho3 ⊢
    have HLT := Lib.hid (And.intro ho3.p.lt ho3.c.lt)
    obtain ⟨w4, hw4⟩ : ∃ w4, w3.alloc (.cells #[.int .i64 M.k, .int .i64 M.n0, .int .i64 M.n1, .int .i64 M.n2, .int .i64 M.n3, .int .i64 M.n4, .int .i64 M.n5, .slice a3 np cp3, .slice b3 nc cb3, .string M.tx, .string M.tg] 26) = w4 := ⟨_, rfl⟩
    have hs4 : w4.heap.size = w3.heap.size + 1 := by rw [← hw4]; simp
    have hb34 : Below w3.heap.size w3 w4 := by rw [← hw4]; exact (Below.refl _ w3).alloc (Nat.le_refl _) _
    have r4 : w4.heap[w3.heap.size]? = some (.cells (mC M (.slice a3 np cp3) (.slice b3 nc cb3)) 26 (0, 0)) := by rw [← hw4]; exact World.alloc_heap_new _ _
    have ho4 := ho3.later hb34
    have hs3 := hb3.size
    have hb24 : Below w2.heap.size w2 w4 := hb3.trans (hb34.mono hs3)
    have p0 := (hb24.block w.heap.size (by omega)).trans HQ.out.1
    have p1 := (hb24.block (w.heap.size + 1) (by omega)).trans HQ.out.2.1
    have p2 := (hb24.block (w.heap.size + 2) (by omega)).trans HQ.out.2.2
    have HB4 := Lib.hid (HB2.out.trans (hb24.mono HB2.out.size))
    have hge : w.heap.size + 3 ≤ w3.heap.size := by omega
    have HSZ := Lib.hid (show w.heap.size + 3 = w2.heap.size by omega)
    have HO4 := Lib.hid ho4
    have HW4 := Lib.hid hw4
    have hv1 := row_cell p1 0 _ rfl
    clear KC HW ho3 ho4 hb3 hb34 hb24 HQ HB2 hs2 hs3
    have hvn : (v != 1) = true := by simpa using hv
    rw [if_neg hv] at hG
    subst hG
    obtain ⟨f0, f1, f2, f3, f4, f5, f6, f7, f8, f9, f10⟩ := mg_block r4
    rw [← hw4] at f0 f1 f2 f3 f4 f5 f6 f7 f8 f9 f10 hv1
    have HP2 := Lib.hid p2
    have HP2' := Lib.hid (hw4.symm ▸ p2)
    clear hw4 p0 p1 p2 r4 hv
    go_wp2_with (refine wpList_store_row rfl 26 (.tmp 4) (.tmp 11) rfl (w.heap.size + 1 + 1) #[.int .i64 M.k, .int .i64 M.n0, .int .i64 M.n1, .int .i64 M.n2, .int .i64 M.n3, .int .i64 M.n4, .int .i64 M.n5, .slice a3 np cp3, .slice b3 nc cb3, .string M.tx, .string M.tg] rfl rfl 26 _ HP2'.out mgInfo rfl (by simp [Value.oneCell']) ?_)
    rw [HW4.out]
    have hfin := setRow_heap w4 (w.heap.size + 1 + 1) _ #[.int .i64 M.k, .int .i64 M.n0, .int .i64 M.n1, .int .i64 M.n2, .int .i64 M.n3, .int .i64 M.n4, .int .i64 M.n5, .slice a3 np cp3, .slice b3 nc cb3, .string M.tx, .string M.tg] _ _ HP2.out
    have hoff := Off.setRow (S := fun k => k = w.heap.size + 1 + 1) (Off.refl _ w4) rfl #[.int .i64 M.k, .int .i64 M.n0, .int .i64 M.n1, .int .i64 M.n2, .int .i64 M.n3, .int .i64 M.n4, .int .i64 M.n5, .slice a3 np cp3, .slice b3 nc cb3, .string M.tx, .string M.tg]
    have hbf := HB4.out.trans (hoff.below (B := w.heap.size) (fun k hk => by omega) HB4.out.size)
    have hof := HO4.out.off hoff (fun g hg e => by have := (HLT.out.1 g hg).1; have := HSZ.out; omega) (fun g hg e => by have := (HLT.out.2 g hg).1; have := HSZ.out; omega)
    generalize w4.setRow (w.heap.size + 1 + 1) _ = Wf at *
    obtain ⟨y0, y1, y2, y3, y4, y5, y6, y7, y8, y9, y10⟩ := mg_block hfin
    simp only [Exit.noGoto]
    refine bodyPost_ret (v := .agg #[.int .i64 M.k, .int .i64 M.n0, .int .i64 M.n1, .int .i64 M.n2, .int .i64 M.n3, .int .i64 M.n4, .int .i64 M.n5, .slice a3 np cp3, .slice b3 nc cb3, .string M.tx, .string M.tg]) (by simp [results, Try.results9, go_sem, y0, y1, y2, y3, y4, y5, y6, y7, y8, y9, y10]) rfl ?_
    exact ⟨_, _, rfl, hof.less (by have := HSZ.out; omega), hbf⟩
  subst hv
  rw [if_pos rfl] at hG
  refine (callsIn_wide (n := 9)).1 ?_
  refine callsIn_of_wp_marks Try.func9 rfl trivial ?_ rfl
  simp only [Try.ntmps9, List.size_toArray, List.length_cons, List.length_nil, Nat.reduceAdd, Nat.reduceSub, Array.replicate_succ, Array.replicate_zero, List.push_toArray, List.append_toArray, List.nil_append, List.cons_append]
  gi_wp2_with fail
  refine wpIn_wide.2 (wp_scope_straight ((wpIn_wide (n := 9)).1 ?_))
  gi_wp2_with fail
  refine ⟨trivial, ?_⟩
  rw [← HW.out]
  refine (callsIn_wide.2 KC.out).mono ?_
  intro e w3 hMR
  unfold MR at hMR
  obtain ⟨P3, C3, rfl, ho3, hb3⟩ := hMR
  obtain ⟨⟨a3, cp3, rfl, _, _⟩, ⟨b3, cb3, rfl, _, _⟩⟩ := ho3.at
  obtain ⟨np, hnp⟩ : ∃ np, M.p.length = np := ⟨_, rfl⟩
  obtain ⟨nc, hnc⟩ : ∃ nc, M.c.length = nc := ⟨_, rfl⟩
  unfold mV mC
  rw [hnp, hnc] at ho3 ⊢
  have HLT := Lib.hid (And.intro ho3.p.lt ho3.c.lt)
  obtain ⟨w4, hw4⟩ : ∃ w4, w3.alloc (.cells #[.int .i64 M.k, .int .i64 M.n0, .int .i64 M.n1, .int .i64 M.n2, .int .i64 M.n3, .int .i64 M.n4, .int .i64 M.n5, .slice a3 np cp3, .slice b3 nc cb3, .string M.tx, .string M.tg] 26) = w4 := ⟨_, rfl⟩
  have hs4 : w4.heap.size = w3.heap.size + 1 := by rw [← hw4]; simp
  have hb34 : Below w3.heap.size w3 w4 := by rw [← hw4]; exact (Below.refl _ w3).alloc (Nat.le_refl _) _
  have r4 : w4.heap[w3.heap.size]? = some (.cells (mC M (.slice a3 np cp3) (.slice b3 nc cb3)) 26 (0, 0)) := by rw [← hw4]; exact World.alloc_heap_new _ _
  have ho4 := ho3.later hb34
  have hs3 := hb3.size
  have hb24 : Below w2.heap.size w2 w4 := hb3.trans (hb34.mono hs3)
  have p0 := (hb24.block w.heap.size (by omega)).trans HQ.out.1
  have p1 := (hb24.block (w.heap.size + 1) (by omega)).trans HQ.out.2.1
  have p2 := (hb24.block (w.heap.size + 2) (by omega)).trans HQ.out.2.2
  have HB4 := Lib.hid (HB2.out.trans (hb24.mono HB2.out.size))
  have hge : w.heap.size + 3 ≤ w3.heap.size := by omega
  have HSZ := Lib.hid (show w.heap.size + 3 = w2.heap.size by omega)
  have HO4 := Lib.hid ho4
  have HW4 := Lib.hid hw4
  have hv1 := row_cell p1 0 _ rfl
  clear KC HW ho3 ho4 hb3 hb34 hb24 HQ HB2 hs2 hs3
  have kk := row_cell p0 0 _ rfl
  rw [← hw4] at kk hv1
  have hPJ : PjB w3.heap.size w4 (.slice a3 np cp3) (.slice b3 nc cb3) M w4 := ⟨r4, Off.refl _ _⟩
  clear hw4
  gi_wp2_with fail
  apply wpIn_label
  gi_wp2_with fail
  rw [HW4.out]
  refine ⟨trivial, (callsIn_wide.2 (fall_any M.k 2 w4)).mono ?_⟩
  rintro e w5 ⟨rfl, hg0, hg1, hb5⟩
  have hs5 := (Array.getElem?_eq_some_iff.1 hg1).1
  have hPJ5 := hPJ.later hb5
  have hPJ5 : PjB w3.heap.size w5 (.slice a3 np cp3) (.slice b3 nc cb3) M w5 := ⟨hPJ5.m, Off.refl _ _⟩
  have HB5 := Lib.hid (HB4.out.trans (hb5.mono HB4.out.size))
  have HO5 := Lib.hid (HO4.out.later hb5)
  have HP2 := Lib.hid ((hb5.block _ (by omega)).trans p2)
  have HV1 := Lib.hid ((hb5.block _ (by omega)).trans p1)
  rw [hs4] at hg0 hg1 hs5
  have KA := Lib.hid (FDv_two M.k)
  have KF := Lib.hid (FD_fdok M.k)
  obtain ⟨L, hL⟩ : ∃ L, FD M.k = L := ⟨_, rfl⟩
  rw [hL] at hG KA KF
  have HG := Lib.hid hG
  clear hL hG hPJ HB4 HO4 HW4 hb5 p0 p1 p2 r4 kk hv1
  gi_wp2_with fail
  refine range_stopb rfl (by omega) (gf := 39) (lb := #[.pointer (some ⟨w3.heap.size + 1, 0, none⟩), .pointer (some ⟨w3.heap.size + 1 + 1, 0, none⟩)]) rfl trivial (enters_of Try.func39 (by kernel_rfl) rfl)
    (fun f : Fd => #[f.v]) (fun _ => rfl)
    (fun j f V => L[j]? = some f ∧ PjB w3.heap.size w5 (.slice a3 np cp3) (.slice b3 nc cb3) ((L.take j).foldl prj M) V)
    (fun j f q V => (L[j]? = some f ∧ PjB w3.heap.size w5 (.slice a3 np cp3) (.slice b3 nc cb3) ((L.take j).foldl prj M) V) ∧ w5.heap.size ≤ q ∧ V.heap[q]? = some (.cells f.cs 65 (0, 0)))
    (fun j V => PjB w3.heap.size w5 (.slice a3 np cp3) (.slice b3 nc cb3) ((L.take j).foldl prj M) V)
    (fun cd V => False)
    (KeT 65 3 (w3.heap.size + 1)) L.length
    (fun j f q V l o o' h hl ho hc' => ⟨⟨h.1.1, h.1.2.putObj hl (by omega)⟩, h.2.1, (World.putObj_heap_other (fun e => by subst e; rw [h.2.2] at ho; injection ho with ho; subst ho; cases hc')).trans h.2.2⟩)
    (fun j V l o o' h hl ho hc' => h.putObj hl (by omega))
    (fun cd V l o o' h hl ho hc' => h)
    (fun _ _ _ h k => h.trans k) (fun V l o o' hl ho hc' => KeT.putObj ho hc')
    (fun o => (hPJ5.later ((Below.refl _ w5).alloc (Nat.le_refl _) _)).later ((Below.refl _ _).alloc (Nat.le_refl _) _)) ?round ?iter ?done ?stop
  case round =>
    rintro l j f V K ⟨hf, hP⟩ hj hK
    have HK := Lib.hid hK
    have hsz := hP.off.size
    clear hK
    unfold Fd.v Fd.cs
    gi_wp2_with fail
    refine HK.out _ V.heap.size _ ⟨⟨hf, hP.later ((Below.refl _ V).alloc (Nat.le_refl _) _)⟩, hsz, World.alloc_heap_new _ _⟩ ⟨by simp, fun q o _ ho _ => (Below.heap_alloc _ _ _ (Array.getElem?_eq_some_iff.1 ho).1).trans ho⟩ (KeT.of_below ((Below.refl _ V).alloc (Nat.le_refl _) _)) ?_
    clear HK hP
    rintro l V2 hl ⟨⟨_, hP⟩, hq, hc⟩
    obtain ⟨qb, hqb⟩ : ∃ qb, V.heap.size = qb := ⟨_, rfl⟩
    rw [hqb] at hq hc ⊢
    clear hqb
    obtain ⟨d0, d1, d2, d3, d4, d5, d6⟩ := fd_block hc
    have ok := KF.out f (List.mem_of_getElem? hf)
    have hst := fold_take hf prj M
    obtain ⟨Mj, hMj⟩ : ∃ Mj, (L.take j).foldl prj M = Mj := ⟨_, rfl⟩
    rw [hMj] at hP hst
    clear hf hMj
    have hv1 := row_cell ((hP.off.block _ (by omega) (by omega)).trans HV1.out) 0 _ rfl
    have HST := Lib.hid hst
    have hm := hP.m
    by_cases hsi : f.si ≤ 1
    · have hfin := Lib.hid (show KeepsFrom w5.heap.size V2 V2 ∧ _ from ⟨⟨Nat.le_refl _, fun _ _ _ ho _ => ho⟩, show PjB w3.heap.size w5 (.slice a3 np cp3) (.slice b3 nc cb3) (prj Mj f) V2 by rw [show prj Mj f = Mj from if_pos hsi]; exact hP⟩)
      clear hP hst hm ok hc
      gi_wp2
      exact ⟨hfin.out.1, by rw [HST.out]; exact hfin.out.2, KeT.refl _⟩
    · by_cases h6 : f.so = 6
      · have hp6 : prj Mj f = { Mj with tg := ⟨#[]⟩ } := by unfold prj; rw [if_neg hsi, if_pos h6]
        have hP2 := hP.set (M' := prj Mj f) 10 (.string ⟨#[]⟩) (by rw [hp6]; rfl)
        have hoff := (Off.refl (fun q => q = w3.heap.size) V2).setCell (p := ⟨w3.heap.size, 10, none⟩) rfl (.string ⟨#[]⟩)
        have HF := Lib.hid (And.intro (kf_one hoff (s := w5.heap.size) (by omega)) (And.intro hP2 (ket_one (tf := 65) (ti := 3) hoff (lo := (w3.heap.size + 1)) (by omega))))
        have c10 := (mg_block hm).2.2.2.2.2.2.2.2.2.2
        have z10 := frozen_of_row V2 w3.heap.size 10 _ _ hm
        rw [h6] at d1
        clear hP hst hm ok hc hP2 hoff hp6
        gi_wp2
        exact ⟨HF.out.1, by rw [HST.out]; exact HF.out.2.1, HF.out.2.2⟩
      · have hs6 : (f.so == 6) = false := by simpa using h6
        by_cases h3 : f.so < 3
        · obtain ⟨jn, hjn, hpl⟩ := ok.pl h3
          have hp6 : prj Mj f = Mj.put jn f.ab := by unfold prj; rw [if_neg hsi, if_neg h6, if_pos (by omega), hpl, Int.toNat_natCast]
          have hP2 := hP.set (M' := prj Mj f) (1 + jn) (.int .i64 f.ab) (by rw [hp6, mC_put hjn])
          have hoff := (Off.refl (fun q => q = w3.heap.size) V2).setCell (p := ⟨w3.heap.size, 1 + jn, none⟩) rfl (.int .i64 f.ab)
          have HF := Lib.hid (And.intro (kf_one hoff (s := w5.heap.size) (by omega)) (And.intro hP2 (ket_one (tf := 65) (ti := 3) hoff (lo := (w3.heap.size + 1)) (by omega))))
          have cn := mg_at hm hjn
          have zn := frozen_of_row V2 w3.heap.size (1 + jn) _ _ hm
          rw [hpl] at d2
          have hj6 : (jn : Int) < 6 := by omega
          clear hP hst hm ok hc hP2 hoff hp6 hpl h3
          gi_wp2
          exact ⟨HF.out.1, by rw [HST.out]; exact HF.out.2.1, HF.out.2.2⟩
        · have hno := ok.no h3
          have hp6 : prj Mj f = Mj := by unfold prj; rw [if_neg hsi, if_neg h6, if_neg (by omega)]
          have hfin := Lib.hid (show KeepsFrom w5.heap.size V2 V2 ∧ _ from ⟨⟨Nat.le_refl _, fun _ _ _ ho _ => ho⟩, show PjB w3.heap.size w5 (.slice a3 np cp3) (.slice b3 nc cb3) (prj Mj f) V2 by rw [hp6]; exact hP⟩)
          rw [hno] at d2
          clear hP hst hm ok hc hp6 hno h3
          gi_wp2
          exact ⟨hfin.out.1, by rw [HST.out]; exact hfin.out.2, KeT.refl _⟩
  case iter =>
    intro Bk X l V hBk hBlt hX hl hD hB hY
    have h := fall_in 8 (by omega) 7 l (w3.heap.size + 1) M.k 2 (fun j V => PjB w3.heap.size w5 (.slice a3 np cp3) (.slice b3 nc cb3) ((L.take j).foldl prj M) V ∧ Bk V) X
      (fun j A B h hb => ⟨h.1.later hb, hBk A _ h.2 hb.size (fun q h1 h2 => by have := hBlt A h.2; exact hb.block q (by omega))⟩)
      (fun j f W h hf => by
        rw [KA.out] at hf
        exact (hY j f W ⟨hf, h.1⟩ h.2 (List.getElem?_eq_some_iff.1 hf).1).mono (fun e W2 h => h.elim (fun h => .inl ⟨h.1, h.2.1, h.2.2.1⟩) (fun h => .inr ⟨h.1, h.2.1⟩)))
      V ((hD.off.block _ (by omega) (by omega)).trans hg0) ((hD.off.block _ (by omega) (by omega)).trans hg1) ⟨hD, hB⟩
    rw [KA.out] at h
    exact h
  case done =>
    rintro D V hD hP hK
    rw [List.take_length, HG.out] at hP
    have hGp : G.p = M.p := by rw [← HG.out, fold_prj_p]
    have hGc : G.c = M.c := by rw [← HG.out, fold_prj_c]
    obtain ⟨f0, f1, f2, f3, f4, f5, f6, f7, f8, f9, f10⟩ := mg_block hP.m
    have r2 := (hP.off.block (w.heap.size + 2) (by omega) (by omega)).trans HP2.out
    have HR2 := Lib.hid r2
    have hbV := HB5.out.trans (hP.off.below (B := w.heap.size) (fun k hk => by omega) (by have := HB5.out.size; omega))
    have hoV := HO5.out.off hP.off (fun g hg e => by have := (HLT.out.1 g hg).2; omega) (fun g hg e => by have := (HLT.out.2 g hg).2; omega)
    have HBV := Lib.hid hbV
    have HOV := Lib.hid hoV
    have HKD := Lib.hid hK
    have hD2 : D ≠ w.heap.size + 1 + 1 := by omega
    clear hP r2 hbV hoV hK
    have HST := Lib.hid (mg_store V (w.heap.size + 1 + 1) _ #[.int .i64 G.k, .int .i64 G.n0, .int .i64 G.n1, .int .i64 G.n2, .int .i64 G.n3, .int .i64 G.n4, .int .i64 G.n5, .slice a3 np cp3, .slice b3 nc cb3, .string G.tx, .string G.tg] HR2.out rfl rfl (by simp [Value.oneCell']))
    gi_wp2_with (refine wpListIn_store_run rfl 26 (.tmp 4) (.tmp 36) rfl (some ⟨w.heap.size + 1 + 1, 0, none⟩) rfl (.agg #[.int .i64 G.k, .int .i64 G.n0, .int .i64 G.n1, .int .i64 G.n2, .int .i64 G.n3, .int .i64 G.n4, .int .i64 G.n5, .slice a3 np cp3, .slice b3 nc cb3, .string G.tx, .string G.tg]) rfl HST.out ?_)
    have hfin := setRow_heap V (w.heap.size + 1 + 1) _ #[.int .i64 G.k, .int .i64 G.n0, .int .i64 G.n1, .int .i64 G.n2, .int .i64 G.n3, .int .i64 G.n4, .int .i64 G.n5, .slice a3 np cp3, .slice b3 nc cb3, .string G.tx, .string G.tg] _ _ HR2.out
    have hoff := Off.setRow (S := fun k => k = w.heap.size + 1 + 1) (Off.refl _ V) rfl #[.int .i64 G.k, .int .i64 G.n0, .int .i64 G.n1, .int .i64 G.n2, .int .i64 G.n3, .int .i64 G.n4, .int .i64 G.n5, .slice a3 np cp3, .slice b3 nc cb3, .string G.tx, .string G.tg]
    have hbf := HBV.out.trans (hoff.below (B := w.heap.size) (fun k hk => by omega) HBV.out.size)
    have hof := HOV.out.off hoff (fun g hg e => by have := (HLT.out.1 g hg).1; have := HSZ.out; omega) (fun g hg e => by have := (HLT.out.2 g hg).1; have := HSZ.out; omega)
    have HKf := (setRow_other V (w.heap.size + 1 + 1) D #[.int .i64 G.k, .int .i64 G.n0, .int .i64 G.n1, .int .i64 G.n2, .int .i64 G.n3, .int .i64 G.n4, .int .i64 G.n5, .slice a3 np cp3, .slice b3 nc cb3, .string G.tx, .string G.tg] hD2).trans HKD.out
    generalize V.setRow (w.heap.size + 1 + 1) _ = Wf at *
    simp only [Exit.noGoto]
    refine ⟨by simp, .inl ⟨_, _, rfl, run_takeDeferred HKf, ?_⟩⟩
    obtain ⟨y0, y1, y2, y3, y4, y5, y6, y7, y8, y9, y10⟩ := mg_block (W := Wf.putObj D (.deferred none)) ((World.putObj_heap_other (by omega)).trans hfin)
    refine ⟨.agg #[.int .i64 G.k, .int .i64 G.n0, .int .i64 G.n1, .int .i64 G.n2, .int .i64 G.n3, .int .i64 G.n4, .int .i64 G.n5, .slice a3 np cp3, .slice b3 nc cb3, .string G.tx, .string G.tg], by simp [results, Try.f9, go_sem, y0, y1, y2, y3, y4, y5, y6, y7, y8, y9, y10], _, _, rfl, ?_, hbf.trans (below_put _ _ (by omega))⟩
    refine MOwn.less (base := w2.heap.size) ?_ (by have := HSZ.out; omega)
    exact ⟨by rw [hGp]; exact ownsRow_putObj hof.p _ HKf rfl, by rw [hGc]; exact ownsRow_putObj hof.c _ HKf rfl⟩
  case stop => exact fun _ _ _ _ h => h.elim
end Go.Proofs.Ytnbhiamnoapmlaa
