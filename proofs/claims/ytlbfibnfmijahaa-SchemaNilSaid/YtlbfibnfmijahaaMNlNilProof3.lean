/-
  The law SchemaNil returns true for every message and every bytes: a nil schema packs and unpacks nothing, and there are two versions.
-/
import Derived.BigQuiet
import Derived.Test.YtlbfibnfmijahaaRows
import Derived.WalkLawsBesides
import Derived.Deep.QuietTactic
import Derived.Deep.LoopGhost
import Derived.Lib.Hide
import Derived.WalkMore
import Derived.WalkSpells
import Derived.Lib.SliceRun
import Derived.Deep.OwnRows
import Derived.Deep.RegionWith
import Derived.RangeFuncNested
import Derived.RangeFuncBound
import Derived.RangeFuncCalls
import Derived.RangeFuncLeaves
import Derived.Shelf.Abstract
import Derived.Shelf.RegionOpen
import Derived.OwnWalkIn
import Derived.TacticsInMore
import Derived.LoopNIn
import Derived.LoopIn
import Derived.RangeFuncBox
import Derived.IntWalk
import Derived.RangeFuncWrites
import Derived.BigRegion
import Derived.ArgAppend
import Derived.Deep.Upon
import Derived.Maps.AppendAt
import Derived.Lib.Strings
import Derived.Lib.Slices
import Derived.Lib.Walk
import Derived.Lib.Bytes
import Derived.Laws.EntriesVeiled
import Derived.Below
import Derived.WalkKit
import Derived.ProofKit
import Derived.OpenShut
import Derived.ShutString
import Derived.ChangeOld
import Derived.Test.YtlbfibnfmijahaaMNlNilProof2
namespace Go.Proofs.Ytlbfibnfmijahaa
open Go.RowKit Go.Shelf
set_option maxRecDepth 100000
attribute [local go_sem] Oper.semAt_some

theorem mg_store (w : World) (R : Nat) (old cs : Array Value) (h : w.heap[R]? = some (.cells old 33 (0, 0))) (ho : old.size = 11) (hc : cs.size = 11) (h1 : cs.all (·.oneCell') = true) :
    (Instr.storeAt 33 (.pointer (some ⟨R, 0, none⟩)) (.agg cs)).run Try.prog w = .ok () (w.setRow R cs) := by
  simp only [Instr.storeAt, Instr.sureAddr, Sem.run_bind, Sem.run_pure, Result.andThen]
  exact run_storeVar_row w R 33 33 old cs h (by rw [hc]; exact mgInfo) (by omega) h1
/-- a message's box bp whose lists' slices stay -/
structure PjB (bp : Nat) (w5 : World) (P C : Value) (M : Mg) (V : World) : Prop where
  m : V.heap[bp]? = some (.cells (mC M P C) 33 (0, 0))
  off : Off (fun q => q = bp) w5 V
section
variable {bp : Nat} {w5 V V' : World} {P C : Value} {M M' : Mg}
theorem PjB.later (h : PjB bp w5 P C M V) (hb : Below V.heap.size V V') : PjB bp w5 P C M V' := ⟨(hb.block _ (Array.getElem?_eq_some_iff.1 h.m).1).trans h.m, off_below h.off (hb.mono h.off.size)⟩
theorem PjB.putObj {l : Nat} {o' : Obj} (h : PjB bp w5 P C M V) (hw : w5.heap.size ≤ l) (hbp : bp < w5.heap.size) : PjB bp w5 P C M (V.putObj l o') := ⟨(World.putObj_heap_other (by omega)).trans h.m, off_below h.off (below_put V o' hw)⟩
theorem PjB.set (h : PjB bp w5 P C M V) (j : Nat) (u : Value) (hM : (mC M P C).setIfInBounds j u = mC M' P C) : PjB bp w5 P C M' (V.setCell ⟨bp, j, none⟩ u) := ⟨by rw [setCell_at h.m, hM], h.off.setCell (p := ⟨bp, j, none⟩) rfl _⟩
end
theorem kf_one {V W : World} {b s : Nat} (h : Off (fun q => q = b) V W) (hb : b < s) : KeepsFrom s V W := ⟨h.size, fun q o hq ho _ => (h.block q (Array.getElem?_eq_some_iff.1 ho).1 (by omega)).trans ho⟩
theorem ket_one {V W : World} {b lo : Nat} {tf ti : TypeId} (h : Off (fun q => q = b) V W) (hb : b < lo) : KeT tf ti lo V W := ⟨h.size, fun q cs t hq _ hA => h.block q (Array.getElem?_eq_some_iff.1 hA).1 (by omega)⟩
theorem prj_p (M : Mg) (f : Fd) : (prj M f).p = M.p := by
  unfold prj
  repeat' split
  all_goals first | rfl | exact Mg.put_p ..
theorem prj_c (M : Mg) (f : Fd) : (prj M f).c = M.c := by
  unfold prj
  repeat' split
  all_goals first | rfl | exact Mg.put_c ..
theorem fold_prj_p : ∀ (L : List Fd) (M : Mg), (L.foldl prj M).p = M.p
  | [], _ => rfl
  | f :: r, M => by rw [List.foldl_cons, fold_prj_p r, prj_p]
theorem fold_prj_c : ∀ (L : List Fd) (M : Mg), (L.foldl prj M).c = M.c
  | [], _ => rfl
  | f :: r, M => by rw [List.foldl_cons, fold_prj_c r, prj_c]

set_option maxHeartbeats 16000000 in
theorem mproject_any (M : Mg) (P C : Value) (v : Int) (w : World) (hs : Msm M) (h1 : MAt w w.heap.size M P C) : Calls Try.prog 27 #[mV M P C, .int .i64 v] w fun e w' => MR w (mproj M v) e w' := by
  obtain ⟨w2, hw2⟩ : ∃ w2, w2 = ((w.alloc (.cells (mC M P C) 33)).alloc (.cells #[.int .i64 v] 3)).alloc (.cells (mC (Mg.zero 0) (.slice none 0 0) (.slice none 0 0)) 33) := ⟨_, rfl⟩
  have hs2 : w2.heap.size = w.heap.size + 3 := by rw [hw2]; simp
  have hb2 : Below w.heap.size w w2 := by rw [hw2]; exact (((Below.refl _ w).alloc (Nat.le_refl _) _).alloc (by simp) _).alloc (by simp; omega) _
  have q0 : w2.heap[w.heap.size]? = some (.cells (mC M P C) 33 (0, 0)) := by
    rw [hw2, Below.heap_alloc _ _ _ (by simp; omega), Below.heap_alloc _ _ _ (by simp)]; exact World.alloc_heap_new _ _
  have q1 : w2.heap[w.heap.size + 1]? = some (.cells #[.int .i64 v] 3 (0, 0)) := by
    have := World.alloc_heap_new (w.alloc (.cells (mC M P C) 33)) (.cells #[.int .i64 v] 3)
    rw [World.size_alloc] at this
    rw [hw2, Below.heap_alloc _ _ _ (by simp)]; exact this
  have q2 : w2.heap[w.heap.size + 2]? = some (.cells (mC (Mg.zero 0) (.slice none 0 0) (.slice none 0 0)) 33 (0, 0)) := by
    have := World.alloc_heap_new ((w.alloc (.cells (mC M P C) 33)).alloc (.cells #[.int .i64 v] 3)) (.cells (mC (Mg.zero 0) (.slice none 0 0) (.slice none 0 0)) 33)
    rw [World.size_alloc, World.size_alloc] at this
    rw [hw2]; exact this
  obtain ⟨G, hG⟩ : ∃ G, mproj M v = G := ⟨_, rfl⟩
  rw [hG]
  unfold mproj at hG
  have KC := Lib.hid (mcopy_any M P C w2 hs ((h1.below hb2).mono hb2.size))
  unfold MR
  unfold mV at KC ⊢
  simp only [mC, Mg.zero] at hw2 KC q0 q1 q2 ⊢
  have HW := Lib.hid hw2
  have HB2 := Lib.hid hb2
  have HQ := Lib.hid (And.intro q0 (And.intro q1 q2))
  clear hw2 hb2 q0 q1 q2 h1 hs
  by_cases hv : v = 1
  case neg =>
    go_enter Try.func27, Try.ntmps27
    go_wp2
    refine wp_scope_straight ?_
    go_wp2_with fail
    rw [← HW.out]
    refine KC.out.mono ?_
    intro e w3 hMR
    unfold MR at hMR
    obtain ⟨P3, C3, rfl, ho3, hb3⟩ := hMR
    obtain ⟨⟨a3, cp3, rfl, _, _⟩, ⟨b3, cb3, rfl, _, _⟩⟩ := ho3.at
    obtain ⟨np, hnp⟩ : ∃ np, M.p.length = np := ⟨_, rfl⟩
    obtain ⟨nc, hnc⟩ : ∃ nc, M.c.length = nc := ⟨_, rfl⟩
    unfold mV mC
    rw [hnp, hnc] at ho3 ⊢
    have HLT := Lib.hid (And.intro ho3.p.lt ho3.c.lt)
    obtain ⟨w4, hw4⟩ : ∃ w4, w3.alloc (.cells #[.int .i64 M.k, .int .i64 M.n0, .int .i64 M.n1, .int .i64 M.n2, .int .i64 M.n3, .int .i64 M.n4, .int .i64 M.n5, .slice a3 np cp3, .slice b3 nc cb3, .string M.tx, .string M.tg] 33) = w4 := ⟨_, rfl⟩
    have hs4 : w4.heap.size = w3.heap.size + 1 := by rw [← hw4]; simp
    have hb34 : Below w3.heap.size w3 w4 := by rw [← hw4]; exact (Below.refl _ w3).alloc (Nat.le_refl _) _
    have r4 : w4.heap[w3.heap.size]? = some (.cells (mC M (.slice a3 np cp3) (.slice b3 nc cb3)) 33 (0, 0)) := by rw [← hw4]; exact World.alloc_heap_new _ _
    have ho4 := ho3.later hb34
    have hs3 := hb3.size
    have hb24 : Below w2.heap.size w2 w4 := hb3.trans (hb34.mono hs3)
    have p0 := (hb24.block w.heap.size (by omega)).trans HQ.out.1
    have p1 := (hb24.block (w.heap.size + 1) (by omega)).trans HQ.out.2.1
    have p2 := (hb24.block (w.heap.size + 2) (by omega)).trans HQ.out.2.2
    have HB4 := Lib.hid (HB2.out.trans (hb24.mono HB2.out.size))
    have hge : w.heap.size + 3 ≤ w3.heap.size := by omega
    have HSZ := Lib.hid (show w.heap.size + 3 = w2.heap.size by omega)
    have HO4 := Lib.hid ho4
    have HW4 := Lib.hid hw4
    have hv1 := row_cell p1 0 _ rfl
    clear KC HW ho3 ho4 hb3 hb34 hb24 HQ HB2 hs2 hs3
    have hvn : (v != 1) = true := by simpa using hv
    rw [if_neg hv] at hG
    subst hG
    obtain ⟨f0, f1, f2, f3, f4, f5, f6, f7, f8, f9, f10⟩ := mg_block r4
    rw [← hw4] at f0 f1 f2 f3 f4 f5 f6 f7 f8 f9 f10 hv1
    have HP2 := Lib.hid p2
    have HP2' := Lib.hid (hw4.symm ▸ p2)
    clear hw4 p0 p1 p2 r4 hv
    go_wp2_with (refine wpList_store_row rfl 33 (.tmp 4) (.tmp 11) rfl (w.heap.size + 1 + 1) #[.int .i64 M.k, .int .i64 M.n0, .int .i64 M.n1, .int .i64 M.n2, .int .i64 M.n3, .int .i64 M.n4, .int .i64 M.n5, .slice a3 np cp3, .slice b3 nc cb3, .string M.tx, .string M.tg] rfl rfl 33 _ HP2'.out mgInfo rfl (by simp [Value.oneCell']) ?_)
    rw [HW4.out]
    have hfin := setRow_heap w4 (w.heap.size + 1 + 1) _ #[.int .i64 M.k, .int .i64 M.n0, .int .i64 M.n1, .int .i64 M.n2, .int .i64 M.n3, .int .i64 M.n4, .int .i64 M.n5, .slice a3 np cp3, .slice b3 nc cb3, .string M.tx, .string M.tg] _ _ HP2.out
    have hoff := Off.setRow (S := fun k => k = w.heap.size + 1 + 1) (Off.refl _ w4) rfl #[.int .i64 M.k, .int .i64 M.n0, .int .i64 M.n1, .int .i64 M.n2, .int .i64 M.n3, .int .i64 M.n4, .int .i64 M.n5, .slice a3 np cp3, .slice b3 nc cb3, .string M.tx, .string M.tg]
    have hbf := HB4.out.trans (hoff.below (B := w.heap.size) (fun k hk => by omega) HB4.out.size)
    have hof := HO4.out.off hoff (fun g hg e => by have := (HLT.out.1 g hg).1; have := HSZ.out; omega) (fun g hg e => by have := (HLT.out.2 g hg).1; have := HSZ.out; omega)
    generalize w4.setRow (w.heap.size + 1 + 1) _ = Wf at *
    obtain ⟨y0, y1, y2, y3, y4, y5, y6, y7, y8, y9, y10⟩ := mg_block hfin
    simp only [Exit.noGoto]
    refine bodyPost_ret (v := .agg #[.int .i64 M.k, .int .i64 M.n0, .int .i64 M.n1, .int .i64 M.n2, .int .i64 M.n3, .int .i64 M.n4, .int .i64 M.n5, .slice a3 np cp3, .slice b3 nc cb3, .string M.tx, .string M.tg]) (by simp [results, Try.results27, go_sem, y0, y1, y2, y3, y4, y5, y6, y7, y8, y9, y10]) rfl ?_
    exact ⟨_, _, rfl, hof.less (by have := HSZ.out; omega), hbf⟩
  subst hv
  rw [if_pos rfl] at hG
  refine (callsIn_wide (n := 9)).1 ?_
  refine callsIn_of_wp_marks Try.func27 rfl trivial ?_ rfl
  simp only [Try.ntmps27, List.size_toArray, List.length_cons, List.length_nil, Nat.reduceAdd, Nat.reduceSub, Array.replicate_succ, Array.replicate_zero, List.push_toArray, List.append_toArray, List.nil_append, List.cons_append]
  gi_wp2_with fail
  refine wpIn_wide.2 (wp_scope_straight ((wpIn_wide (n := 9)).1 ?_))
  gi_wp2_with fail
  refine ⟨trivial, ?_⟩
  rw [← HW.out]
  refine (callsIn_wide.2 KC.out).mono ?_
  intro e w3 hMR
  unfold MR at hMR
  obtain ⟨P3, C3, rfl, ho3, hb3⟩ := hMR
  obtain ⟨⟨a3, cp3, rfl, _, _⟩, ⟨b3, cb3, rfl, _, _⟩⟩ := ho3.at
  obtain ⟨np, hnp⟩ : ∃ np, M.p.length = np := ⟨_, rfl⟩
  obtain ⟨nc, hnc⟩ : ∃ nc, M.c.length = nc := ⟨_, rfl⟩
  unfold mV mC
  rw [hnp, hnc] at ho3 ⊢
  have HLT := Lib.hid (And.intro ho3.p.lt ho3.c.lt)
  obtain ⟨w4, hw4⟩ : ∃ w4, w3.alloc (.cells #[.int .i64 M.k, .int .i64 M.n0, .int .i64 M.n1, .int .i64 M.n2, .int .i64 M.n3, .int .i64 M.n4, .int .i64 M.n5, .slice a3 np cp3, .slice b3 nc cb3, .string M.tx, .string M.tg] 33) = w4 := ⟨_, rfl⟩
  have hs4 : w4.heap.size = w3.heap.size + 1 := by rw [← hw4]; simp
  have hb34 : Below w3.heap.size w3 w4 := by rw [← hw4]; exact (Below.refl _ w3).alloc (Nat.le_refl _) _
  have r4 : w4.heap[w3.heap.size]? = some (.cells (mC M (.slice a3 np cp3) (.slice b3 nc cb3)) 33 (0, 0)) := by rw [← hw4]; exact World.alloc_heap_new _ _
  have ho4 := ho3.later hb34
  have hs3 := hb3.size
  have hb24 : Below w2.heap.size w2 w4 := hb3.trans (hb34.mono hs3)
  have p0 := (hb24.block w.heap.size (by omega)).trans HQ.out.1
  have p1 := (hb24.block (w.heap.size + 1) (by omega)).trans HQ.out.2.1
  have p2 := (hb24.block (w.heap.size + 2) (by omega)).trans HQ.out.2.2
  have HB4 := Lib.hid (HB2.out.trans (hb24.mono HB2.out.size))
  have hge : w.heap.size + 3 ≤ w3.heap.size := by omega
  have HSZ := Lib.hid (show w.heap.size + 3 = w2.heap.size by omega)
  have HO4 := Lib.hid ho4
  have HW4 := Lib.hid hw4
  have hv1 := row_cell p1 0 _ rfl
  clear KC HW ho3 ho4 hb3 hb34 hb24 HQ HB2 hs2 hs3
  have kk := row_cell p0 0 _ rfl
  rw [← hw4] at kk hv1
  have hPJ : PjB w3.heap.size w4 (.slice a3 np cp3) (.slice b3 nc cb3) M w4 := ⟨r4, Off.refl _ _⟩
  clear hw4
  gi_wp2_with fail
  apply wpIn_label
  gi_wp2_with fail
  rw [HW4.out]
  refine ⟨trivial, (callsIn_wide.2 (fall_any M.k 2 w4)).mono ?_⟩
  rintro e w5 ⟨rfl, hg0, hg1, hb5⟩
  have hs5 := (Array.getElem?_eq_some_iff.1 hg1).1
  have hPJ5 := hPJ.later hb5
  have hPJ5 : PjB w3.heap.size w5 (.slice a3 np cp3) (.slice b3 nc cb3) M w5 := ⟨hPJ5.m, Off.refl _ _⟩
  have HB5 := Lib.hid (HB4.out.trans (hb5.mono HB4.out.size))
  have HO5 := Lib.hid (HO4.out.later hb5)
  have HP2 := Lib.hid ((hb5.block _ (by omega)).trans p2)
  have HV1 := Lib.hid ((hb5.block _ (by omega)).trans p1)
  rw [hs4] at hg0 hg1 hs5
  have KA := Lib.hid (FDv_two M.k)
  have KF := Lib.hid (FD_fdok M.k)
  obtain ⟨L, hL⟩ : ∃ L, FD M.k = L := ⟨_, rfl⟩
  rw [hL] at hG KA KF
  have HG := Lib.hid hG
  clear hL hG hPJ HB4 HO4 HW4 hb5 p0 p1 p2 r4 kk hv1
  gi_wp2_with fail
  refine range_stopb rfl (by omega) (gf := 44) (lb := #[.pointer (some ⟨w3.heap.size + 1, 0, none⟩), .pointer (some ⟨w3.heap.size + 1 + 1, 0, none⟩)]) rfl trivial (enters_of Try.func44 (by kernel_rfl) rfl)
    (fun f : Fd => #[f.v]) (fun _ => rfl)
    (fun j f V => L[j]? = some f ∧ PjB w3.heap.size w5 (.slice a3 np cp3) (.slice b3 nc cb3) ((L.take j).foldl prj M) V)
    (fun j f q V => (L[j]? = some f ∧ PjB w3.heap.size w5 (.slice a3 np cp3) (.slice b3 nc cb3) ((L.take j).foldl prj M) V) ∧ w5.heap.size ≤ q ∧ V.heap[q]? = some (.cells f.cs 75 (0, 0)))
    (fun j V => PjB w3.heap.size w5 (.slice a3 np cp3) (.slice b3 nc cb3) ((L.take j).foldl prj M) V)
    (fun cd V => False)
    (KeT 75 3 (w3.heap.size + 1)) L.length
    (fun j f q V l o o' h hl ho hc' => ⟨⟨h.1.1, h.1.2.putObj hl (by omega)⟩, h.2.1, (World.putObj_heap_other (fun e => by subst e; rw [h.2.2] at ho; injection ho with ho; subst ho; cases hc')).trans h.2.2⟩)
    (fun j V l o o' h hl ho hc' => h.putObj hl (by omega))
    (fun cd V l o o' h hl ho hc' => h)
    (fun _ _ _ h k => h.trans k) (fun V l o o' hl ho hc' => KeT.putObj ho hc')
    (fun o => (hPJ5.later ((Below.refl _ w5).alloc (Nat.le_refl _) _)).later ((Below.refl _ _).alloc (Nat.le_refl _) _)) ?round ?iter ?done ?stop
  case round =>
    rintro l j f V K ⟨hf, hP⟩ hj hK
    have HK := Lib.hid hK
    have hsz := hP.off.size
    clear hK
    unfold Fd.v Fd.cs
    gi_wp2_with fail
    refine HK.out _ V.heap.size _ ⟨⟨hf, hP.later ((Below.refl _ V).alloc (Nat.le_refl _) _)⟩, hsz, World.alloc_heap_new _ _⟩ ⟨by simp, fun q o _ ho _ => (Below.heap_alloc _ _ _ (Array.getElem?_eq_some_iff.1 ho).1).trans ho⟩ (KeT.of_below ((Below.refl _ V).alloc (Nat.le_refl _) _)) ?_
    clear HK hP
    rintro l V2 hl ⟨⟨_, hP⟩, hq, hc⟩
    obtain ⟨qb, hqb⟩ : ∃ qb, V.heap.size = qb := ⟨_, rfl⟩
    rw [hqb] at hq hc ⊢
    clear hqb
    obtain ⟨d0, d1, d2, d3, d4, d5, d6⟩ := fd_block hc
    have ok := KF.out f (List.mem_of_getElem? hf)
    have hst := fold_take hf prj M
    obtain ⟨Mj, hMj⟩ : ∃ Mj, (L.take j).foldl prj M = Mj := ⟨_, rfl⟩
    rw [hMj] at hP hst
    clear hf hMj
    have hv1 := row_cell ((hP.off.block _ (by omega) (by omega)).trans HV1.out) 0 _ rfl
    have HST := Lib.hid hst
    have hm := hP.m
    by_cases hsi : f.si ≤ 1
    · have hfin := Lib.hid (show KeepsFrom w5.heap.size V2 V2 ∧ _ from ⟨⟨Nat.le_refl _, fun _ _ _ ho _ => ho⟩, show PjB w3.heap.size w5 (.slice a3 np cp3) (.slice b3 nc cb3) (prj Mj f) V2 by rw [show prj Mj f = Mj from if_pos hsi]; exact hP⟩)
      clear hP hst hm ok hc
      gi_wp2
      exact ⟨hfin.out.1, by rw [HST.out]; exact hfin.out.2, KeT.refl _⟩
    · by_cases h6 : f.so = 6
      · have hp6 : prj Mj f = { Mj with tg := ⟨#[]⟩ } := by unfold prj; rw [if_neg hsi, if_pos h6]
        have hP2 := hP.set (M' := prj Mj f) 10 (.string ⟨#[]⟩) (by rw [hp6]; rfl)
        have hoff := (Off.refl (fun q => q = w3.heap.size) V2).setCell (p := ⟨w3.heap.size, 10, none⟩) rfl (.string ⟨#[]⟩)
        have HF := Lib.hid (And.intro (kf_one hoff (s := w5.heap.size) (by omega)) (And.intro hP2 (ket_one (tf := 75) (ti := 3) hoff (lo := (w3.heap.size + 1)) (by omega))))
        have c10 := (mg_block hm).2.2.2.2.2.2.2.2.2.2
        have z10 := frozen_of_row V2 w3.heap.size 10 _ _ hm
        rw [h6] at d1
        clear hP hst hm ok hc hP2 hoff hp6
        gi_wp2
        exact ⟨HF.out.1, by rw [HST.out]; exact HF.out.2.1, HF.out.2.2⟩
      · have hs6 : (f.so == 6) = false := by simpa using h6
        by_cases h3 : f.so < 3
        · obtain ⟨jn, hjn, hpl⟩ := ok.pl h3
          have hp6 : prj Mj f = Mj.put jn f.ab := by unfold prj; rw [if_neg hsi, if_neg h6, if_pos (by omega), hpl, Int.toNat_natCast]
          have hP2 := hP.set (M' := prj Mj f) (1 + jn) (.int .i64 f.ab) (by rw [hp6, mC_put hjn])
          have hoff := (Off.refl (fun q => q = w3.heap.size) V2).setCell (p := ⟨w3.heap.size, 1 + jn, none⟩) rfl (.int .i64 f.ab)
          have HF := Lib.hid (And.intro (kf_one hoff (s := w5.heap.size) (by omega)) (And.intro hP2 (ket_one (tf := 75) (ti := 3) hoff (lo := (w3.heap.size + 1)) (by omega))))
          have cn := mg_at hm hjn
          have zn := frozen_of_row V2 w3.heap.size (1 + jn) _ _ hm
          rw [hpl] at d2
          have hj6 : (jn : Int) < 6 := by omega
          clear hP hst hm ok hc hP2 hoff hp6 hpl h3
          gi_wp2
          exact ⟨HF.out.1, by rw [HST.out]; exact HF.out.2.1, HF.out.2.2⟩
        · have hno := ok.no h3
          have hp6 : prj Mj f = Mj := by unfold prj; rw [if_neg hsi, if_neg h6, if_neg (by omega)]
          have hfin := Lib.hid (show KeepsFrom w5.heap.size V2 V2 ∧ _ from ⟨⟨Nat.le_refl _, fun _ _ _ ho _ => ho⟩, show PjB w3.heap.size w5 (.slice a3 np cp3) (.slice b3 nc cb3) (prj Mj f) V2 by rw [hp6]; exact hP⟩)
          rw [hno] at d2
          clear hP hst hm ok hc hp6 hno h3
          gi_wp2
          exact ⟨hfin.out.1, by rw [HST.out]; exact hfin.out.2, KeT.refl _⟩
  case iter =>
    intro Bk X l V hBk hBlt hX hl hD hB hY
    have h := fall_in 8 (by omega) 7 l (w3.heap.size + 1) M.k 2 (fun j V => PjB w3.heap.size w5 (.slice a3 np cp3) (.slice b3 nc cb3) ((L.take j).foldl prj M) V ∧ Bk V) X
      (fun j A B h hb => ⟨h.1.later hb, hBk A _ h.2 hb.size (fun q h1 h2 => by have := hBlt A h.2; exact hb.block q (by omega))⟩)
      (fun j f W h hf => by
        rw [KA.out] at hf
        exact (hY j f W ⟨hf, h.1⟩ h.2 (List.getElem?_eq_some_iff.1 hf).1).mono (fun e W2 h => h.elim (fun h => .inl ⟨h.1, h.2.1, h.2.2.1⟩) (fun h => .inr ⟨h.1, h.2.1⟩)))
      V ((hD.off.block _ (by omega) (by omega)).trans hg0) ((hD.off.block _ (by omega) (by omega)).trans hg1) ⟨hD, hB⟩
    rw [KA.out] at h
    exact h
  case done =>
    rintro D V hD hP hK
    rw [List.take_length, HG.out] at hP
    have hGp : G.p = M.p := by rw [← HG.out, fold_prj_p]
    have hGc : G.c = M.c := by rw [← HG.out, fold_prj_c]
    obtain ⟨f0, f1, f2, f3, f4, f5, f6, f7, f8, f9, f10⟩ := mg_block hP.m
    have r2 := (hP.off.block (w.heap.size + 2) (by omega) (by omega)).trans HP2.out
    have HR2 := Lib.hid r2
    have hbV := HB5.out.trans (hP.off.below (B := w.heap.size) (fun k hk => by omega) (by have := HB5.out.size; omega))
    have hoV := HO5.out.off hP.off (fun g hg e => by have := (HLT.out.1 g hg).2; omega) (fun g hg e => by have := (HLT.out.2 g hg).2; omega)
    have HBV := Lib.hid hbV
    have HOV := Lib.hid hoV
    have HKD := Lib.hid hK
    have hD2 : D ≠ w.heap.size + 1 + 1 := by omega
    clear hP r2 hbV hoV hK
    have HST := Lib.hid (mg_store V (w.heap.size + 1 + 1) _ #[.int .i64 G.k, .int .i64 G.n0, .int .i64 G.n1, .int .i64 G.n2, .int .i64 G.n3, .int .i64 G.n4, .int .i64 G.n5, .slice a3 np cp3, .slice b3 nc cb3, .string G.tx, .string G.tg] HR2.out rfl rfl (by simp [Value.oneCell']))
    gi_wp2_with (refine wpListIn_store_run rfl 33 (.tmp 4) (.tmp 36) rfl (some ⟨w.heap.size + 1 + 1, 0, none⟩) rfl (.agg #[.int .i64 G.k, .int .i64 G.n0, .int .i64 G.n1, .int .i64 G.n2, .int .i64 G.n3, .int .i64 G.n4, .int .i64 G.n5, .slice a3 np cp3, .slice b3 nc cb3, .string G.tx, .string G.tg]) rfl HST.out ?_)
    have hfin := setRow_heap V (w.heap.size + 1 + 1) _ #[.int .i64 G.k, .int .i64 G.n0, .int .i64 G.n1, .int .i64 G.n2, .int .i64 G.n3, .int .i64 G.n4, .int .i64 G.n5, .slice a3 np cp3, .slice b3 nc cb3, .string G.tx, .string G.tg] _ _ HR2.out
    have hoff := Off.setRow (S := fun k => k = w.heap.size + 1 + 1) (Off.refl _ V) rfl #[.int .i64 G.k, .int .i64 G.n0, .int .i64 G.n1, .int .i64 G.n2, .int .i64 G.n3, .int .i64 G.n4, .int .i64 G.n5, .slice a3 np cp3, .slice b3 nc cb3, .string G.tx, .string G.tg]
    have hbf := HBV.out.trans (hoff.below (B := w.heap.size) (fun k hk => by omega) HBV.out.size)
    have hof := HOV.out.off hoff (fun g hg e => by have := (HLT.out.1 g hg).1; have := HSZ.out; omega) (fun g hg e => by have := (HLT.out.2 g hg).1; have := HSZ.out; omega)
    have HKf := (setRow_other V (w.heap.size + 1 + 1) D #[.int .i64 G.k, .int .i64 G.n0, .int .i64 G.n1, .int .i64 G.n2, .int .i64 G.n3, .int .i64 G.n4, .int .i64 G.n5, .slice a3 np cp3, .slice b3 nc cb3, .string G.tx, .string G.tg] hD2).trans HKD.out
    generalize V.setRow (w.heap.size + 1 + 1) _ = Wf at *
    simp only [Exit.noGoto]
    refine ⟨by simp, .inl ⟨_, _, rfl, run_takeDeferred HKf, ?_⟩⟩
    obtain ⟨y0, y1, y2, y3, y4, y5, y6, y7, y8, y9, y10⟩ := mg_block (W := Wf.putObj D (.deferred none)) ((World.putObj_heap_other (by omega)).trans hfin)
    refine ⟨.agg #[.int .i64 G.k, .int .i64 G.n0, .int .i64 G.n1, .int .i64 G.n2, .int .i64 G.n3, .int .i64 G.n4, .int .i64 G.n5, .slice a3 np cp3, .slice b3 nc cb3, .string G.tx, .string G.tg], by simp [results, Try.f27, go_sem, y0, y1, y2, y3, y4, y5, y6, y7, y8, y9, y10], _, _, rfl, ?_, hbf.trans (below_put _ _ (by omega))⟩
    refine MOwn.less (base := w2.heap.size) ?_ (by have := HSZ.out; omega)
    exact ⟨by rw [hGp]; exact ownsRow_putObj hof.p _ HKf rfl, by rw [hGc]; exact ownsRow_putObj hof.c _ HKf rfl⟩
  case stop => exact fun _ _ _ _ h => h.elim
end Go.Proofs.Ytlbfibnfmijahaa

namespace Go.Proofs.Ytlbfibnfmijahaa
open Go.RowKit Go.Shelf
set_option maxRecDepth 100000
attribute [local go_sem] Oper.semAt_some

/-- a message's box b2, its lists in rows of its own at base or above -/
structure NwB (b2 base : Nat) (w4 : World) (M : Mg) (V : World) : Prop where
  m : ∃ P C, V.heap[b2]? = some (.cells (mC M P C) 33 (0, 0)) ∧ MOwn base V M P C
  off : Off (fun q => q = b2) w4 V
section
variable {b2 base : Nat} {w4 V V' : World} {M M' : Mg}
theorem NwB.later (h : NwB b2 base w4 M V) (hb : Below V.heap.size V V') : NwB b2 base w4 M V' := by
  obtain ⟨P, C, h1, h2⟩ := h.m
  exact ⟨⟨P, C, (hb.block _ (Array.getElem?_eq_some_iff.1 h1).1).trans h1, h2.later hb⟩, off_below h.off (hb.mono h.off.size)⟩
theorem NwB.putObj {l : Nat} {o o' : Obj} (h : NwB b2 base w4 M V) (hw : w4.heap.size ≤ l) (hb2 : b2 < w4.heap.size) (ho : V.heap[l]? = some o) (hc : o.isCells = false) : NwB b2 base w4 M (V.putObj l o') := by
  obtain ⟨P, C, h1, h2⟩ := h.m
  exact ⟨⟨P, C, (World.putObj_heap_other (by omega)).trans h1, ⟨ownsRow_putObj h2.p _ ho hc, ownsRow_putObj h2.c _ ho hc⟩⟩, off_below h.off (below_put V o' hw)⟩
/-- a cell of the message turned -/
theorem NwB.set (h : NwB b2 base w4 M V) (hb : b2 < base) (j : Nat) (u : Value) (hM : ∀ P C, MOwn base V M P C → ∃ P' C', (mC M P C).setIfInBounds j u = mC M' P' C' ∧ MOwn base V M' P' C') : NwB b2 base w4 M' (V.setCell ⟨b2, j, none⟩ u) := by
  obtain ⟨P, C, h1, h2⟩ := h.m
  obtain ⟨P', C', h3, h4⟩ := hM P C h2
  refine ⟨⟨P', C', by rw [setCell_at h1, h3], ⟨ownsRow_setCell_below h4.p (a := ⟨b2, j, none⟩) hb _, ownsRow_setCell_below h4.c (a := ⟨b2, j, none⟩) hb _⟩⟩, h.off.setCell (p := ⟨b2, j, none⟩) rfl _⟩
end
end Go.Proofs.Ytlbfibnfmijahaa

namespace Go.Proofs.Ytlbfibnfmijahaa
open Go.RowKit Go.Shelf
set_option maxRecDepth 100000
attribute [local go_sem] Oper.semAt_some

end Go.Proofs.Ytlbfibnfmijahaa

namespace Go.Proofs.Ytlbfibnfmijahaa
open Go.RowKit Go.Shelf
set_option maxRecDepth 100000
attribute [local go_sem] Oper.semAt_some

end Go.Proofs.Ytlbfibnfmijahaa

namespace Go.Proofs.Ytlbfibnfmijahaa
open Go.RowKit Go.Shelf
set_option maxRecDepth 100000
attribute [local go_sem] Oper.semAt_some

end Go.Proofs.Ytlbfibnfmijahaa

namespace Go.Proofs.Ytlbfibnfmijahaa
open Go.RowKit Go.Shelf
set_option maxRecDepth 100000
attribute [local go_sem] Oper.semAt_some

end Go.Proofs.Ytlbfibnfmijahaa

namespace Go.Proofs.Ytlbfibnfmijahaa
open Go.RowKit Go.Shelf
set_option maxRecDepth 100000
attribute [local go_sem] Oper.semAt_some

section
variable {b2 base : Nat} {w4 V V' : World} {M M' : Mg}
end
end Go.Proofs.Ytlbfibnfmijahaa

namespace Go.Proofs.Ytlbfibnfmijahaa
open Go.RowKit
section
variable {P : Program} {l : List Oper} {I : World → Prop} {fs : List Tmp} {FS : Tmp → Value → World → Prop} {E : Act → Prop} {o : Oper} {rest : List Oper} {a : Act}
end
end Go.Proofs.Ytlbfibnfmijahaa

namespace Go.Proofs.Ytlbfibnfmijahaa
open Go.RowKit Go.Shelf
set_option maxRecDepth 100000
attribute [local go_sem] Oper.semAt_some

theorem prj_small {M : Mg} (h : Msm M) (f : Fd) : Msm (prj M f) := by
  refine ⟨by rw [prj_p]; exact h.p, by rw [prj_c]; exact h.c, ?_, ?_⟩
  · unfold prj
    repeat' split
    · exact h.tx
    · exact h.tx
    · rw [Mg.put_tx]; exact h.tx
    · exact h.tx
  · unfold prj
    repeat' split
    · exact h.tg
    · exact Nat.zero_le _
    · rw [Mg.put_tg]; exact h.tg
    · exact h.tg
theorem fold_prj_small : ∀ (L : List Fd) {M : Mg}, Msm M → Msm (L.foldl prj M)
  | [], _, h => h
  | f :: r, _, h => by rw [List.foldl_cons]; exact fold_prj_small r (prj_small h f)
theorem mproj_small {M : Mg} (h : Msm M) (v : Int) : Msm (mproj M v) := by
  unfold mproj
  split
  · exact fold_prj_small _ h
  · exact h
/-- a message that a call has made -/
def FMs (M : Mg) (x : Value) (W : World) : Prop := ∃ P C, x = mV M P C ∧ MAt W W.heap.size M P C
theorem FMs.later {M : Mg} {x : Value} {W W' : World} (h : FMs M x W) (hb : Below W.heap.size W W') : FMs M x W' := by
  obtain ⟨P, C, h1, h2⟩ := h
  exact ⟨P, C, h1, h2.later hb⟩
section
variable {M M' : Mg} {x y : Value} {W : World}
theorem chk_F (hs : Msm M) (h : FMs M x W) : Calls Try.prog 22 #[x] W fun e w' => e = .returned (.int .i64 (mck M)) ∧ Below W.heap.size W w' := by
  obtain ⟨P, C, rfl, h1⟩ := h
  exact mcheck_any M P C W hs h1
theorem proj_F (v : Int) (hs : Msm M) (h : FMs M x W) : Calls Try.prog 27 #[x, .int .i64 v] W fun e w' => ∃ u, e = .returned u ∧ FMs (mproj M v) u w' ∧ Below W.heap.size W w' := by
  obtain ⟨P, C, rfl, h1⟩ := h
  refine (mproject_any M P C v W hs h1).mono fun e w' h => ?_
  obtain ⟨P, C, rfl, ho, hb⟩ := h
  exact ⟨_, rfl, ⟨P, C, rfl, ho.at⟩, hb⟩
theorem same_F (hs : Msm M) (h : FMs M x W) (h' : FMs M' y W) : Calls Try.prog 11 #[x, y] W fun e w' => e = .returned (.bool (decide (M = M'))) ∧ Below W.heap.size W w' := by
  obtain ⟨P, C, rfl, h1⟩ := h
  obtain ⟨P', C', rfl, h2⟩ := h'
  exact msame_any M M' P C P' C' W hs h1 h2
theorem copy_F (hs : Msm M) (h : FMs M x W) : Calls Try.prog 26 #[x] W fun e w' => ∃ u, e = .returned u ∧ FMs M u w' ∧ Below W.heap.size W w' := by
  obtain ⟨P, C, rfl, h1⟩ := h
  refine (mcopy_any M P C W hs h1).mono fun e w' h => ?_
  obtain ⟨P, C, rfl, ho, hb⟩ := h
  exact ⟨_, rfl, ⟨P, C, rfl, ho.at⟩, hb⟩
end
/-- a message's box, read -/
theorem mg_read {W : World} {b : Nat} {M : Mg} {P C : Value} {t : TypeId} (h : W.heap[b]? = some (.cells (mC M P C) t (0, 0))) :
    (Instr.loadAt 33 (.pointer (some ⟨b, 0, none⟩))).run Try.prog W = .ok (mV M P C) W := by
  obtain ⟨f0, f1, f2, f3, f4, f5, f6, f7, f8, f9, f10⟩ := mg_block h
  simp [Instr.loadAt, go_sem, f0, f1, f2, f3, f4, f5, f6, f7, f8, f9, f10, mV, mC]
end Go.Proofs.Ytlbfibnfmijahaa

namespace Go.Proofs.Ytlbfibnfmijahaa
open Go.RowKit Go.Shelf
set_option maxRecDepth 100000
attribute [local go_sem] Oper.semAt_some

end Go.Proofs.Ytlbfibnfmijahaa

namespace Go.Proofs.Ytlbfibnfmijahaa
open Go.RowKit Go.Shelf
set_option maxRecDepth 100000
attribute [local go_sem] Oper.semAt_some

theorem PenV.putObj {w4 V : World} {b g0 l : Nat} {L : List Int} {o o' : Obj} (h : PenV w4 b g0 L V) (hl : w4.heap.size ≤ l) (ho : V.heap[l]? = some o) (hc : o.isCells = false) : PenV w4 b g0 L (V.putObj l o') := by
  obtain ⟨g, hp, hg, hof, hk⟩ := h
  have hoff : Off (fun k => k = l) V (V.putObj l o') := ⟨rfl, rfl, rfl, by simp [World.putObj], fun k _ hn => World.putObj_heap_other hn⟩
  have hn : ¬ penS b g l := by
    obtain ⟨A, cap, cur, hb, hkr, -, -, hA⟩ := hp
    rintro (rfl | rfl)
    · rw [hb] at ho
      injection ho with ho
      subst ho
      cases hc
    · rcases hA with ⟨-, rfl⟩ | ⟨rfl, -⟩
      · rw [hb] at ho
        injection ho with ho
        subst ho
        cases hc
      · rw [(hkr.cells rfl).2] at ho
        injection ho with ho
        subst ho
        cases hc
  refine ⟨g, hp.off hoff (fun e => hn (.inl e.symm)) (fun e => hn (.inr e.symm)), hg, hof.trans hoff (fun k hk e => by omega), ⟨Nat.le_trans hk.size hoff.size, fun k cs t h3 h4 h5 => ?_⟩⟩
  have h6 := hk.same k cs t h3 h4 h5
  rw [← h6]
  exact hoff.block k (Array.getElem?_eq_some_iff.1 (h6.trans h5)).1 (by have := (Array.getElem?_eq_some_iff.1 h5).1; omega)
theorem PenAt.kf {V V' : World} {b g s : Nat} {room : Int} {L : List Int} {full : Bool} (h : PenAt V b g room L full) (ho : Off (penS b g) V V') : KeepsFrom s V V' := ⟨ho.size, fun q o _ hq hc => (ho.block q (Array.getElem?_eq_some_iff.1 hq).1 (by
  obtain ⟨A, cap, cur, hb, hkr, -, -, hA⟩ := h
  rintro (rfl | rfl)
  · rw [hb] at hq
    injection hq with hq
    subst hq
    cases hc
  · rcases hA with ⟨-, rfl⟩ | ⟨rfl, -⟩
    · rw [hb] at hq
      injection hq with hq
      subst hq
      cases hc
    · rw [(hkr.cells rfl).2] at hq
      injection hq with hq
      subst hq
      cases hc)).trans hq⟩
theorem PenV.row {w4 V : World} {b g0 q : Nat} {L : List Int} {cs : Array Value} (h : PenV w4 b g0 L V) (hq : w4.heap[q]? = some (.cells cs 3 (0, 0))) : V.heap[q]? = some (.cells cs 3 (0, 0)) := by
  obtain ⟨g, -, -, -, hk⟩ := h
  exact hk.row hq (by decide) (by decide)
end Go.Proofs.Ytlbfibnfmijahaa

namespace Go.Proofs.Ytlbfibnfmijahaa
open Go.RowKit
set_option maxRecDepth 100000

/-- what Get answers -/
def GetR (r : Nat × Nat × Nat) (e : Ending) : Prop := e = .returned (.tuple #[.int .u64 r.1, .int .i64 r.2.1, .int .i64 r.2.2])
theorem GetR.of {r : Nat × Nat × Nat} {a b c : Int} (ha : a = r.1) (hb : b = r.2.1) (hc : c = r.2.2) : GetR r (.returned (.tuple #[.int .u64 a, .int .i64 b, .int .i64 c])) := by
  subst ha hb hc; rfl

end Go.Proofs.Ytlbfibnfmijahaa

namespace Go.Proofs.Ytlbfibnfmijahaa
open Go.RowKit
set_option maxRecDepth 100000

/-- what the document's Get answers: the number, where it ends, the error -/
def RGetR (s : Int) (r : Nat × Nat × Nat) (e : Ending) : Prop := e = .returned (.tuple #[.int .u64 r.1, .int .i64 (s + r.2.1), .int .i64 r.2.2])
theorem RGetR.of {s : Int} {r : Nat × Nat × Nat} {a b c : Int} (ha : a = r.1) (hb : b = s + r.2.1) (hc : c = r.2.2) : RGetR s r (.returned (.tuple #[.int .u64 a, .int .i64 b, .int .i64 c])) := by
  subst ha hb hc; rfl

end Go.Proofs.Ytlbfibnfmijahaa

namespace Go.Proofs.Ytlbfibnfmijahaa
open Go.RowKit
set_option maxRecDepth 100000

end Go.Proofs.Ytlbfibnfmijahaa

namespace Go.Proofs.Ytlbfibnfmijahaa
open Go.RowKit Go.Shelf
set_option maxRecDepth 100000
attribute [local go_sem] Oper.semAt_some

/-- numbers that lie in neither of two boxes -/
def NuX (w : World) (b4 b8 : Nat) (a : Option Addr) (zs : List Int) : Prop := zs ≠ [] → ∃ b off, a = some ⟨b, off, none⟩ ∧ b ≠ b4 ∧ b ≠ b8 ∧ ∀ j c, zs[j]? = some c → w.cell? ⟨b, off + j, none⟩ = some (.int .i64 c)
section
variable {w w' : World} {b4 b8 B : Nat} {a : Option Addr} {zs : List Int}
theorem NuX.keep (h : NuX w b4 b8 a zs) (ho : Off (fun q => q = b4 ∨ q = b8) w w') : NuX w' b4 b8 a zs := fun hn => by
  obtain ⟨b, off, e, h1, h2, hc⟩ := h hn
  exact ⟨b, off, e, h1, h2, fun j c hj => ho.cell (hc j c hj) (by show ¬ (b = b4 ∨ b = b8); omega)⟩
theorem NuX.of (h : Nums .i64 w B a zs) (h4 : B ≤ b4) (h8 : B ≤ b8) : NuX w b4 b8 a zs := fun hn => by
  obtain ⟨b, off, e, hlt, hc⟩ := h hn
  exact ⟨b, off, e, by omega, by omega, hc⟩
theorem NuX.of_own {base T s n : Nat} {v : Value} (h : w.ownsRow base T s v n (zs.map (Value.int .i64))) (hs : 0 < s) (h4 : b4 < base) (h8 : b8 < base) : ∃ a c, v = .slice a n c ∧ n ≤ c ∧ NuX w b4 b8 a zs := by
  obtain ⟨A, c, rfl, hc, hn⟩ := nums_of_own h hs
  refine ⟨A, c, rfl, hc, fun hne => ?_⟩
  obtain ⟨b, off, e, hlt, hcl⟩ := hn hne
  subst e
  rcases h.2 with ⟨e0, _⟩ | ⟨g, cap, cur, e0, hg, _⟩
  · cases e0
  · injection e0 with e0
    injection e0 with e0
    injection e0 with e1 e2
    exact ⟨b, off, rfl, by omega, by omega, hcl⟩
end
section
variable {w W W' : World} {b4 b8 : Nat} {M : Mg} {P C : Value}
end
end Go.Proofs.Ytlbfibnfmijahaa

namespace Go.Proofs.Ytlbfibnfmijahaa
open Go.RowKit Go.Shelf
set_option maxRecDepth 100000
attribute [local go_sem] Oper.semAt_some

/-- a row of numbers of the call's own, whatever they are -/
def Row (H : Nat) (V : World) (T : TypeId) (s n : Nat) (v : Value) : Prop := ∃ xs : List Int, V.ownsRow H T s v n (xs.map (Value.int .i64))
section
variable {H : Nat} {V V' : World} {T : TypeId} {s n : Nat} {v : Value}
theorem Row.set (h : Row H V T s n v) (b j : Nat) (z : Int) : Row H (V.setCell ⟨b, j, none⟩ (.int .i64 z)) T s n v := by
  obtain ⟨xs, h1, h2⟩ := h
  rcases h2 with ⟨rfl, h0⟩ | ⟨g, cap, cur, rfl, hg, hh, r1, r2, r3, r4⟩
  · exact ⟨xs, h1, .inl ⟨rfl, h0⟩⟩
  · by_cases e : g = b
    · subst e
      refine ⟨xs.set j z, by simpa using h1, .inr ⟨g, cap, _, rfl, hg, setCell_at hh, r1, r2, by simpa using r3, ?_⟩⟩
      rw [Array.toList_setIfInBounds, List.take_set, r4, List.map_set]
    · exact ⟨xs, ownsRow_setCell_other ⟨h1, .inr ⟨g, cap, cur, rfl, hg, hh, r1, r2, r3, r4⟩⟩ (by simp [Value.ownBlock]; exact e) _⟩
theorem Row.later (h : Row H V T s n v) (hb : Below V.heap.size V V') : Row H V' T s n v := by
  obtain ⟨xs, h1, h2⟩ := h
  refine ⟨xs, h1, ?_⟩
  rcases h2 with h2 | ⟨g, cap, cur, hv, hg, hh, r⟩
  · exact .inl h2
  · exact .inr ⟨g, cap, cur, hv, hg, (hb.block g (Array.getElem?_eq_some_iff.1 hh).1).trans hh, r⟩
/-- the block of a row of elements -/
theorem Row.open (h : Row H V T s n v) {i : Nat} (hi : i < n) : ∃ g cap cur, v = .slice (some ⟨g, 0, none⟩) n cap ∧ H ≤ g ∧ V.heap[g]? = some (.cells cur T (0, 0)) ∧ n * s ≤ cur.size := by
  obtain ⟨xs, h1, h2⟩ := h
  rcases h2 with ⟨rfl, h0⟩ | ⟨g, cap, cur, rfl, hg, hh, r1, r2, r3, r4⟩
  · omega
  · exact ⟨g, cap, cur, rfl, hg, hh, by rw [r3]; exact Nat.mul_le_mul_right s r1⟩
theorem Row.slice (h : Row H V T s n v) : ∃ a cap, v = .slice a n cap := by
  obtain ⟨xs, h1, h2⟩ := h
  rcases h2 with ⟨rfl, h0⟩ | ⟨g, cap, cur, rfl, hg, hh, r1, r2, r3, r4⟩
  · exact ⟨none, 0, by rw [h0]⟩
  · exact ⟨_, _, rfl⟩
/-- a row's block is no box -/
theorem Row.not_box (h : Row H V T s n v) {g : Nat} {cs : Array Value} (hb : V.heap[g]? = some (.cells cs 33 (0, 0))) (hT : T ≠ 33) : ∀ q, v.ownBlock = some q → q ≠ g := by
  obtain ⟨xs, h1, h2⟩ := h
  intro q hq e
  subst e
  rcases h2 with ⟨rfl, h0⟩ | ⟨g, cap, cur, rfl, hg, hh, _⟩
  · cases hq
  · injection hq with hq
    subst hq
    rw [hh] at hb
    injection hb with hb
    injection hb with _ hb
    exact hT hb
end
/-- boxes of messages, the rows that hang on them, and what lies below -/
structure ApI (H : Nat) (w5 : World) (Bx : List (Nat × Array Value)) (R : List (TypeId × Nat × Nat × Value)) (V : World) : Prop where
  box : ∀ q ∈ Bx, H ≤ q.1 ∧ V.heap[q.1]? = some (.cells q.2 33 (0, 0))
  row : ∀ q ∈ R, q.1 ≠ 33 ∧ Row H V q.1 q.2.1 q.2.2.1 q.2.2.2
  off : Off (fun k => H ≤ k) w5 V
section
variable {H : Nat} {w5 V V' : World} {Bx : List (Nat × Array Value)} {R : List (TypeId × Nat × Nat × Value)}
theorem ApI.set (h : ApI H w5 Bx R V) {b j : Nat} {cur : Array Value} {T : TypeId} (hb : V.heap[b]? = some (.cells cur T (0, 0))) (hT : T ≠ 33) (hH : H ≤ b) (z : Int) : ApI H w5 Bx R (V.setCell ⟨b, j, none⟩ (.int .i64 z)) := by
  refine ⟨fun q hq => ⟨(h.box q hq).1, ?_⟩, fun q hq => ⟨(h.row q hq).1, (h.row q hq).2.set b j z⟩, h.off.setCell (p := ⟨b, j, none⟩) hH _⟩
  have hq2 := (h.box q hq).2
  refine (Below.heap_setCell V ⟨b, j, none⟩ _ q.1 (fun e => ?_)).trans hq2
  rw [e] at hq2
  rw [hb] at hq2
  injection hq2 with hq2
  injection hq2 with _ hq2
  exact hT hq2
theorem ApI.drew (h : ApI H w5 Bx R V) : ApI H w5 Bx R V.drew := ⟨h.box, h.row, ⟨h.off.os, h.off.tape, h.off.output, h.off.size, h.off.block⟩⟩
theorem ApI.drewN (h : ApI H w5 Bx R V) (n : Nat) : ApI H w5 Bx R (V.drewN n) := ⟨h.box, h.row, ⟨h.off.os, h.off.tape, h.off.output, h.off.size, h.off.block⟩⟩
/-- one element's number is written -/
theorem ApI.store (h : ApI H w5 Bx R V) {T : TypeId} {s n : Nat} {v : Value} (hq : (T, s, n, v) ∈ R) {i d : Nat} (hi : i < n) (hd : d < s) {g cap : Nat} (hv : v = .slice (some ⟨g, 0, none⟩) n cap) (z : Int) :
    (Instr.storeAt 3 (.pointer (some ⟨g, i * s + d, none⟩)) (.int .i64 z)).run Try.prog V = .ok () (V.setCell ⟨g, i * s + d, none⟩ (.int .i64 z)) ∧ ApI H w5 Bx R (V.setCell ⟨g, i * s + d, none⟩ (.int .i64 z)) := by
  obtain ⟨hT, hr⟩ := h.row _ hq
  dsimp only at hT hr
  obtain ⟨g', cap', cur, e, hg, hh, hn⟩ := hr.open hi
  rw [hv] at e
  injection e with e
  injection e with e
  injection e with e
  subst e
  have hlt : i * s + d < cur.size := by
    have h1 : (i + 1) * s ≤ n * s := Nat.mul_le_mul_right s hi
    rw [Nat.succ_mul] at h1
    omega
  have hc : V.cell? ⟨g, i * s + d, none⟩ = some cur[i * s + d] := row_cell hh _ _ (Array.getElem?_eq_getElem hlt)
  have hz := frozen_of_row V g (i * s + d) _ _ hh
  exact ⟨by simp [Instr.storeAt, go_sem, hc, hz], h.set hh hT hg z⟩
end
/-- a box of a message, whose lists are the call's own -/
def BoxO (H g : Nat) (W : World) : Prop := H ≤ g ∧ ∃ M P C, W.heap[g]? = some (.cells (mC M P C) 33 (0, 0)) ∧ Msm M ∧ MOwn H W M P C
theorem mown_box {H g : Nat} {W : World} {M : Mg} {P C : Value} {cs : Array Value} (h : MOwn H W M P C) (hb : W.heap[g]? = some (.cells cs 33 (0, 0))) (arr : Array Value) : MOwn H (W.setRow g arr) M P C := by
  have hoff := Off.setRow (S := fun k => k = g) (Off.refl _ W) rfl arr
  exact ⟨own_offM h.p hoff (fun q hq e => Row.not_box ⟨_, h.p⟩ hb (by decide) q hq e), own_offM h.c hoff (fun q hq e => Row.not_box ⟨_, h.c⟩ hb (by decide) q hq e)⟩
theorem BoxO.store {H g g' : Nat} {W : World} {M : Mg} {P C : Value} {cs : Array Value} (h : BoxO H g' W) (hb : W.heap[g]? = some (.cells cs 33 (0, 0))) (hs : Msm M) (ho : MOwn H W M P C) : BoxO H g' (W.setRow g (mC M P C)) := by
  obtain ⟨hH, M', P', C', h1, h2, h3⟩ := h
  by_cases e : g' = g
  · subst e
    exact ⟨hH, M, P, C, setRow_heap W _ _ _ _ _ hb, hs, mown_box ho hb _⟩
  · exact ⟨hH, M', P', C', (setRow_other _ _ _ _ e).trans h1, h2, mown_box h3 hb _⟩
end Go.Proofs.Ytlbfibnfmijahaa

namespace Go.Proofs.Ytlbfibnfmijahaa
open Go.RowKit Go.Shelf
set_option maxRecDepth 100000
attribute [local go_sem] Oper.semAt_some

section
variable {S : Nat → Prop} {w W W' : World} {b4 b8 : Nat} {M : Mg} {P C : Value}
end
end Go.Proofs.Ytlbfibnfmijahaa

namespace Go.Proofs.Ytlbfibnfmijahaa
open Go.RowKit

/-- the numbers zs lie at a, in a block from lo on, below hi -/
def NumsIn (k : IntKind) (w : World) (lo hi : Nat) (a : Option Addr) (zs : List Int) : Prop :=
  zs ≠ [] → ∃ b off, a = some ⟨b, off, none⟩ ∧ lo ≤ b ∧ b < hi ∧ ∀ j c, zs[j]? = some c → w.cell? ⟨b, off + j, none⟩ = some (.int k c)
/-- the blocks from lo on, below hi, are as they were -/
def Keeps (lo hi : Nat) (W W' : World) : Prop := W.heap.size ≤ W'.heap.size ∧ ∀ k, lo ≤ k → k < hi → W'.heap[k]? = W.heap[k]?
theorem Keeps.refl (lo hi : Nat) (W : World) : Keeps lo hi W W := ⟨Nat.le_refl _, fun _ _ _ => rfl⟩
theorem Keeps.trans {lo hi : Nat} {A B C : World} (h : Keeps lo hi A B) (k : Keeps lo hi B C) : Keeps lo hi A C := ⟨Nat.le_trans h.1 k.1, fun i h1 h2 => (k.2 i h1 h2).trans (h.2 i h1 h2)⟩
theorem Keeps.of_below {lo hi : Nat} {A B : World} (h : Below hi A B) : Keeps lo hi A B := ⟨h.size, fun k _ h2 => h.block k h2⟩
theorem Keeps.cell {lo hi : Nat} {A B : World} (h : Keeps lo hi A B) {p : Addr} (h1 : lo ≤ p.block) (h2 : p.block < hi) : B.cell? p = A.cell? p := World.cell?_of_block (h.2 p.block h1 h2)
section
variable {k : IntKind} {lo lo' hi hi' : Nat} {A B : World} {a : Option Addr} {zs : List Int}
theorem NumsIn.keeps (h : NumsIn k A lo hi a zs) (hk : Keeps lo hi A B) : NumsIn k B lo hi a zs := fun hn => by
  obtain ⟨b, off, e, h1, h2, hc⟩ := h hn
  exact ⟨b, off, e, h1, h2, fun j c hj => (hk.cell (p := ⟨b, off + j, none⟩) h1 h2).trans (hc j c hj)⟩
theorem NumsIn.mono (h : NumsIn k A lo hi a zs) (hh : hi ≤ hi') : NumsIn k A lo hi' a zs := fun hn => by
  obtain ⟨b, off, e, h1, h2, hc⟩ := h hn
  exact ⟨b, off, e, h1, by omega, hc⟩
theorem NumsIn.lower (h : NumsIn k A lo hi a zs) (hh : lo' ≤ lo) : NumsIn k A lo' hi a zs := fun hn => by
  obtain ⟨b, off, e, h1, h2, hc⟩ := h hn
  exact ⟨b, off, e, by omega, h2, hc⟩
end
theorem MadeK.numsIn {e : TypeId} {k : IntKind} {w w1 : World} {L : List Int} {A : Option Addr} {c : Nat} (h : MadeK e k w w1 L (.slice A L.length c)) : NumsIn k w1 w.heap.size w1.heap.size A L := fun hn => by
  obtain ⟨b, off, rfl, hb, hc⟩ := Nums.of_own h.1 hn
  exact ⟨b, off, rfl, (h.own_ge (g := b) rfl).1, hb, hc⟩
theorem MadeK.less {T : TypeId} {k : IntKind} {w w1 w2 : World} {L : List Int} {v : Value} (h : MadeK T k w1 w2 L v) (hb : Below w.heap.size w w1) : MadeK T k w w2 L v := by
  obtain ⟨⟨e, h2⟩, hb2⟩ := h
  refine ⟨⟨e, ?_⟩, hb.trans (hb2.mono hb.size)⟩
  rcases h2 with h0 | ⟨g, cap, cur, q1, q2, q3⟩
  · exact .inl h0
  · exact .inr ⟨g, cap, cur, q1, Nat.le_trans hb.size q2, q3⟩
end Go.Proofs.Ytlbfibnfmijahaa

namespace Go.Proofs.Ytlbfibnfmijahaa
open Go.RowKit Go.Deep
set_option maxRecDepth 100000

/-- block b is a lens of the bytes zs, at place p, with error e; its bytes lie in a block from lo on, below b -/
def LensAt (w : World) (lo b : Nat) (zs : List Int) (p e : Nat) : Prop :=
  ∃ A cap, w.heap[b]? = some (.cells #[.slice A zs.length cap, .int .i64 p, .int .i64 e] 108 (0, 0)) ∧ NumsIn .u8 w lo b A zs ∧ zs.length ≤ cap ∧ p ≤ zs.length ∧ lo ≤ b
section
variable {w w' : World} {lo b : Nat} {zs : List Int} {p e p' e' : Nat}
theorem LensAt.lt (h : LensAt w lo b zs p e) : b < w.heap.size := by
  obtain ⟨A, cap, hb, _⟩ := h
  exact (Array.getElem?_eq_some_iff.1 hb).1
theorem LensAt.place (h : LensAt w lo b zs p e) : p ≤ zs.length := by
  obtain ⟨A, cap, _, _, _, h, _⟩ := h
  exact h
theorem LensAt.keeps (h : LensAt w lo b zs p e) (hk : Keeps lo (b + 1) w w') : LensAt w' lo b zs p e := by
  obtain ⟨A, cap, hb, hn, h1, h2, h3⟩ := h
  exact ⟨A, cap, (hk.2 b h3 (Nat.lt_succ_self b)).trans hb, hn.keeps ⟨hk.1, fun k h4 h5 => hk.2 k h4 (by omega)⟩, h1, h2, h3⟩
theorem LensAt.below (h : LensAt w lo b zs p e) (hb : Below w.heap.size w w') : LensAt w' lo b zs p e := by
  have hl := h.lt
  exact h.keeps ⟨hb.size, fun k _ h2 => hb.block k (by omega)⟩
theorem LensAt.off {S : Nat → Prop} (h : LensAt w lo b zs p e) (hf : Off S w w') (hS : ∀ k, lo ≤ k → k ≤ b → ¬ S k) : LensAt w' lo b zs p e := by
  have hl := h.lt
  exact h.keeps ⟨hf.size, fun k h1 h2 => hf.block k (by omega) (hS k h1 (by omega))⟩
theorem LensAt.open (h : LensAt w lo b zs p e) : ∃ A cap, w.heap[b]? = some (.cells #[.slice A zs.length cap, .int .i64 p, .int .i64 e] 108 (0, 0)) ∧ w.cell? ⟨b, 0, none⟩ = some (.slice A zs.length cap) ∧ w.cell? ⟨b, 1, none⟩ = some (.int .i64 p) ∧ w.cell? ⟨b, 2, none⟩ = some (.int .i64 e) ∧
    w.frozen? ⟨b, 1, none⟩ = false ∧ w.frozen? ⟨b, 2, none⟩ = false ∧ NumsIn .u8 w lo b A zs ∧ zs.length ≤ cap ∧ p ≤ zs.length ∧ lo ≤ b := by
  obtain ⟨A, cap, hb, hn, h1, h2, h3⟩ := h
  exact ⟨A, cap, hb, by simp [World.cell?, hb], by simp [World.cell?, hb], by simp [World.cell?, hb], by simp [World.frozen?, hb], by simp [World.frozen?, hb], hn, h1, h2, h3⟩
/-- its place moves -/
theorem LensAt.move (h : LensAt w lo b zs p e) (hp : p' ≤ zs.length) : LensAt (w.setCell ⟨b, 1, none⟩ (.int .i64 p')) lo b zs p' e := by
  obtain ⟨A, cap, hb, hn, h1, h2, h3⟩ := h
  refine ⟨A, cap, by rw [setCell_at hb]; simp, hn.keeps ⟨by simp [World.setCell], fun k h4 h5 => Below.heap_setCell _ _ _ _ (by simp; omega)⟩, h1, hp, h3⟩
/-- it has an error -/
theorem LensAt.fail (h : LensAt w lo b zs p e) (e' : Nat) : LensAt (w.setCell ⟨b, 2, none⟩ (.int .i64 e')) lo b zs p e' := by
  obtain ⟨A, cap, hb, hn, h1, h2, h3⟩ := h
  refine ⟨A, cap, by rw [setCell_at hb]; simp, hn.keeps ⟨by simp [World.setCell], fun k h4 h5 => Below.heap_setCell _ _ _ _ (by simp; omega)⟩, h1, h2, h3⟩
end

section
variable (lo b : Nat) (zs : List Int) (p e : Nat) (w : World)
end

end Go.Proofs.Ytlbfibnfmijahaa

namespace Go.Proofs.Ytlbfibnfmijahaa
open Go.RowKit
set_option maxRecDepth 100000
section
variable (lo b : Nat) (zs : List Int) (p e : Nat) (w : World)
end
end Go.Proofs.Ytlbfibnfmijahaa

namespace Go.Proofs.Ytlbfibnfmijahaa
open Go.RowKit
set_option maxRecDepth 100000
section
variable (lo b : Nat) (zs : List Int) (p e : Nat) (w : World)
end
end Go.Proofs.Ytlbfibnfmijahaa

namespace Go.Proofs.Ytlbfibnfmijahaa
open Go.RowKit
set_option maxRecDepth 100000
section
variable (lo b : Nat) (zs : List Int) (p e : Nat) (w : World)
end
end Go.Proofs.Ytlbfibnfmijahaa

namespace Go.Proofs.Ytlbfibnfmijahaa
open Go.RowKit Go.Shelf
set_option maxRecDepth 100000
attribute [local go_sem] Oper.semAt_some

theorem NumsS.kept {k : IntKind} {S : Nat → Prop} {A B : World} {a : Option Addr} {zs : List Int} (h : NumsS k A S a zs) (hk : KeepS S A B) : NumsS k B S a zs := fun hn => by
  obtain ⟨b, off, e, h1, hc⟩ := h hn
  exact ⟨b, off, e, h1, fun j c hj => (hk.cell (p := ⟨b, off + j, none⟩) h1).trans (hc j c hj)⟩
theorem NumsS.open {k : IntKind} {S : Nat → Prop} {w : World} {a : Option Addr} {zs : List Int} (h : NumsS k w S a zs) {j : Nat} {c : Int} (hj : zs[j]? = some c) : ∃ b off, a = some ⟨b, off, none⟩ ∧ S b ∧ w.cell? ⟨b, off + j, none⟩ = some (.int k c) := by
  obtain ⟨b, off, e, hb, hc⟩ := h (by intro e; subst e; simp at hj)
  exact ⟨b, off, e, hb, hc j c hj⟩
end Go.Proofs.Ytlbfibnfmijahaa

namespace Go.Proofs.Ytlbfibnfmijahaa
open Go.RowKit
set_option maxRecDepth 100000

/-- what a read's closure hands on: where nothing is wrong, the value and its bytes' number -/
def ClosI (k : IntKind) (x : Int × Nat × Nat) (r : Ending) : Prop :=
  ∃ (v s : Int), r = .returned (.tuple #[.int k v, .int .i64 s, .int .i64 x.2.2]) ∧ (x.2.2 = 0 → v = x.1 ∧ s = x.2.1)
theorem ClosI.ok {k : IntKind} {x : Int × Nat × Nat} {v s : Int} {e : Int} (hv : v = x.1) (hs : s = x.2.1) (he : e = x.2.2) : ClosI k x (.returned (.tuple #[.int k v, .int .i64 s, .int .i64 e])) := by
  subst he; exact ⟨v, s, rfl, fun _ => ⟨hv, hs⟩⟩

section
variable (B : Nat) (a : Option Addr) (n cap c : Nat) (l : List Int) (w : World)
/-- what a closure that makes bytes hands on -/
def ClosB (x : List Int × Nat × Nat) (w : World) (r : Ending) (w' : World) : Prop :=
  ∃ (v : Value) (s : Int), r = .returned (.tuple #[v, .int .i64 s, .int .i64 x.2.2]) ∧ MadeK 5 .u8 w w' x.1 v ∧ (x.2.2 = 0 → s = x.2.1)
theorem ClosB.mk {x : List Int × Nat × Nat} {w w' : World} {v : Value} {s e : Int} (hm : MadeK 5 .u8 w w' x.1 v) (he : e = x.2.2) (hs : x.2.2 = 0 → s = x.2.1) : ClosB x w (.returned (.tuple #[v, .int .i64 s, .int .i64 e])) w' := by
  subst he; exact ⟨v, s, rfl, hm, hs⟩
end
end Go.Proofs.Ytlbfibnfmijahaa

namespace Go.Proofs.Ytlbfibnfmijahaa
open Go.RowKit Go.Shelf
set_option maxRecDepth 100000
attribute [local go_sem] Oper.semAt_some

end Go.Proofs.Ytlbfibnfmijahaa

namespace Go.Proofs.Ytlbfibnfmijahaa
open Go.RowKit
set_option maxRecDepth 100000

/-- place and error behind a read -/
def placeOf (p e : Nat) (size : Nat) : Nat := if e = 0 then p + size else p
def errOf (e err : Nat) : Nat := if e = 0 then err else e
def ansI (e : Nat) (x : Int) : Int := if e = 0 then x else 0
def ansB (e : Nat) (L : List Int) : List Int := if e = 0 then L else []
/-- what a read that answers a number leaves -/
def ReadI (k : IntKind) (lo b : Nat) (zs : List Int) (p e : Nat) (x : Int × Nat × Nat) (w : World) (r : Ending) (w' : World) : Prop :=
  r = .returned (.int k (ansI e x.1)) ∧ LensAt w' lo b zs (placeOf p e x.2.1) (errOf e x.2.2) ∧ Off (fun j => j = b) w w'
/-- what a read that answers bytes leaves -/
def ReadB (lo b : Nat) (zs : List Int) (p e : Nat) (x : List Int × Nat × Nat) (w : World) (r : Ending) (w' : World) : Prop :=
  (∃ A c, r = .returned (.slice A (ansB e x.1).length c) ∧ (ansB e x.1).length ≤ c ∧ NumsIn .u8 w' w.heap.size w'.heap.size A (ansB e x.1)) ∧ LensAt w' lo b zs (placeOf p e x.2.1) (errOf e x.2.2) ∧ Off (fun j => j = b) w w'

section
variable {k : IntKind} {lo b : Nat} {zs : List Int} {p e : Nat} {x : Int × Nat × Nat} {y : List Int × Nat × Nat} {w w0 w' : World} {r : Ending}
theorem ReadI.later (h : ReadI k lo b zs p e x w r w') (hb : Below w0.heap.size w0 w) : ReadI k lo b zs p e x w0 r w' :=
  ⟨h.1, h.2.1, (Off.of_below hb).trans h.2.2 fun _ _ h => h⟩
theorem ReadB.later (h : ReadB lo b zs p e y w r w') (hb : Below w0.heap.size w0 w) : ReadB lo b zs p e y w0 r w' := by
  obtain ⟨⟨A, c, h1, h2, h3⟩, h4, h5⟩ := h
  exact ⟨⟨A, c, h1, h2, h3.lower hb.size⟩, h4, (Off.of_below hb).trans h5 fun _ _ h => h⟩
theorem ReadI.err (h : LensAt w lo b zs p e) (he : e ≠ 0) : ReadI k lo b zs p e x w (.returned (.int k 0)) w :=
  ⟨by simp [ansI, he], by simpa [placeOf, errOf, he] using h, Off.refl _ _⟩
theorem ReadB.err (h : LensAt w lo b zs p e) (he : e ≠ 0) : ReadB lo b zs p e y w (.returned (.slice none 0 0)) w :=
  ⟨⟨none, 0, by simp [ansB, he], by simp [ansB, he], fun hn => absurd (by simp [ansB, he]) hn⟩, by simpa [placeOf, errOf, he] using h, Off.refl _ _⟩
theorem ReadI.ok {w1 : World} (h : LensAt w lo b zs p 0) (h0 : x.2.2 = 0) (hs : p + x.2.1 ≤ zs.length) (hb : Below w.heap.size w w1) : ReadI k lo b zs p 0 x w (.returned (.int k x.1)) (w1.setCell ⟨b, 1, none⟩ (.int .i64 (p + x.2.1))) := by
  refine ⟨by simp [ansI], ?_, (Off.of_below (S := fun j => j = b) hb).setCell (p := ⟨b, 1, none⟩) rfl _⟩
  have := (h.below hb).move hs
  rw [Int.natCast_add] at this
  simpa [placeOf, errOf, h0] using this
theorem NumsIn.set {w1 : World} {A : Option Addr} {L : List Int} {s : Nat} (h : NumsIn .u8 w1 s w1.heap.size A L) (hb : b < s) (o : Nat) (v : Value) : NumsIn .u8 (w1.setCell ⟨b, o, none⟩ v) s (w1.setCell ⟨b, o, none⟩ v).heap.size A L := by
  have h2 := h.keeps (B := w1.setCell ⟨b, o, none⟩ v) ⟨by simp [World.setCell], fun k h4 h5 => Below.heap_setCell _ _ _ _ (by simp; omega)⟩
  exact h2.mono (by simp [World.setCell])
theorem ReadB.ok {w1 : World} {v : Value} (h : LensAt w lo b zs p 0) (h0 : y.2.2 = 0) (hs : p + y.2.1 ≤ zs.length) (hm : MadeK 5 .u8 w w1 y.1 v) : ReadB lo b zs p 0 y w (.returned v) (w1.setCell ⟨b, 1, none⟩ (.int .i64 (p + y.2.1))) := by
  refine ⟨?_, ?_, (Off.of_below (S := fun j => j = b) hm.2).setCell (p := ⟨b, 1, none⟩) rfl _⟩
  · obtain ⟨A, c, rfl, hc, _⟩ := hm.slice
    exact ⟨A, c, by simp [ansB], by simpa [ansB] using hc, by simpa [ansB] using hm.numsIn.set h.lt 1 _⟩
  · have := (h.below hm.2).move hs
    rw [Int.natCast_add] at this
    simpa [placeOf, errOf, h0] using this
end
section
variable (lo b : Nat) (zs : List Int) (p e : Nat) (w : World)
end
end Go.Proofs.Ytlbfibnfmijahaa

namespace Go.Proofs.Ytlbfibnfmijahaa
open Go.RowKit
set_option maxRecDepth 100000
section
variable (lo b : Nat) (zs : List Int) (p e : Nat) (w : World)
end
end Go.Proofs.Ytlbfibnfmijahaa

namespace Go.Proofs.Ytlbfibnfmijahaa
section
variable {P : Program} {ops : Array Oper} {md : Region.Mode} {I : World → Prop} {n : Nat} {tgt : Array Bool}
end
end Go.Proofs.Ytlbfibnfmijahaa

namespace Go.Proofs.Ytlbfibnfmijahaa
open Go.RowKit Go.Shelf
set_option maxRecDepth 100000
attribute [local go_sem] Oper.semAt_some

theorem row_ne {W : World} {a b : Nat} {c1 c2 : Array Value} {t1 t2 : TypeId} {m1 m2 : Nat × Nat} (h1 : W.heap[a]? = some (.cells c1 t1 m1)) (h2 : W.heap[b]? = some (.cells c2 t2 m2)) (ht : t1 ≠ t2) : a ≠ b := fun e => by
  subst e
  rw [h1] at h2
  injection h2 with h2
  injection h2 with _ h2
  exact ht h2
structure RdAt (lo : Nat) (W : World) (mb lb : Nat) (zs : List Int) (N : Mg) (P C : Value) (p e : Nat) : Prop where
  m : W.heap[mb]? = some (.cells (mC N P C) 33 (0, 0))
  l : LensAt W lo lb zs p e
  a : lb < mb
  p : ∃ a c, P = .slice a N.p.length c ∧ N.p.length ≤ c ∧ NuX W mb lb a (fl2 N.p)
  c : ∃ a c, C = .slice a N.c.length c ∧ N.c.length ≤ c ∧ NuX W mb lb a N.c
  pz : N.p = [] → P = .slice none 0 0
  cz : N.c = [] → C = .slice none 0 0
/-- what reading a field answers and leaves -/
def RdO (lo mb lb : Nat) (zs : List Int) (p : Nat) (x : Nat × Nat × Mg) (w : World) (r : Ending) (w' : World) : Prop :=
  r = .returned (.int .i64 (x.1 : Int)) ∧ Off (fun q => q = mb ∨ q = lb) w w' ∧ (x.1 = 0 → ∃ P C, RdAt lo w' mb lb zs x.2.2 P C (p + x.2.1) 0)
section
variable {lo mb lb : Nat} {w W W' : World} {zs : List Int} {N N' : Mg} {P C P' C' : Value} {p e p' e' : Nat}
theorem RdAt.later (h : RdAt lo W mb lb zs N P C p e) (hb : Below W.heap.size W W') : RdAt lo W' mb lb zs N P C p e := by
  obtain ⟨⟨a, c, h1, h2, h3⟩, ⟨a', c', h4, h5, h6⟩⟩ := And.intro h.p h.c
  exact ⟨(hb.block _ (Array.getElem?_eq_some_iff.1 h.m).1).trans h.m, h.l.below hb, h.a, ⟨a, c, h1, h2, h3.keep (Off.of_below hb)⟩, ⟨a', c', h4, h5, h6.keep (Off.of_below hb)⟩, h.pz, h.cz⟩
/-- the lens is turned -/
theorem RdAt.turn (h : RdAt lo W mb lb zs N P C p e) (hl : LensAt W' lo lb zs p' e') (ho : Off (fun q => q = lb) W W') : RdAt lo W' mb lb zs N P C p' e' := by
  obtain ⟨⟨a, c, h1, h2, h3⟩, ⟨a', c', h4, h5, h6⟩⟩ := And.intro h.p h.c
  have ha := h.a
  have ho2 : Off (fun q => q = mb ∨ q = lb) W W' := ho.mono (fun j _ e => .inr e)
  exact ⟨(ho.block _ (Array.getElem?_eq_some_iff.1 h.m).1 (by omega)).trans h.m, hl, ha, ⟨a, c, h1, h2, h3.keep ho2⟩, ⟨a', c', h4, h5, h6.keep ho2⟩, h.pz, h.cz⟩
theorem NuX.set {a : Option Addr} {l : List Int} (h : NuX W mb lb a l) (j : Nat) (u : Value) : NuX (W.setCell ⟨mb, j, none⟩ u) mb lb a l :=
  h.keep (Off.setCell (S := fun q => q = mb ∨ q = lb) (p := ⟨mb, j, none⟩) (Off.refl _ W) (.inl rfl) u)
/-- a cell of the message is turned -/
theorem RdAt.set (h : RdAt lo W mb lb zs N P C p e) (j : Nat) (u : Value) (hc : (mC N P C).setIfInBounds j u = mC N' P' C')
    (hp : ∃ a c, P' = .slice a N'.p.length c ∧ N'.p.length ≤ c ∧ NuX W mb lb a (fl2 N'.p)) (hcc : ∃ a c, C' = .slice a N'.c.length c ∧ N'.c.length ≤ c ∧ NuX W mb lb a N'.c) (hpz : N'.p = [] → P' = .slice none 0 0) (hcz : N'.c = [] → C' = .slice none 0 0) :
    RdAt lo (W.setCell ⟨mb, j, none⟩ u) mb lb zs N' P' C' p e := by
  obtain ⟨⟨a, c, h1, h2, h3⟩, ⟨a', c', h4, h5, h6⟩⟩ := And.intro hp hcc
  have ha := h.a
  refine ⟨by rw [setCell_at h.m, hc], h.l.off (S := fun q => q = mb) (Off.setCell (S := fun q => q = mb) (p := ⟨mb, j, none⟩) (Off.refl _ W) rfl u) (fun k _ h2 => by omega), ha, ⟨a, c, h1, h2, h3.set j u⟩, ⟨a', c', h4, h5, h6.set j u⟩, hpz, hcz⟩
theorem RdAt.num (h : RdAt lo W mb lb zs N P C p e) {jj : Nat} (hj : jj < 6) (v : Int) : RdAt lo (W.setCell ⟨mb, 1 + jj, none⟩ (.int .i64 v)) mb lb zs (N.put jj v) P C p e := by
  refine h.set (1 + jj) (.int .i64 v) (mC_put hj N P C v) ?_ ?_ ?_ ?_
  · rw [Mg.put_p]; exact h.p
  · rw [Mg.put_c]; exact h.c
  · rw [Mg.put_p]; exact h.pz
  · rw [Mg.put_c]; exact h.cz
theorem RdAt.tx (h : RdAt lo W mb lb zs N P C p e) (s : ByteArray) : RdAt lo (W.setCell ⟨mb, 9, none⟩ (.string s)) mb lb zs { N with tx := s } P C p e :=
  h.set 9 (.string s) rfl h.p h.c h.pz h.cz
theorem RdAt.tg (h : RdAt lo W mb lb zs N P C p e) (s : ByteArray) : RdAt lo (W.setCell ⟨mb, 10, none⟩ (.string s)) mb lb zs { N with tg := s } P C p e :=
  h.set 10 (.string s) rfl h.p h.c h.pz h.cz
end
end Go.Proofs.Ytlbfibnfmijahaa

namespace Go.Proofs.Ytlbfibnfmijahaa
section
variable {P : Program} {ops : Array Oper} {md : Region.Mode} {I : World → Prop} {n : Nat} {tgt : Array Bool}

theorem nil_no_enter {o : Oper} {x : Operand} (ho : o.op = .nilCheck x) (ρ : Operand → Value) (w w' : World) (f : FuncId) (args : Array Value) : (execOp ρ o).run P w ≠ .ok (.enter f args) w' := by
  unfold execOp
  simp only [ho]
  intro h
  split at h
  · simp [runtimePanic] at h
  · simp [runtimePanic] at h
  · simp [runtimePanic] at h
  · split at h
    · simp [runtimePanic] at h
    · rw [Sem.run_bind] at h
      generalize Sem.run P program w = r1 at h
      cases r1 with
      | halt y w1 => simp [Result.andThen] at h
      | ok a w1 =>
        simp only [Result.andThen] at h
        rw [Sem.run_bind] at h
        generalize Sem.run P (nilAhead _ _ _ _) w1 = r2 at h
        cases r2 with
        | halt y w2 => simp [Result.andThen] at h
        | ok b w2 =>
          simp only [Result.andThen] at h
          split at h
          · rw [Sem.run_bind] at h
            generalize Sem.run P (unsupported _) w2 = r3 at h
            cases r3 <;> simp [Result.andThen] at h
          · simp at h
    · simp at h
  · simp at h

def kind9 (o : Oper) : Nat := match o.op with
  | .build _ _ => 1
  | .nilCheck _ => 1
  | _ => kind3 o
theorem kind9_one {o : Oper} (h : kind9 o = 1) : (∃ t x, o.op = .load t x) ∨ (∃ t x, o.op = .build t x) ∨ ∃ x, o.op = .nilCheck x := by
  unfold kind9 at h
  split at h
  · exact .inr (.inl ⟨_, _, by assumption⟩)
  · exact .inr (.inr ⟨_, by assumption⟩)
  · exact .inl (kind3_load h)
theorem kind9_else {o : Oper} {n : Nat} (h : kind9 o = n) (hn : n ≠ 1) : kind3 o = n := by
  unfold kind9 at h
  split at h
  · exact absurd h.symm hn
  · exact absurd h.symm hn
  · exact h
theorem one9_no_enter {o : Oper} (h : kind9 o = 1) (ρ : Operand → Value) (w w' : World) (f : FuncId) (args : Array Value) : (execOp ρ o).run P w ≠ .ok (.enter f args) w' := by
  rcases kind9_one h with ⟨t, x, ho⟩ | ⟨t, x, ho⟩ | ⟨x, ho⟩
  · exact load_no_enter ho ρ w w' f args
  · unfold execOp
    simp only [ho]
    exact run_value _ _ _ _ _
  · exact nil_no_enter ho ρ w w' f args
theorem yields_one9 {o : Oper} {v : Value} {a : Act} {C D : World → Prop} (hk : kind9 o = 1) (h : YieldsIn P ops C o v a) (hD : ∀ w, D w → C w) : YieldsIn P ops D o v a := by
  rcases h with ⟨hw, h⟩ | h
  · refine .inl ⟨hw, fun w hwD => ?_⟩
    have h1 := h w (hD w hwD)
    have h2 := one9_no_enter (P := P) hk a.eval w
    unfold Oper.quietAt at h1 ⊢
    generalize (execOp a.eval o).run P w = r at h1 h2
    cases r with
    | ok n w' =>
      cases n with
      | enter f args => exact absurd rfl (h2 w' f args)
      | _ => exact h1
    | halt x w' => exact h1
  · exact .inr h
/-- one operation, in a class of worlds -/
def Step9 (P : Program) (ops : Array Oper) (I : World → Prop) (o : Oper) (a : Act) (C : World → Prop) (K : (World → Prop) → Act → Prop) : Prop :=
  (kind9 o = 0 ∧ ∃ v, YieldsIn P ops (fun _ => True) o v a ∧ K C (a.put o.dst v)) ∨
  (kind9 o = 1 ∧ ∃ v, YieldsIn P ops I o v a ∧ K C (a.put o.dst v)) ∨
  (kind9 o = 2 ∧ ∃ v C', (∀ w, C' w → I w) ∧ StepsIn P ops C C' o v a ∧ K C' (a.put o.dst v)) ∨
  (kind9 o = 3 ∧ ((Region.wanted o (yielded ops a.tmps) = false ∧ K C (a.put o.dst undef)) ∨ (Region.wanted o (yielded ops a.tmps) = true ∧ ∃ (V : Value → Prop) (C' : Value → World → Prop), (∀ v w, C' v w → I w) ∧ (∀ w, C w → famUpon P V C' ((execOp a.eval o).run P w)) ∧ ∀ v, V v → K (C' v) (a.put o.dst v))))

theorem Step9.wpOp {C : World → Prop} {i : Nat} {o : Oper} {a : Act} {K : (World → Prop) → Act → Prop} {K' : Act → World → Prop} {Q' : Exit → Act → World → Prop} {w : World} (hi : ops[i]? = some o) (h : Step9 P ops I o a C K) (hC : C w) (hCI : ∀ w, C w → I w) (hK : ∀ (C' : World → Prop) a' w', C' w' → (∀ w, C' w → I w) → K C' a' → K' a' w') : wpOp P ops Q' i K' a w := by
  rcases h with ⟨hk, v, hy, hn⟩ | ⟨hk, v, hy, hn⟩ | ⟨hk, v, C', hI, hy, hn⟩ | ⟨hk, h⟩
  · exact OpR.wpOp (C := C) (C' := C) hi (.inl ⟨kind3_pure (kind9_else hk (by decide)), rfl, hy⟩) hC fun w' hw' => hK C _ w' hw' hCI hn
  · have hk1 : kindOf o = 1 := by
      rcases kind9_one hk with ⟨t, x, ho⟩ | ⟨t, x, ho⟩ | ⟨x, ho⟩ <;> simp [kindOf, pureOp, ho]
    exact OpR.wpOp (C := C) (C' := C) hi (.inr (.inl ⟨hk1, rfl, yields_one9 hk hy hCI⟩)) hC fun w' hw' => hK C _ w' hw' hCI hn
  · have hk2 : kindOf o = 2 := by
      have hk := kind9_else hk (by decide)
      unfold kind3 at hk
      unfold kindOf
      split at hk
      · simp at hk
      · rename_i hp
        rw [if_neg hp]
        split at hk
        · simp at hk
        · rename_i heq; simp [heq]
        · simp at hk
    exact OpR.wpOp (C := C) (C' := C') hi (.inr (.inr ⟨hk2, hy⟩)) hC fun w' hw' => hK C' _ w' hw' hI hn
  · unfold Go.wpOp
    simp only [hi]
    rcases h with ⟨hw, hn⟩ | ⟨hw, V, C', hI, hv, hn⟩
    · simp only [hw, Bool.false_eq_true, if_false]
      exact hK C _ w hC hCI hn
    · simp only [hw, if_true]
      left
      have h1 := hv w hC
      unfold Oper.wp
      generalize (execOp a.eval o).run P w = r at h1
      cases r with
      | ok n w' =>
        cases n <;> simp only [famUpon] at h1 <;> simp only [Oper.upon]
        case value u => exact hK (C' u) _ w' h1.2 (hI u) (hn u h1.1)
        case enter f args =>
          refine h1.mono fun e w'' ⟨v, he, hV, hc⟩ => ?_
          subst he
          exact hK (C' v) _ w'' hc (hI v) (hn v hV)
      | halt x w' => simp only [famUpon] at h1
/-- an operation apart: its step is the same whether another's value is in its slot or not -/
theorem Step9.put {oi oj : Oper} {v : Value} {a : Act} {C : World → Prop} {K1 K2 : (World → Prop) → Act → Prop} (hap : oi.apart ops oj = true) (hsj : ∀ cs b, oj.op ≠ .select cs b)
    (hK : ∀ (C' : World → Prop) u, K1 C' ((a.put oi.dst v).put oj.dst u) → K2 C' (a.put oj.dst u)) (h : Step9 P ops I oj (a.put oi.dst v) C K1) : Step9 P ops I oj a C K2 := by
  obtain ⟨p1, p2, p3⟩ := Oper.apart_spec hap
  have he := execOp_put oj hsj a oi.dst v p1
  have hw := wanted_put oj a oi.dst v p1
  rcases h with ⟨hk, u, hy, hn⟩ | ⟨hk, u, hy, hn⟩ | ⟨hk, u, C', hI, hy, hn⟩ | ⟨hk, h⟩
  · exact .inl ⟨hk, u, hy.of_same he.symm hw.symm, hK C u hn⟩
  · exact .inr (.inl ⟨hk, u, hy.of_same he.symm hw.symm, hK C u hn⟩)
  · refine .inr (.inr (.inl ⟨hk, u, C', hI, ?_, hK C' u hn⟩))
    unfold StepsIn at hy ⊢
    rwa [he, hw] at hy
  · refine .inr (.inr (.inr ⟨hk, ?_⟩))
    rcases h with ⟨hwf, hn⟩ | ⟨hwt, V, C', hsub, hv, hn⟩
    · exact .inl ⟨by rw [← hw]; exact hwf, hK C undef hn⟩
    · exact .inr ⟨by rw [← hw]; exact hwt, V, C', hsub, by rwa [he] at hv, fun u hu => hK (C' u) u (hn u hu)⟩
/-! as XQ3's, but a load is free of stores too: they stay in I -/
structure Free9 (md : Region.Mode) (ops : Array Oper) (listed : Array Bool) (i : Nat) (oi : Oper) (U : Array Bool) : Prop where
  size : U.size = ops.size
  own : U.getD i false = true
  wait : ∀ j oj, ops[j]? = some oj → U.getD j false = true → j ≠ i → ∃ e ∈ oj.after, Region.binds md e = true ∧ U.getD e.on false = true
  un : ∀ j, U.getD j false = true → listed.getD j false = false
  free : ∀ j oj, ops[j]? = some oj → U.getD j false = false → listed.getD j true = false → oi.apart ops oj = true ∧ (kind9 oi = 0 ∨ kind9 oi = 1)
theorem Free9.ready {i j : Nat} {oi oj : Oper} {listed U : Array Bool} (h : Free9 md ops listed i oi U) (hj : ops[j]? = some oj) (hji : j ≠ i) (hall : ∀ e ∈ oj.after, Region.binds md e = true → listed.getD e.on false = true) : U.getD j false = false := by
  cases hu : U.getD j false with
  | false => rfl
  | true =>
    obtain ⟨e, he, hb, hue⟩ := h.wait j oj hj hu hji
    have h1 := hall e he hb
    rw [h.un e.on hue] at h1
    cases h1
theorem Free9.set {i j : Nat} {oi : Oper} {listed U : Array Bool} (h : Free9 md ops listed i oi U) (hu : U.getD j false = false) : Free9 md ops (listed.setIfInBounds j true) i oi U := by
  refine ⟨h.size, h.own, h.wait, fun k hk => ?_, fun k ok hk hku hun => h.free k ok hk hku ?_⟩
  · have hne : j ≠ k := fun e => by subst e; rw [hu] at hk; cases hk
    rw [getD_set_ne false hne]; exact h.un k hk
  · by_cases hjk : j = k
    · subst hjk
      rcases Nat.lt_or_ge j listed.size with h' | h'
      · simp [h'] at hun
      · simp [Array.getElem?_eq_none (show (listed.setIfInBounds j true).size ≤ j by simpa using h')] at hun
    · rw [getD_set_ne true hjk] at hun; exact hun
theorem Step9.mono {o : Oper} {a : Act} {C : World → Prop} {K K' : (World → Prop) → Act → Prop} (h : Step9 P ops I o a C K) (hK : ∀ C a, K C a → K' C a) : Step9 P ops I o a C K' := by
  rcases h with ⟨hk, v, hy, hn⟩ | ⟨hk, v, hy, hn⟩ | ⟨hk, v, C', hI, hy, hn⟩ | ⟨hk, h⟩
  · exact .inl ⟨hk, v, hy, hK _ _ hn⟩
  · exact .inr (.inl ⟨hk, v, hy, hK _ _ hn⟩)
  · exact .inr (.inr (.inl ⟨hk, v, C', hI, hy, hK _ _ hn⟩))
  · refine .inr (.inr (.inr ⟨hk, ?_⟩))
    rcases h with ⟨hw, hn⟩ | ⟨hw, V, C', hs, hv, hn⟩
    · exact .inl ⟨hw, hK _ _ hn⟩
    · exact .inr ⟨hw, V, C', hs, hv, fun v hV => hK _ _ (hn v hV)⟩
end
/-! one operation of the walk -/
section
variable {P : Program} {I : World → Prop} {l : List Oper} {Q : (World → Prop) → Act → Prop} {o : Oper} {k : Nat} {r : List Nat} {C : World → Prop} {a : Act}
end
end Go.Proofs.Ytlbfibnfmijahaa

namespace Go.Proofs.Ytlbfibnfmijahaa
open Go.RowKit Go.Shelf
set_option maxRecDepth 100000
attribute [local go_sem] Oper.semAt_some

end Go.Proofs.Ytlbfibnfmijahaa

namespace Go.Proofs.Ytlbfibnfmijahaa
open Go.RowKit
section
variable {P : Program} {l : List Oper} {vs : List Value} {fs : List Tmp} {FS : Tmp → Value → World → Prop} {I : World → Prop} {a0 : Act}
section
variable {ops : Array Oper} {m : Tmp} {St : (Tmp → Value) → World → Value → World → Prop} {Sf : World → Prop} {E : Act → Prop}
end
/-! ### its steps -/
section
variable {m : Tmp} {St : (Tmp → Value) → World → Value → World → Prop} {Sf : World → Prop} {E : Act → Prop} {o : Oper} {rest : List Oper} {a : Act}
end
end
end Go.Proofs.Ytlbfibnfmijahaa

namespace Go.Proofs.Ytlbfibnfmijahaa
open Go.RowKit Go.Shelf
set_option maxRecDepth 100000
attribute [local go_sem] Oper.semAt_some

section
variable {w W W' : World} {b4 b8 b11 : Nat} {M : Mg} {P C : Value} {x y : Int}
end
theorem rdP_step (m : Nat) (a : Int × Int) (l : List Int) : rdP (m + 1) a l = if (rdX a.1 l).1 ≠ 0 then ((rdX a.1 l).1, 0, [])
    else if (rdX a.2 (l.drop (rdX a.1 l).2.1)).1 ≠ 0 then ((rdX a.2 (l.drop (rdX a.1 l).2.1)).1, 0, [])
    else ((rdP m ((rdX a.1 l).2.2, (rdX a.2 (l.drop (rdX a.1 l).2.1)).2.2) ((l.drop (rdX a.1 l).2.1).drop (rdX a.2 (l.drop (rdX a.1 l).2.1)).2.1)).1, (rdX a.1 l).2.1 + (rdX a.2 (l.drop (rdX a.1 l).2.1)).2.1 + (rdP m ((rdX a.1 l).2.2, (rdX a.2 (l.drop (rdX a.1 l).2.1)).2.2) ((l.drop (rdX a.1 l).2.1).drop (rdX a.2 (l.drop (rdX a.1 l).2.1)).2.1)).2.1, ((rdX a.1 l).2.2, (rdX a.2 (l.drop (rdX a.1 l).2.1)).2.2) :: (rdP m ((rdX a.1 l).2.2, (rdX a.2 (l.drop (rdX a.1 l).2.1)).2.2) ((l.drop (rdX a.1 l).2.1).drop (rdX a.2 (l.drop (rdX a.1 l).2.1)).2.1)).2.2) := rfl
/-- so many of a point's two numbers have been read -/
def PIn (x y : Int) (l : List Int) (k c : Nat) (x' y' : Int) : Prop :=
  (k = 0 → c = 0 ∧ x' = x ∧ y' = y) ∧ (k = 1 → rdX x l = (0, c, x') ∧ y' = y) ∧ (k = 2 → ∃ c1 c2, c = c1 + c2 ∧ rdX x l = (0, c1, x') ∧ rdX y (l.drop c1) = (0, c2, y'))
theorem PIn.err {x y x' y' : Int} {l : List Int} {k c : Nat} (h : PIn x y l k c x' y') (hk : k < 2) {e p : Nat} {v : Int} (hr : rdX (if k = 0 then x' else y') (l.drop c) = (e, p, v)) (he : e ≠ 0) (m : Nat) : rdP (m + 1) (x, y) l = (e, 0, []) := by
  obtain ⟨h0, h1, -⟩ := h
  rw [rdP_step]
  rcases (show k = 0 ∨ k = 1 by omega) with rfl | rfl
  · obtain ⟨rfl, rfl, rfl⟩ := h0 rfl
    rw [if_pos rfl, List.drop_zero] at hr
    rw [hr, if_pos he]
  · obtain ⟨h5, h6⟩ := h1 rfl
    subst h6
    rw [if_neg (by decide)] at hr
    rw [h5, if_neg (by simp)]
    simp only
    rw [hr, if_pos he]
theorem PIn.next {x y x' y' : Int} {l : List Int} {k c : Nat} (h : PIn x y l k c x' y') (hk : k < 2) {p : Nat} {v : Int} (hr : rdX (if k = 0 then x' else y') (l.drop c) = (0, p, v)) : PIn x y l (k + 1) (c + p) (if k = 0 then v else x') (if k = 0 then y' else v) := by
  obtain ⟨h0, h1, -⟩ := h
  rcases (show k = 0 ∨ k = 1 by omega) with rfl | rfl
  · obtain ⟨rfl, rfl, rfl⟩ := h0 rfl
    rw [if_pos rfl, List.drop_zero] at hr
    exact ⟨fun h => absurd h (by decide), fun _ => ⟨by rw [hr]; simp, rfl⟩, fun h => absurd h (by decide)⟩
  · obtain ⟨h5, h6⟩ := h1 rfl
    subst h6
    rw [if_neg (by decide)] at hr
    exact ⟨fun h => absurd h (by decide), fun h => absurd h (by decide), fun _ => ⟨c, p, rfl, h5, hr⟩⟩
theorem PIn.two {x y x' y' : Int} {l : List Int} {c : Nat} (h : PIn x y l 2 c x' y') (m : Nat) : rdP (m + 1) (x, y) l = ((rdP m (x', y') (l.drop c)).1, c + (rdP m (x', y') (l.drop c)).2.1, (x', y') :: (rdP m (x', y') (l.drop c)).2.2) := by
  obtain ⟨c1, c2, rfl, h1, h2⟩ := h.2.2 rfl
  rw [rdP_step]
  simp only
  rw [h1, if_neg (by simp)]
  simp only
  rw [h2, if_neg (by simp)]
  simp only
  rw [List.drop_drop]
/-- what the slots of a path's statement hold -/
def FPp (B : Nat) (zs : List Int) (np : Nat) (x y : Int) (q : Tmp) (v : Value) (W : World) : Prop :=
  if q = 66 then ∃ g, v = .slice (some ⟨g, 0, none⟩) 0 0 ∧ W.ownsRow B 114 2 v 0 []
  else if q = 69 then W.ownsRow B 114 2 v np (zs.map (Value.int .i64))
  else if q = 71 then ∃ g, v = .slice (some ⟨g, 0, none⟩) 1 1 ∧ W.heap[g]? = some (.cells #[.int .i64 x, .int .i64 y] 114 (0, 0))
  else True
theorem FPp.later {B : Nat} {zs : List Int} {np : Nat} {x y : Int} {q : Tmp} {v : Value} {W W' : World} (h : FPp B zs np x y q v W) (hb : Below W.heap.size W W') : FPp B zs np x y q v W' := by
  unfold FPp at h ⊢
  split
  · rename_i e
    rw [if_pos e] at h
    obtain ⟨g, e1, h1⟩ := h
    exact ⟨g, e1, own_below7 h1 hb⟩
  · rename_i e
    rw [if_neg e] at h
    split
    · rename_i e
      rw [if_pos e] at h
      exact own_below7 h hb
    · rename_i e
      rw [if_neg e] at h
      split
      · rename_i e
        rw [if_pos e] at h
        obtain ⟨g, e1, h1⟩ := h
        exact ⟨g, e1, (hb.block _ (Array.getElem?_eq_some_iff.1 h1).1).trans h1⟩
      · trivial

end Go.Proofs.Ytlbfibnfmijahaa

namespace Go.Proofs.Ytlbfibnfmijahaa
open Go.RowKit Go.Shelf
set_option maxRecDepth 100000
attribute [local go_sem] Oper.semAt_some

/-- while cells are read: the message's box, the lens, the cells' own row, the last cell's box -/
structure CSt (w : World) (lo mb lb ab bm : Nat) (zs : List Int) (N : Mg) (P : Value) (L : List Int) (a : Int) (p e : Nat) (C : Value) (W : World) : Prop where
  m : W.heap[mb]? = some (.cells (mC { N with c := L } P C) 33 (0, 0))
  l : LensAt W lo lb zs p e
  o : W.ownsRow w.heap.size 3 1 C L.length (L.map (Value.int .i64))
  at' : W.heap[ab]? = some (.cells #[.int .i64 a] 3 (0, 0))
  pm : W.heap[bm]? = some (.cells #[.pointer (some ⟨mb, 0, none⟩)] 87 (0, 0))
  off : Off (fun q => q = mb ∨ q = lb ∨ q = ab) w W
  lt : lb < mb ∧ mb < ab ∧ mb < bm ∧ ab < w.heap.size ∧ bm < w.heap.size
section
variable {w W W' : World} {lo mb lb ab bm : Nat} {zs : List Int} {N : Mg} {P C : Value} {L : List Int} {a : Int} {p e p' e' : Nat}
theorem CSt.later (h : CSt w lo mb lb ab bm zs N P L a p e C W) (hb : Below W.heap.size W W') : CSt w lo mb lb ab bm zs N P L a p e C W' :=
  ⟨(hb.block _ (Array.getElem?_eq_some_iff.1 h.m).1).trans h.m, h.l.below hb, own_below7 h.o hb, (hb.block _ (Array.getElem?_eq_some_iff.1 h.at').1).trans h.at', (hb.block _ (Array.getElem?_eq_some_iff.1 h.pm).1).trans h.pm, h.off.trans (Off.of_below (S := fun _ => False) hb) (fun _ _ e => e.elim), h.lt⟩
/-- the lens is turned -/
theorem CSt.turn (h : CSt w lo mb lb ab bm zs N P L a p e C W) (hl : LensAt W' lo lb zs p' e') (ho : Off (fun q => q = lb) W W') : CSt w lo mb lb ab bm zs N P L a p' e' C W' := by
  obtain ⟨h1, h2, h3, h4, h5⟩ := h.lt
  exact ⟨(ho.block _ (Array.getElem?_eq_some_iff.1 h.m).1 (by omega)).trans h.m, hl, own_offM h.o ho (fun g hg e => by have := (h.o.lt g hg).1; omega), (ho.block _ (Array.getElem?_eq_some_iff.1 h.at').1 (by omega)).trans h.at', (ho.block _ (Array.getElem?_eq_some_iff.1 h.pm).1 (by omega)).trans h.pm, h.off.trans ho (fun _ _ e => .inr (.inl e)), h.lt⟩
/-- the last cell is told -/
theorem CSt.set (h : CSt w lo mb lb ab bm zs N P L a p e C W) (y : Int) : CSt w lo mb lb ab bm zs N P L y p e C (W.setCell ⟨ab, 0, none⟩ (.int .i64 y)) := by
  obtain ⟨h1, h2, h3, h4, h5⟩ := h.lt
  have ho : Off (fun q => q = ab) W (W.setCell ⟨ab, 0, none⟩ (.int .i64 y)) := Off.setCell (S := fun q => q = ab) (p := ⟨ab, 0, none⟩) (Off.refl _ W) rfl _
  have hne := row_ne h.pm h.at' (by decide)
  exact ⟨(ho.block _ (Array.getElem?_eq_some_iff.1 h.m).1 (by omega)).trans h.m, h.l.off ho (fun k _ hk => by omega), own_offM h.o ho (fun g hg e => by have := (h.o.lt g hg).1; omega), by rw [setCell_at h.at']; rfl, (ho.block _ (Array.getElem?_eq_some_iff.1 h.pm).1 hne).trans h.pm, h.off.trans ho (fun _ _ e => .inr (.inr e)), h.lt⟩
end
end Go.Proofs.Ytlbfibnfmijahaa

namespace Go.Proofs.Ytlbfibnfmijahaa
open Go.RowKit Go.Shelf
set_option maxRecDepth 100000
attribute [local go_sem] Oper.semAt_some

/-- while points are read: the message's box, the lens, the points' own row, the last point's box, the step's box -/
structure PSt (w : World) (lo mb lb ab sb bm : Nat) (zs : List Int) (N : Mg) (C : Value) (L : List (Int × Int)) (x y : Int) (p e : Nat) (P : Value) (W : World) : Prop where
  m : W.heap[mb]? = some (.cells (mC { N with p := L } P C) 33 (0, 0))
  l : LensAt W lo lb zs p e
  o : W.ownsRow w.heap.size 63 2 P L.length ((fl2 L).map (Value.int .i64))
  at' : W.heap[ab]? = some (.cells #[.int .i64 x, .int .i64 y] 63 (0, 0))
  st : W.heap[sb]? = some (.cells #[.func (.func 73) #[] #[]] 125 (0, 0))
  pm : W.heap[bm]? = some (.cells #[.pointer (some ⟨mb, 0, none⟩)] 87 (0, 0))
  off : Off (fun q => q = mb ∨ q = lb ∨ q = ab) w W
  lt : lb < mb ∧ mb < ab ∧ mb < bm ∧ mb < sb ∧ ab < w.heap.size ∧ bm < w.heap.size ∧ sb < w.heap.size
section
variable {w W W' : World} {lo mb lb ab sb bm : Nat} {zs : List Int} {N : Mg} {P C : Value} {L : List (Int × Int)} {x y : Int} {p e p' e' : Nat}
theorem PSt.later (h : PSt w lo mb lb ab sb bm zs N C L x y p e P W) (hb : Below W.heap.size W W') : PSt w lo mb lb ab sb bm zs N C L x y p e P W' :=
  ⟨(hb.block _ (Array.getElem?_eq_some_iff.1 h.m).1).trans h.m, h.l.below hb, own_below7 h.o hb, (hb.block _ (Array.getElem?_eq_some_iff.1 h.at').1).trans h.at', (hb.block _ (Array.getElem?_eq_some_iff.1 h.st).1).trans h.st, (hb.block _ (Array.getElem?_eq_some_iff.1 h.pm).1).trans h.pm, h.off.trans (Off.of_below (S := fun _ => False) hb) (fun _ _ e => e.elim), h.lt⟩
/-- the lens is turned -/
theorem PSt.turn (h : PSt w lo mb lb ab sb bm zs N C L x y p e P W) (hl : LensAt W' lo lb zs p' e') (ho : Off (fun q => q = lb) W W') : PSt w lo mb lb ab sb bm zs N C L x y p' e' P W' := by
  obtain ⟨h1, h2, h3, h4, h5, h6, h7⟩ := h.lt
  exact ⟨(ho.block _ (Array.getElem?_eq_some_iff.1 h.m).1 (by omega)).trans h.m, hl, own_offM h.o ho (fun g hg e => by have := (h.o.lt g hg).1; omega), (ho.block _ (Array.getElem?_eq_some_iff.1 h.at').1 (by omega)).trans h.at', (ho.block _ (Array.getElem?_eq_some_iff.1 h.st).1 (by omega)).trans h.st, (ho.block _ (Array.getElem?_eq_some_iff.1 h.pm).1 (by omega)).trans h.pm, h.off.trans ho (fun _ _ e => .inr (.inl e)), h.lt⟩
/-- the last point is told -/
theorem PSt.set (h : PSt w lo mb lb ab sb bm zs N C L x y p e P W) (j : Nat) (u x' y' : Int) (hj : (#[Value.int .i64 x, Value.int .i64 y]).setIfInBounds j (.int .i64 u) = #[Value.int .i64 x', Value.int .i64 y']) : PSt w lo mb lb ab sb bm zs N C L x' y' p e P (W.setCell ⟨ab, j, none⟩ (.int .i64 u)) := by
  obtain ⟨h1, h2, h3, h4, h5, h6, h7⟩ := h.lt
  have ho : Off (fun q => q = ab) W (W.setCell ⟨ab, j, none⟩ (.int .i64 u)) := Off.setCell (S := fun q => q = ab) (p := ⟨ab, j, none⟩) (Off.refl _ W) rfl _
  have hne := row_ne h.pm h.at' (by decide)
  have hne2 := row_ne h.st h.at' (by decide)
  exact ⟨(ho.block _ (Array.getElem?_eq_some_iff.1 h.m).1 (by omega)).trans h.m, h.l.off ho (fun k _ hk => by omega), own_offM h.o ho (fun g hg e => by have := (h.o.lt g hg).1; omega), by rw [setCell_at h.at', hj], (ho.block _ (Array.getElem?_eq_some_iff.1 h.st).1 hne2).trans h.st, (ho.block _ (Array.getElem?_eq_some_iff.1 h.pm).1 hne).trans h.pm, h.off.trans ho (fun _ _ e => .inr (.inr e)), h.lt⟩
end
end Go.Proofs.Ytlbfibnfmijahaa

namespace Go.Proofs.Ytlbfibnfmijahaa
open Go.RowKit Go.Shelf
set_option maxRecDepth 100000
attribute [local go_sem] Oper.semAt_some

theorem Off.two {mb lb ab : Nat} {w0 w W : World} (hb : Below w0.heap.size w0 w) (ho : Off (fun q => q = mb ∨ q = lb ∨ q = ab) w W) (hlo : w0.heap.size ≤ ab) : Off (fun q => q = mb ∨ q = lb) w0 W := by
  have := (Off.of_below (S := fun q => q = mb ∨ q = lb ∨ q = ab) hb).trans ho (fun _ _ h => h)
  exact this.mono fun j hj h => by
    rcases h with h | h | h
    · exact .inl h
    · exact .inr h
    · omega
theorem CSt.done {w0 w W : World} {lo mb lb ab bm : Nat} {zs : List Int} {N : Mg} {P C0 C : Value} {L : List Int} {a : Int} {p p' : Nat} (h0 : RdAt lo w0 mb lb zs N P C0 p 0) (hb : Below w0.heap.size w0 w) (hlo : w0.heap.size ≤ ab) (hne : L ≠ []) (h : CSt w lo mb lb ab bm zs N P L a p' 0 C W) : RdAt lo W mb lb zs { N with c := L } P C p' 0 := by
  have ho := Off.two hb h.off hlo
  obtain ⟨pa, pc, e1, h2, h3⟩ := h0.p
  have hlt := (Array.getElem?_eq_some_iff.1 h0.m).1
  have hsz := hb.size
  have ha := h0.a
  obtain ⟨ca, cc, e4, h5, h6⟩ := NuX.of_own h.o (by omega) (b4 := mb) (b8 := lb) (by omega) (by omega)
  exact ⟨h.m, h.l, h0.a, ⟨pa, pc, e1, h2, h3.keep ho⟩, ⟨ca, cc, e4, h5, h6⟩, h0.pz, fun e => absurd e hne⟩
theorem PSt.done {w0 w W : World} {lo mb lb ab sb bm : Nat} {zs : List Int} {N : Mg} {C P0 P : Value} {L : List (Int × Int)} {x y : Int} {p p' : Nat} (h0 : RdAt lo w0 mb lb zs N P0 C p 0) (hb : Below w0.heap.size w0 w) (hlo : w0.heap.size ≤ ab) (hne : L ≠ []) (h : PSt w lo mb lb ab sb bm zs N C L x y p' 0 P W) : RdAt lo W mb lb zs { N with p := L } P C p' 0 := by
  have ho := Off.two hb h.off hlo
  obtain ⟨pa, pc, e1, h2, h3⟩ := h0.c
  have hlt := (Array.getElem?_eq_some_iff.1 h0.m).1
  have hsz := hb.size
  have ha := h0.a
  obtain ⟨ca, cc, e4, h5, hc⟩ := nums_of_own h.o (by omega)
  refine ⟨h.m, h.l, h0.a, ⟨ca, cc, e4, h5, fun hn => ?_⟩, ⟨pa, pc, e1, h2, h3.keep ho⟩, fun e => absurd e hne, h0.cz⟩
  obtain ⟨b, off, e6, h7, h8⟩ := hc hn
  have hge : w.heap.size ≤ b := (h.o.lt b (by rw [e4, e6]; rfl)).1
  exact ⟨b, off, e6, by omega, by omega, h8⟩
end Go.Proofs.Ytlbfibnfmijahaa

namespace Go.Proofs.Ytlbfibnfmijahaa
open Go.RowKit Go.Shelf
set_option maxRecDepth 100000
attribute [local go_sem] Oper.semAt_some

end Go.Proofs.Ytlbfibnfmijahaa

namespace Go.Proofs.Ytlbfibnfmijahaa
open Go.RowKit Go.Shelf
set_option maxRecDepth 100000
attribute [local go_sem] Oper.semAt_some

end Go.Proofs.Ytlbfibnfmijahaa

namespace Go.Proofs.Ytlbfibnfmijahaa
open Go.RowKit Go.Shelf
set_option maxRecDepth 100000
attribute [local go_sem] Oper.semAt_some

theorem RdO.since {lo mb lb : Nat} {zs : List Int} {p : Nat} {x : Nat × Nat × Mg} {w w1 w' : World} {r : Ending} (h : RdO lo mb lb zs p x w1 r w') (hb : Below w.heap.size w w1) : RdO lo mb lb zs p x w r w' :=
  ⟨h.1, (Off.of_below (S := fun q => q = mb ∨ q = lb) hb).trans h.2.1 (fun _ _ h => h), h.2.2⟩
end Go.Proofs.Ytlbfibnfmijahaa

namespace Go.Proofs.Ytlbfibnfmijahaa
open Go.RowKit Go.Shelf
set_option maxRecDepth 100000
attribute [local go_sem] Oper.semAt_some

/-- .. whose lists are the call's own -/
def DecO (w : World) (r : Nat × Mg) (e : Ending) (w' : World) : Prop := ∃ P C, e = .returned (.tuple #[mV r.2 P C, .int .i64 (r.1 : Int)]) ∧ MOwn w.heap.size w' r.2 P C ∧ Below w.heap.size w w'
theorem MOwn.zero (base : Nat) (w : World) (k : Int) : MOwn base w (Mg.zero k) (.slice none 0 0) (.slice none 0 0) := ⟨World.ownsRow_nil _ _ _ _, World.ownsRow_nil _ _ _ _⟩
theorem mC_zero (k : Int) : mC (Mg.zero k) (.slice none 0 0) (.slice none 0 0) = #[.int .i64 k, .int .i64 0, .int .i64 0, .int .i64 0, .int .i64 0, .int .i64 0, .int .i64 0, .slice none 0 0, .slice none 0 0, .string ⟨#[]⟩, .string ⟨#[]⟩] := rfl
theorem MAt.zero (w : World) (B : Nat) (k : Int) : MAt w B (Mg.zero k) (.slice none 0 0) (.slice none 0 0) := ⟨⟨none, 0, rfl, Nat.le_refl _, Nums.nil⟩, ⟨none, 0, rfl, Nat.le_refl _, Nums.nil⟩⟩
theorem NuX.putObj {W : World} {mb lb l : Nat} {a : Option Addr} {zs : List Int} {o o' : Obj} (h : NuX W mb lb a zs) (ho : W.heap[l]? = some o) (hc : o.isCells = false) : NuX (W.putObj l o') mb lb a zs := fun hn => by
  obtain ⟨b, off, e, h1, h2, hcl⟩ := h hn
  obtain ⟨z, hz⟩ : ∃ z, zs[0]? = some z := by
    cases zs with
    | nil => exact absurd rfl hn
    | cons x r => exact ⟨x, rfl⟩
  have hne : b ≠ l := fun e2 => by
    subst e2
    have := hcl 0 z hz
    unfold World.cell? at this
    simp only [ho] at this
    cases o <;> simp_all [Obj.isCells]
  refine ⟨b, off, e, h1, h2, fun j c hj => ?_⟩
  have hx : (W.putObj l o').heap[b]? = W.heap[b]? := World.putObj_heap_other hne
  rw [← hcl j c hj]
  simp only [World.cell?, hx]
theorem RdAt.putObj {lo mb lb l : Nat} {W : World} {zs : List Int} {N : Mg} {P C : Value} {p e : Nat} {o o' : Obj} (h : RdAt lo W mb lb zs N P C p e) (hl : mb < l) (ho : W.heap[l]? = some o) (hc : o.isCells = false) : RdAt lo (W.putObj l o') mb lb zs N P C p e := by
  obtain ⟨⟨a, c, h1, h2, h3⟩, ⟨a', c', h4, h5, h6⟩⟩ := And.intro h.p h.c
  have ha := h.a
  have hoff : Off (fun k => k = l) W (W.putObj l o') := ⟨rfl, rfl, rfl, by simp [World.putObj], fun k _ hn => World.putObj_heap_other hn⟩
  exact ⟨(World.putObj_heap_other (by omega)).trans h.m, h.l.off hoff (fun k _ hk => by omega), h.a, ⟨a, c, h1, h2, h3.putObj ho hc⟩, ⟨a', c', h4, h5, h6.putObj ho hc⟩, h.pz, h.cz⟩
/-- while fields are read: so many have been -/
def DcI (w6 : World) (lo mb lb qe : Nat) (zs : List Int) (FL : List Fd) (k : Int) (j : Nat) (V : World) : Prop := ∃ (N : Mg) (P C : Value) (p : Nat), RdAt lo V mb lb zs N P C p 0 ∧ V.heap[qe]? = some (.cells #[.int .i64 0] 23 (0, 0)) ∧ Off (fun q => q = mb ∨ q = lb ∨ q = qe) w6 V ∧
  Msm N ∧ Flds (FL.drop j) N ∧ rdL FL (Mg.zero k) zs = ((rdL (FL.drop j) N (zs.drop p)).1, p + (rdL (FL.drop j) N (zs.drop p)).2.1, (rdL (FL.drop j) N (zs.drop p)).2.2)
section
variable {w6 V V' : World} {lo mb lb qe : Nat} {zs : List Int} {FL : List Fd} {k : Int} {j : Nat}
theorem DcI.later (h : DcI w6 lo mb lb qe zs FL k j V) (hb : Below V.heap.size V V') : DcI w6 lo mb lb qe zs FL k j V' := by
  obtain ⟨N, P, C, p, h1, h2, h3, h4, h5, h6⟩ := h
  exact ⟨N, P, C, p, h1.later hb, (hb.block _ (Array.getElem?_eq_some_iff.1 h2).1).trans h2, h3.trans (Off.of_below (S := fun _ => False) hb) (fun _ _ h => h.elim), h4, h5, h6⟩
theorem DcI.putObj {l : Nat} {o o' : Obj} (h : DcI w6 lo mb lb qe zs FL k j V) (hl : w6.heap.size ≤ l) (hm : mb < w6.heap.size) (hq : qe < w6.heap.size) (ho : V.heap[l]? = some o) (hc : o.isCells = false) : DcI w6 lo mb lb qe zs FL k j (V.putObj l o') := by
  obtain ⟨N, P, C, p, h1, h2, h3, h4, h5, h6⟩ := h
  have hoff : Off (fun k => k = l) V (V.putObj l o') := ⟨rfl, rfl, rfl, by simp [World.putObj], fun k _ hn => World.putObj_heap_other hn⟩
  exact ⟨N, P, C, p, h1.putObj (by omega) ho hc, (World.putObj_heap_other (by omega)).trans h2, h3.trans hoff (fun _ _ e => by omega), h4, h5, h6⟩
end
end Go.Proofs.Ytlbfibnfmijahaa

namespace Go.Proofs.Ytlbfibnfmijahaa
open Go.RowKit
set_option maxRecDepth 100000

end Go.Proofs.Ytlbfibnfmijahaa

namespace Go.Proofs.Ytlbfibnfmijahaa
open Go.RowKit Go.Shelf
set_option maxRecDepth 100000
attribute [local go_sem] Oper.semAt_some

end Go.Proofs.Ytlbfibnfmijahaa

namespace Go.Proofs.Ytlbfibnfmijahaa
open Go.RowKit Go.Shelf
set_option maxRecDepth 100000
attribute [local go_sem] Oper.semAt_some

theorem mg_oneV {w : World} {B : Nat} {M : Mg} {P C : Value} (h : MAt w B M P C) : (mC M P C).all (·.oneCell') = true := by
  obtain ⟨⟨a, c, rfl, -, -⟩, ⟨a', c', rfl, -, -⟩⟩ := h
  exact mg_one _ _ _ _ _ _ _
/-- a message is stored into a new box -/
theorem new_msg (W : World) {w : World} {B : Nat} {M : Mg} {P C : Value} (h : MAt w B M P C) : ∃ W2, (Instr.storeAt 33 (.pointer (some ⟨W.heap.size, 0, none⟩)) (.agg (mC M P C))).run Try.prog (W.alloc (.cells #[.int .i64 0, .int .i64 0, .int .i64 0, .int .i64 0, .int .i64 0, .int .i64 0, .int .i64 0, .slice none 0 0, .slice none 0 0, .string ⟨#[]⟩, .string ⟨#[]⟩] 33)) = .ok () W2 ∧
    W2.heap[W.heap.size]? = some (.cells (mC M P C) 33 (0, 0)) ∧ Below W.heap.size W W2 := by
  have r := World.alloc_heap_new W (.cells #[.int .i64 0, .int .i64 0, .int .i64 0, .int .i64 0, .int .i64 0, .int .i64 0, .int .i64 0, .slice none 0 0, .slice none 0 0, .string ⟨#[]⟩, .string ⟨#[]⟩] 33)
  have hb : Below W.heap.size W (W.alloc (.cells #[.int .i64 0, .int .i64 0, .int .i64 0, .int .i64 0, .int .i64 0, .int .i64 0, .int .i64 0, .slice none 0 0, .slice none 0 0, .string ⟨#[]⟩, .string ⟨#[]⟩] 33)) := (Below.refl _ W).alloc (Nat.le_refl _) _
  have hoff := Off.setRow (S := fun k => k = W.heap.size) (Off.refl _ (W.alloc (.cells #[.int .i64 0, .int .i64 0, .int .i64 0, .int .i64 0, .int .i64 0, .int .i64 0, .int .i64 0, .slice none 0 0, .slice none 0 0, .string ⟨#[]⟩, .string ⟨#[]⟩] 33))) rfl (mC M P C)
  exact ⟨_, mg_store _ _ _ (mC M P C) r rfl rfl (mg_oneV h), setRow_heap _ _ _ _ _ _ r, hb.trans (hoff.below (B := W.heap.size) (fun k hk => by omega) hb.size)⟩
end Go.Proofs.Ytlbfibnfmijahaa

namespace Go.Proofs.Ytlbfibnfmijahaa
open Go.RowKit Go.Shelf
set_option maxRecDepth 100000
attribute [local go_sem] Oper.semAt_some

end Go.Proofs.Ytlbfibnfmijahaa

namespace Go.Proofs.Ytlbfibnfmijahaa
open Go.RowKit Go.Shelf
set_option maxRecDepth 100000
attribute [local go_sem] Oper.semAt_some

end Go.Proofs.Ytlbfibnfmijahaa

namespace Go.Proofs.Ytlbfibnfmijahaa
open Go.RowKit Go.Shelf
set_option maxRecDepth 100000
attribute [local go_sem] Oper.semAt_some

end Go.Proofs.Ytlbfibnfmijahaa

namespace Go.Proofs.Ytlbfibnfmijahaa
open Go.RowKit Go.Shelf
set_option maxRecDepth 100000
attribute [local go_sem] Oper.semAt_some

end Go.Proofs.Ytlbfibnfmijahaa

namespace Go.Proofs.Ytlbfibnfmijahaa
open Go.RowKit Go.Shelf
set_option maxRecDepth 100000
attribute [local go_sem] Oper.semAt_some

end Go.Proofs.Ytlbfibnfmijahaa

namespace Go.Proofs.Ytlbfibnfmijahaa
open Go.RowKit Go.Shelf
set_option maxRecDepth 100000
attribute [local go_sem] Oper.semAt_some

end Go.Proofs.Ytlbfibnfmijahaa

namespace Go.Proofs.Ytlbfibnfmijahaa
open Go.RowKit
section
variable {P : Program} {l : List Oper} {vs : List Value} {fs : List Tmp} {FS : Tmp → Value → World → Prop} {I : World → Prop} {a0 : Act}
end
end Go.Proofs.Ytlbfibnfmijahaa

namespace Go.Proofs.Ytlbfibnfmijahaa
open Go.RowKit Go.Shelf
set_option maxRecDepth 100000
attribute [local go_sem] Oper.semAt_some

end Go.Proofs.Ytlbfibnfmijahaa

namespace Go.Proofs.Ytlbfibnfmijahaa
open Go.RowKit Go.Shelf
set_option maxRecDepth 100000
attribute [local go_sem] Oper.semAt_some

end Go.Proofs.Ytlbfibnfmijahaa

namespace Go.Proofs.Ytlbfibnfmijahaa
open Go.RowKit Go.Shelf
set_option maxRecDepth 100000

end Go.Proofs.Ytlbfibnfmijahaa

namespace Go.Proofs.Ytlbfibnfmijahaa
open Go.RowKit Go.Shelf
set_option maxRecDepth 100000
attribute [local go_sem] Oper.semAt_some

end Go.Proofs.Ytlbfibnfmijahaa

namespace Go.Proofs.Ytlbfibnfmijahaa
open Go.RowKit Go.Shelf
set_option maxRecDepth 100000
attribute [local go_sem] Oper.semAt_some

theorem spack_nil (M : Mg) (P C : Value) (w : World) : Calls Try.prog 8 #[.pointer none, mV M P C] w fun e w' => e = .returned (.tuple #[.int .i64 0, .slice none 0 0, .int .i64 1]) ∧ Below w.heap.size w w' := by
  have hb2 : Below w.heap.size w (w.alloc (.cells (mC M P C) 33)) := (Below.refl _ w).alloc (Nat.le_refl _) _
  have HB2 := Lib.hid hb2
  clear hb2
  unfold mV mC
  go_enter Try.func8, Try.ntmps8
  go_wp2
  go_ret3
  exact ⟨rfl, HB2.out⟩
theorem sunpack_nil (k : Int) (x : Value) (w : World) : Calls Try.prog 9 #[.pointer none, .int .i64 k, x] w fun e w' => DecO w (1, Mg.zero 0) e w' := by
  obtain ⟨w2, hw2⟩ : ∃ w2, w.alloc (.cells #[.int .i64 0, .int .i64 0, .int .i64 0, .int .i64 0, .int .i64 0, .int .i64 0, .int .i64 0, .slice none 0 0, .slice none 0 0, .string ⟨#[]⟩, .string ⟨#[]⟩] 33) = w2 := ⟨_, rfl⟩
  have hb2 : Below w.heap.size w w2 := by rw [← hw2]; exact (Below.refl _ w).alloc (Nat.le_refl _) _
  have q0 : w2.heap[w.heap.size]? = some (.cells (mC (Mg.zero 0) (.slice none 0 0) (.slice none 0 0)) 33 (0, 0)) := by rw [← hw2]; exact World.alloc_heap_new _ _
  have hst := mg_store w2 w.heap.size _ (mC (Mg.zero 0) (.slice none 0 0) (.slice none 0 0)) q0 rfl rfl (mg_one _ _ _ _ _ _ _)
  have hrow := setRow_heap w2 w.heap.size _ (mC (Mg.zero 0) (.slice none 0 0) (.slice none 0 0)) _ _ q0
  have hoff := (Off.setRow (S := fun q => q = w.heap.size) (Off.refl _ w2) rfl (mC (Mg.zero 0) (.slice none 0 0) (.slice none 0 0)))
  obtain ⟨W', hW'⟩ : ∃ W', w2.setRow w.heap.size (mC (Mg.zero 0) (.slice none 0 0) (.slice none 0 0)) = W' := ⟨_, rfl⟩
  rw [hW'] at hst hrow hoff
  have hbel : Below w.heap.size w W' := hb2.trans (hoff.below (B := w.heap.size) (fun q hq => by omega) hb2.size)
  rw [mC_zero] at hst
  have HST := Lib.hid hst
  have HRW := Lib.hid hrow
  have HBE := Lib.hid hbel
  have HW2 := Lib.hid hw2
  clear hw2 q0 hst hrow hoff hW' hb2 hbel
  go_enter Try.func9, Try.ntmps9
  go_wp2_with (rw [HW2.out]; refine wpList_store_run rfl 33 (.tmp 6) (.tmp 10) rfl (some ⟨w.heap.size, 0, none⟩) rfl (.agg #[.int .i64 0, .int .i64 0, .int .i64 0, .int .i64 0, .int .i64 0, .int .i64 0, .int .i64 0, .slice none 0 0, .slice none 0 0, .string ⟨#[]⟩, .string ⟨#[]⟩]) rfl HST.out ?_)
  obtain ⟨y0, y1, y2, y3, y4, y5, y6, y7, y8, y9, y10⟩ := mg_block HRW.out
  refine bodyPost_ret (v := .tuple #[.agg (mC (Mg.zero 0) (.slice none 0 0) (.slice none 0 0)), .int .i64 1]) (by simp [results, Try.results9, go_sem, y0, y1, y2, y3, y4, y5, y6, y7, y8, y9, y10, mC]) rfl ?_
  exact ⟨_, _, rfl, MOwn.zero _ _ _, HBE.out⟩
end Go.Proofs.Ytlbfibnfmijahaa

namespace Go.Proofs.Ytlbfibnfmijahaa
open Go.RowKit Go.Shelf
set_option maxRecDepth 100000
attribute [local go_sem] Oper.semAt_some

section
variable {P : Program} {l : List Oper} {fs : List Tmp} {FS : Tmp → Value → World → Prop} {I : World → Prop} {E : Act → Prop} {o : Oper} {rest : List Oper} {a : Act}
/-- an operation that its guard passes over -/
theorem wpF_skipS (hn : noB l.toArray fs o = true) (hw : Region.wanted o (yielded l.toArray a.tmps) = false) (h : wpF P l.toArray I fs FS E rest (a.put o.dst undef)) : wpF P l.toArray I fs FS E (o :: rest) a := by
  obtain ⟨h1, h2⟩ := noB_spec hn
  exact ⟨undef, .inl ⟨h1, h2, .inr ⟨hw, rfl⟩⟩, h⟩
end
theorem sfit_any (M : Mg) (P C : Value) (v : Int) (w : World) (hs : Msm M) (h1 : MAt w w.heap.size M P C) : Calls Try.prog 23 #[mV M P C, .int .i64 v] w fun e w' => e = .returned (.bool (decide (mproj M v = M))) ∧ Below w.heap.size w w' := by
  obtain ⟨w2, hw2⟩ : ∃ w2, w.alloc (.cells (mC M P C) 33) = w2 := ⟨_, rfl⟩
  have hb2 : Below w.heap.size w w2 := by rw [← hw2]; exact (Below.refl _ w).alloc (Nat.le_refl _) _
  have q0 : w2.heap[w.heap.size]? = some (.cells (mC M P C) 33 (0, 0)) := by rw [← hw2]; exact World.alloc_heap_new _ _
  have hlt := (Array.getElem?_eq_some_iff.1 q0).1
  have LM : ∀ W, Below w2.heap.size w2 W → (Instr.loadAt 33 (.pointer (some ⟨w.heap.size, 0, none⟩))).run Try.prog W = .ok (.agg (mC M P C)) W := fun W hW => mg_read ((hW.block _ hlt).trans q0)
  have FM : ∀ W, Below w2.heap.size w2 W → FMs M (.agg (mC M P C)) W := fun W hW => ⟨P, C, rfl, (h1.later hb2).later hW⟩
  have HW2 := Lib.hid hw2
  have HB2 := Lib.hid hb2
  have hsP := mproj_small hs v
  clear hw2 hb2 q0 h1
  unfold mV
  go_enter Try.func23, Try.ntmps23
  go_wp2_with fail
  rw [HW2.out]
  refine wp_region_F 10 [8] (fun _ x W => FMs (mproj M v) x W) (fun W => Below w2.heap.size w2 W) (by kernel_rfl) (by kernel_rfl) (by rfl) (by simp) (fun W W' h hb => h.trans (hb.mono h.size)) (fun s x W W' h hb => h.later hb) (Below.refl _ _).drew ?_
  refine wpF_load (ad := ⟨w.heap.size, 0, none⟩) (.agg (mC M P C)) rfl (by rfl) (by rfl) (by rfl) LM ?_
  simp only [Act.put, List.setIfInBounds_toArray, List.set_cons_succ, List.set_cons_zero]
  refine wpF_load (ad := ⟨w.heap.size, 0, none⟩) (.agg (mC M P C)) rfl (by rfl) (by rfl) (by rfl) LM ?_
  simp only [Act.put, List.setIfInBounds_toArray, List.set_cons_succ, List.set_cons_zero]
  repeat (refine wpF_pure rfl rfl ?_; go_big_quiet_step (fail); refine wpQuiet_nil ?_)
  refine wpF_callsrc 8 (f := 27) (args := #[.agg (mC M P C), .int .i64 v]) (by simp) rfl rfl rfl (fun x => by first | rfl | (simp [go_sem]; done)) (fun W hW => proj_F v hs (FM W hW)) ?_
  simp only [Act.put, List.setIfInBounds_toArray, List.set_cons_succ, List.set_cons_zero]
  refine wpF_use 8 3 (f := 11) (fun x => #[.agg (mC M P C), x]) (.bool (decide (mproj M v = M))) (by simp) rfl (by kernel_rfl) (by kernel_rfl) (by kernel_rfl) (fun x => by rfl) (fun x W => by first | rfl | (simp [go_sem]; done)) (fun x W hW hx => by
    have := same_F hs (FM W hW) hx
    rwa [show decide (M = mproj M v) = decide (mproj M v = M) from decide_eq_decide.2 eq_comm] at this) ?_
  simp only [Act.put, List.setIfInBounds_toArray, List.set_cons_succ, List.set_cons_zero]
  repeat (refine wpF_pure rfl rfl ?_; go_big_quiet_step (fail); refine wpQuiet_nil ?_)
  intro xs w3 hb3 _
  have HF := Lib.hid (HB2.out.trans (hb3.mono HB2.out.size))
  clear LM FM hb3
  simp only [fill, Act.put, List.setIfInBounds_toArray, List.set_cons_succ, List.set_cons_zero]
  go_wp2
  go_ret
  exact ⟨rfl, HF.out⟩
theorem sfits_nil (M : Mg) (P C : Value) (w : World) : Calls Try.prog 13 #[.pointer none, mV M P C] w fun e w' => e = .returned (.bool false) ∧ Below w.heap.size w w' := by
  obtain ⟨w2, hw2⟩ : ∃ w2, w.alloc (.cells (mC M P C) 33) = w2 := ⟨_, rfl⟩
  have hb2 : Below w.heap.size w w2 := by rw [← hw2]; exact (Below.refl _ w).alloc (Nat.le_refl _) _
  have HW2 := Lib.hid hw2
  have HB2 := Lib.hid hb2
  clear hw2 hb2
  unfold mV
  go_enter Try.func13, Try.ntmps13
  go_wp2_with fail
  rw [HW2.out]
  refine wp_region_F 21 [] (fun _ _ _ => True) (fun W => Below w2.heap.size w2 W) (by kernel_rfl) (by kernel_rfl) (by rfl) (by simp) (fun W W' h hb => h.trans (hb.mono h.size)) (fun s x W W' h hb => trivial) (Below.refl _ _).drew ?_
  repeat (refine wpF_pure rfl rfl ?_; go_big_quiet_step (fail); refine wpQuiet_nil ?_)
  repeat (refine wpF_skipS rfl rfl ?_; simp only [Act.put, List.setIfInBounds_toArray, List.set_cons_succ, List.set_cons_zero])
  repeat (refine wpF_pure rfl rfl ?_; go_big_quiet_step (fail); refine wpQuiet_nil ?_)
  repeat (refine wpF_skipS rfl rfl ?_; simp only [Act.put, List.setIfInBounds_toArray, List.set_cons_succ, List.set_cons_zero])
  repeat (refine wpF_pure rfl rfl ?_; go_big_quiet_step (fail); refine wpQuiet_nil ?_)
  intro xs w3 hb3 _
  have HF := Lib.hid (HB2.out.trans (hb3.mono HB2.out.size))
  clear hb3
  simp only [fill]
  go_wp2
  go_ret
  exact ⟨rfl, HF.out⟩
end Go.Proofs.Ytlbfibnfmijahaa

namespace Go.Proofs.Ytlbfibnfmijahaa
open Go.RowKit
section
variable {P : Program} {l : List Oper} {vs : List Value} {fs : List Tmp} {FS : Tmp → Value → World → Prop} {Pr : Tmp → Value → Tmp → Value → Prop} {I : World → Prop} {a0 : Act}
/-- what an operation gives in this world, and what it is beside what was given ahead of it -/
def FpO (fs : List Tmp) (FS : Tmp → Value → World → Prop) (Pr : Tmp → Value → Tmp → Value → Prop) (o : Oper) (w : World) : Tmp → Value → World → Prop := fun d u W =>
  FS d u W ∧ (o.dst = some d → ∀ d' ∈ fs, d' ≠ d → ∀ x', FS d' x' w → Pr d u d' x' ∧ Pr d' x' d u)
def PrI (l : List Oper) (fs : List Tmp) (Pr : Tmp → Value → Tmp → Value → Prop) (listed : Array Bool) (b : Act) : Prop :=
  ∀ d ∈ fs, ∀ d' ∈ fs, d ≠ d' → (∃ (j : Nat) (o : Oper), l[j]? = some o ∧ listed.getD j true = true ∧ o.dst = some d) → (∃ (j : Nat) (o : Oper), l[j]? = some o ∧ listed.getD j true = true ∧ o.dst = some d') →
    ∀ x x', b.tmps[d]? = some x → b.tmps[d']? = some x' → Pr d x d' x'
/-- the walk in the text's order -/
def wpP (P : Program) (ops : Array Oper) (I : World → Prop) (fs : List Tmp) (FS : Tmp → Value → World → Prop) (Pr : Tmp → Value → Tmp → Value → Prop) (E : Act → Prop) : List Oper → Act → Prop
  | [], a => E a
  | o :: r, a => ∃ v, (∀ w, I w → Ob P ops (fun W => W = w) fs (FpO fs FS Pr o w) o v a) ∧ wpP P ops I fs FS Pr E r (a.put o.dst v)
theorem wpP_vals {ops : Array Oper} {E : Act → Prop} : ∀ (l : List Oper) (a : Act), wpP P ops I fs FS Pr E l a → ∃ vs : List Value, vs.length = l.length ∧
    (∀ (k : Nat) o v, l[k]? = some o → vs[k]? = some v → ∀ w, I w → Ob P ops (fun W => W = w) fs (FpO fs FS Pr o w) o v (lex l vs a k)) ∧ E (lex l vs a l.length)
  | [], a, h => ⟨[], rfl, by simp, h⟩
  | o :: r, a, ⟨v, hob, hr⟩ => by
    obtain ⟨vs, h1, h2, h3⟩ := wpP_vals r _ hr
    refine ⟨v :: vs, by simp [h1], fun k o' v' ho hv => ?_, h3⟩
    cases k with
    | zero =>
      simp only [List.getElem?_cons_zero, Option.some.injEq] at ho hv
      subst ho hv
      exact hob
    | succ k =>
      simp only [List.getElem?_cons_succ] at ho hv
      exact h2 k o' v' ho hv
theorem PrI.next {N : Nat} (hR : RG .any l.toArray N) (hN : N ≤ a0.tmps.size) (hlen : vs.length = l.length) {listed : Array Bool} {b : Act} {w : World} {i : Nat} {o : Oper} {u : Value} (h : Inv l vs fs FS I a0 listed b w) (hp : PrI l fs Pr listed b) (ho : l[i]? = some o) (_hun : listed.getD i true = false)
    (hu : ∀ d, o.dst = some d → d ∈ fs → ∀ d' ∈ fs, d' ≠ d → ∀ x', FS d' x' w → Pr d u d' x' ∧ Pr d' x' d u) : PrI l fs Pr (listed.setIfInBounds i true) (b.put o.dst u) := by
  have ho' : l.toArray[i]? = some o := by simpa using ho
  have key : ∀ d, (∃ (j : Nat) (oj : Oper), l[j]? = some oj ∧ (listed.setIfInBounds i true).getD j true = true ∧ oj.dst = some d) → (o.dst = some d) ∨ ((∃ (j : Nat) (oj : Oper), l[j]? = some oj ∧ listed.getD j true = true ∧ oj.dst = some d) ∧ o.dst ≠ some d) := by
    rintro d ⟨j, oj, hj, hlj, hd⟩
    by_cases hij : i = j
    · subst hij
      obtain rfl : o = oj := Option.some.inj (ho.symm.trans hj)
      exact .inl hd
    · rw [getD_set_far _ hij] at hlj
      exact .inr ⟨⟨j, oj, hj, hlj, hd⟩, hR.once i j o oj d ho' (by simpa using hj) hd hij⟩
  have got : ∀ d ∈ fs, (∃ (j : Nat) (oj : Oper), l[j]? = some oj ∧ listed.getD j true = true ∧ oj.dst = some d) → ∀ x, b.tmps[d]? = some x → FS d x w := by
    rintro d hd ⟨j, oj, hj, hlj, hdj⟩ x hx
    obtain ⟨v, hv⟩ : ∃ v, vs[j]? = some v := ⟨_, List.getElem?_eq_getElem (by rw [hlen]; exact (List.getElem?_eq_some_iff.1 hj).1)⟩
    obtain ⟨y, hy, hf⟩ := (h.ins j oj d v hj hlj hdj hv).1 hd
    obtain rfl : x = y := Option.some.inj (hx.symm.trans hy)
    exact hf
  have same : ∀ d x, o.dst = some d → (b.put o.dst u).tmps[d]? = some x → x = u := fun d x hd hx => by
    have hlt : d < b.tmps.size := by rw [h.size]; exact Nat.lt_of_lt_of_le (hR.small i o d ho' hd) hN
    rw [hd, put_same u hlt] at hx
    exact (Option.some.inj hx).symm
  intro d hd d' hd' hne h1 h2 x x' hx hx'
  rcases key d h1 with e1 | ⟨h1, e1⟩
  · rcases key d' h2 with e2 | ⟨h2, e2⟩
    · exact absurd (Option.some.inj (e1.symm.trans e2)) hne
    · rw [put_other u e2] at hx'
      obtain rfl := same d x e1 hx
      exact (hu d e1 hd d' hd' (Ne.symm hne) x' (got d' hd' h2 x' hx')).1
  · rcases key d' h2 with e2 | ⟨h2, e2⟩
    · rw [put_other u e1] at hx
      obtain rfl := same d' x' e2 hx'
      exact (hu d' e2 hd' d hd hne x (got d hd h1 x hx)).2
    · rw [put_other u e1] at hx
      rw [put_other u e2] at hx'
      exact hp d hd d' hd' hne h1 h2 x x' hx hx'

theorem any_of_FTP {N n : Nat} {Q' : Exit → Act → World → Prop} (hR : RG .any l.toArray N) (hN : N ≤ a0.tmps.size) (hlen : vs.length = l.length) (hI : Closed I) (hF : ∀ s x w w', FS s x w → Below w.heap.size w w' → FS s x w')
    (hob : ∀ (j : Nat) o v, j < n → l[j]? = some o → vs[j]? = some v → ∀ w, I w → Ob P l.toArray (fun W => W = w) fs (FpO fs FS Pr o w) o v (lex l vs a0 j)) (hn : n < l.length) (hs : Region.sinkB .any l.toArray n = true) (hc : Region.chainB .any l.toArray n = true)
    (hQ : ∀ (listed : Array Bool) b w, (∀ j, j < n → listed.getD j true = true) → (∀ t, n ≤ t → t < l.length → listed.getD t true = false) → Inv l vs fs FS I a0 listed b w → PrI l fs Pr listed b → wpAny P .any l.toArray Q' (l.length - n) listed b w) :
    ∀ (f : Nat) (listed : Array Bool) (b : Act) (w : World), (listed.toList.take n).count false = f → HeadInv .any l.toArray n listed → Inv l vs fs FS I a0 listed b w → PrI l fs Pr listed b → wpAny P .any l.toArray Q' (f + (l.length - n)) listed b w
  | 0, listed, b, w, hcn, hh, h, hpr => by
    rw [Nat.zero_add]
    exact hQ listed b w (fun j hj => count_take_zero hcn j hj) (fun t h1 h2 => hh.tail t h1 (by simpa using h2)) h hpr
  | f + 1, listed, b, w, hcn, hh, h, hpr => by
    obtain ⟨i0, hi0, hu0⟩ := count_take_pos hcn
    rw [show f + 1 + (l.length - n) = (f + (l.length - n)) + 1 by omega]
    refine ⟨fun h0 => ?_, fun i hi => ?_⟩
    · have hall := ready_all hR h.lsize h0
      rw [hall i0] at hu0
      cases hu0
    have hin : i < n := by
      rcases Nat.lt_or_ge i n with h1 | h1
      · exact h1
      · exact absurd hi (tail_waits hs hc (by simpa using hn) hh _ i0 rfl hi0 hu0 i h1)
    obtain ⟨hun, o, ho, hall⟩ := mem_ready.1 hi
    have ho2 : l[i]? = some o := by simpa using ho
    have hp : ∀ e ∈ o.after, Region.binds .any e = true → listed.getD e.on true = true := fun e he hb => by
      have h1 := hall e he hb
      rw [Array.getD_eq_getD_getElem?] at h1 ⊢
      cases hx : listed[e.on]? with
      | none => rfl
      | some y => rw [hx] at h1; simpa using h1
    obtain ⟨v, hv⟩ : ∃ v, vs[i]? = some v := ⟨_, List.getElem?_eq_getElem (by rw [hlen]; exact (List.getElem?_eq_some_iff.1 ho2).1)⟩
    have hcnt := count_take hin hun
    have h' : Inv l vs fs (FpO fs FS Pr o w) (fun W => W = w) a0 listed b w := ⟨rfl, h.size, h.defers, h.out, fun j oj d v hj hlj hdj hv => by
      obtain ⟨g1, g2⟩ := h.ins j oj d v hj hlj hdj hv
      refine ⟨fun hd => ?_, g2⟩
      obtain ⟨x, hx, hf⟩ := g1 hd
      refine ⟨x, hx, hf, fun e => ?_⟩
      have hij : i ≠ j := fun e2 => by subst e2; rw [hun] at hlj; cases hlj
      exact absurd e (hR.once i j o oj d ho (by simpa using hj) hdj hij), h.down, h.lsize⟩
    exact op_of_F hR hN hlen h' ho2 hun hp hv (hob i o v hin ho2 hv w h.cls) fun u w' hb hu =>
      any_of_FTP hR hN hlen hI hF hob hn hs hc hQ f _ _ w' (by omega) (hh.set hi hin) (h.next hR hN hI hF ho2 hp hb fun d hd => ⟨fun hf => ((hu d hd).1 hf).1, (hu d hd).2⟩)
        (hpr.next hR hN hlen h ho2 hun fun d hd hf => ((hu d hd).1 hf).2 hd)
/-- ONE WALK IN THE TEXT's ORDER SERVES EVERY ORDER; the tail, behind place n, as it stands; what sources have given is known pair by pair -/
theorem wp_region_FTP {id : Nat} {Q : Exit → Act → World → Prop} {a : Act} {w : World} {l : List Oper} (N n : Nat) (fs : List Tmp) (FS : Tmp → Value → World → Prop) (Pr : Tmp → Value → Tmp → Value → Prop) (I : World → Prop) (hm : P.follows .mixedOrders = true) (hB : rgB .any l.toArray N = true)
    (hn : decide (n < l.length) = true) (hs : Region.sinkB .any l.toArray n = true) (hc : Region.chainB .any l.toArray n = true)
    (hq : Region.seqB .any l.toArray (l.length - n) n (List.replicate n true ++ List.replicate (l.length - n) false).toArray = true)
    (hfs : (fs.all fun s => (l.take n).any fun o => o.dst == some s) = true) (hN : N ≤ a.tmps.size) (hI : Closed I) (hF : ∀ s x w w', FS s x w → Below w.heap.size w w' → FS s x w') (hC : I w.drew)
    (h : wpP P l.toArray I fs FS Pr (fun a' => ∀ xs w', I w' → (∀ s ∈ fs, FS s (xs s) w') → (∀ s ∈ fs, ∀ s' ∈ fs, s ≠ s' → Pr s (xs s) s' (xs s')) → wpList P l.toArray Q (l.drop n) (fill fs xs a') w') (l.take n) a) : (Code.region id l.toArray true).wp P Q a w := by
  have hR := rgB_spec hB
  have hn' : n < l.length := by simpa using hn
  obtain ⟨vs0, hlen0, hob0, hE0⟩ := wpP_vals (l.take n) a h
  have htl : (l.take n).length = n := by rw [List.length_take]; omega
  rw [htl] at hlen0 hE0
  obtain ⟨vs, hvs⟩ : ∃ vs, vs0 ++ List.replicate (l.length - n) undef = vs := ⟨_, rfl⟩
  have hlen : vs.length = l.length := by rw [← hvs, List.length_append, List.length_replicate]; omega
  have hlex : ∀ j, j ≤ n → lex (l.take n) vs0 a j = lex l vs a j := fun j hj => by rw [← hvs]; exact lex_take l vs0 _ a n j hj (by rw [hlen0, htl])
  have hob : ∀ (j : Nat) o v, j < n → l[j]? = some o → vs[j]? = some v → ∀ w, I w → Ob P l.toArray (fun W => W = w) fs (FpO fs FS Pr o w) o v (lex l vs a j) := fun j o v hj ho hv => by
    rw [← hlex j (by omega)]
    refine hob0 j o v (by rw [List.getElem?_take, if_pos hj]; exact ho) ?_
    rw [← hvs, List.getElem?_append_left (by omega)] at hv
    exact hv
  rw [hlex n (Nat.le_refl _)] at hE0
  have inv0 : HeadInv .any l.toArray n (Array.replicate l.toArray.size false) :=
    ⟨by simp, fun j oj _ hl => (by rw [getD_replicate_false] at hl; cases hl), fun t _ ht => getD_in (by simpa using ht) (getD_replicate_false _ _)⟩
  refine wp_region_any hm ?_
  have key := any_of_FTP (Q' := Q) (l := l) (vs := vs) (fs := fs) (FS := FS) (Pr := Pr) (I := I) (a0 := a) (n := n) hR hN hlen hI hF hob hn' hs hc ?_ n (Array.replicate l.toArray.size false) a w.drew (by
      simp only [List.size_toArray, Array.toList_replicate, List.take_replicate, List.count_replicate_self]; omega) inv0 ?_ ?_
  · rw [show n + (l.length - n) = l.toArray.size by simp; omega] at key
    exact key
  · intro listed b W hall hno hinv hpr
    have hls : ∀ s ∈ fs, ∃ (j : Nat) (o : Oper), l[j]? = some o ∧ listed.getD j true = true ∧ o.dst = some s := fun s hs => by
      rw [List.all_eq_true] at hfs
      have h1 := hfs s hs
      rw [List.any_eq_true] at h1
      obtain ⟨o, ho, hd⟩ := h1
      obtain ⟨j, hj, rfl⟩ := List.getElem_of_mem ho
      have hj1 : j < n := by rw [List.length_take] at hj; omega
      have hj2 : j < l.length := by omega
      exact ⟨j, l[j], List.getElem?_eq_getElem hj2, hall j hj1, by simpa using hd⟩
    have hw : ∀ s ∈ fs, ∃ x, b.tmps[s]? = some x ∧ FS s x W := fun s hs => by
      rw [List.all_eq_true] at hfs
      have h1 := hfs s hs
      rw [List.any_eq_true] at h1
      obtain ⟨o, ho, hd⟩ := h1
      obtain ⟨j, hj, rfl⟩ := List.getElem_of_mem ho
      have hj1 : j < n := by rw [List.length_take] at hj; omega
      have hj2 : j < l.length := by omega
      have hd' : (l[j]).dst = some s := by simpa using hd
      obtain ⟨v, hv⟩ : ∃ v, vs[j]? = some v := ⟨_, List.getElem?_eq_getElem (by rw [hlen]; exact hj2)⟩
      exact (hinv.ins j l[j] s v (List.getElem?_eq_getElem hj2) (hall j hj1) hd' hv).1 hs
    have hb : b = fill fs (fun s => b.tmps.getD s undef) (lex l vs a n) := by
      have ht : b.tmps = (fill fs (fun s => b.tmps.getD s undef) (lex l vs a n)).tmps := by
        apply Array.ext_getElem?
        intro d
        by_cases hd : d ∈ fs
        · obtain ⟨x, hx, _⟩ := hw d hd
          have hlt : d < (lex l vs a n).tmps.size := by
            rw [(lex_size l vs a n).1, ← hinv.size]
            exact (Array.getElem?_eq_some_iff.1 hx).1
          rw [fill_in fs _ _ d hd hlt, hx]
          simp [hx]
        · rw [fill_out fs _ _ d hd]
          by_cases hwr : ∃ (j : Nat) (oj : Oper), j < n ∧ l[j]? = some oj ∧ oj.dst = some d
          · obtain ⟨j, oj, hjn, hj, hdj⟩ := hwr
            obtain ⟨v, hv⟩ : ∃ v, vs[j]? = some v := ⟨_, List.getElem?_eq_getElem (by rw [hlen]; exact (List.getElem?_eq_some_iff.1 hj).1)⟩
            have hj' : l.toArray[j]? = some oj := by simpa using hj
            rw [(hinv.ins j oj d v hj (hall j hjn) hdj hv).2 hd]
            exact (lex_in l vs a n j oj d v hj hjn hv hdj (Nat.lt_of_lt_of_le (hR.small _ _ _ hj' hdj) hN) fun i oi hi _ hne => hR.once i j oi oj d (by simpa using hi) hj' hdj hne).symm
          · rw [lex_out l vs a n d fun i oi hi hin hdi => hwr ⟨i, oi, hin, hi, hdi⟩]
            refine hinv.out d fun i oi hi hli hdi => hwr ⟨i, oi, ?_, hi, hdi⟩
            rcases Nat.lt_or_ge i n with h1 | h1
            · exact h1
            · rw [hno i h1 (List.getElem?_eq_some_iff.1 hi).1] at hli; cases hli
      have hd : b.defers = (fill fs (fun s => b.tmps.getD s undef) (lex l vs a n)).defers := by
        rw [(fill_size ..).2, (lex_size ..).2]
        exact hinv.defers
      cases b
      simp only at ht hd
      rw [Act.mk.injEq]
      exact ⟨ht, hd⟩
    have hL : listed = (List.replicate n true ++ List.replicate (l.length - n) false).toArray := by
      apply Array.ext
      · simp [hinv.lsize]; omega
      · intro j h1 h2
        have hj : j < l.length := by rw [← hinv.lsize]; exact h1
        by_cases hjn : j < n
        · have h3 := hall j hjn
          rw [Array.getD_eq_getD_getElem?, Array.getElem?_eq_getElem h1] at h3
          simp only [List.getElem_toArray]
          rw [List.getElem_append_left (by simpa using hjn)]
          simpa using h3
        · have h3 := hno j (by omega) hj
          rw [Array.getD_eq_getD_getElem?, Array.getElem?_eq_getElem h1] at h3
          simp only [List.getElem_toArray]
          rw [List.getElem_append_right (by simpa using Nat.le_of_not_lt hjn)]
          simpa using h3
    have hE := hE0 (fun s => b.tmps.getD s undef) W hinv.cls fun s hs => by
      obtain ⟨x, hx, hf⟩ := hw s hs
      simpa [hx] using hf
    have hE := hE fun s hs s' hs' hne => by
      obtain ⟨x, hx, _⟩ := hw s hs
      obtain ⟨x', hx', _⟩ := hw s' hs'
      have := hpr s hs s' hs' hne (hls s hs) (hls s' hs') x x' hx hx'
      simpa [hx, hx'] using this
    rw [← hb] at hE
    have := wpAny_of_seq (md := .any) (Q' := Q) (l.drop n) n listed b W (fun j => by simp [List.getElem?_drop]) (by rw [List.length_drop, hL]; exact hq) hE
    rwa [List.length_drop] at this
  · refine ⟨hC, rfl, rfl, fun _ _ => rfl, fun j o d v hj hlj => ?_, fun j o hj hlj => ?_, by simp⟩
    all_goals
      have hlt := (List.getElem?_eq_some_iff.1 hj).1
      rw [Array.getD_eq_getD_getElem?] at hlj
      simp [hlt] at hlj
  · rintro d _ d' _ _ ⟨j, o, hj, hlj, _⟩
    have hlt := (List.getElem?_eq_some_iff.1 hj).1
    rw [Array.getD_eq_getD_getElem?] at hlj
    simp [hlt] at hlj
end
/-! one operation of the walk -/
section
variable {P : Program} {l : List Oper} {fs : List Tmp} {FS : Tmp → Value → World → Prop} {Pr : Tmp → Value → Tmp → Value → Prop} {I : World → Prop} {E : Act → Prop} {o : Oper} {rest : List Oper} {a : Act}
def noSrcB (o : Oper) (fs : List Tmp) : Bool := match o.dst with | some d => !fs.contains d | none => true
/-- one that is no source: as in XQ6's walk -/
theorem wpP_F (hd : noSrcB o fs = true) (h : wpF P l.toArray I fs FS (fun a' => wpP P l.toArray I fs FS Pr E rest a') [o] a) : wpP P l.toArray I fs FS Pr E (o :: rest) a := by
  obtain ⟨v, hob, hr⟩ := h
  have hno : ∀ d, o.dst = some d → d ∉ fs := fun d hd' => by
    unfold noSrcB at hd
    rw [hd'] at hd
    simpa using hd
  refine ⟨v, fun w hI => ?_, hr⟩
  rcases hob with ⟨h1, h2, hcalm⟩ | ⟨s, hs, hds, h1, hwt, hsrc⟩ | ⟨s, hs, hj, h1, h2, huse⟩ | ⟨s, R, hs, hds, hRs, h1, hmix⟩
  · refine .inl ⟨h1, h2, ?_⟩
    rcases hcalm with ⟨hw, hv⟩ | hw
    · exact .inl ⟨hw, fun w' e => by subst e; exact hv _ hI⟩
    · exact .inr hw
  · exact absurd hs (hno s hds)
  · exact .inr (.inr (.inl ⟨s, hs, hj, h1, h2, fun x w' e hx => by subst e; exact huse x _ hI hx.1⟩))
  · exact absurd hs (hno s hds)
theorem wpF_end {ops : Array Oper} {E : Act → Prop} (h : E a) : wpF P ops I fs FS E [] a := h
/-- a source -/
theorem wpP_src (s : Tmp) (hs : s ∈ fs) (hd : o.dst = some s) (hn : ((o.looksAt l.toArray).all fun d => !fs.contains d) = true) (hw : Region.wanted o (yielded l.toArray a.tmps) = true)
    (hrun : ∀ w, I w → srcUpon P (fun u W => FS s u W ∧ ∀ d' ∈ fs, d' ≠ s → ∀ x', FS d' x' w → Pr s u d' x' ∧ Pr d' x' s u) w ((execOp a.eval o).run P w))
    (h : wpP P l.toArray I fs FS Pr E rest (a.put o.dst undef)) : wpP P l.toArray I fs FS Pr E (o :: rest) a := by
  refine ⟨undef, fun w hI => .inr (.inl ⟨s, hs, hd, fun d hd' hf => ?_, hw, fun w' e => ?_⟩), h⟩
  · rw [List.all_eq_true] at hn
    have := hn d hd'
    simp at this
    exact this hf
  · subst e
    have h3 := hrun w' hI
    generalize (execOp a.eval o).run P w' = r at h3
    cases r with
    | ok n w2 =>
      cases n <;> simp only [srcUpon] at h3 ⊢
      case value u => exact ⟨⟨h3.1.1, fun _ => h3.1.2⟩, h3.2⟩
      case enter f args =>
        obtain ⟨rfl, hcc⟩ := h3
        exact ⟨rfl, hcc.mono fun e w'' ⟨u, he, hf, hb⟩ => ⟨u, he, ⟨hf.1, fun _ => hf.2⟩, hb⟩⟩
    | halt x w2 => simp only [srcUpon] at h3
/-- .. that makes memory -/
theorem wpP_new (s : Tmp) (hs : s ∈ fs) (hd : o.dst = some s) (hn : ((o.looksAt l.toArray).all fun d => !fs.contains d) = true) (hw : Region.wanted o (yielded l.toArray a.tmps) = true)
    (hrun : ∀ w, I w → ∃ u w', (execOp a.eval o).run P w = .ok (.value u) w' ∧ FS s u w' ∧ Below w.heap.size w w' ∧ ∀ d' ∈ fs, d' ≠ s → ∀ x', FS d' x' w → Pr s u d' x' ∧ Pr d' x' s u)
    (h : wpP P l.toArray I fs FS Pr E rest (a.put o.dst undef)) : wpP P l.toArray I fs FS Pr E (o :: rest) a :=
  wpP_src s hs hd hn hw (fun w hI => by
    obtain ⟨u, w', hr, h1, h2, h3⟩ := hrun w hI
    rw [hr]
    exact ⟨⟨h1, h3⟩, h2⟩) h
/-- .. that is a call -/
theorem wpP_callsrc (s : Tmp) {f : FuncId} {args : Array Value} (hs : s ∈ fs) (hd : o.dst = some s) (hn : ((o.looksAt l.toArray).all fun d => !fs.contains d) = true) (hw : Region.wanted o (yielded l.toArray a.tmps) = true)
    (hrun : ∀ w, (execOp a.eval o).run P w = .ok (.enter f args) w) (hc : ∀ w, I w → Calls P f args w fun e w'' => ∃ u, e = .returned u ∧ FS s u w'' ∧ Below w.heap.size w w'')
    (hpr : ∀ u, ∀ d' ∈ fs, d' ≠ s → ∀ x', Pr s u d' x' ∧ Pr d' x' s u)
    (h : wpP P l.toArray I fs FS Pr E rest (a.put o.dst undef)) : wpP P l.toArray I fs FS Pr E (o :: rest) a :=
  wpP_src s hs hd hn hw (fun w hI => by
    rw [hrun w]
    exact ⟨rfl, (hc w hI).mono fun e w'' ⟨u, he, hf, hb⟩ => ⟨u, he, ⟨hf, fun d' h1 h2 x' _ => hpr u d' h1 h2 x'⟩, hb⟩⟩) h
end
end Go.Proofs.Ytlbfibnfmijahaa

namespace Go.Proofs.Ytlbfibnfmijahaa
open Go.RowKit Go.Shelf
set_option maxRecDepth 100000
attribute [local go_sem] Oper.semAt_some

def likeF (M N : Mg) (f : Fd) : Bool := if f.so = 6 then decide (M.tg = N.tg) else decide (M.at' f.pl.toNat = N.at' f.pl.toNat)
set_option maxHeartbeats 4000000 in
theorem alike_any (M N : Mg) (f : Fd) (P C P' C' : Value) (w : World) (hf : (f.so = 1 ∧ ∃ jj : Nat, jj < 6 ∧ f.pl = (jj : Int)) ∨ (f.so = 6 ∧ f.pl = -1)) : Calls Try.prog 30 #[.agg (mC M P C), .agg (mC N P' C'), f.v] w fun e w' => e = .returned (.bool (likeF M N f)) ∧ Below w.heap.size w w' := by
  obtain ⟨w2, hw2⟩ : ∃ w2, ((w.alloc (.cells (mC M P C) 33)).alloc (.cells (mC N P' C') 33)).alloc (.cells f.cs 75) = w2 := ⟨_, rfl⟩
  have hb2 : Below w.heap.size w w2 := by rw [← hw2]; exact (((Below.refl _ w).alloc (Nat.le_refl _) _).alloc (by simp) _).alloc (by simp; omega) _
  have q0 : w2.heap[w.heap.size]? = some (.cells (mC M P C) 33 (0, 0)) := by
    rw [← hw2, Below.heap_alloc _ _ _ (by simp; omega), Below.heap_alloc _ _ _ (by simp)]; exact World.alloc_heap_new _ _
  have q1 : w2.heap[w.heap.size + 1]? = some (.cells (mC N P' C') 33 (0, 0)) := by
    rw [← hw2, Below.heap_alloc _ _ _ (by simp)]
    have := World.alloc_heap_new (w.alloc (.cells (mC M P C) 33)) (.cells (mC N P' C') 33)
    rwa [World.size_alloc] at this
  have q2 : w2.heap[w.heap.size + 1 + 1]? = some (.cells f.cs 75 (0, 0)) := by
    rw [← hw2]
    have := World.alloc_heap_new ((w.alloc (.cells (mC M P C) 33)).alloc (.cells (mC N P' C') 33)) (.cells f.cs 75)
    rwa [World.size_alloc, World.size_alloc] at this
  obtain ⟨_, d1, d2, _, _, _, _⟩ := fd_block q2
  have HW2 := Lib.hid hw2
  have HB2 := Lib.hid hb2
  unfold likeF
  rcases hf with ⟨hso, jj, hj6, hpl⟩ | ⟨hso, hpl⟩
  · have k0 := mg_at q0 hj6
    have k1 := mg_at q1 hj6
    rw [hso] at d1
    rw [hpl] at d2
    rw [if_neg (by omega), hpl, Int.toNat_natCast]
    obtain ⟨x, hx⟩ : ∃ x, M.at' jj = x := ⟨_, rfl⟩
    obtain ⟨y, hy⟩ : ∃ y, N.at' jj = y := ⟨_, rfl⟩
    rw [hx] at k0 ⊢
    rw [hy] at k1 ⊢
    have hz6 : (jj : Int) < 6 := by omega
    have hz0 : (0 : Int) ≤ (jj : Int) := by omega
    rw [← hw2] at d1 d2 k0 k1
    clear hx hy hw2 hb2 q0 q1 q2 hso hpl
    unfold Fd.v
    go_enter Try.func30, Try.ntmps30
    go_wp2_with fail
    go_quiet (fail)
    rw [HW2.out]
    go_wp2
    go_ret
    refine ⟨?_, below_drewN HB2.out _⟩
    rw [show decide (x = y) = (x == y) by by_cases h : x = y <;> simp [h]]
    rfl
  · have k0 := row_cell q0 10 (.string M.tg) rfl
    have k1 := row_cell q1 10 (.string N.tg) rfl
    rw [hso] at d1
    rw [if_pos hso]
    obtain ⟨x, hx⟩ : ∃ x, M.tg = x := ⟨_, rfl⟩
    obtain ⟨y, hy⟩ : ∃ y, N.tg = y := ⟨_, rfl⟩
    rw [hx] at k0 ⊢
    rw [hy] at k1 ⊢
    rw [← hw2] at d1 k0 k1
    clear hx hy hw2 hb2 q0 q1 q2 d2 hso hpl
    unfold Fd.v
    by_cases hxy : x = y
    · subst hxy
      rw [decide_eq_true rfl]
      go_enter Try.func30, Try.ntmps30
      go_wp2
      go_ret
      refine ⟨rfl, ?_⟩
      rw [HW2.out]
      exact HB2.out
    · rw [decide_eq_false hxy]
      have hne := str_ne hxy
      go_enter Try.func30, Try.ntmps30
      go_wp2
      go_ret
      refine ⟨rfl, ?_⟩
      rw [HW2.out]
      exact HB2.out

theorem lost_func (p q : Nat) (w : World) : (Instr.makeFunc (.func 28) #[] #[.pointer (some ⟨p, 0, none⟩), .pointer (some ⟨q, 0, none⟩)]).run Try.prog w = .ok (.func (.func 28) #[] #[.pointer (some ⟨p, 0, none⟩), .pointer (some ⟨q, 0, none⟩)]) w := by
  kernel_rfl
/-- a message box of the call's own -/
def LBx (B : Nat) (x : Value) (W : World) : Prop := ∃ g, x = .pointer (some ⟨g, 0, none⟩) ∧ B ≤ g ∧ W.heap[g]? = some (.cells #[.int .i64 0, .int .i64 0, .int .i64 0, .int .i64 0, .int .i64 0, .int .i64 0, .int .i64 0, .slice none 0 0, .slice none 0 0, .string ⟨#[]⟩, .string ⟨#[]⟩] 33 (0, 0))
def LMs (M : Mg) (x : Value) : Prop := ∃ a n c a' n' c', x = mV M (.slice a n c) (.slice a' n' c')
def FLo (B : Nat) (M N : Mg) (s : Tmp) (x : Value) (W : World) : Prop := (s = 11 → LMs M x) ∧ (s = 14 → LMs N x) ∧ (s = 5 ∨ s = 6 → LBx B x W)
def PLo (s : Tmp) (x : Value) (s' : Tmp) (x' : Value) : Prop := s = 5 ∨ s = 6 → s' = 5 ∨ s' = 6 → x ≠ x'
theorem FLo.later {B : Nat} {M N : Mg} {s : Tmp} {x : Value} {W W' : World} (h : FLo B M N s x W) (hb : Below W.heap.size W W') : FLo B M N s x W' := ⟨h.1, h.2.1, fun e => by
  obtain ⟨g, h1, h2, h3⟩ := h.2.2 e
  exact ⟨g, h1, h2, (hb.block _ (Array.getElem?_eq_some_iff.1 h3).1).trans h3⟩⟩
theorem FMs.two {M : Mg} {x : Value} {W : World} (h : FMs M x W) : LMs M x := by
  obtain ⟨P, C, rfl, ⟨⟨a, c, rfl, _, _⟩, ⟨a', c', rfl, _, _⟩⟩⟩ := h
  exact ⟨_, _, _, _, _, _, rfl⟩
theorem lbx_new (B : Nat) (M N : Mg) (s : Tmp) (hs : s = 5 ∨ s = 6) (fs : List Tmp) {w : World} (hB : B ≤ w.heap.size) : FLo B M N s (.pointer (some ⟨w.heap.size, 0, none⟩)) (w.alloc (.cells #[.int .i64 0, .int .i64 0, .int .i64 0, .int .i64 0, .int .i64 0, .int .i64 0, .int .i64 0, .slice none 0 0, .slice none 0 0, .string ⟨#[]⟩, .string ⟨#[]⟩] 33)) ∧ Below w.heap.size w (w.alloc (.cells #[.int .i64 0, .int .i64 0, .int .i64 0, .int .i64 0, .int .i64 0, .int .i64 0, .int .i64 0, .slice none 0 0, .slice none 0 0, .string ⟨#[]⟩, .string ⟨#[]⟩] 33)) ∧
    ∀ d' ∈ fs, d' ≠ s → ∀ x', FLo B M N d' x' w → PLo s (.pointer (some ⟨w.heap.size, 0, none⟩)) d' x' ∧ PLo d' x' s (.pointer (some ⟨w.heap.size, 0, none⟩)) := by
  refine ⟨⟨fun e => by rcases hs with rfl | rfl <;> exact absurd e (by decide), fun e => by rcases hs with rfl | rfl <;> exact absurd e (by decide), fun _ => ⟨_, rfl, hB, World.alloc_heap_new _ _⟩⟩, (Below.refl _ _).alloc (Nat.le_refl _) _, fun d' _ _ x' hx => ?_⟩
  have key : d' = 5 ∨ d' = 6 → x' ≠ .pointer (some ⟨w.heap.size, 0, none⟩) := fun h e => by
    obtain ⟨g, h1, _, h3⟩ := hx.2.2 h
    rw [h1] at e
    injection e with e
    injection e with e
    injection e with e
    subst e
    have := (Array.getElem?_eq_some_iff.1 h3).1
    omega
  exact ⟨fun _ h e => key h e.symm, fun h _ e => key h e⟩
set_option maxHeartbeats 8000000 in
theorem slost_yes (M : Mg) (P C : Value) (v : Int) (w : World) (hs : Msm M) (h1 : MAt w w.heap.size M P C) (hE : mck M = 0) : Calls Try.prog 16 #[mV M P C, .int .i64 v] w fun e w' => ∃ b d P1 C1 P2 C2, e = .returned (.func (.func 28) #[] #[.pointer (some ⟨b, 0, none⟩), .pointer (some ⟨d, 0, none⟩)]) ∧ w.heap.size ≤ b ∧ w.heap.size ≤ d ∧ w'.heap[b]? = some (.cells (mC M P1 C1) 33 (0, 0)) ∧ w'.heap[d]? = some (.cells (mC (mproj M v) P2 C2) 33 (0, 0)) ∧ Below w.heap.size w w' := by
  obtain ⟨w2, hw2⟩ : ∃ w2, w.alloc (.cells (mC M P C) 33) = w2 := ⟨_, rfl⟩
  have hb2 : Below w.heap.size w w2 := by rw [← hw2]; exact (Below.refl _ w).alloc (Nat.le_refl _) _
  have q0 : w2.heap[w.heap.size]? = some (.cells (mC M P C) 33 (0, 0)) := by rw [← hw2]; exact World.alloc_heap_new _ _
  have hlt := (Array.getElem?_eq_some_iff.1 q0).1
  have KC : Calls Try.prog 22 #[.agg (mC M P C)] w2 fun e w' => e = .returned (.int .i64 (mck M)) ∧ Below w2.heap.size w2 w' := chk_F hs ⟨P, C, rfl, h1.later hb2⟩
  rw [hE] at KC
  have KC := Lib.hid KC
  have LM := Lib.hid (mg_read q0)
  have HW2 := Lib.hid hw2
  have HB2 := Lib.hid hb2
  have HQ := Lib.hid q0
  have HFM : Hid (∀ W, Below w2.heap.size w2 W → FMs M (.agg (mC M P C)) W) := Lib.hid fun W hW => ⟨P, C, rfl, (h1.later hb2).later hW⟩
  obtain ⟨N, hN⟩ : ∃ N, mproj M v = N := ⟨_, rfl⟩
  rw [hN]
  clear hw2 hb2 q0 h1 hE
  unfold mV at *
  go_enter Try.func16, Try.ntmps16
  go_wp2_with (rw [HW2.out]; refine wpList_load_run rfl 33 (.tmp 2) rfl (some ⟨w.heap.size, 0, none⟩) rfl (.agg (mC M P C)) LM.out ?_)
  refine KC.out.mono ?_
  rintro e w3 ⟨rfl, hb3⟩
  have HB3 := Lib.hid hb3
  have LM3 : ∀ W, Below w3.heap.size w3 W → (Instr.loadAt 33 (.pointer (some ⟨w.heap.size, 0, none⟩))).run Try.prog W = .ok (.agg (mC M P C)) W := fun W hW => mg_read (((hb3.trans (hW.mono hb3.size)).block _ hlt).trans HQ.out)
  have FM3 : ∀ W, Below w3.heap.size w3 W → FMs M (.agg (mC M P C)) W := fun W hW => HFM.out W (hb3.trans (hW.mono hb3.size))
  clear hb3 KC LM
  go_wp2_with fail
  refine wp_region_FTP 16 7 [11, 14, 5, 6] (FLo w3.heap.size M N) PLo (fun W => Below w3.heap.size w3 W) (by kernel_rfl) (by kernel_rfl) (by rfl) (by kernel_rfl) (by kernel_rfl) (by kernel_rfl) (by rfl) (by simp) (fun W W' h hb => h.trans (hb.mono h.size)) (fun s x W W' h hb => h.later hb) (Below.refl _ _).drew ?_
  simp only [List.take_succ_cons, List.take_zero, List.drop_succ_cons, List.drop_zero]
  refine wpP_F rfl ?_
  refine wpF_load (ad := ⟨w.heap.size, 0, none⟩) (.agg (mC M P C)) rfl (by rfl) (by rfl) (by rfl) LM3 ?_
  refine wpF_end ?_
  simp only [Act.put, List.setIfInBounds_toArray, List.set_cons_succ, List.set_cons_zero]
  refine wpP_callsrc 11 (f := 26) (args := #[.agg (mC M P C)]) (by simp) rfl rfl rfl (fun x => by first | rfl | (simp [go_sem]; done)) (fun W hW => (copy_F hs (FM3 W hW)).mono fun e w' h => by
    obtain ⟨u, e1, h2, h3⟩ := h
    exact ⟨u, e1, ⟨fun _ => h2.two, fun e => absurd e (by decide), fun e => absurd e (by decide)⟩, h3⟩) (fun u d' _ _ x' => ⟨fun e => absurd e (by decide), fun _ e => absurd e (by decide)⟩) ?_
  simp only [Act.put, List.setIfInBounds_toArray, List.set_cons_succ, List.set_cons_zero]
  refine wpP_F rfl ?_
  refine wpF_load (ad := ⟨w.heap.size, 0, none⟩) (.agg (mC M P C)) rfl (by rfl) (by rfl) (by rfl) LM3 ?_
  refine wpF_end ?_
  simp only [Act.put, List.setIfInBounds_toArray, List.set_cons_succ, List.set_cons_zero]
  refine wpP_F rfl ?_
  refine wpF_pure rfl rfl ?_; go_big_quiet_step (fail); refine wpQuiet_nil ?_
  refine wpF_end ?_
  refine wpP_callsrc 14 (f := 27) (args := #[.agg (mC M P C), .int .i64 v]) (by simp) rfl rfl rfl (fun x => by first | rfl | (simp [go_sem]; done)) (fun W hW => (proj_F v hs (FM3 W hW)).mono fun e w' h => by
    obtain ⟨u, e1, h2, h3⟩ := h
    rw [hN] at h2
    exact ⟨u, e1, ⟨fun e => absurd e (by decide), fun _ => h2.two, fun e => absurd e (by decide)⟩, h3⟩) (fun u d' _ _ x' => ⟨fun e => absurd e (by decide), fun _ e => absurd e (by decide)⟩) ?_
  simp only [Act.put, List.setIfInBounds_toArray, List.set_cons_succ, List.set_cons_zero]
  have hzz : ∀ W : World, (zeroValue 33).run Try.prog W = .ok (.agg #[.int .i64 0, .int .i64 0, .int .i64 0, .int .i64 0, .int .i64 0, .int .i64 0, .int .i64 0, .slice none 0 0, .slice none 0 0, .string ⟨#[]⟩, .string ⟨#[]⟩]) W := fun W => by kernel_rfl
  refine wpP_new 5 (by simp) rfl (by kernel_rfl) (by kernel_rfl) (fun W hW => ?_) ?_
  · obtain ⟨k1, k2, k3⟩ := lbx_new w3.heap.size M N 5 (.inl rfl) [11, 14, 5, 6] hW.size
    exact ⟨.pointer (some ⟨W.heap.size, 0, none⟩), _, by simp [execOp, go_sem, hzz W]; try rfl, k1, k2, k3⟩
  simp only [Act.put, List.setIfInBounds_toArray, List.set_cons_succ, List.set_cons_zero]
  refine wpP_new 6 (by simp) rfl (by kernel_rfl) (by kernel_rfl) (fun W hW => ?_) ?_
  · obtain ⟨k1, k2, k3⟩ := lbx_new w3.heap.size M N 6 (.inr rfl) [11, 14, 5, 6] hW.size
    exact ⟨.pointer (some ⟨W.heap.size, 0, none⟩), _, by simp [execOp, go_sem, hzz W]; try rfl, k1, k2, k3⟩
  simp only [Act.put, List.setIfInBounds_toArray, List.set_cons_succ, List.set_cons_zero]
  intro xs w4 hb4 hx hpr
  obtain ⟨a1, n1, c1, a2, n2, c2, e11⟩ := (hx 11 (by simp)).1 rfl
  obtain ⟨a3, n3, c3, a4, n4, c4, e14⟩ := (hx 14 (by simp)).2.1 rfl
  obtain ⟨g5, e5, hg5, h5⟩ := (hx 5 (by simp)).2.2 (.inl rfl)
  obtain ⟨g6, e6, hg6, h6⟩ := (hx 6 (by simp)).2.2 (.inr rfl)
  have hne : g5 ≠ g6 := fun e => hpr 5 (by simp) 6 (by simp) (by decide) (.inl rfl) (.inr rfl) (by rw [e5, e6, e])
  simp only [fill, Act.put, List.setIfInBounds_toArray, List.set_cons_succ, List.set_cons_zero]
  rw [e5, e6, e11, e14]
  clear hx hpr e5 e6 e11 e14 hzz LM3 FM3
  have st5 := mg_store w4 g5 _ (mC M (.slice a1 n1 c1) (.slice a2 n2 c2)) h5 rfl rfl (mg_one _ _ _ _ _ _ _)
  have row5 := setRow_heap w4 g5 _ (mC M (.slice a1 n1 c1) (.slice a2 n2 c2)) _ _ h5
  have of5 := Off.setRow (S := fun q => q = g5) (Off.refl _ w4) rfl (mC M (.slice a1 n1 c1) (.slice a2 n2 c2))
  obtain ⟨w5, hw5⟩ : ∃ w5, w4.setRow g5 (mC M (.slice a1 n1 c1) (.slice a2 n2 c2)) = w5 := ⟨_, rfl⟩
  rw [hw5] at st5 row5 of5
  have q6 := (of5.block g6 (Array.getElem?_eq_some_iff.1 h6).1 (fun e => hne e.symm)).trans h6
  have st6 := mg_store w5 g6 _ (mC N (.slice a3 n3 c3) (.slice a4 n4 c4)) q6 rfl rfl (mg_one _ _ _ _ _ _ _)
  have row6 := setRow_heap w5 g6 _ (mC N (.slice a3 n3 c3) (.slice a4 n4 c4)) _ _ q6
  have of6 := Off.setRow (S := fun q => q = g6) (Off.refl _ w5) rfl (mC N (.slice a3 n3 c3) (.slice a4 n4 c4))
  obtain ⟨w6, hw6⟩ : ∃ w6, w5.setRow g6 (mC N (.slice a3 n3 c3) (.slice a4 n4 c4)) = w6 := ⟨_, rfl⟩
  rw [hw6] at st6 row6 of6
  have q5 := (of6.block g5 (Array.getElem?_eq_some_iff.1 row5).1 hne).trans row5
  have h23 := HB3.out.size
  have h02 := HB2.out.size
  have hb24 := HB3.out.trans (hb4.mono h23)
  have hb45 : Below w2.heap.size w4 w5 := of5.below (fun q hq => by omega) (by have := hb4.size; omega)
  have hb56 : Below w2.heap.size w5 w6 := of6.below (fun q hq => by omega) (by have := hb45.size; have := hb4.size; omega)
  have HF := Lib.hid (HB2.out.trans ((hb24.trans (hb45.trans hb56)).mono h02))
  have HST5 := Lib.hid st5
  have HST6 := Lib.hid st6
  have HQ56 := Lib.hid (And.intro q5 row6)
  have hfn := lost_func g5 g6 w6
  have h05 : w.heap.size ≤ g5 := by omega
  have h06 : w.heap.size ≤ g6 := by omega
  clear st5 row5 of5 hw5 q6 st6 row6 of6 hw6 q5 hb24 hb45 hb56 h5 h6 hb4
  refine wpList_store_run rfl 33 (.tmp 5) (.tmp 11) rfl (some ⟨g5, 0, none⟩) rfl (.agg (mC M (.slice a1 n1 c1) (.slice a2 n2 c2))) rfl HST5.out ?_
  refine wpList_store_run rfl 33 (.tmp 6) (.tmp 14) rfl (some ⟨g6, 0, none⟩) rfl (.agg (mC N (.slice a3 n3 c3) (.slice a4 n4 c4))) rfl HST6.out ?_
  go_wp2
  go_ret
  exact ⟨g5, g6, _, _, _, _, rfl, h05, h06, HQ56.out.1, HQ56.out.2, HF.out⟩
end Go.Proofs.Ytlbfibnfmijahaa

namespace Go.Proofs.Ytlbfibnfmijahaa
open Go.RowKit Go.Shelf
set_option maxRecDepth 100000
attribute [local go_sem] Oper.semAt_some

end Go.Proofs.Ytlbfibnfmijahaa

namespace Go.Proofs.Ytlbfibnfmijahaa
open Go.RowKit Go.Shelf
set_option maxRecDepth 100000
attribute [local go_sem] Oper.semAt_some

end Go.Proofs.Ytlbfibnfmijahaa

namespace Go.Proofs.Ytlbfibnfmijahaa
open Go.RowKit Go.Shelf
set_option maxRecDepth 100000
attribute [local go_sem] Oper.semAt_some

end Go.Proofs.Ytlbfibnfmijahaa

namespace Go.Proofs.Ytlbfibnfmijahaa
open Go.RowKit Go.Shelf
set_option maxRecDepth 100000
attribute [local go_sem] Oper.semAt_some

/-- is a field to be handed out? -/
def lostP (M : Mg) (v : Int) (f : Fd) : Bool := decide (f.si = 2) && !(likeF M (mproj M v) f)
theorem lostP_all {M : Mg} (h : mck M = 0) (v : Int) : (FD M.k).filter (lostP M v) = mlost M v := by
  unfold mlost
  by_cases hv : v = 1
  · subst hv
    rw [if_neg (by simp [h])]
    refine List.filter_congr fun f hf => ?_
    rw [lost_alt M f hf]
    unfold lostP likeF
    rcases (Int.lt_or_le f.si 2) with h2 | h2
    · simp [show ¬ f.si = 2 by omega]
    · have hs2 : f.si = 2 := by
        have := (FD_all M.k f hf).1
        omega
      rcases FD_two M.k f hf hs2 with ⟨hso, jj, _, hpl⟩ | ⟨hso, _⟩
      · simp [hs2, hso, hpl]
      · simp [hs2, hso]
  · rw [if_pos (.inr hv), List.filter_eq_nil_iff]
    intro f _
    unfold lostP likeF mproj
    rw [if_neg hv]
    simp
set_option maxHeartbeats 16000000 in
/-- the iterator of a right one: the names of what is lost -/
theorem slost_in (n : Nat) (hn5 : 5 ≤ n) (m' l b d s0 : Nat) (M : Mg) (P C P2 C2 : Value) (v : Int) (LL : List Fd) (hLL : (FD M.k).filter (lostP M v) = LL) (Dn : Nat → World → Prop) (Bk Xp : World → Prop) (Kp : World → World → Prop) (hls : l < s0 + 2)
    (hDb : ∀ j A B, Dn j A → Below s0 A B → Dn j B)
    (hDm : ∀ j V, Dn j V → V.heap[b]? = some (.cells (mC M P C) 33 (0, 0)) ∧ V.heap[d]? = some (.cells (mC (mproj M v) P2 C2) 33 (0, 0)))
    (hBk : ∀ A B, Bk A → A.heap.size ≤ B.heap.size → (∀ k, s0 ≤ k → k < s0 + 2 → B.heap[k]? = A.heap[k]?) → Bk B) (hBlt : ∀ A, Bk A → s0 + 2 ≤ A.heap.size)
    (hX : ∀ A l' o o', Xp A → s0 + 2 ≤ l' → A.heap[l']? = some o → o.isCells = false → Xp (A.putObj l' o'))
    (hKp : ∀ V V' k cs t, Kp V V' → s0 + 2 ≤ k → V.heap[k]? = some (.cells cs t (0, 0)) → V'.heap[k]? = some (.cells cs t (0, 0)))
    (hY : ∀ (j : Nat) (f : Fd) (V : World), Dn j V → LL[j]? = some f → Bk V → YieldAt Fence.wide m' Try.prog l #[.string f.nm] V (YPost s0 l Kp (fun W2 => Dn (j + 1) W2 ∧ Bk W2) Xp V))
    (W : World) (hD0 : Dn 0 W) (hB0 : Bk W) :
    CallsIn Fence.wide n Try.prog 28 #[.func (.yield l) #[] #[], .pointer (some ⟨b, 0, none⟩), .pointer (some ⟨d, 0, none⟩)] W fun e W' => (∃ v, e = .returned v) ∧ ((Dn LL.length W' ∧ Bk W') ∨ Xp W') := by
  have hn1 : 1 ≤ n := by omega
  have hsW := hBlt W hB0
  obtain ⟨m0, _⟩ := hDm 0 W hD0
  have hbl := (Array.getElem?_eq_some_iff.1 m0).1
  obtain ⟨yb, hyb⟩ : ∃ yb, W.heap.size = yb := ⟨_, rfl⟩
  obtain ⟨w1, hw1⟩ : ∃ w1, W.alloc (.cells #[.func (.yield l) #[] #[]] 68) = w1 := ⟨_, rfl⟩
  have hb1 : Below yb W w1 := by rw [← hw1, ← hyb]; exact (Below.refl _ W).alloc (Nat.le_refl _) _
  have y1 : w1.heap[yb]? = some (.cells #[.func (.yield l) #[] #[]] 68 (0, 0)) := by rw [← hw1, ← hyb]; exact World.alloc_heap_new _ _
  have hs1 : w1.heap.size = yb + 1 := by rw [← hw1, ← hyb]; simp
  have m1 := (hb1.block _ (by omega)).trans m0
  have k1 := row_cell m1 0 (.int .i64 M.k) rfl
  have HTW := Lib.hid (FD_two M.k)
  have HAL := Lib.hid (FD_all M.k)
  have HY := Lib.hid hY
  have HW1 := Lib.hid hw1
  have HDM := Lib.hid hDm
  have KA := Lib.hid (fall_any M.k 2 w1)
  rw [hs1] at KA
  obtain ⟨N, hN⟩ : ∃ N, mproj M v = N := ⟨_, rfl⟩
  obtain ⟨FL, hFL⟩ : ∃ FL, FD M.k = FL := ⟨_, rfl⟩
  have hF2 := FDv_two M.k
  have hpf : ∀ f, lostP M v f = (decide (f.si = 2) && !(likeF M N f)) := fun f => by unfold lostP; rw [hN]
  obtain ⟨lp, hlp⟩ : ∃ lp, lostP M v = lp := ⟨_, rfl⟩
  rw [hlp] at hpf hLL
  rw [hFL] at hLL HTW HAL hF2
  rw [hN] at HDM
  have HF2 := Lib.hid hF2
  have HPF := Lib.hid hpf
  have HLL := Lib.hid hLL
  clear hY hw1 m1 hN hFL hF2 hpf hlp hLL hDm
  refine callsIn_of_wp_marks Try.func28 rfl trivial ?_ rfl
  simp only [Try.ntmps28, List.size_toArray, List.length_cons, List.length_nil, Nat.reduceAdd, Nat.reduceSub, Array.replicate_succ, Array.replicate_zero, List.push_toArray, List.append_toArray, List.nil_append, List.cons_append]
  gi_wp2_with fail
  refine wpIn_wide.2 (wp_scope_straight ((wpIn_wide (n := n)).1 ?_))
  gi_wp2_with fail
  apply wpIn_label
  rw [HW1.out]
  gi_wp2_with fail
  refine ⟨trivial, (callsIn_wide.2 KA.out).mono ?_⟩
  rintro e w6 ⟨rfl, hg0, hg1, hb6⟩
  have hs6 := (Array.getElem?_eq_some_iff.1 hg1).1
  have hbW6 : Below yb W w6 := hb1.trans (hb6.mono (by omega))
  have y6 := (hb6.block _ (by omega)).trans y1
  have hsy : s0 ≤ yb := by omega
  have hD6 := hDb 0 _ _ hD0 (hbW6.mono hsy)
  have hB6 : Bk w6 := hBk _ _ hB0 hbW6.size (fun k _ h2 => hbW6.block k (by omega))
  obtain ⟨BX, hBX⟩ : ∃ BX : World → Prop, BX = fun V => w6.heap.size ≤ V.heap.size ∧ V.heap[yb]? = some (.cells #[.func (.yield l) #[] #[]] 68 (0, 0)) ∧ V.heap[yb + 1]? = some (.cells #[.int .i64 M.k] 3 (0, 0)) ∧ V.heap[yb + 1 + 1]? = some (.cells #[.int .i64 2] 3 (0, 0)) := ⟨_, rfl⟩
  have hBX0 : ∀ V, BX V → w6.heap.size ≤ V.heap.size ∧ V.heap[yb]? = some (.cells #[.func (.yield l) #[] #[]] 68 (0, 0)) ∧ V.heap[yb + 1]? = some (.cells #[.int .i64 M.k] 3 (0, 0)) ∧ V.heap[yb + 1 + 1]? = some (.cells #[.int .i64 2] 3 (0, 0)) := fun V hV => by rwa [hBX] at hV
  have hBXb : ∀ V V', BX V → Below w6.heap.size V V' → BX V' := fun V V' h hb => by
    rw [hBX] at h ⊢
    exact ⟨Nat.le_trans h.1 hb.size, (hb.block _ (by omega)).trans h.2.1, (hb.block _ (by omega)).trans h.2.2.1, (hb.block _ (by omega)).trans h.2.2.2⟩
  have hBXk : ∀ V V', BX V → Kp V V' → V.heap.size ≤ V'.heap.size → BX V' := fun V V' h hk hsz => by
    rw [hBX] at h ⊢
    exact ⟨Nat.le_trans h.1 hsz, hKp _ _ _ _ _ hk (by omega) h.2.1, hKp _ _ _ _ _ hk (by omega) h.2.2.1, hKp _ _ _ _ _ hk (by omega) h.2.2.2⟩
  have hBX6 : BX w6 := by rw [hBX]; exact ⟨Nat.le_refl _, y6, hg0, hg1⟩
  have hJb : ∀ j V, Dn j V ∧ Bk V ∧ BX V → ∀ V', Below w6.heap.size V V' → Dn j V' ∧ Bk V' ∧ BX V' := fun j V h V' hb =>
    ⟨hDb _ _ _ h.1 (hb.mono (by omega)), hBk _ _ h.2.1 hb.size (fun k _ h2 => hb.block k (by omega)), hBXb _ _ h.2.2 hb⟩
  obtain ⟨cnt, hcnt⟩ : ∃ cnt : Nat → Nat, cnt = fun p => ((FL.take p).filter lp).length := ⟨_, rfl⟩
  have hc0 : cnt 0 = 0 := by rw [hcnt]; simp
  have hcS : ∀ p f, FL[p]? = some f → cnt (p + 1) = cnt p + (if lp f then 1 else 0) := fun p f hf => by rw [hcnt]; exact filter_take hf
  have hcG : ∀ p f, FL[p]? = some f → lp f = true → LL[cnt p]? = some f := fun p f hf h => by rw [hcnt, ← HLL.out]; exact filter_get hf h
  have hcE : cnt FL.length = LL.length := by rw [hcnt, ← HLL.out]; simp
  have HCS := Lib.hid hcS
  have HCG := Lib.hid hcG
  have HCE := Lib.hid hcE
  clear hBX hbW6 y6 y1 hg0 hg1 hb1 hb6 k1 m0 KA HW1 hcnt hcS hcG hcE
  rw [← hc0] at hD0 hD6
  clear hD0
  gi_wp2_with fail
  refine range_stopb rfl hn1 (gf := 44) (lb := #[.pointer (some ⟨yb + 1, 0, none⟩), .pointer (some ⟨yb + 1 + 1, 0, none⟩)]) rfl trivial (enters_of Try.func44 (by kernel_rfl) rfl)
    (fun f : Fd => #[f.v]) (fun _ => rfl)
    (fun j f V => FL[j]? = some f ∧ Dn (cnt j) V ∧ Bk V ∧ BX V)
    (fun j f q V => (FL[j]? = some f ∧ Dn (cnt j) V ∧ Bk V ∧ BX V) ∧ w6.heap.size ≤ q ∧ V.heap[q]? = some (.cells f.cs 75 (0, 0)))
    (fun j V => Dn (cnt j) V ∧ Bk V ∧ BX V)
    (fun cd V => cd = .exit 0 ∧ Xp V)
    (KeT 75 3 (yb + 1)) FL.length
    (fun j f q V l' o o' h hl ho hc' => ⟨⟨h.1.1, hJb _ V h.1.2 _ (below_put V o' hl)⟩, h.2.1, (World.putObj_heap_other (fun e => by subst e; rw [h.2.2] at ho; injection ho with ho; subst ho; cases hc')).trans h.2.2⟩)
    (fun j V l' o o' h hl ho hc' => hJb _ V h _ (below_put V o' hl))
    (fun cd V l' o o' h hl ho hc' => ⟨h.1, hX V l' o o' h.2 (by omega) ho hc'⟩)
    (fun _ _ _ h k => h.trans k) (fun V l' o o' hl ho hc' => KeT.putObj ho hc')
    (fun o => hJb _ w6 ⟨hD6, hB6, hBX6⟩ _ (((Below.refl w6.heap.size w6).alloc (Nat.le_refl _) _).alloc (by simp) _)) ?round ?iter ?done ?stop
  case round =>
    rintro l2 j f V K ⟨hf, hJ⟩ hj hK
    have HK := Lib.hid hK
    have hsz := (hBX0 V hJ.2.2).1
    clear hK hD6 hB6 hBX6
    unfold Fd.v Fd.cs
    gi_wp2_with fail
    refine HK.out _ V.heap.size _ ⟨⟨hf, hJb _ V hJ _ ((Below.refl _ V).alloc hsz _)⟩, hsz, World.alloc_heap_new _ _⟩ ⟨by simp, fun q o _ ho _ => (Below.heap_alloc _ _ _ (Array.getElem?_eq_some_iff.1 ho).1).trans ho⟩ (KeT.of_below ((Below.refl _ V).alloc (Nat.le_refl _) _)) ?_
    clear HK hJ
    rintro l2 V2 hl2 ⟨⟨_, hJ⟩, hq, hc⟩
    obtain ⟨qb, hqb⟩ : ∃ qb, V.heap.size = qb := ⟨_, rfl⟩
    rw [hqb] at hq hc ⊢
    clear hqb
    obtain ⟨m2, n2⟩ := HDM.out _ V2 hJ.1
    obtain ⟨hs2, y2, _⟩ := hBX0 V2 hJ.2.2
    have hqlt := (Array.getElem?_eq_some_iff.1 hc).1
    obtain ⟨d0, _, _, _, _, d5, _⟩ := fd_block hc
    have hal := (HAL.out f (List.mem_of_getElem? hf)).1
    have htw := HTW.out f (List.mem_of_getElem? hf)
    have hcs := HCS.out j f hf
    have hcg := HCG.out j f hf
    have hpf := HPF.out f
    have HJ := Lib.hid hJ
    have HF := Lib.hid hf
    have HM2 := Lib.hid m2
    have HN2 := Lib.hid n2
    have HC2 := Lib.hid hc
    have HY2 := Lib.hid y2
    clear hJ hf m2 n2 hc y2
    by_cases h2 : f.si < 2
    · have hlf : lp f = false := by rw [hpf]; simp; omega
      rw [hlf] at hcs
      have hfin := Lib.hid (show KeepsFrom w6.heap.size V2 V2 ∧ (Dn (cnt (j + 1)) V2 ∧ Bk V2 ∧ BX V2) ∧ KeT 75 3 (yb + 1) V2 V2 from ⟨⟨Nat.le_refl _, fun _ _ _ ho _ => ho⟩, (by rw [hcs]; exact HJ.out), KeT.refl _⟩)
      clear hcs hcg hpf htw hal hlf
      gi_wp2
      exact hfin.out
    · obtain hsi : f.si = 2 := by omega
      have htw := htw hsi
      rw [hsi] at d5
      have KL := Lib.hid (alike_any M N f P C P2 C2 V2 htw)
      have LM := Lib.hid (mg_read HM2.out)
      have LN := Lib.hid (mg_read HN2.out)
      have LF : Hid ((Instr.loadAt 75 (.pointer (some ⟨qb, 0, none⟩))).run Try.prog V2 = .ok f.v V2) := by
        obtain ⟨t0, t1, t2, t3, t4, t5, t6⟩ := fd_block HC2.out
        exact Lib.hid (by simp [Instr.loadAt, go_sem, t0, t1, t2, t3, t4, t5, t6, Fd.v, Fd.cs])
      unfold mV at LM LN
      have hlf : lp f = !(likeF M N f) := by rw [hpf, hsi]; simp
      obtain ⟨Lk, hLk⟩ : ∃ Lk, likeF M N f = Lk := ⟨_, rfl⟩
      rw [hLk] at KL hlf
      clear hLk hpf htw hal h2 hsi
      gi_wp2_with (first | refine wpListIn_load_run rfl 33 (.tmp 1) rfl (some ⟨b, 0, none⟩) rfl (.agg (mC M P C)) LM.out ?_ | refine wpListIn_load_run rfl 33 (.tmp 2) rfl (some ⟨d, 0, none⟩) rfl (.agg (mC N P2 C2)) LN.out ?_ | refine wpListIn_load_run rfl 75 (.tmp 4) rfl (some ⟨qb, 0, none⟩) rfl f.v LF.out ?_)
      refine ⟨trivial, fun _ => by omega, ?_⟩
      refine (CallsIn.inRound l2 (callsIn_wide.2 KL.out)).mono ?_
      rintro e V3 ⟨rfl, hb3⟩
      have hJ3 := hJb _ V2 HJ.out V3 (hb3.mono hs2)
      have hkf : KeepsFrom w6.heap.size V2 V3 := ⟨hb3.size, fun q o _ ho _ => (hb3.block q (Array.getElem?_eq_some_iff.1 ho).1).trans ho⟩
      have hke : KeT 75 3 (yb + 1) V2 V3 := KeT.of_below hb3
      clear KL LM LN LF d5
      cases Lk
      · have hlt : lp f = true := by rw [hlf]; rfl
        rw [hlt, if_pos rfl] at hcs
        have hyld := HY.out _ f V3 hJ3.1 (hcg hlt) hJ3.2.1
        obtain ⟨fn, tmps, assign, body, hyr, hR⟩ := yield_any (n - 1 - 1 - 1) hyld
        have HR := Lib.hid hR
        have HX3 := Lib.hid hJ3.2.2
        have HKF := Lib.hid hkf
        have HKE := Lib.hid hke
        have e0 := row_cell ((hb3.block _ hqlt).trans HC2.out) 0 (.string f.nm) rfl
        have e1 := row_cell ((hb3.block _ (by have := (Array.getElem?_eq_some_iff.1 HY2.out).1; omega)).trans HY2.out) 0 (.func (.yield l) #[] #[]) rfl
        clear hR hyld hJ3 hkf hke hcg hlf hlt d0 hb3
        gi_wp2_with fail
        refine ⟨fun _ => by omega, ?_⟩
        refine RoundIn.mono (F := Fence.wide.inRound l2) HR.out ?_
        rintro e V6 (⟨rfl, ⟨hd, hb⟩, hk, hkb⟩ | ⟨rfl, hx, hkb⟩)
        · have hX6 := hBXk _ _ HX3.out hk hkb.size
          rw [← hcs] at hd
          have hfin := Lib.hid (show KeepsFrom w6.heap.size V2 V6 ∧ (Dn (cnt (j + 1)) V6 ∧ Bk V6 ∧ BX V6) ∧ KeT 75 3 (yb + 1) V2 V6 from
            ⟨⟨Nat.le_trans HKF.out.size hkb.size, fun q o h1 h2 h3 => hkb.same q o (by omega) (by omega) (HKF.out.same q o h1 h2 h3) h3⟩, ⟨hd, hb, hX6⟩,
              ⟨Nat.le_trans HKF.out.size hkb.size, fun q cs t hq ht hA => (hKp V3 V6 q cs t hk (by omega) ((HKE.out.same q cs t hq ht hA).trans hA)).trans hA.symm⟩⟩)
          clear hd hb hk hkb hX6 HR
          gi_wp2
          exact hfin.out
        · have hfin := Lib.hid (show KeepsFrom w6.heap.size V2 V6 ∧ Xp V6 from
            ⟨⟨Nat.le_trans HKF.out.size hkb.size, fun q o h1 h2 h3 => hkb.same q o (by omega) (by omega) (HKF.out.same q o h1 h2 h3) h3⟩, hx⟩)
          clear hx hkb HR
          gi_wp2
          exact ⟨hfin.out.1, rfl, hfin.out.2⟩
      · have hlt : lp f = false := by rw [hlf]; rfl
        rw [hlt] at hcs
        have hfin := Lib.hid (show KeepsFrom w6.heap.size V2 V3 ∧ (Dn (cnt (j + 1)) V3 ∧ Bk V3 ∧ BX V3) ∧ KeT 75 3 (yb + 1) V2 V3 from ⟨hkf, (by rw [hcs]; exact hJ3), hke⟩)
        clear hcs hcg hlf hlt hJ3 hkf hke d0 hb3
        gi_wp2
        exact hfin.out
  case iter =>
    intro Bk2 X2 l2 V hBk2 hBlt2 hX2 hl2 hDV hBV hYV
    obtain ⟨_, _, g0V, g1V⟩ := hBX0 V hDV.2.2
    have h := fall_in (n - 1) (by omega) (n - 1 - 1) l2 (yb + 1) M.k 2 (fun j V => (Dn (cnt j) V ∧ Bk V ∧ BX V) ∧ Bk2 V) X2
      (fun j A B h hb => ⟨hJb _ A h.1 B (hb.mono (hBX0 A h.1.2.2).1), hBk2 A _ h.2 hb.size (fun q h1 h2 => by have := hBlt2 A h.2; exact hb.block q (by omega))⟩)
      (fun j f W h hf => by
        rw [HF2.out] at hf
        exact (hYV j f W ⟨hf, h.1⟩ h.2 (List.getElem?_eq_some_iff.1 hf).1).mono (fun e W2 h => h.elim (fun h => .inl ⟨h.1, h.2.1, h.2.2.1⟩) (fun h => .inr ⟨h.1, h.2.1⟩)))
      V g0V g1V ⟨hDV, hBV⟩
    rw [HF2.out] at h
    exact h
  case done =>
    rintro D V hD ⟨hDV, hBV, _⟩ hK
    rw [HCE.out] at hDV
    have hfin := Lib.hid (And.intro (hDb _ _ _ hDV (below_put V (.deferred none) (by omega : s0 ≤ D))) (hBk _ _ hBV (by simp [World.putObj]) (fun k _ h2 => World.putObj_heap_other (by omega)) : Bk (V.putObj D (.deferred none))))
    clear hDV hBV hD6 hB6 hBX6
    gi_wp2
    refine ⟨by simp, .inl ⟨_, _, rfl, run_takeDeferred hK, ?_⟩⟩
    refine ⟨_, results_none rfl _ _ _, ?_⟩
    exact ⟨⟨_, rfl⟩, .inl hfin.out⟩
  case stop =>
    rintro D cd V hD ⟨rfl, hx⟩ hK
    have hfin := Lib.hid (hX V D _ (.deferred none) hx (by omega) hK rfl)
    clear hx
    gi_wp2
    refine ⟨by simp, .inl ⟨_, _, rfl, run_takeDeferred hK, ?_⟩⟩
    refine ⟨_, results_none rfl _ _ _, ?_⟩
    exact ⟨⟨_, rfl⟩, .inr hfin.out⟩
end Go.Proofs.Ytlbfibnfmijahaa

namespace Go.Proofs.Ytlbfibnfmijahaa
open Go.RowKit Go.Shelf
set_option maxRecDepth 100000
attribute [local go_sem] Oper.semAt_some

set_option maxHeartbeats 4000000 in
theorem sbest_any (M : Mg) (P C : Value) (w : World) (hs : Msm M) (h1 : MAt w w.heap.size M P C) : Calls Try.prog 15 #[mV M P C] w fun e w' => e = .returned (.tuple #[.int .i64 (mbest M).1, .int .i64 (mbest M).2]) ∧ Below w.heap.size w w' := by
  obtain ⟨w2, hw2⟩ : ∃ w2, w.alloc (.cells (mC M P C) 33) = w2 := ⟨_, rfl⟩
  have hb2 : Below w.heap.size w w2 := by rw [← hw2]; exact (Below.refl _ w).alloc (Nat.le_refl _) _
  have q0 : w2.heap[w.heap.size]? = some (.cells (mC M P C) 33 (0, 0)) := by rw [← hw2]; exact World.alloc_heap_new _ _
  have hlt := (Array.getElem?_eq_some_iff.1 q0).1
  have LM0 : (Instr.loadAt 33 (.pointer (some ⟨w.heap.size, 0, none⟩))).run Try.prog w2 = .ok (.agg (mC M P C)) w2 := mg_read q0
  have KC : Calls Try.prog 22 #[.agg (mC M P C)] w2 fun e w' => e = .returned (.int .i64 (mck M)) ∧ Below w2.heap.size w2 w' := chk_F hs ⟨P, C, rfl, h1.later hb2⟩
  have LM : Hid (∀ W, Below w2.heap.size w2 W → (Instr.loadAt 33 (.pointer (some ⟨w.heap.size, 0, none⟩))).run Try.prog W = .ok (.agg (mC M P C)) W) := Lib.hid fun W hW => mg_read ((hW.block _ hlt).trans q0)
  have KF : Hid (∀ (v : Int) W, Below w2.heap.size w2 W → Calls Try.prog 23 #[.agg (mC M P C), .int .i64 v] W fun e w' => e = .returned (.bool (decide (mproj M v = M))) ∧ Below W.heap.size W w') := Lib.hid fun v W hW => sfit_any M P C v W hs ((h1.later hb2).later hW)
  have HW2 := Lib.hid hw2
  have HB2 := Lib.hid hb2
  have HL0 := Lib.hid LM0
  clear hw2 hb2 q0 h1 LM0
  have hP2 := sproj_two M
  unfold mV mbest
  obtain ⟨E, hEE⟩ : ∃ E, mck M = E := ⟨_, rfl⟩
  rw [hEE] at KC ⊢
  have KC := Lib.hid KC
  clear hEE
  by_cases hE : E = 0
  · subst hE
    rw [if_neg (by simp)]
    obtain ⟨R, hR⟩ : ∃ R, (if mproj M 1 = M then ((1, 0) : Int × Int) else (2, 0)) = R := ⟨_, rfl⟩
    rw [hR]
    have HR := Lib.hid hR
    clear hR
    refine (callsIn_wide (n := 9)).1 ?_
    refine callsIn_of_wp_marks Try.func15 rfl trivial ?_ rfl
    simp only [Try.ntmps15, List.size_toArray, List.length_cons, List.length_nil, Nat.reduceAdd, Nat.reduceSub, Array.replicate_succ, Array.replicate_zero, List.push_toArray, List.append_toArray, List.nil_append, List.cons_append]
    gi_wp2_with fail
    rw [HW2.out]
    refine wpIn_wide.2 (wp_scope_straight ((wpIn_wide (n := 9)).1 ?_))
    gi_wp2_with (refine wpListIn_load_run rfl 33 (.tmp 1) rfl (some ⟨w.heap.size, 0, none⟩) rfl (.agg (mC M P C)) HL0.out ?_)
    refine ⟨trivial, (callsIn_wide.2 KC.out).mono ?_⟩
    rintro e w3 ⟨rfl, hb3⟩
    obtain ⟨Bq, hBq⟩ : ∃ Bq, w3.heap.size = Bq := ⟨_, rfl⟩
    obtain ⟨w4, hw4⟩ : ∃ w4, w3.alloc (.cells #[.int .i64 0] 3) = w4 := ⟨_, rfl⟩
    have hb34 : Below w3.heap.size w3 w4 := by rw [← hw4]; exact (Below.refl _ w3).alloc (Nat.le_refl _) _
    have bF : Boxed w4 Bq 3 (.int .i64 0) := by rw [← hw4, ← hBq]; exact Boxed.new w3 3 (.int .i64 0)
    have hs4 : w4.heap.size = Bq + 1 := by rw [← hw4, ← hBq]; simp
    have hb24 : Below w2.heap.size w2 w4 := hb3.trans (hb34.mono hb3.size)
    have hq2 : w2.heap.size ≤ Bq := by have := hb3.size; omega
    have HW4 := Lib.hid hw4
    have HB24 := Lib.hid hb24
    have HBQ := Lib.hid hBq
    clear KC hw4 hb34 hb3 hb24 HL0 HW2 hBq
    gi_wp2_with fail
    rw [HBQ.out, HW4.out]
    apply wpIn_label
    gi_wp2_with fail
    refine ⟨trivial, ?_⟩
    refine (callsIn_wide.2 (svers_any w4)).mono ?_
    rintro e w1 ⟨rfl, rfl⟩
    gi_wp2_with fail
    refine range_stops rfl (by omega) (gf := 19) (lb := #[]) rfl trivial (enters_of Try.func19 (by kernel_rfl) rfl)
      (fun j : Nat => #[.int .i64 ((j : Int) + 1)]) (fun _ => rfl)
      (fun j x' V => x' = j ∧ (∀ i : Nat, i < j → mproj M ((i : Int) + 1) ≠ M) ∧ Below w4.heap.size w4 V)
      (fun j V => (∀ i : Nat, i < j → mproj M ((i : Int) + 1) ≠ M) ∧ Below w4.heap.size w4 V)
      (fun cd V => cd = .exit 0 ∧ ∃ j : Nat, j < 2 ∧ (∀ i : Nat, i < j → mproj M ((i : Int) + 1) ≠ M) ∧ mproj M ((j : Int) + 1) = M ∧ Boxed V Bq 3 (.int .i64 ((j : Int) + 1)) ∧ Off (fun q => q = Bq) w4 V) (fun _ _ => True) 2
      (fun j x' V l o o' h hl ho hc' => ⟨h.1, h.2.1, h.2.2.trans (below_put V o' hl)⟩)
      (fun j V l o o' h hl ho hc' => ⟨h.1, h.2.trans (below_put V o' hl)⟩)
      (fun cd V l o o' h hl ho hc' => by
        obtain ⟨h1, j, h2, h3, h4, h5, h6⟩ := h
        exact ⟨h1, j, h2, h3, h4, (World.putObj_heap_other (by omega)).trans h5, off_below h6 (below_put V o' hl)⟩)
      (fun _ _ _ _ _ => trivial) (fun _ _ _ _ _ _ _ => trivial)
      (fun o => ⟨fun i hi => by omega, ((Below.refl w4.heap.size w4).alloc (Nat.le_refl _) _).alloc (by simp) _⟩) ?a1 ?assign ?body ?iter ?done ?stop
    case assign =>
      intro l x' V K' hK'
      gi_wp2
      exact hK'
    case body =>
      rintro l j x' V hl ⟨rfl, hn, hbV⟩ hj
      have hb2V := HB24.out.trans (hbV.mono HB24.out.size)
      have LV := Lib.hid (LM.out V hb2V)
      have KV := Lib.hid (KF.out ((x' : Int) + 1) V hb2V)
      have HBV := Lib.hid hbV
      have HN := Lib.hid hn
      clear hn hbV hb2V
      gi_wp2_with (refine wpListIn_load_run rfl 33 (.tmp 1) rfl (some ⟨w.heap.size, 0, none⟩) rfl (.agg (mC M P C)) LV.out ?_)
      refine ⟨trivial, ((callsIn_wide.2 KV.out).inRound l).mono ?_⟩
      rintro e V2 ⟨rfl, hb2'⟩
      have hbV2 : Below w4.heap.size w4 V2 := HBV.out.trans (hb2'.mono HBV.out.size)
      have hkf : KeepsFrom w4.heap.size V V2 := ⟨hb2'.size, fun q o _ h2 _ => (hb2'.block q (Array.getElem?_eq_some_iff.1 h2).1).trans h2⟩
      by_cases h : mproj M ((x' : Int) + 1) = M
      · rw [decide_eq_true h]
        have bFV : Boxed V2 Bq 3 (.int .i64 0) := (hbV2.block _ (by omega)).trans bF
        have e0 := bFV.cell
        have e1 := bFV.frozen
        have hfin := Lib.hid (show _ ∧ _ ∧ _ from ⟨hkf.trans ((KeepsOthers.setCell V2 ⟨Bq, 0, none⟩ (.int .i64 ((x' : Int) + 1))).from w4.heap.size), bFV.set (.int .i64 ((x' : Int) + 1)), (off_below (Off.refl (fun q => q = Bq) w4) hbV2).setCell (p := ⟨Bq, 0, none⟩) rfl (.int .i64 ((x' : Int) + 1))⟩)
        have HH := Lib.hid h
        clear hbV2 hkf bFV h hb2' KV LV HBV
        gi_wp2
        exact ⟨hfin.out.1, rfl, x', hj, HN.out, HH.out, hfin.out.2⟩
      · rw [decide_eq_false h]
        have hfin := Lib.hid (show _ ∧ _ ∧ _ from ⟨hkf, (fun i hi => by
          rcases Nat.lt_or_ge i x' with h1 | h1
          · exact HN.out i h1
          · obtain rfl : i = x' := by omega
            exact h : ∀ i : Nat, i < x' + 1 → mproj M ((i : Int) + 1) ≠ M), hbV2⟩)
        clear hbV2 hkf h hb2' KV LV HBV HN
        gi_wp2
        exact ⟨hfin.out.1, hfin.out.2, trivial⟩
    case iter =>
      intro Bk X l V hBk hBlt hX hl hD hB hY
      exact svers_in 8 (by omega) 7 l (fun j V => ((∀ i : Nat, i < j → mproj M ((i : Int) + 1) ≠ M) ∧ Below w4.heap.size w4 V) ∧ Bk V) X
        (fun j W h hj => (hY j j W ⟨rfl, h.1⟩ h.2 hj).mono (fun e W2 h => h.elim (fun h => .inl ⟨h.1, h.2.1⟩) (fun h => .inr ⟨h.1, h.2.1⟩)))
        V ⟨hD, hB⟩
    case done =>
      rintro D V hD ⟨hn, hbV⟩ hK
      exact absurd hP2 (hn 1 (by omega))
    case stop =>
      rintro D cd V hD ⟨rfl, j, hj, hn, hx, bV, hO⟩ hK
      have h0 : R = ((j : Int) + 1, 0) := by
        rw [← HR.out]
        have hj2 : j = 0 ∨ j = 1 := by omega
        rcases hj2 with rfl | rfl
        · rw [if_pos (show mproj M 1 = M from hx)]; rfl
        · rw [if_neg (show ¬ mproj M 1 = M from hn 0 (by omega))]; rfl
      subst h0
      have e0 := bV.cell
      have HB := Lib.hid (HB2.out.trans ((HB24.out.trans (hO.below (B := w2.heap.size) (fun k hk => by omega) HB24.out.size)).mono HB2.out.size))
      clear hx hn bV hO
      gi_wp2
      simp only [Exit.noGoto]
      refine ⟨by simp, .inl ⟨_, _, rfl, run_takeDeferred hK, ?_⟩⟩
      refine ⟨.tuple #[.int .i64 ((j : Int) + 1), .int .i64 0], ?_, rfl, HB.out.trans (below_put _ _ (by have := HB24.out.size; have := HB2.out.size; omega))⟩
      simp [results, Try.f15, go_sem]
  · have e1 : (E != 0) = true := by simpa using hE
    rw [if_pos hE]
    go_enter Try.func15, Try.ntmps15
    go_wp2_with fail
    rw [HW2.out]
    refine wp_scope_straight ?_
    go_wp2_with (refine wpList_load_run rfl 33 (.tmp 1) rfl (some ⟨w.heap.size, 0, none⟩) rfl (.agg (mC M P C)) HL0.out ?_)
    refine KC.out.mono ?_
    rintro e w3 ⟨rfl, hb3⟩
    have HB3 := Lib.hid (HB2.out.trans (hb3.mono HB2.out.size))
    clear hb3 KC HL0
    go_wp2
    try simp only [Exit.noGoto]
    go_ret2
    exact ⟨rfl, HB3.out⟩
end Go.Proofs.Ytlbfibnfmijahaa

namespace Go.Proofs.Ytlbfibnfmijahaa
open Go.RowKit Go.Shelf
set_option maxRecDepth 100000
attribute [local go_sem] Oper.semAt_some

/-- cells from lo on are as they were -/
structure KeV (lo : Nat) (A B : World) : Prop where
  size : A.heap.size ≤ B.heap.size
  same : ∀ (q : Nat) (cs : Array Value) (t : TypeId), lo ≤ q → A.heap[q]? = some (.cells cs t (0, 0)) → B.heap[q]? = some (.cells cs t (0, 0))
theorem KeV.trans {lo : Nat} {A B C : World} (h : KeV lo A B) (k : KeV lo B C) : KeV lo A C := ⟨Nat.le_trans h.size k.size, fun q cs t hq hA => k.same q cs t hq (h.same q cs t hq hA)⟩
theorem KeV.putObj {lo l : Nat} {A : World} {o o' : Obj} (ho : A.heap[l]? = some o) (hc : o.isCells = false) : KeV lo A (A.putObj l o') := ⟨by simp [World.putObj], fun q cs t _ hA => (World.putObj_heap_other (fun e => by
  subst e
  rw [ho] at hA
  injection hA with hA
  subst hA
  cases hc)).trans hA⟩
theorem KeV.off {S : Nat → Prop} {lo : Nat} {A B : World} (ho : Off S A B) (hS : ∀ k, lo ≤ k → ¬ S k) : KeV lo A B := ⟨ho.size, fun q _ _ hq hA => (ho.block q (Array.getElem?_eq_some_iff.1 hA).1 (hS q hq)).trans hA⟩
theorem KeepsFrom.of_offV {S : Nat → Prop} {lo : Nat} {A B : World} (ho : Off S A B) (hS : ∀ k, lo ≤ k → ¬ S k) : KeepsFrom lo A B := ⟨ho.size, fun q _ hq hA _ => (ho.block q (Array.getElem?_eq_some_iff.1 hA).1 (hS q hq)).trans hA⟩
theorem lost_not_nil2 (p q : Nat) (w : World) : (binOp .eql 51 (.func (.func 28) #[] #[.pointer (some ⟨p, 0, none⟩), .pointer (some ⟨q, 0, none⟩)]) .nilFunc).run Try.prog w = .ok (.bool false) w := by kernel_rfl

def ex0 : Mg := ⟨2, 0, 0, 0, 0, 0, 0, [], [], ⟨#[]⟩, ⟨#[]⟩⟩
def ex9 : Mg := ⟨2, 0, 0, 9, 0, 0, 0, [], [], ⟨#[]⟩, ⟨#[]⟩⟩
theorem ex_small (k a b c d e f : Int) : Msm ⟨k, a, b, c, d, e, f, [], [], ⟨#[]⟩, ⟨#[]⟩⟩ := ⟨by simp, by simp, by show (ByteArray.mk #[]).size ≤ 80; decide, by show (ByteArray.mk #[]).size ≤ 80; decide⟩
theorem ex_at (k a b c d e f : Int) (w : World) (B : Nat) : MAt w B ⟨k, a, b, c, d, e, f, [], [], ⟨#[]⟩, ⟨#[]⟩⟩ (.slice none 0 0) (.slice none 0 0) := ⟨⟨none, 0, rfl, Nat.le_refl _, Nums.nil⟩, ⟨none, 0, rfl, Nat.le_refl _, Nums.nil⟩⟩
theorem ex0_best : mbest ex0 = (1, 0) := by decide
theorem ex9_best : mbest ex9 = (2, 0) := by decide
theorem ex9_check : mck ex9 = 0 := by decide
theorem ex9_lost : (mlost ex9 1).map (·.nm) = [⟨#[122, 111, 110, 101]⟩] := by decide
set_option maxHeartbeats 8000000 in
theorem lknown_any (w : World) : Calls Try.prog 6 #[] w fun e w' => e = .returned (.bool true) ∧ Below w.heap.size w w' := by
  have K0 := fun W => sbest_any ex0 (.slice none 0 0) (.slice none 0 0) W (ex_small ..) (ex_at ..)
  have K9 := fun W => sbest_any ex9 (.slice none 0 0) (.slice none 0 0) W (ex_small ..) (ex_at ..)
  have KL := fun W => slost_yes ex9 (.slice none 0 0) (.slice none 0 0) 1 W (ex_small ..) (ex_at ..) ex9_check
  simp only [ex0_best] at K0
  simp only [ex9_best] at K9
  unfold ex0 mV mC at K0
  have hst : ∀ W b, W.heap[b]? = some (.cells #[.int .i64 2, .int .i64 0, .int .i64 0, .int .i64 9, .int .i64 0, .int .i64 0, .int .i64 0, .slice none 0 0, .slice none 0 0, .string ⟨#[]⟩, .string ⟨#[]⟩] 33 (0, 0)) → (Instr.loadAt 33 (.pointer (some ⟨b, 0, none⟩))).run Try.prog W = .ok (.agg #[.int .i64 2, .int .i64 0, .int .i64 0, .int .i64 9, .int .i64 0, .int .i64 0, .int .i64 0, .slice none 0 0, .slice none 0 0, .string ⟨#[]⟩, .string ⟨#[]⟩]) W := fun W b h => mg_read (M := ex9) (P := .slice none 0 0) (C := .slice none 0 0) h
  obtain ⟨LL, hLL⟩ : ∃ LL, (FD ex9.k).filter (lostP ex9 1) = LL := ⟨_, rfl⟩
  have hnm : LL.map (·.nm) = [⟨#[122, 111, 110, 101]⟩] := by rw [← hLL, lostP_all ex9_check]; exact ex9_lost
  have hl1 : LL.length = 1 := by have := congrArg List.length hnm; simpa using this
  have hl0 : ∀ (j : Nat) f, LL[j]? = some f → j = 0 ∧ f.nm = ⟨#[122, 111, 110, 101]⟩ := fun j f h => by
    have h2 : (LL.map (·.nm))[j]? = some f.nm := by rw [List.getElem?_map, h]; rfl
    rw [hnm] at h2
    rcases j with _ | j
    · simp at h2; exact ⟨rfl, h2.symm⟩
    · simp at h2
  have HLL := Lib.hid hLL
  have HL0 := Lib.hid hl0
  clear hLL hnm hl0
  unfold ex9 mV mC at K9 KL
  have K0 := Lib.hid K0
  have K9 := Lib.hid K9
  have KL := Lib.hid KL
  have HST := Lib.hid hst
  clear hst
  refine (callsIn_wide (n := 9)).1 ?_
  refine callsIn_of_wp_marks Try.func6 rfl trivial ?_ rfl
  simp only [Try.ntmps6, List.size_toArray, List.length_nil, Nat.reduceSub, Array.replicate_succ, Array.replicate_zero, List.push_toArray, List.append_toArray, List.nil_append, List.cons_append]
  gi_wp2_with fail
  refine ⟨trivial, (callsIn_wide.2 (K0.out w)).mono ?_⟩
  rintro e w1 ⟨rfl, hb1⟩
  have HB1 := Lib.hid hb1
  clear hb1 K0
  gi_wp2_with fail
  obtain ⟨w2, hw2⟩ : ∃ w2, w1.alloc (.cells #[.int .i64 2, .int .i64 0, .int .i64 0, .int .i64 9, .int .i64 0, .int .i64 0, .int .i64 0, .slice none 0 0, .slice none 0 0, .string ⟨#[]⟩, .string ⟨#[]⟩] 33) = w2 := ⟨_, rfl⟩
  have hb12 : Below w1.heap.size w1 w2 := by rw [← hw2]; exact (Below.refl _ w1).alloc (Nat.le_refl _) _
  have q2 : w2.heap[w1.heap.size]? = some (.cells #[.int .i64 2, .int .i64 0, .int .i64 0, .int .i64 9, .int .i64 0, .int .i64 0, .int .i64 0, .slice none 0 0, .slice none 0 0, .string ⟨#[]⟩, .string ⟨#[]⟩] 33 (0, 0)) := by rw [← hw2]; exact World.alloc_heap_new _ _
  obtain ⟨mb, hmb⟩ : ∃ mb, w1.heap.size = mb := ⟨_, rfl⟩
  rw [hw2]
  refine ⟨trivial, (callsIn_wide.2 (K9.out w2)).mono ?_⟩
  rintro e w3 ⟨rfl, hb3⟩
  have q3 := (hb3.block _ (Array.getElem?_eq_some_iff.1 q2).1).trans q2
  rw [hmb] at q3 ⊢
  obtain ⟨nb, hnb⟩ : ∃ nb, w3.heap.size = nb := ⟨_, rfl⟩
  obtain ⟨w4, hw4⟩ : ∃ w4, w3.alloc (.cells #[.string ⟨#[]⟩] 9) = w4 := ⟨_, rfl⟩
  have hb34 : Below w3.heap.size w3 w4 := by rw [← hw4]; exact (Below.refl _ w3).alloc (Nat.le_refl _) _
  have bN4 : Boxed w4 nb 9 (.string ⟨#[]⟩) := by rw [← hw4, ← hnb]; exact Boxed.new w3 9 _
  have hs4 : w4.heap.size = nb + 1 := by rw [← hw4, ← hnb]; simp
  have q4 := (hb34.block _ (Array.getElem?_eq_some_iff.1 q3).1).trans q3
  have L3 := Lib.hid (HST.out _ _ q3)
  have L4 := Lib.hid (HST.out _ _ q4)
  have hb13 := hb12.trans (hb3.mono hb12.size)
  have HB4 := Lib.hid (HB1.out.trans ((hb13.trans (hb34.mono hb13.size)).mono HB1.out.size))
  have hnb0 : w.heap.size ≤ nb := by have := HB1.out.size; have := hb13.size; omega
  have HW4 := Lib.hid hw4
  have HNB := Lib.hid hnb
  clear hb12 q2 hb3 q3 hw4 hb34 q4 hb13 HST K9 HB1 hw2 hmb hnb
  gi_wp2_with (rw [HNB.out, HW4.out]; refine wpListIn_load_run rfl 33 (.tmp 3) rfl (some ⟨mb, 0, none⟩) rfl (.agg #[.int .i64 2, .int .i64 0, .int .i64 0, .int .i64 9, .int .i64 0, .int .i64 0, .int .i64 0, .slice none 0 0, .slice none 0 0, .string ⟨#[]⟩, .string ⟨#[]⟩]) L4.out ?_)
  refine ⟨trivial, (callsIn_wide.2 (KL.out w4)).mono ?_⟩
  rintro e w5 ⟨b, d, P1, C1, P2, C2, rfl, hb, hd, mfb, mfd, hb5⟩
  have bN5 : Boxed w5 nb 9 (.string ⟨#[]⟩) := (hb5.block _ (by omega)).trans bN4
  have hs5 := hb5.size
  have HB5 := Lib.hid (HB4.out.trans (hb5.mono HB4.out.size))
  have HMB := Lib.hid mfb
  have HMD := Lib.hid mfd
  have hbl := (Array.getElem?_eq_some_iff.1 mfb).1
  have hdl := (Array.getElem?_eq_some_iff.1 mfd).1
  have kn := lost_not_nil2
  clear hb5 mfb mfd KL bN4 L3 L4 HW4 HNB
  gi_wp2_with fail
  refine range_stops rfl (by omega) (gf := 28) (lb := #[.pointer (some ⟨b, 0, none⟩), .pointer (some ⟨d, 0, none⟩)]) rfl trivial (enters_of Try.func28 (by kernel_rfl) rfl)
    (fun f : Fd => #[.string f.nm]) (fun _ => rfl)
    (fun j f V => LL[j]? = some f ∧ Boxed V nb 9 (.string (if j = 0 then ⟨#[]⟩ else ⟨#[122, 111, 110, 101]⟩)) ∧ Off (fun q => q = nb) w5 V)
    (fun j V => Boxed V nb 9 (.string (if j = 0 then ⟨#[]⟩ else ⟨#[122, 111, 110, 101]⟩)) ∧ Off (fun q => q = nb) w5 V)
    (fun _ _ => False) (KeV w5.heap.size) LL.length
    (fun j f V l o o' h hl ho hc' => ⟨h.1, (World.putObj_heap_other (by omega)).trans h.2.1, off_below h.2.2 (below_put V o' hl)⟩)
    (fun j V l o o' h hl ho hc' => ⟨(World.putObj_heap_other (by omega)).trans h.1, off_below h.2 (below_put V o' hl)⟩)
    (fun _ _ _ _ _ h => h.elim)
    (fun _ _ _ h k => h.trans k) (fun V l o o' hl ho hc' => KeV.putObj ho hc')
    (fun o => ⟨(Below.heap_alloc _ _ _ (by simp; omega)).trans ((Below.heap_alloc _ _ _ (by omega)).trans bN5), Off.of_below (((Below.refl w5.heap.size w5).alloc (Nat.le_refl _) _).alloc (by simp) _)⟩) ?a1 ?assign ?body ?iter ?done ?stop
  case assign =>
    intro l x' V K' hK'
    gi_wp2
    exact hK'
  case body =>
    rintro l j f V hl ⟨hf, hI, hO⟩ hj
    obtain ⟨rfl, hfn⟩ := HL0.out j f hf
    rw [if_pos rfl] at hI
    have e0 := hI.cell
    have e1 := hI.frozen
    have hI2 := hI.set (.string ⟨#[122, 111, 110, 101]⟩)
    have hO2 : Off (fun q => q = nb) w5 (V.setCell ⟨nb, 0, none⟩ (.string ⟨#[122, 111, 110, 101]⟩)) := hO.setCell (p := ⟨nb, 0, none⟩) rfl _
    have hOV : Off (fun q => q = nb) V (V.setCell ⟨nb, 0, none⟩ (.string ⟨#[122, 111, 110, 101]⟩)) := Off.setCell (S := fun q => q = nb) (p := ⟨nb, 0, none⟩) (Off.refl _ _) rfl _
    have HF := Lib.hid (show KeepsFrom w5.heap.size V _ ∧ (Boxed _ nb 9 (.string ⟨#[122, 111, 110, 101]⟩) ∧ Off (fun q => q = nb) w5 _) ∧ KeV w5.heap.size V _ from ⟨KeepsFrom.of_offV hOV (fun k hk => by omega), ⟨hI2, hO2⟩, KeV.off hOV (fun k hk => by omega)⟩)
    clear hI hO hI2 hO2 hOV
    rw [hfn]
    gi_wp2
    all_goals exact HF.out
  case iter =>
    intro Bk X l V hBk hBlt hX hl hD hB hY
    exact slost_in 8 (by omega) 7 l b d w5.heap.size ex9 P1 C1 P2 C2 1 LL HLL.out (fun j V => Boxed V nb 9 (.string (if j = 0 then ⟨#[]⟩ else ⟨#[122, 111, 110, 101]⟩)) ∧ Off (fun q => q = nb) w5 V) Bk X (KeV w5.heap.size) hl
      (fun j A B h hb => ⟨(hb.block _ (by omega)).trans h.1, off_below h.2 hb⟩)
      (fun j V h => ⟨(h.2.block _ hbl (by omega)).trans HMB.out, (h.2.block _ hdl (by omega)).trans HMD.out⟩)
      hBk hBlt hX (fun V V' k cs t h hk hc => h.same k cs t (by omega) hc)
      (fun j f V h hf hb => hY j f V ⟨hf, h⟩ hb (List.getElem?_eq_some_iff.1 hf).1)
      V hD hB
  case done =>
    rintro D V hD ⟨hI, hO⟩ hK
    rw [hl1, if_neg (by decide)] at hI
    have e0 := hI.cell
    have HB := Lib.hid (HB5.out.trans (hO.below (B := w.heap.size) (fun k hk => by omega) HB5.out.size))
    clear hI hO
    gi_wp2
    try simp only [Exit.noGoto]
    refine ⟨by simp, .inl ⟨_, _, rfl, run_takeDeferred hK, ?_⟩⟩
    refine ⟨.bool true, ?_, rfl, HB.out.trans (below_put _ _ (by omega))⟩
    simp [results, Try.f6, go_sem]
  case stop =>
    rintro D cd V hD h hK
    exact h.elim
end Go.Proofs.Ytlbfibnfmijahaa

namespace Go.Proofs.Ytlbfibnfmijahaa
open Go.RowKit
section
variable {F : Fence} {nF : Nat} {P : Program} {w : World} {ops : Array Oper} {rest : List Oper} {o : Oper} {a : Act} {Q : Exit → Act → World → Prop}
theorem wpListIn_load_rungS (hwt : Region.wanted o (yielded ops a.tmps) = true) (t : TypeId) (x : Operand) (hop : o.op = .load t x) (ad : Option Addr) (hx : a.eval x = .pointer ad) (v : Value) (hr : (Instr.loadAt t (.pointer ad)).run P w = .ok v w)
    (hK : wpListIn F nF P ops Q rest (a.put o.dst v) w) : wpListIn F nF P ops Q (o :: rest) a w := by
  simp only [wpListIn, hwt, if_true]
  unfold Oper.wpIn
  refine ⟨?_, ?_⟩
  · simp [Oper.about, hop]
  · rw [Oper.semAt_plain F _ _ (by rw [hop]; intro c hc'; cases hc')]
    simp [execOp, hop, hx, hr, Result.andThen]
    exact hK
end
end Go.Proofs.Ytlbfibnfmijahaa

namespace Go.Proofs.Ytlbfibnfmijahaa
open Go.RowKit Go.Shelf
set_option maxRecDepth 100000
attribute [local go_sem] Oper.semAt_some

theorem vers_not_nil (w : World) : (binOp .eql 40 (.func (.func 19) #[] #[]) .nilFunc).run Try.prog w = .ok (.bool false) w := by kernel_rfl
def sumV (j : Nat) : Int := if j = 0 then 0 else if j = 1 then 1 else 12
set_option maxHeartbeats 16000000 in
theorem snil_go (X : Mg) (P Q : Value) (A : Option Addr) (len cap : Nat) (w : World) (_h1 : MAt w w.heap.size X P Q) :
    Calls Try.prog 4 #[mV X P Q, .slice A len cap] w fun e w' => e = .returned (.bool true) ∧ Below w.heap.size w w' := by
  obtain ⟨w1, hw1⟩ : ∃ w1, w.alloc (.cells (mC X P Q) 33) = w1 := ⟨_, rfl⟩
  have hb1 : Below w.heap.size w w1 := by rw [← hw1]; exact (Below.refl _ w).alloc (Nat.le_refl _) _
  have q1 : w1.heap[w.heap.size]? = some (.cells (mC X P Q) 33 (0, 0)) := by rw [← hw1]; exact World.alloc_heap_new _ _
  have hlt := (Array.getElem?_eq_some_iff.1 q1).1
  have HW1 := Lib.hid hw1
  have HB1 := Lib.hid hb1
  have LM : Hid (∀ W, Below w1.heap.size w1 W → (Instr.loadAt 33 (.pointer (some ⟨w.heap.size, 0, none⟩))).run Try.prog W = .ok (.agg (mC X P Q)) W) := Lib.hid fun W hW => mg_read ((hW.block _ hlt).trans q1)
  have L1 := Lib.hid (LM.out w1 (Below.refl _ _))
  have KP := Lib.hid (spack_nil X P Q w1)
  have KF := Lib.hid fun W => sfits_nil X P Q W
  clear hw1 hb1 q1
  unfold mV at *
  refine (callsIn_wide (n := 9)).1 ?_
  refine callsIn_of_wp_marks Try.func4 rfl trivial ?_ rfl
  simp only [Try.ntmps4, List.size_toArray, List.length_cons, List.length_nil, Nat.reduceAdd, Nat.reduceSub, Array.replicate_succ, Array.replicate_zero, List.push_toArray, List.append_toArray, List.nil_append, List.cons_append]
  gi_wp2_with (rw [HW1.out]; refine wpListIn_load_run rfl 33 (.tmp 2) rfl (some ⟨w.heap.size, 0, none⟩) rfl (.agg (mC X P Q)) L1.out ?_)
  refine ⟨trivial, (callsIn_wide.2 KP.out).mono ?_⟩
  rintro e w2 ⟨rfl, hb2⟩
  have HB2 := Lib.hid hb2
  clear hb2 KP L1 HW1
  gi_wp2_with fail
  refine ⟨trivial, (callsIn_wide.2 (sunpack_nil 1 (.slice A len cap) w2)).mono ?_⟩
  rintro e w3 ⟨P3, C3, rfl, hm3, hb3⟩
  obtain ⟨w4, hst4, q4, hb4⟩ := new_msg w3 hm3.at
  obtain ⟨yb, hyb⟩ : ∃ yb, w3.heap.size = yb := ⟨_, rfl⟩
  have hb34 := hb3.trans (hb4.mono hb3.size)
  have HB14 := Lib.hid (HB2.out.trans (hb34.mono HB2.out.size))
  have HM4 : Hid (∀ W B, MAt W B (Mg.zero 0) P3 C3) := Lib.hid fun W B => by
    obtain ⟨⟨a, c, g1, g2, _⟩, ⟨a', c', g3, g4, _⟩⟩ := hm3.at
    exact ⟨⟨a, c, g1, g2, Nums.nil⟩, ⟨a', c', g3, g4, Nums.nil⟩⟩
  rw [hyb] at hst4 q4
  obtain ⟨sb, hsb⟩ : ∃ sb, w4.heap.size = sb := ⟨_, rfl⟩
  obtain ⟨w5, hw5⟩ : ∃ w5, w4.alloc (.cells #[.int .i64 0] 3) = w5 := ⟨_, rfl⟩
  have hb45 : Below w4.heap.size w4 w5 := by rw [← hw5]; exact (Below.refl _ w4).alloc (Nat.le_refl _) _
  have bS5 : Boxed w5 sb 3 (.int .i64 0) := by rw [← hw5, ← hsb]; exact Boxed.new w4 3 _
  have hs5 : w5.heap.size = sb + 1 := by rw [← hw5, ← hsb]; simp
  have q5 := (hb45.block _ (Array.getElem?_eq_some_iff.1 q4).1).trans q4
  have hys : yb < sb := by rw [← hsb]; exact (Array.getElem?_eq_some_iff.1 q4).1
  have hws : w.heap.size < sb := by have := HB14.out.size; omega
  have HB15 := Lib.hid (HB14.out.trans (hb45.mono HB14.out.size))
  have HQ5 := Lib.hid q5
  have HST4 := Lib.hid hst4
  have HW5 := Lib.hid hw5
  have HSB := Lib.hid hsb
  have HYB := Lib.hid hyb
  have h1s : w1.heap.size ≤ sb := by have := HB14.out.size; omega
  have kn := vers_not_nil
  clear hst4 q4 hb3 hb4 hb34 hm3 hyb hsb hw5 hb45 q5 HB2 HB14
  unfold mV
  simp only
  gi_wp2_with (rw [HYB.out]; refine wpListIn_store_run rfl 33 (.tmp 9) (.tmp 25) rfl (some ⟨yb, 0, none⟩) rfl (.agg (mC (Mg.zero 0) P3 C3)) rfl HST4.out ?_)
  rw [HSB.out, HW5.out]
  refine ⟨trivial, (callsIn_wide.2 (svers_any w5)).mono ?_⟩
  rintro e w6 ⟨rfl, rfl⟩
  clear HW5 HSB HYB HST4
  gi_wp2_with fail
  refine range_stops rfl (by omega) (gf := 19) (lb := #[]) rfl trivial (enters_of Try.func19 (by kernel_rfl) rfl)
    (fun j : Nat => #[.int .i64 ((j : Int) + 1)]) (fun _ => rfl)
    (fun j x' V => x' = j ∧ Boxed V sb 3 (.int .i64 (sumV j)) ∧ Off (fun q => q = sb) w5 V)
    (fun j V => Boxed V sb 3 (.int .i64 (sumV j)) ∧ Off (fun q => q = sb) w5 V)
    (fun _ _ => False) (fun _ _ => True) 2
    (fun j x' V l o o' h hl ho hc' => ⟨h.1, (World.putObj_heap_other (by omega)).trans h.2.1, off_below h.2.2 (below_put V o' hl)⟩)
    (fun j V l o o' h hl ho hc' => ⟨(World.putObj_heap_other (by omega)).trans h.1, off_below h.2 (below_put V o' hl)⟩)
    (fun _ _ _ _ _ h => h.elim)
    (fun _ _ _ _ _ => trivial) (fun _ _ _ _ _ _ _ => trivial)
    (fun o => ⟨(Below.heap_alloc _ _ _ (by simp; omega)).trans ((Below.heap_alloc _ _ _ (by omega)).trans bS5), Off.of_below (((Below.refl w5.heap.size w5).alloc (Nat.le_refl _) _).alloc (by simp) _)⟩) ?a1 ?assign ?body ?iter ?done ?stop
  case assign =>
    intro l x' V K' hK'
    gi_wp2
    exact hK'
  case body =>
    rintro l j x' V hl ⟨rfl, hI, hO⟩ hj
    have hx : x' = 0 ∨ x' = 1 := by omega
    rcases hx with rfl | rfl
    all_goals
      have e0 := hI.cell
      have e1 := hI.frozen
      have hI2 := fun u => hI.set u
      have hO2 : ∀ u, Off (fun q => q = sb) w5 (V.setCell ⟨sb, 0, none⟩ u) := fun u => hO.setCell (p := ⟨sb, 0, none⟩) rfl u
      have hOV : ∀ u, Off (fun q => q = sb) V (V.setCell ⟨sb, 0, none⟩ u) := fun u => Off.setCell (S := fun q => q = sb) (p := ⟨sb, 0, none⟩) (Off.refl _ _) rfl u
      have HF := Lib.hid (show ∀ u, KeepsFrom w5.heap.size V _ ∧ (Boxed (V.setCell ⟨sb, 0, none⟩ u) sb 3 u ∧ Off (fun q => q = sb) w5 _) ∧ True from fun u => ⟨KeepsFrom.of_offV (hOV u) (fun k hk => by omega), ⟨hI2 u, hO2 u⟩, trivial⟩)
      clear hI hO hI2 hO2 hOV
      unfold sumV at e0
      simp only [if_true] at e0
      gi_wp2_with fail
      exact HF.out _
  case iter =>
    intro Bk X l V hBk hBlt hX hl hD hB hY
    exact svers_in 8 (by omega) 7 l (fun j V => (Boxed V sb 3 (.int .i64 (sumV j)) ∧ Off (fun q => q = sb) w5 V) ∧ Bk V) X
      (fun j W h hj => (hY j j W ⟨rfl, h.1⟩ h.2 hj).mono (fun e W2 h => h.elim (fun h => .inl ⟨h.1, h.2.1⟩) (fun h => .inr ⟨h.1, h.2.1⟩)))
      V ⟨hD, hB⟩
  case done =>
    rintro D V hD ⟨hI, hO⟩ hK
    have hI : Boxed V sb 3 (.int .i64 12) := hI
    have hb1V : Below w1.heap.size w1 V := HB15.out.trans (hO.below (B := w1.heap.size) (fun k hk => by omega) HB15.out.size)
    have hyV := (hO.block yb (by omega) (by omega)).trans HQ5.out
    have HI := Lib.hid hI
    have HB1V := Lib.hid hb1V
    have HYV := Lib.hid hyV
    have HOV := Lib.hid hO
    have HKV := Lib.hid hK
    clear hI hO hb1V hyV hK HQ5
    gi_wp2_with fail
    refine ⟨trivial, (callsIn_wide.2 (lknown_any V)).mono ?_⟩
    rintro e V2 ⟨rfl, hv2⟩
    have hb12 := HB1V.out.trans (hv2.mono HB1V.out.size)
    have hy2 := (hv2.block _ (Array.getElem?_eq_some_iff.1 HYV.out).1).trans HYV.out
    have LY := Lib.hid (mg_read hy2)
    unfold mV at LY
    have KS := same_F (M := Mg.zero 0) (M' := Mg.zero 0) (x := .agg (mC (Mg.zero 0) P3 C3)) (y := .agg (mC (Mg.zero 0) (.slice none 0 0) (.slice none 0 0))) (W := V2) (ex_small ..) ⟨P3, C3, rfl, HM4.out _ _⟩ ⟨_, _, rfl, ex_at ..⟩
    rw [decide_eq_true rfl, mC_zero] at KS
    have KS := Lib.hid KS
    have HB12 := Lib.hid hb12
    have HV2 := Lib.hid hv2
    clear hv2 hb12 hy2
    gi_wp2_with (refine wpListIn_load_rungS (by rfl) 33 (.tmp 9) rfl (some ⟨yb, 0, none⟩) rfl (.agg (mC (Mg.zero 0) P3 C3)) LY.out ?_)
    refine ⟨trivial, (callsIn_wide.2 KS.out).mono ?_⟩
    rintro e V3 ⟨rfl, hv3⟩
    have HV3 := Lib.hid (HV2.out.trans (hv3.mono HV2.out.size))
    have HB13 := Lib.hid (HB12.out.trans (hv3.mono HB12.out.size))
    have LX := Lib.hid (LM.out V3 HB13.out)
    clear hv3 KS LY HV2 HB12
    gi_wp2_with fail
    refine ⟨trivial, (callsIn_wide.2 (sversion_nil V3)).mono ?_⟩
    rintro e V4 ⟨rfl, rfl⟩
    gi_wp2_with (refine wpListIn_load_rungS (by rfl) 33 (.tmp 2) rfl (some ⟨w.heap.size, 0, none⟩) rfl (.agg (mC X P Q)) LX.out ?_)
    refine ⟨trivial, (callsIn_wide.2 (KF.out V3)).mono ?_⟩
    rintro e V5 ⟨rfl, hv5⟩
    have hvv := HV3.out.trans (hv5.mono HV3.out.size)
    have b5 : Boxed V5 sb 3 (.int .i64 12) := (hvv.block _ HI.out.lt).trans HI.out
    have e5 := b5.cell
    have hk5 : V5.heap[D]? = some (.deferred (some [])) := (hvv.block _ (Array.getElem?_eq_some_iff.1 HKV.out).1).trans HKV.out
    have HF := Lib.hid (HB1.out.trans ((HB13.out.trans (hv5.mono HB13.out.size)).mono HB1.out.size))
    clear hv5 hvv b5 LX
    gi_wp2
    try simp only [Exit.noGoto]
    refine ⟨by simp, .inl ⟨_, _, rfl, run_takeDeferred hk5, ?_⟩⟩
    refine ⟨.bool true, ?_, rfl, HF.out.trans (below_put _ _ (by omega))⟩
    simp [results, Try.f4, go_sem]
  case stop =>
    rintro D cd V hD h hK
    exact h.elim
end Go.Proofs.Ytlbfibnfmijahaa

namespace Go.Proofs.Ytlbfibnfmijahaa.schemaNil
open Go.ChangeShapes Go.WideShapes Go.ChangeAt Go.RowKit
open Go.ChangeMaps (open_string shut_string)
set_option linter.unusedVariables false

theorem own : ownKnob Try.prog.godebug = none := by kernel_rfl
theorem laidOut : laidOutB Try.prog = true := by kernel_rfl

set_option maxRecDepth 100000 in
theorem lifted (os : Os) (started : os.Started) (H : Type) (enc : TypeId × Value → H) :
    ReturnsInHanded {} Try.checked os 4 .any (Rows.schemaNilSpec.pre6 enc Try.prog Try.f4 Rows.schemaNilRow.domain false) (Rows.schemaNilSpec.post enc Try.prog Try.f4 false true false false) := by
  refine returnsInHanded_of_change (C := Try.checked) own started (by kernel_rfl) Try.func4
    (ChangeSpec.witness6 (enc := enc) (C := Try.checked) false ⟨#[], #[.agg #[.int .i64 0, .int .i64 0, .int .i64 0, .int .i64 0, .int .i64 0, .int .i64 0, .int .i64 0, .slice none 0 0, .slice none 0 0, .string ⟨#[]⟩, .string ⟨#[]⟩], .slice none 0 0], []⟩ 8 (by kernel_rfl) (by kernel_rfl) (by kernel_rfl) (by kernel_rfl)) ?_
  intro W base args ds gs before hval0 hW hcnd _
  have hval : ∀ (j : Nat) t v, Try.f4.params[j]? = some t → args[j]? = some v → Value.okWide Try.prog W .any base t v := hval0
  have hW' := hW
  obtain ⟨p, q, hA0, hV, rfl, hfz, hnd⟩ := hW
  have hA : DataW.TrodAll enc Try.prog W 0 (fun _ => true) true Try.f4.params.toList args.toList ds p := hA0
  rw [Try.params4] at hA hval
  obtain ⟨v0, vs0, d0, ds0, p0, q0, hargs, rfl, rfl, h0, r0⟩ := trodAll_cons hA
  obtain ⟨v1, vs1, d1, ds1, p1, q1, rfl, rfl, rfl, h1, r1⟩ := trodAll_cons r0
  obtain ⟨rfl, rfl, rfl⟩ := trodAll_nil r1
  obtain rfl : args = #[v0, v1] := by cases args; simp_all
  obtain ⟨rfl, rfl⟩ := trodVars_none hV
  have k0 := h0
  have lt0 : ∀ x ∈ p0, x.block < W.heap.size := by obtain ⟨m, hm⟩ := k0; exact DataW.trod_lt m _ _ _ hm
  obtain ⟨mM0, mP0, mC0, rfl, y0⟩ := open_msg (hval 0 33 v0 rfl rfl) h0
  obtain ⟨a1, len1, cap1, rfl⟩ := okWide_slice Try.underlying22 (hval 1 22 v1 rfl rfl)
  have k1 := h1
  have lt1 : ∀ x ∈ p1, x.block < W.heap.size := by obtain ⟨m, hm⟩ := k1; exact DataW.trod_lt m _ _ _ hm
  obtain ⟨e1, hd1, hm1, w1⟩ : ∃ es : List Int, es.length = len1 ∧ len1 ≤ cap1 ∧ Nums .u8 W W.heap.size a1 es ∧ ∀ z ∈ es, (Lit.int .u8 z).wf = true := by
    obtain ⟨fuel, hf⟩ := h1
    obtain ⟨_, _, _, es, he, q⟩ := row_of Try.underlying22 Try.underlying5 (by kernel_rfl) hf
    injection he with e1 e2 e3
    subst e1 e2 e3
    exact ⟨es, q⟩
  clear hA0 hval0
  refine (snil_go mM0 mP0 mC0 a1 len1 cap1 W y0).mono fun e W' ⟨he, bel⟩ => ?_
  subst he
  exact ⟨_, rfl, _, _, _, [], _, [], hW', trodAll_mk1 (shut_bool Try.underlying4 _), (trodAll_cons_mk (Below.trod laidOut (by kernel_rfl) (of_decide_eq_true (by kernel_rfl)) k0 bel lt0) (trodAll_cons_mk (Below.trod laidOut (by kernel_rfl) (of_decide_eq_true (by kernel_rfl)) k1 bel lt1) trodAll_mk0)), rfl, bel.frame _, fun h => by cases h⟩

theorem over : Rows.schemaNilRow.holds Try.pinned (OpenSpec.ofChange Rows.schemaNilSpec) :=
  OpenClaim.holds_of_wide 4 Try.f4 rfl rfl rfl rfl rfl rfl rfl ⟨rfl, rfl, rfl, rfl, rfl⟩ rfl rfl rfl rfl rfl (by kernel_rfl) Try.func4 (by kernel_rfl)
    (of_decide_eq_true (by kernel_rfl)) (by unfold Func.isWrapper; first | (rw [if_pos (by decide +kernel)]; kernel_rfl) | (rw [if_neg (by decide +kernel)]; exact ⟨rfl, rfl⟩))
    (fun os started H enc _ => lifted os started H enc)

theorem proved : Rows.SchemaNilSaid := over
#print axioms proved
end Go.Proofs.Ytlbfibnfmijahaa.schemaNil
