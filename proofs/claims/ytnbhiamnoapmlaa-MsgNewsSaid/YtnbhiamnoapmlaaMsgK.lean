/-
  Contract of layer 17's Check. (Written by tools/gen_msgk.py.)
-/
import Derived.Test.YtnbhiamnoapmlaaMsgG
import Derived.Test.YtnbhiamnoapmlaaQ21
namespace Go.Proofs.Ytnbhiamnoapmlaa
open Go.RowKit Go.Shelf
set_option maxRecDepth 100000
attribute [local go_sem] Oper.semAt_some

/-- a message's box b0 and an error's box behind it -/
structure CkB (b0 : Nat) (w4 : World) (M : Mg) (E : Int) (V : World) : Prop where
  m : ∃ P C, V.heap[b0]? = some (.cells (mC M P C) 26 (0, 0)) ∧ MAt V b0 M P C
  e : V.heap[b0 + 1]? = some (.cells #[.int .i64 E] 28 (0, 0))
  off : Off (fun q => q = b0 ∨ q = b0 + 1) w4 V
section
variable {b0 : Nat} {w4 V V' : World} {M M' : Mg} {E E' : Int}
theorem MAt.kept {w w' : World} {B : Nat} {M : Mg} {P C : Value} (h : MAt w B M P C) (hk : ∀ p : Addr, p.block < B → w'.cell? p = w.cell? p) : MAt w' B M P C := by
  obtain ⟨⟨a, c, h1, h2, h3⟩, ⟨a', c', h4, h5, h6⟩⟩ := h
  exact ⟨⟨a, c, h1, h2, h3.kept hk⟩, ⟨a', c', h4, h5, h6.kept hk⟩⟩
theorem CkB.later (h : CkB b0 w4 M E V) (hb : Below V.heap.size V V') : CkB b0 w4 M E V' := by
  obtain ⟨P, C, h1, h2⟩ := h.m
  have hl := (Array.getElem?_eq_some_iff.1 h1).1
  exact ⟨⟨P, C, (hb.block _ hl).trans h1, h2.kept fun p hp => hb.cell (by omega)⟩, (hb.block _ (Array.getElem?_eq_some_iff.1 h.e).1).trans h.e, off_below h.off (hb.mono h.off.size)⟩
theorem CkB.putObj {l : Nat} {o' : Obj} (h : CkB b0 w4 M E V) (hw : w4.heap.size ≤ l) (hw4 : b0 + 1 < w4.heap.size) : CkB b0 w4 M E (V.putObj l o') := by
  obtain ⟨P, C, h1, h2⟩ := h.m
  have hp : Below l V (V.putObj l o') := below_put V o' (Nat.le_refl _)
  exact ⟨⟨P, C, (World.putObj_heap_other (by omega)).trans h1, h2.kept fun p hp' => hp.cell (by omega)⟩, (World.putObj_heap_other (by omega)).trans h.e, off_below h.off (below_put V o' hw)⟩
/-- an error is told, and a cell of the message turned -/
theorem CkB.set (h : CkB b0 w4 M E V) (E' : Int) (j : Nat) (u : Value) (hM : ∀ P C, V.heap[b0]? = some (.cells (mC M P C) 26 (0, 0)) → MAt V b0 M P C → ∃ P' C', (mC M P C).setIfInBounds j u = mC M' P' C' ∧ MAt V b0 M' P' C') :
    CkB b0 w4 M' E' ((V.setCell ⟨b0 + 1, 0, none⟩ (.int .i64 E')).setCell ⟨b0, j, none⟩ u) := by
  obtain ⟨P, C, h1, h2⟩ := h.m
  obtain ⟨P', C', h3, h4⟩ := hM P C h1 h2
  have h5 : (V.setCell ⟨b0 + 1, 0, none⟩ (.int .i64 E')).heap[b0]? = some (.cells (mC M P C) 26 (0, 0)) := (Below.heap_setCell _ _ _ _ (by show b0 ≠ b0 + 1; omega)).trans h1
  have h6 : Below b0 V ((V.setCell ⟨b0 + 1, 0, none⟩ (.int .i64 E')).setCell ⟨b0, j, none⟩ u) := ((Below.refl b0 V).setCell (p := ⟨b0 + 1, 0, none⟩) (by show b0 ≤ b0 + 1; omega) _).setCell (p := ⟨b0, j, none⟩) (Nat.le_refl _) _
  refine ⟨⟨P', C', by rw [setCell_at h5, h3], h4.kept fun p hp => h6.cell hp⟩, ?_, ?_⟩
  · rw [Below.heap_setCell _ _ _ _ (by show b0 + 1 ≠ b0; omega), setCell_at h.e]
    rfl
  · exact (h.off.setCell (p := ⟨b0 + 1, 0, none⟩) (.inr rfl) _).setCell (p := ⟨b0, j, none⟩) (.inl rfl) _
end
theorem kf_two {V W : World} {b s : Nat} (h : Off (fun q => q = b ∨ q = b + 1) V W) (hb : b + 1 < s) : KeepsFrom s V W := ⟨h.size, fun q o hq ho _ => (h.block q (Array.getElem?_eq_some_iff.1 ho).1 (by omega)).trans ho⟩
theorem ket_two {V W : World} {b : Nat} {tf ti : TypeId} (h : Off (fun q => q = b ∨ q = b + 1) V W) : KeT tf ti (b + 2) V W := ⟨h.size, fun q cs t hq _ hA => h.block q (Array.getElem?_eq_some_iff.1 hA).1 (by omega)⟩
theorem Msm.strip {M : Mg} (h : Msm M) (f : Fd) : Msm (strip M f) := by
  unfold Proofs.Ytnbhiamnoapmlaa.strip
  repeat' split
  · exact ⟨by simp, h.c, h.tx, h.tg⟩
  · exact ⟨h.p, by simp, h.tx, h.tg⟩
  · exact ⟨h.p, h.c, by show (ByteArray.mk #[]).size ≤ 80; decide, h.tg⟩
  · exact ⟨h.p, h.c, h.tx, by show (ByteArray.mk #[]).size ≤ 80; decide⟩
  · exact ⟨by rw [Mg.put_p]; exact h.p, by rw [Mg.put_c]; exact h.c, by rw [Mg.put_tx]; exact h.tx, by rw [Mg.put_tg]; exact h.tg⟩
theorem Msm.fold {M : Mg} (h : Msm M) : ∀ L : List Fd, Msm (L.foldl Proofs.Ytnbhiamnoapmlaa.strip M) := by
  intro L
  induction L generalizing M with
  | nil => exact h
  | cons f r ih => exact ih (h.strip f)

set_option maxHeartbeats 16000000 in
theorem mcheck_any (M : Mg) (P C : Value) (w : World) (hs : Msm M) (h1 : MAt w w.heap.size M P C) : Calls Try.prog 8 #[mV M P C] w fun e w' => e = .returned (.int .i64 (mck M)) ∧ Below w.heap.size w w' := by
  have KW := Lib.hid (word_any M.k)
  obtain ⟨R, hR⟩ : ∃ R, mck M = R := ⟨_, rfl⟩
  rw [hR]
  unfold mck at hR
  obtain ⟨⟨ap, cp, rfl, hcp, ha⟩, ⟨ac, cc, rfl, hcc, hc⟩⟩ := h1
  by_cases hk : wd M.k = ⟨#[]⟩
  · rw [if_pos ((FD_nil _).2 hk)] at hR
    subst hR
    rw [hk] at KW
    have HB := Lib.hid ((Below.refl _ w).alloc (Nat.le_refl _) (.cells (mC M (.slice ap M.p.length cp) (.slice ac M.c.length cc)) 26))
    unfold mV mC at *
    clear ha hc hcp hcc hs hk
    go_enter Try.func8, Try.ntmps8
    go_wp2
    refine wp_scope_straight ?_
    go_wp2_with fail
    refine (KW.out _).mono ?_
    rintro e w1 ⟨rfl, rfl⟩
    go_wp2
    try simp only [Exit.noGoto]
    go_ret
    exact ⟨rfl, HB.out⟩
  · rw [if_neg (fun e => hk ((FD_nil _).1 e))] at hR
    have hwne := str_nil hk
    have hwn2 : (wd M.k).toList.isEmpty = false := by simpa using hwne
    obtain ⟨w3, hw3⟩ : ∃ w3, w3 = (w.alloc (.cells (mC M (.slice ap M.p.length cp) (.slice ac M.c.length cc)) 26)).alloc (.cells #[.int .i64 0] 28) := ⟨_, rfl⟩
    have hs3 : w3.heap.size = w.heap.size + 2 := by rw [hw3]; simp
    have hb3 : Below w.heap.size w w3 := by rw [hw3]; exact ((Below.refl _ w).alloc (Nat.le_refl _) _).alloc (by simp) _
    have p0 : w3.heap[w.heap.size]? = some (.cells (mC M (.slice ap M.p.length cp) (.slice ac M.c.length cc)) 26 (0, 0)) := by
      rw [hw3, Below.heap_alloc _ _ _ (by simp)]; exact World.alloc_heap_new _ _
    have p1 : w3.heap[w.heap.size + 1]? = some (.cells #[.int .i64 0] 28 (0, 0)) := by
      have := World.alloc_heap_new (w.alloc (.cells (mC M (.slice ap M.p.length cp) (.slice ac M.c.length cc)) 26)) (.cells #[.int .i64 0] 28)
      rw [World.size_alloc] at this
      rw [hw3]; exact this
    have hC3 : CkB w.heap.size w3 M 0 w3 := ⟨⟨_, _, p0, ⟨_, _, rfl, hcp, ha.below hb3⟩, ⟨_, _, rfl, hcc, hc.below hb3⟩⟩, p1, Off.refl _ _⟩
    obtain ⟨np, hnp⟩ : ∃ np, M.p.length = np := ⟨_, rfl⟩
    obtain ⟨nc, hnc⟩ : ∃ nc, M.c.length = nc := ⟨_, rfl⟩
    rw [hnp, hnc] at hw3
    unfold mV mC at *
    rw [hnp, hnc]
    have HW := Lib.hid hw3
    clear hw3 p0 p1 ha hc hcp hcc hnp hnc
    refine (callsIn_wide (n := 9)).1 ?_
    refine callsIn_of_wp_marks Try.func8 rfl trivial ?_ rfl
    simp only [Try.ntmps8, List.size_toArray, List.length_cons, List.length_nil, Nat.reduceAdd, Nat.reduceSub, Array.replicate_succ, Array.replicate_zero, List.push_toArray, List.append_toArray, List.nil_append, List.cons_append]
    gi_wp2_with fail
    refine wpIn_wide.2 (wp_scope_straight ((wpIn_wide (n := 9)).1 ?_))
    gi_wp2_with fail
    refine ⟨trivial, (callsIn_wide.2 (KW.out _)).mono ?_⟩
    rintro e w1 ⟨rfl, rfl⟩
    clear KW
    gi_wp2_with fail
    apply wpIn_label
    gi_wp2_with fail
    refine ⟨trivial, ?_⟩
    rw [← HW.out]
    refine (callsIn_wide.2 (fall_any M.k 2 w3)).mono ?_
    rintro e w4 ⟨rfl, hg0, hg1, hb4⟩
    clear HW
    rw [hs3] at hg0 hg1
    have hs4 := (Array.getElem?_eq_some_iff.1 hg1).1
    have hC4 := hC3.later hb4
    have hb04 := hb3.trans (hb4.mono (by omega))
    have hC4 : CkB w.heap.size w4 M 0 w4 := ⟨hC4.m, hC4.e, Off.refl _ _⟩
    clear hb4 hb3 hC3
    have KA := Lib.hid (FDv_two M.k)
    have KF := Lib.hid (FD_fdok M.k)
    have KE := Lib.hid (fun (j : Nat) (f : Fd) (hj : (FD M.k)[j]? = some f) => fE_at hj M)
    have KS := Lib.hid (fun (j : Nat) => fold_strip_k ((FD M.k).take j) M)
    obtain ⟨L, hL⟩ : ∃ L, FD M.k = L := ⟨_, rfl⟩
    rw [hL] at hR KA KF KE KS
    have HR := Lib.hid hR
    clear hL hR
    gi_wp2_with fail
    refine range_stopb rfl (by omega) (gf := 39) (lb := #[.pointer (some ⟨w.heap.size + 2, 0, none⟩), .pointer (some ⟨w.heap.size + 2 + 1, 0, none⟩)]) rfl trivial (enters_of Try.func39 (by kernel_rfl) rfl)
      (fun f : Fd => #[f.v]) (fun _ => rfl)
      (fun j f V => L[j]? = some f ∧ (∀ g ∈ L.take j, fE M g = 0) ∧ CkB w.heap.size w4 ((L.take j).foldl strip M) 0 V)
      (fun j f q V => (L[j]? = some f ∧ (∀ g ∈ L.take j, fE M g = 0) ∧ CkB w.heap.size w4 ((L.take j).foldl strip M) 0 V) ∧ w4.heap.size ≤ q ∧ V.heap[q]? = some (.cells f.cs 65 (0, 0)))
      (fun j V => (∀ g ∈ L.take j, fE M g = 0) ∧ CkB w.heap.size w4 ((L.take j).foldl strip M) 0 V)
      (fun cd V => cd = .exit 0 ∧ ∃ (E : Int) (M' : Mg), E ≠ 0 ∧ firstE M L = E ∧ CkB w.heap.size w4 M' E V)
      (KeT 65 3 (w.heap.size + 2)) L.length
      (fun j f q V l o o' h hl ho hc' => ⟨⟨h.1.1, h.1.2.1, h.1.2.2.putObj hl (by omega)⟩, h.2.1, (World.putObj_heap_other (fun e => by subst e; rw [h.2.2] at ho; injection ho with ho; subst ho; cases hc')).trans h.2.2⟩)
      (fun j V l o o' h hl ho hc' => ⟨h.1, h.2.putObj hl (by omega)⟩)
      (fun cd V l o o' h hl ho hc' => by
        obtain ⟨h1, E, M', h2, h3, h4⟩ := h
        exact ⟨h1, E, M', h2, h3, h4.putObj hl (by omega)⟩)
      (fun _ _ _ h k => h.trans k) (fun V l o o' hl ho hc' => KeT.putObj ho hc')
      (fun o => ⟨fun g hg => by simp at hg, (hC4.later ((Below.refl _ w4).alloc (Nat.le_refl _) _)).later ((Below.refl _ _).alloc (Nat.le_refl _) _)⟩) ?round ?iter ?done ?stop
    case round =>
      rintro l j f V K ⟨hf, hz, hC⟩ hj hK
      have HK := Lib.hid hK
      have hsz := hC.off.size
      clear hK
      unfold Fd.v Fd.cs
      gi_wp2_with fail
      refine HK.out _ V.heap.size _ ⟨⟨hf, hz, hC.later ((Below.refl _ V).alloc (Nat.le_refl _) _)⟩, hsz, World.alloc_heap_new _ _⟩ ⟨by simp, fun q o _ ho _ => (Below.heap_alloc _ _ _ (Array.getElem?_eq_some_iff.1 ho).1).trans ho⟩ (KeT.of_below ((Below.refl _ V).alloc (Nat.le_refl _) _)) ?_
      clear HK hC hz
      rintro l V2 hl ⟨⟨_, hz, hC⟩, hq, hc⟩
      obtain ⟨qb, hqb⟩ : ∃ qb, V.heap.size = qb := ⟨_, rfl⟩
      rw [hqb] at hq hc ⊢
      clear hqb
      obtain ⟨d0, d1, d2, d3, d4, d5, d6⟩ := fd_block hc
      have hqlt := (Array.getElem?_eq_some_iff.1 hc).1
      have ok := KF.out f (List.mem_of_getElem? hf)
      have hE := KE.out j f hf
      have hst := fold_take hf strip M
      have hsm := hs.fold (L.take j)
      obtain ⟨Mj, hMj⟩ : ∃ Mj, (L.take j).foldl strip M = Mj := ⟨_, rfl⟩
      rw [hMj] at hC hE hst hsm
      obtain ⟨E, hEd⟩ : ∃ E, fE M f = E := ⟨_, rfl⟩
      rw [hEd] at hE
      have HF := Lib.hid hf
      have HZ0 := Lib.hid hz
      have HEd := Lib.hid hEd
      have HST := Lib.hid hst
      clear hf hz hst hEd hMj
      obtain ⟨P, C, m1, ⟨a, cpp, rfl, hcpp, hpa⟩, ⟨b, ccc, rfl, hccc, hcb⟩⟩ := hC.m
      obtain ⟨c0, c1, c2, c3, c4, c5, c6, c7, c8, c9, c10⟩ := mg_block m1
      have ce := row_cell hC.e 0 _ rfl
      have ze := frozen_of_row V2 (w.heap.size + 1) 0 _ _ hC.e
      have hb2 := (Array.getElem?_eq_some_iff.1 hC.e).1
      obtain ⟨np', hnp'⟩ : ∃ np', Mj.p.length = np' := ⟨_, rfl⟩
      obtain ⟨nc', hnc'⟩ : ∃ nc', Mj.c.length = nc' := ⟨_, rfl⟩
      rw [hnp'] at hcpp c7
      rw [hnc'] at hccc c8
      have hNE : w.heap.size ≠ w.heap.size + 1 := by omega
      have hso := ok.so
      by_cases h3 : f.so = 3
      · have hfe : fE Mj f = wP Mj.p f.mo := by unfold fE; rw [if_pos h3]
        have hstF : strip Mj f = { Mj with p := [] } := by unfold strip; rw [if_pos h3]
        rw [h3] at d1
        have KW := Lib.hid (wpath_any a np' cpp Mj.p f.mo V2 hnp' hcpp ok.le.2.2.2.1 (hpa.mono (B' := V2.heap.size) (by omega)))
        rw [← hfe, hE] at KW
        clear hfe d0 d2 d3 d5 d6 c0 c1 c2 c3 c4 c5 c6 c8 c9 c10
        gi_wp2_with fail
        refine ⟨trivial, ((callsIn_wide.2 KW.out).inRound l).mono ?_⟩
        rintro e V3 ⟨rfl, hb3⟩
        have hC3 := hC.later hb3
        have e7 := (hb3.cell (p := ⟨w.heap.size, 7, none⟩) (by show w.heap.size < _; omega)).trans c7
        have ee := (hb3.cell (p := ⟨w.heap.size + 1, 0, none⟩) (by show w.heap.size + 1 < _; omega)).trans ce
        obtain ⟨_, _, m3, _⟩ := hC3.m
        have z7 := frozen_of_row V3 w.heap.size 7 _ _ m3
        have zee := frozen_of_row V3 (w.heap.size + 1) 0 _ _ hC3.e
        have hC5 := hC3.set (M' := strip Mj f) E 7 (.slice none 0 0) (fun P C h1 h2 => ⟨.slice none 0 0, C, by rw [hstF]; rfl, by rw [hstF]; exact ⟨⟨none, 0, rfl, Nat.le_refl _, Nums.nil⟩, h2.c⟩⟩)
        clear KW hC hC3 m1 m3 hstF hpa hcb hc hsm ok hE d1 d4 c7 ce ze
        have hoff : Off (fun q => q = w.heap.size ∨ q = w.heap.size + 1) V2 ((V3.setCell ⟨w.heap.size + 1, 0, none⟩ (.int .i64 E)).setCell ⟨w.heap.size, 7, none⟩ (.slice none 0 0)) := ((Off.of_below hb3).setCell (p := ⟨w.heap.size + 1, 0, none⟩) (.inr rfl) _).setCell (p := ⟨w.heap.size, 7, none⟩) (.inl rfl) _
        have HKF := Lib.hid (kf_two hoff (s := w4.heap.size) (by omega))
        have HKE := Lib.hid (ket_two (tf := 65) (ti := 3) hoff)
        have HC5 := Lib.hid hC5
        clear hoff hC5 hb3
        by_cases hE0 : E = 0
        · subst hE0
          have HZ : Hid (∀ g ∈ L.take (j + 1), fE M g = 0) := Lib.hid (take_zero HF.out HZ0.out HEd.out)
          gi_wp2
          exact ⟨HKF.out, ⟨HZ.out, by rw [HST.out]; exact HC5.out⟩, HKE.out⟩
        · have hEn : (E != 0) = true := by simpa using hE0
          have HFE : Hid (firstE M L = E) := Lib.hid ((firstE_at L M j f HF.out HZ0.out (by rw [HEd.out]; exact hE0)).trans HEd.out)
          gi_wp2
          exact ⟨HKF.out, rfl, E, _, hE0, HFE.out, HC5.out⟩
      by_cases h4 : f.so = 4
      · have hfe : fE Mj f = wC Mj.c f.mo := by unfold fE; rw [if_neg (by omega), if_pos h4]
        have hstF : strip Mj f = { Mj with c := [] } := by unfold strip; rw [if_neg (by omega), if_pos h4]
        rw [h4] at d1
        have KW := Lib.hid ((wcells_any b nc' ccc Mj.c f.mo V2 hnc' hccc ok.le.2.2.2.1 (hcb.mono (B' := V2.heap.size) (by omega))).mono (fun e w' h => (⟨h.1, h.2 ▸ Below.refl _ _⟩ : e = .returned (.int .i64 (wC Mj.c f.mo)) ∧ Below V2.heap.size V2 w')))
        rw [← hfe, hE] at KW
        clear hfe d0 d2 d3 d5 d6 c0 c1 c2 c3 c4 c5 c6 c7 c9 c10
        gi_wp2_with fail
        refine ⟨trivial, ((callsIn_wide.2 KW.out).inRound l).mono ?_⟩
        rintro e V3 ⟨rfl, hb3⟩
        have hC3 := hC.later hb3
        have e7 := (hb3.cell (p := ⟨w.heap.size, 8, none⟩) (by show w.heap.size < _; omega)).trans c8
        have ee := (hb3.cell (p := ⟨w.heap.size + 1, 0, none⟩) (by show w.heap.size + 1 < _; omega)).trans ce
        obtain ⟨_, _, m3, _⟩ := hC3.m
        have z7 := frozen_of_row V3 w.heap.size 8 _ _ m3
        have zee := frozen_of_row V3 (w.heap.size + 1) 0 _ _ hC3.e
        have hC5 := hC3.set (M' := strip Mj f) E 8 (.slice none 0 0) (fun P C h1 h2 => ⟨P, .slice none 0 0, by rw [hstF]; rfl, by rw [hstF]; exact ⟨h2.p, ⟨none, 0, rfl, Nat.le_refl _, Nums.nil⟩⟩⟩)
        clear KW hC hC3 m1 m3 hstF hpa hcb hc hsm ok hE d1 d4 c8 ce ze
        have hoff : Off (fun q => q = w.heap.size ∨ q = w.heap.size + 1) V2 ((V3.setCell ⟨w.heap.size + 1, 0, none⟩ (.int .i64 E)).setCell ⟨w.heap.size, 8, none⟩ (.slice none 0 0)) := ((Off.of_below hb3).setCell (p := ⟨w.heap.size + 1, 0, none⟩) (.inr rfl) _).setCell (p := ⟨w.heap.size, 8, none⟩) (.inl rfl) _
        have HKF := Lib.hid (kf_two hoff (s := w4.heap.size) (by omega))
        have HKE := Lib.hid (ket_two (tf := 65) (ti := 3) hoff)
        have HC5 := Lib.hid hC5
        clear hoff hC5 hb3
        by_cases hE0 : E = 0
        · subst hE0
          have HZ : Hid (∀ g ∈ L.take (j + 1), fE M g = 0) := Lib.hid (take_zero HF.out HZ0.out HEd.out)
          gi_wp2
          exact ⟨HKF.out, ⟨HZ.out, by rw [HST.out]; exact HC5.out⟩, HKE.out⟩
        · have hEn : (E != 0) = true := by simpa using hE0
          have HFE : Hid (firstE M L = E) := Lib.hid ((firstE_at L M j f HF.out HZ0.out (by rw [HEd.out]; exact hE0)).trans HEd.out)
          gi_wp2
          exact ⟨HKF.out, rfl, E, _, hE0, HFE.out, HC5.out⟩
      by_cases h5 : f.so = 5
      · have hfe : fE Mj f = wT Mj.tx f.mo := by unfold fE; rw [if_neg (by omega), if_neg (by omega), if_pos h5]
        have hstF : strip Mj f = { Mj with tx := ⟨#[]⟩ } := by unfold strip; rw [if_neg (by omega), if_neg (by omega), if_pos h5]
        rw [h5] at d1
        have KW := Lib.hid ((wtext_any Mj.tx f.mo (by have := hsm.tx; unfold maxLen; omega) V2).mono (fun e w' h => (⟨h.1, h.2 ▸ Below.refl _ _⟩ : e = .returned (.int .i64 (wT Mj.tx f.mo)) ∧ Below V2.heap.size V2 w')))
        rw [← hfe, hE] at KW
        clear hfe d0 d2 d3 d5 d6 c0 c1 c2 c3 c4 c5 c6 c7 c8 c10
        gi_wp2_with fail
        refine ⟨trivial, ((callsIn_wide.2 KW.out).inRound l).mono ?_⟩
        rintro e V3 ⟨rfl, hb3⟩
        have hC3 := hC.later hb3
        have e7 := (hb3.cell (p := ⟨w.heap.size, 9, none⟩) (by show w.heap.size < _; omega)).trans c9
        have ee := (hb3.cell (p := ⟨w.heap.size + 1, 0, none⟩) (by show w.heap.size + 1 < _; omega)).trans ce
        obtain ⟨_, _, m3, _⟩ := hC3.m
        have z7 := frozen_of_row V3 w.heap.size 9 _ _ m3
        have zee := frozen_of_row V3 (w.heap.size + 1) 0 _ _ hC3.e
        have hC5 := hC3.set (M' := strip Mj f) E 9 (.string ⟨#[]⟩) (fun P C h1 h2 => ⟨P, C, by rw [hstF]; rfl, by rw [hstF]; exact ⟨h2.p, h2.c⟩⟩)
        clear KW hC hC3 m1 m3 hstF hpa hcb hc hsm ok hE d1 d4 c9 ce ze
        have hoff : Off (fun q => q = w.heap.size ∨ q = w.heap.size + 1) V2 ((V3.setCell ⟨w.heap.size + 1, 0, none⟩ (.int .i64 E)).setCell ⟨w.heap.size, 9, none⟩ (.string ⟨#[]⟩)) := ((Off.of_below hb3).setCell (p := ⟨w.heap.size + 1, 0, none⟩) (.inr rfl) _).setCell (p := ⟨w.heap.size, 9, none⟩) (.inl rfl) _
        have HKF := Lib.hid (kf_two hoff (s := w4.heap.size) (by omega))
        have HKE := Lib.hid (ket_two (tf := 65) (ti := 3) hoff)
        have HC5 := Lib.hid hC5
        clear hoff hC5 hb3
        by_cases hE0 : E = 0
        · subst hE0
          have HZ : Hid (∀ g ∈ L.take (j + 1), fE M g = 0) := Lib.hid (take_zero HF.out HZ0.out HEd.out)
          gi_wp2
          exact ⟨HKF.out, ⟨HZ.out, by rw [HST.out]; exact HC5.out⟩, HKE.out⟩
        · have hEn : (E != 0) = true := by simpa using hE0
          have HFE : Hid (firstE M L = E) := Lib.hid ((firstE_at L M j f HF.out HZ0.out (by rw [HEd.out]; exact hE0)).trans HEd.out)
          gi_wp2
          exact ⟨HKF.out, rfl, E, _, hE0, HFE.out, HC5.out⟩
      by_cases h6 : f.so = 6
      · have hfe : fE Mj f = wT Mj.tg f.mo := by unfold fE; rw [if_neg (by omega), if_neg (by omega), if_neg (by omega), if_pos h6]
        have hstF : strip Mj f = { Mj with tg := ⟨#[]⟩ } := by unfold strip; rw [if_neg (by omega), if_neg (by omega), if_neg (by omega), if_pos h6]
        rw [h6] at d1
        have KW := Lib.hid ((wtext_any Mj.tg f.mo (by have := hsm.tg; unfold maxLen; omega) V2).mono (fun e w' h => (⟨h.1, h.2 ▸ Below.refl _ _⟩ : e = .returned (.int .i64 (wT Mj.tg f.mo)) ∧ Below V2.heap.size V2 w')))
        rw [← hfe, hE] at KW
        clear hfe d0 d2 d3 d5 d6 c0 c1 c2 c3 c4 c5 c6 c7 c8 c9
        gi_wp2_with fail
        refine ⟨trivial, ((callsIn_wide.2 KW.out).inRound l).mono ?_⟩
        rintro e V3 ⟨rfl, hb3⟩
        have hC3 := hC.later hb3
        have e7 := (hb3.cell (p := ⟨w.heap.size, 10, none⟩) (by show w.heap.size < _; omega)).trans c10
        have ee := (hb3.cell (p := ⟨w.heap.size + 1, 0, none⟩) (by show w.heap.size + 1 < _; omega)).trans ce
        obtain ⟨_, _, m3, _⟩ := hC3.m
        have z7 := frozen_of_row V3 w.heap.size 10 _ _ m3
        have zee := frozen_of_row V3 (w.heap.size + 1) 0 _ _ hC3.e
        have hC5 := hC3.set (M' := strip Mj f) E 10 (.string ⟨#[]⟩) (fun P C h1 h2 => ⟨P, C, by rw [hstF]; rfl, by rw [hstF]; exact ⟨h2.p, h2.c⟩⟩)
        clear KW hC hC3 m1 m3 hstF hpa hcb hc hsm ok hE d1 d4 c10 ce ze
        have hoff : Off (fun q => q = w.heap.size ∨ q = w.heap.size + 1) V2 ((V3.setCell ⟨w.heap.size + 1, 0, none⟩ (.int .i64 E)).setCell ⟨w.heap.size, 10, none⟩ (.string ⟨#[]⟩)) := ((Off.of_below hb3).setCell (p := ⟨w.heap.size + 1, 0, none⟩) (.inr rfl) _).setCell (p := ⟨w.heap.size, 10, none⟩) (.inl rfl) _
        have HKF := Lib.hid (kf_two hoff (s := w4.heap.size) (by omega))
        have HKE := Lib.hid (ket_two (tf := 65) (ti := 3) hoff)
        have HC5 := Lib.hid hC5
        clear hoff hC5 hb3
        by_cases hE0 : E = 0
        · subst hE0
          have HZ : Hid (∀ g ∈ L.take (j + 1), fE M g = 0) := Lib.hid (take_zero HF.out HZ0.out HEd.out)
          gi_wp2
          exact ⟨HKF.out, ⟨HZ.out, by rw [HST.out]; exact HC5.out⟩, HKE.out⟩
        · have hEn : (E != 0) = true := by simpa using hE0
          have HFE : Hid (firstE M L = E) := Lib.hid ((firstE_at L M j f HF.out HZ0.out (by rw [HEd.out]; exact hE0)).trans HEd.out)
          gi_wp2
          exact ⟨HKF.out, rfl, E, _, hE0, HFE.out, HC5.out⟩
      obtain ⟨jn, hjn, hpl⟩ := ok.pl (by omega)
      have hfe : fE Mj f = wN (Mj.at' jn) f.le f.mo := by unfold fE; rw [if_neg h3, if_neg h4, if_neg h5, if_neg h6, hpl, Int.toNat_natCast]
      have hstF : strip Mj f = Mj.put jn 0 := by unfold strip; rw [if_neg h3, if_neg h4, if_neg h5, if_neg h6, hpl, Int.toNat_natCast]
      have cn := mg_at m1 hjn
      rw [hpl] at d2
      obtain ⟨nv, hnv⟩ : ∃ nv, Mj.at' jn = nv := ⟨_, rfl⟩
      rw [hnv] at cn hfe
      have KW := Lib.hid (wnum_any nv f.le f.mo)
      rw [← hfe, hE] at KW
      have q3 : (f.so == 3) = false := by simp; omega
      have q4 : (f.so == 4) = false := by simp; omega
      have q5 : (f.so == 5) = false := by simp; omega
      have q6 : (f.so == 6) = false := by simp; omega
      clear hfe hpl hnv c0 c1 c2 c3 c4 c5 c6 c7 c8 c9 c10
      have hj6 : (jn : Int) < 6 := by omega
      gi_wp2_with fail
      have lP : ∀ W, W.heap[qb]? = some (.cells f.cs 65 (0, 0)) → (Instr.loadAt 3 (.pointer (some ⟨qb, 2, none⟩))).run Try.prog W = .ok (.int .i64 (jn : Int)) W := fun W hW => by
        have hx : W.cell? ⟨qb, 2, none⟩ = some (.int .i64 (jn : Int)) := by
          rw [← d2]
          simp [World.cell?, hW, hc]
        simp [Instr.loadAt, go_sem, hx]
      have lL : ∀ W, W.heap[qb]? = some (.cells f.cs 65 (0, 0)) → (Instr.loadAt 3 (.pointer (some ⟨qb, 3, none⟩))).run Try.prog W = .ok (.int .i64 f.le) W := fun W hW => by
        obtain ⟨_, _, _, hx, _⟩ := fd_block hW
        simp [Instr.loadAt, go_sem, hx]
      have lM : ∀ W, W.heap[qb]? = some (.cells f.cs 65 (0, 0)) → (Instr.loadAt 3 (.pointer (some ⟨qb, 4, none⟩))).run Try.prog W = .ok (.int .i64 f.mo) W := fun W hW => by
        obtain ⟨_, _, _, _, hx, _⟩ := fd_block hW
        simp [Instr.loadAt, go_sem, hx]
      have hne0 : qb ≠ w.heap.size := by omega
      have hne1 : qb ≠ w.heap.size + 1 := by omega
      refine wpIn_region_order7 ((0, false) :: (1, false) :: (2, false) :: (3, false) :: (4, false) :: (5, false) :: (7, false) :: (8, false) :: (9, false) :: (10, false) :: (13, false) :: (6, true) :: (11, false) :: (12, false) :: (14, false) :: (15, false) :: []) (fun W => W.heap[qb]? = some (.cells f.cs 65 (0, 0))) (C := fun W => Below V2.heap.size V2 W) (by kernel_rfl) (fun ⟨_, _, h⟩ => h) (by kernel_rfl) (by kernel_rfl) (Below.refl _ _).drew (fun W hW => (hW.block _ hqlt).trans hc) ?_
      repeat (refine wpO7_pure rfl rfl ?_; go_big_quiet_step (fail); refine wpQuiet_nil ?_)
      refine wpO7_load (ad := ⟨qb, 2, none⟩) (.int .i64 (jn : Int)) rfl rfl rfl (by rfl) lP ?_
      simp only [Act.put, List.setIfInBounds_toArray, List.set_cons_succ, List.set_cons_zero]
      repeat (refine wpO7_pure rfl rfl ?_; go_big_quiet_step (fail); refine wpQuiet_nil ?_)
      refine wpO7_load (ad := ⟨qb, 2, none⟩) (.int .i64 (jn : Int)) rfl rfl rfl (by rfl) lP ?_
      simp only [Act.put, List.setIfInBounds_toArray, List.set_cons_succ, List.set_cons_zero]
      repeat (refine wpO7_pure rfl rfl ?_; go_big_quiet_step (fail); refine wpQuiet_nil ?_)
      refine wpO7_load (ad := ⟨qb, 3, none⟩) (.int .i64 f.le) rfl rfl rfl (by rfl) lL ?_
      simp only [Act.put, List.setIfInBounds_toArray, List.set_cons_succ, List.set_cons_zero]
      repeat (refine wpO7_pure rfl rfl ?_; go_big_quiet_step (fail); refine wpQuiet_nil ?_)
      refine wpO7_load (ad := ⟨qb, 4, none⟩) (.int .i64 f.mo) rfl rfl rfl (by rfl) lM ?_
      simp only [Act.put, List.setIfInBounds_toArray, List.set_cons_succ, List.set_cons_zero]
      repeat (refine wpO7_pure rfl rfl ?_; go_big_quiet_step (fail); refine wpQuiet_nil ?_)
      refine wpO7_look (ad := ⟨w.heap.size, 1 + jn, none⟩) (.int .i64 nv) rfl rfl rfl (by rfl) (fun W hW => (hW.block _ hqlt).trans hc) (fun W hW => ?_) ?_
      · have hx := (hW.cell (p := ⟨w.heap.size, 1 + jn, none⟩) (by show w.heap.size < _; omega)).trans cn
        simp [Instr.loadAt, go_sem, hx]
      simp only [Act.put, List.setIfInBounds_toArray, List.set_cons_succ, List.set_cons_zero]
      refine wpO7_call (fun v => v = .int .i64 E) (fun _ W => Below V2.heap.size V2 W) (f := 29) (args := #[.int .i64 nv, .int .i64 f.le, .int .i64 f.mo]) rfl rfl rfl (fun _ W hW => (hW.block _ hqlt).trans hc) (fun x => by first | rfl | (simp [go_sem]; done)) (fun W hW => (KW.out W).mono (fun e w' h => ⟨_, h.1, rfl, h.2 ▸ hW⟩)) ?_
      rintro v rfl
      simp only [Act.put, List.setIfInBounds_toArray, List.set_cons_succ, List.set_cons_zero]
      refine wpO7_store (fun W => ∃ W0, Below V2.heap.size V2 W0 ∧ W = W0.setCell ⟨w.heap.size + 1, 0, none⟩ (.int .i64 E)) rfl rfl rfl rfl ⟨w.heap.size + 1, 0, none⟩ (.int .i64 E) (by rfl) (by rfl) (fun W hW => ?_) (fun W hW => ?_) ?_
      · obtain ⟨W0, h1, rfl⟩ := hW
        exact (Below.heap_setCell _ _ _ _ hne1).trans ((h1.block _ hqlt).trans hc)
      · have k0 := (hW.cell (p := ⟨w.heap.size + 1, 0, none⟩) (by show w.heap.size + 1 < _; omega)).trans ce
        have k1 := frozen_of_row W (w.heap.size + 1) 0 _ _ ((hW.block _ hb2).trans hC.e)
        exact ⟨_, by simp [Instr.storeAt, go_sem, k0, k1], W, hW, rfl⟩
      repeat (refine wpO7_pure rfl rfl ?_; go_big_quiet_step (fail); refine wpQuiet_nil ?_)
      refine wpO7_store (fun W => ∃ W0, Below V2.heap.size V2 W0 ∧ W = (W0.setCell ⟨w.heap.size + 1, 0, none⟩ (.int .i64 E)).setCell ⟨w.heap.size, 1 + jn, none⟩ (.int .i64 0)) rfl rfl rfl rfl ⟨w.heap.size, 1 + jn, none⟩ (.int .i64 0) (by rfl) (by rfl) (fun W hW => ?_) (fun W hW => ?_) ?_
      · obtain ⟨W0, h1, rfl⟩ := hW
        exact (Below.heap_setCell _ _ _ _ hne0).trans ((Below.heap_setCell _ _ _ _ hne1).trans ((h1.block _ hqlt).trans hc))
      · obtain ⟨W0, h1, rfl⟩ := hW
        have m5 := (Below.heap_setCell W0 ⟨w.heap.size + 1, 0, none⟩ (.int .i64 E) w.heap.size hNE).trans ((h1.block _ (by omega)).trans m1)
        have k0 := mg_at m5 hjn
        have k1 := frozen_of_row _ w.heap.size (1 + jn) _ _ m5
        exact ⟨_, by simp [Instr.storeAt, go_sem, k0, k1], W0, h1, rfl⟩
      rintro V6 ⟨V3, hb3, rfl⟩
      have hC5 := (hC.later hb3).set (M' := strip Mj f) E (1 + jn) (.int .i64 0) (fun P C h1 h2 => ⟨P, C, by rw [hstF, mC_put hjn], by rw [hstF]; exact ⟨by rw [Mg.put_p]; exact h2.p, by rw [Mg.put_c]; exact h2.c⟩⟩)
      have ee := row_cell hC5.e 0 _ rfl
      clear KW hC m1 hstF hpa hcb hc hsm ok hE d0 d1 d2 d3 d4 d5 d6 ce ze lP lL lM cn
      have hoff : Off (fun q => q = w.heap.size ∨ q = w.heap.size + 1) V2 ((V3.setCell ⟨w.heap.size + 1, 0, none⟩ (.int .i64 E)).setCell ⟨w.heap.size, 1 + jn, none⟩ (.int .i64 0)) := ((Off.of_below hb3).setCell (p := ⟨w.heap.size + 1, 0, none⟩) (.inr rfl) _).setCell (p := ⟨w.heap.size, 1 + jn, none⟩) (.inl rfl) _
      have HKF := Lib.hid (kf_two hoff (s := w4.heap.size) (by omega))
      have HKE := Lib.hid (ket_two (tf := 65) (ti := 3) hoff)
      have HC5 := Lib.hid hC5
      clear hoff hC5 hb3
      by_cases hE0 : E = 0
      · subst hE0
        have HZ : Hid (∀ g ∈ L.take (j + 1), fE M g = 0) := Lib.hid (take_zero HF.out HZ0.out HEd.out)
        gi_wp2
        exact ⟨HKF.out, ⟨HZ.out, by rw [HST.out]; exact HC5.out⟩, HKE.out⟩
      · have hEn : (E != 0) = true := by simpa using hE0
        have HFE : Hid (firstE M L = E) := Lib.hid ((firstE_at L M j f HF.out HZ0.out (by rw [HEd.out]; exact hE0)).trans HEd.out)
        gi_wp2
        exact ⟨HKF.out, rfl, E, _, hE0, HFE.out, HC5.out⟩
    case iter =>
      intro Bk X l V hBk hBlt hX hl hD hB hY
      have h := fall_in 8 (by omega) 7 l (w.heap.size + 2) M.k 2 (fun j V => ((∀ g ∈ L.take j, fE M g = 0) ∧ CkB w.heap.size w4 ((L.take j).foldl strip M) 0 V) ∧ Bk V) X
        (fun j A B h hb => ⟨⟨h.1.1, h.1.2.later hb⟩, hBk A _ h.2 hb.size (fun q h1 h2 => by have := hBlt A h.2; exact hb.block q (by omega))⟩)
        (fun j f W h hf => by
          rw [KA.out] at hf
          exact (hY j f W ⟨hf, h.1⟩ h.2 (List.getElem?_eq_some_iff.1 hf).1).mono (fun e W2 h => h.elim (fun h => .inl ⟨h.1, h.2.1, h.2.2.1⟩) (fun h => .inr ⟨h.1, h.2.1⟩)))
        V ((hD.2.off.block _ (by omega) (by omega)).trans hg0) ((hD.2.off.block _ (by omega) (by omega)).trans hg1) ⟨hD, hB⟩
      rw [KA.out] at h
      exact h
    case done =>
      rintro D V hD ⟨hz, hC⟩ hK
      rw [List.take_length] at hz hC
      have hf0 := (firstE_zero L M).1 hz
      have hR := HR.out
      rw [if_neg (by simp [hf0])] at hR
      have hsm := hs.fold L
      have hkk := KS.out L.length
      rw [List.take_length] at hkk
      obtain ⟨Ms, hMs⟩ : ∃ Ms, L.foldl strip M = Ms := ⟨_, rfl⟩
      rw [hMs] at hR hC hsm hkk
      obtain ⟨P, C, m1, m2⟩ := hC.m
      have KW := msame_any Ms (Mg.zero M.k) P C (.slice none 0 0) (.slice none 0 0) V hsm (m2.mono (by have := (Array.getElem?_eq_some_iff.1 hC.e).1; omega)) ⟨⟨none, 0, rfl, Nat.le_refl _, Nums.nil⟩, ⟨none, 0, rfl, Nat.le_refl _, Nums.nil⟩⟩
      obtain ⟨Q, hQ⟩ : ∃ Q, decide (Ms = Mg.zero M.k) = Q := ⟨_, rfl⟩
      rw [hQ] at KW
      simp only [mV, mC, Mg.zero] at KW
      obtain ⟨c0, c1, c2, c3, c4, c5, c6, c7, c8, c9, c10⟩ := mg_block m1
      rw [hkk] at c0 KW
      have ce := row_cell hC.e 0 _ rfl
      have HC := Lib.hid hC
      have KW := Lib.hid KW
      have HB := Lib.hid (hb04.trans (hC.off.below (B := w.heap.size) (fun k hk => by omega) hb04.size))
      have HKD := Lib.hid hK
      have hDlt := (Array.getElem?_eq_some_iff.1 hK).1
      have hb1lt := (Array.getElem?_eq_some_iff.1 hC.e).1
      have hQR : R = if Q = true then 0 else 3 := by
        rw [← hR, ← hQ]
        by_cases h : Ms = Mg.zero M.k
        · rw [if_pos h, if_pos (decide_eq_true h)]
        · rw [if_neg h, if_neg (by simpa using h)]
      clear hC m1 m2 hz hf0 hR hsm hMs hK hQ
      gi_wp2_with fail
      refine ⟨trivial, (callsIn_wide.2 KW.out).mono ?_⟩
      rintro e V2 ⟨rfl, hb2⟩
      have ee := (hb2.cell (p := ⟨w.heap.size + 1, 0, none⟩) hb1lt).trans ce
      have zee := frozen_of_row V2 (w.heap.size + 1) 0 _ _ ((hb2.block _ hb1lt).trans HC.out.e)
      have HK2 := Lib.hid ((hb2.block _ hDlt).trans HKD.out)
      have HB2 := Lib.hid (HB.out.trans (hb2.mono HB.out.size))
      have hV2 := hb2.size
      clear KW hb2 ce c0 c1 c2 c3 c4 c5 c6 c7 c8 c9 c10 HC
      cases Q
      · obtain rfl : R = 3 := hQR
        have HX := Lib.hid ((Below.heap_setCell V2 ⟨w.heap.size + 1, 0, none⟩ (.int .i64 3) D (by show _ ≠ w.heap.size + 1; omega)).trans HK2.out)
        have HY := Lib.hid (HB2.out.setCell (p := ⟨w.heap.size + 1, 0, none⟩) (Nat.le_succ _) (.int .i64 3))
        gi_wp2
        simp only [Exit.noGoto]
        refine ⟨by simp, .inl ⟨_, _, rfl, run_takeDeferred HX.out, ?_⟩⟩
        refine ⟨_, ?_, rfl, HY.out.trans (below_put _ _ (by omega))⟩
        simp [results, Try.f8, go_sem]
      · obtain rfl : R = 0 := hQR
        gi_wp2
        simp only [Exit.noGoto]
        refine ⟨by simp, .inl ⟨_, _, rfl, run_takeDeferred HK2.out, ?_⟩⟩
        refine ⟨_, ?_, rfl, HB2.out.trans (below_put _ _ (by omega))⟩
        simp [results, Try.f8, go_sem]
    case stop =>
      rintro D cd V hD ⟨rfl, E, M', hne, hfe, hC⟩ hK
      have hR := HR.out
      rw [hfe, if_pos hne] at hR
      subst hR
      have ce := row_cell hC.e 0 _ rfl
      have hEn : (E == 0) = false := by simpa using hne
      have HB := Lib.hid (hb04.trans (hC.off.below (B := w.heap.size) (fun k hk => by omega) hb04.size))
      have HKD := Lib.hid hK
      clear hC hK hfe
      gi_wp2
      refine ⟨trivial, ?_⟩
      gi_wp2
      simp only [Exit.noGoto]
      refine ⟨by simp, .inl ⟨_, _, rfl, run_takeDeferred HKD.out, ?_⟩⟩
      refine ⟨_, ?_, rfl, HB.out.trans (below_put _ _ (by omega))⟩
      simp [results, Try.f8, go_sem]
end Go.Proofs.Ytnbhiamnoapmlaa
