/-
  Contract of layer 17's New. (Written by tools/gen_msgw.py.)
-/
import Derived.Test.YtnbhiamnoapmlaaMsgJ
import Derived.Test.YtnbhiamnoapmlaaQ8
namespace Go.Proofs.Ytnbhiamnoapmlaa
open Go.RowKit Go.Shelf
set_option maxRecDepth 100000
attribute [local go_sem] Oper.semAt_some

theorem own_lit {w : World} {base n size : Nat} {T : TypeId} (cs : List Value) (hb : base ≤ w.heap.size) (hm : n ≤ maxLen) (hs : cs.length = n * size) : (w.alloc (.cells cs.toArray T)).ownsRow base T size (.slice (some ⟨w.heap.size, 0, none⟩) n n) n cs :=
  ⟨hs, .inr ⟨w.heap.size, n, cs.toArray, rfl, hb, heap_alloc_new w _, Nat.le_refl _, hm, by simpa using hs, by simp [← hs]⟩⟩
theorem own_lit' {w : World} {base n size s : Nat} {T : TypeId} (cs : List Value) (hs : w.heap.size = s) (hb : base ≤ s) (hm : n ≤ maxLen) (hl : cs.length = n * size) : (w.alloc (.cells cs.toArray T)).ownsRow base T size (.slice (some ⟨s, 0, none⟩) n n) n cs := by
  subst hs
  exact own_lit cs hb hm hl
/-- a message's box b2, its lists in rows of its own at base or above -/
structure NwB (b2 base : Nat) (w4 : World) (M : Mg) (V : World) : Prop where
  m : ∃ P C, V.heap[b2]? = some (.cells (mC M P C) 26 (0, 0)) ∧ MOwn base V M P C
  off : Off (fun q => q = b2) w4 V
section
variable {b2 base : Nat} {w4 V V' : World} {M M' : Mg}
theorem NwB.later (h : NwB b2 base w4 M V) (hb : Below V.heap.size V V') : NwB b2 base w4 M V' := by
  obtain ⟨P, C, h1, h2⟩ := h.m
  exact ⟨⟨P, C, (hb.block _ (Array.getElem?_eq_some_iff.1 h1).1).trans h1, h2.later hb⟩, off_below h.off (hb.mono h.off.size)⟩
theorem NwB.putObj {l : Nat} {o o' : Obj} (h : NwB b2 base w4 M V) (hw : w4.heap.size ≤ l) (hb2 : b2 < w4.heap.size) (ho : V.heap[l]? = some o) (hc : o.isCells = false) : NwB b2 base w4 M (V.putObj l o') := by
  obtain ⟨P, C, h1, h2⟩ := h.m
  exact ⟨⟨P, C, (World.putObj_heap_other (by omega)).trans h1, ⟨ownsRow_putObj h2.p _ ho hc, ownsRow_putObj h2.c _ ho hc⟩⟩, off_below h.off (below_put V o' hw)⟩
/-- a cell of the message turned -/
theorem NwB.set (h : NwB b2 base w4 M V) (hb : b2 < base) (j : Nat) (u : Value) (hM : ∀ P C, MOwn base V M P C → ∃ P' C', (mC M P C).setIfInBounds j u = mC M' P' C' ∧ MOwn base V M' P' C') : NwB b2 base w4 M' (V.setCell ⟨b2, j, none⟩ u) := by
  obtain ⟨P, C, h1, h2⟩ := h.m
  obtain ⟨P', C', h3, h4⟩ := hM P C h2
  refine ⟨⟨P', C', by rw [setCell_at h1, h3], ⟨ownsRow_setCell_below h4.p (a := ⟨b2, j, none⟩) hb _, ownsRow_setCell_below h4.c (a := ⟨b2, j, none⟩) hb _⟩⟩, h.off.setCell (p := ⟨b2, j, none⟩) rfl _⟩
end
theorem nw_eq (k : Int) (M : Mg) (f : Fd) : nw k M f = if f.so = 3 then { M with k := k, p := [(0, 0)] } else if f.so = 4 then { M with k := k, c := [0] } else if f.so = 1 ∨ f.so = 2 then ({ M with k := k } : Mg).put f.pl.toNat (startV f) else { M with k := k } := rfl

set_option maxHeartbeats 16000000 in
theorem mnew_any (k : Int) (w : World) : Calls Try.prog 15 #[.int .i64 k] w fun e w' => MR w (mnew k) e w' := by
  obtain ⟨w3, hw3⟩ : ∃ w3, w3 = ((w.alloc (.cells #[.int .i64 k] 3)).alloc (.cells (mC (Mg.zero 0) (.slice none 0 0) (.slice none 0 0)) 26)).alloc (.cells (mC (Mg.zero 0) (.slice none 0 0) (.slice none 0 0)) 26) := ⟨_, rfl⟩
  have hs3 : w3.heap.size = w.heap.size + 3 := by rw [hw3]; simp
  have hb3 : Below w.heap.size w w3 := by rw [hw3]; exact (((Below.refl _ w).alloc (Nat.le_refl _) _).alloc (by simp) _).alloc (by simp; omega) _
  have q0 : w3.heap[w.heap.size]? = some (.cells #[.int .i64 k] 3 (0, 0)) := by
    rw [hw3, Below.heap_alloc _ _ _ (by simp; omega), Below.heap_alloc _ _ _ (by simp)]; exact World.alloc_heap_new _ _
  have q1 : w3.heap[w.heap.size + 1]? = some (.cells (mC (Mg.zero 0) (.slice none 0 0) (.slice none 0 0)) 26 (0, 0)) := by
    have := World.alloc_heap_new (w.alloc (.cells #[.int .i64 k] 3)) (.cells (mC (Mg.zero 0) (.slice none 0 0) (.slice none 0 0)) 26)
    rw [World.size_alloc] at this
    rw [hw3, Below.heap_alloc _ _ _ (by simp)]; exact this
  have q2 : w3.heap[w.heap.size + 1 + 1]? = some (.cells (mC (Mg.zero 0) (.slice none 0 0) (.slice none 0 0)) 26 (0, 0)) := by
    have := World.alloc_heap_new ((w.alloc (.cells #[.int .i64 k] 3)).alloc (.cells (mC (Mg.zero 0) (.slice none 0 0) (.slice none 0 0)) 26)) (.cells (mC (Mg.zero 0) (.slice none 0 0) (.slice none 0 0)) 26)
    rw [World.size_alloc, World.size_alloc] at this
    rw [hw3]; exact this
  obtain ⟨G, hG⟩ : ∃ G, mnew k = G := ⟨_, rfl⟩
  rw [hG]
  unfold mnew at hG
  unfold MR mV
  simp only [mC, Mg.zero] at hw3
  have HW := Lib.hid hw3
  clear hw3
  refine (callsIn_wide (n := 9)).1 ?_
  refine callsIn_of_wp_marks Try.func15 rfl trivial ?_ rfl
  simp only [Try.ntmps15, List.size_toArray, List.length_cons, List.length_nil, Nat.reduceAdd, Nat.reduceSub, Array.replicate_succ, Array.replicate_zero, List.push_toArray, List.append_toArray, List.nil_append, List.cons_append]
  gi_wp2_with fail
  refine ⟨trivial, ?_⟩
  rw [← HW.out]
  refine (callsIn_wide.2 (fall_any k 2 w3)).mono ?_
  rintro e w4 ⟨rfl, hg0, hg1, hb4⟩
  clear HW
  rw [hs3] at hg0 hg1
  have hs4 := (Array.getElem?_eq_some_iff.1 hg1).1
  have p0 := (hb4.block _ (by omega)).trans q0
  have p1 := (hb4.block _ (by omega)).trans q1
  have p2 := (hb4.block _ (by omega)).trans q2
  have hb04 := hb3.trans (hb4.mono (by omega))
  have hN4 : NwB (w.heap.size + 1 + 1) w4.heap.size w4 (Mg.zero 0) w4 := ⟨⟨_, _, p2, ⟨World.ownsRow_nil _ _ _ _, World.ownsRow_nil _ _ _ _⟩⟩, Off.refl _ _⟩
  clear hb4 hb3 q0 q1 q2 p2
  have HP0 := Lib.hid p0
  have HP1 := Lib.hid p1
  have HB4 := Lib.hid hb04
  have KA := Lib.hid (FDv_two k)
  have KF := Lib.hid (FD_fdok k)
  obtain ⟨L, hL⟩ : ∃ L, FD k = L := ⟨_, rfl⟩
  rw [hL] at hG KA KF
  have HG := Lib.hid hG
  clear hL hG p0 p1 hb04
  gi_wp2_with fail
  refine range_stopb rfl (by omega) (gf := 39) (lb := #[.pointer (some ⟨w.heap.size + 3, 0, none⟩), .pointer (some ⟨w.heap.size + 3 + 1, 0, none⟩)]) rfl trivial (enters_of Try.func39 (by kernel_rfl) rfl)
    (fun f : Fd => #[f.v]) (fun _ => rfl)
    (fun j f V => L[j]? = some f ∧ NwB (w.heap.size + 1 + 1) w4.heap.size w4 ((L.take j).foldl (nw k) (Mg.zero 0)) V)
    (fun j f q V => (L[j]? = some f ∧ NwB (w.heap.size + 1 + 1) w4.heap.size w4 ((L.take j).foldl (nw k) (Mg.zero 0)) V) ∧ w4.heap.size ≤ q ∧ V.heap[q]? = some (.cells f.cs 65 (0, 0)))
    (fun j V => NwB (w.heap.size + 1 + 1) w4.heap.size w4 ((L.take j).foldl (nw k) (Mg.zero 0)) V)
    (fun cd V => False)
    (KeT 65 3 (w.heap.size + 3)) L.length
    (fun j f q V l o o' h hl ho hc' => ⟨⟨h.1.1, h.1.2.putObj hl (by omega) ho hc'⟩, h.2.1, (World.putObj_heap_other (fun e => by subst e; rw [h.2.2] at ho; injection ho with ho; subst ho; cases hc')).trans h.2.2⟩)
    (fun j V l o o' h hl ho hc' => h.putObj hl (by omega) ho hc')
    (fun cd V l o o' h hl ho hc' => h)
    (fun _ _ _ h k => h.trans k) (fun V l o o' hl ho hc' => KeT.putObj ho hc')
    (fun o => (hN4.later ((Below.refl _ w4).alloc (Nat.le_refl _) _)).later ((Below.refl _ _).alloc (Nat.le_refl _) _)) ?round ?iter ?done ?stop
  case round =>
    rintro l j f V K ⟨hf, hP⟩ hj hK
    have HK := Lib.hid hK
    have hsz := hP.off.size
    clear hK
    unfold Fd.v Fd.cs
    gi_wp2_with fail
    refine HK.out _ V.heap.size _ ⟨⟨hf, hP.later ((Below.refl _ V).alloc (Nat.le_refl _) _)⟩, hsz, World.alloc_heap_new _ _⟩ ⟨by simp, fun q o _ ho _ => (Below.heap_alloc _ _ _ (Array.getElem?_eq_some_iff.1 ho).1).trans ho⟩ (KeT.of_below ((Below.refl _ V).alloc (Nat.le_refl _) _)) ?_
    clear HK hP
    rintro l V2 hl ⟨⟨_, hP⟩, hq, hc⟩
    obtain ⟨qb, hqb⟩ : ∃ qb, V.heap.size = qb := ⟨_, rfl⟩
    rw [hqb] at hq hc ⊢
    clear hqb
    have ok := KF.out f (List.mem_of_getElem? hf)
    have hst := fold_take hf (nw k) (Mg.zero 0)
    obtain ⟨Mj, hMj⟩ : ∃ Mj, (L.take j).foldl (nw k) (Mg.zero 0) = Mj := ⟨_, rfl⟩
    rw [hMj] at hP hst
    clear hf hMj
    have hkv := row_cell ((hP.off.block _ (by omega) (by omega)).trans HP0.out) 0 _ rfl
    have HST := Lib.hid hst
    obtain ⟨P, C, m1, m2⟩ := hP.m
    have c0 := (mg_block m1).1
    have z0 := frozen_of_row V2 (w.heap.size + 1 + 1) 0 _ _ m1
    have g7 := (mg_block m1).2.2.2.2.2.2.2.1
    have g8 := (mg_block m1).2.2.2.2.2.2.2.2.1
    have y7 := frozen_of_row V2 (w.heap.size + 1 + 1) 7 _ _ m1
    have y8 := frozen_of_row V2 (w.heap.size + 1 + 1) 8 _ _ m1
    have hblt := (Array.getElem?_eq_some_iff.1 m1).1
    -- the kind is told first
    obtain ⟨V3, hV3⟩ : ∃ V3, V2.setCell ⟨w.heap.size + 1 + 1, 0, none⟩ (.int .i64 k) = V3 := ⟨_, rfl⟩
    have hP3 : NwB (w.heap.size + 1 + 1) w4.heap.size w4 { Mj with k := k } V3 := by
      rw [← hV3]
      exact hP.set (by omega) 0 (.int .i64 k) (fun P C h => ⟨P, C, rfl, ⟨h.p, h.c⟩⟩)
    have ho3 : Off (fun q => q = w.heap.size + 1 + 1) V2 V3 := by rw [← hV3]; exact (Off.refl (fun q => q = w.heap.size + 1 + 1) V2).setCell (p := ⟨w.heap.size + 1 + 1, 0, none⟩) rfl _
    have hc3 : V3.heap[qb]? = some (.cells f.cs 65 (0, 0)) := (ho3.block _ (Array.getElem?_eq_some_iff.1 hc).1 (by omega)).trans hc
    have HV3 := Lib.hid hV3
    have hso := ok.so
    have hnw := nw_eq k Mj f
    clear hV3 hst hP m1 m2 hc
    obtain ⟨d0, d1, d2, d3, d4, d5, d6⟩ := fd_block hc3
    have hz3 : V3.heap.size = V2.heap.size := by rw [← HV3.out]; simp [World.setCell]
    have hqlt := (Array.getElem?_eq_some_iff.1 hc3).1
    have e1 : (V2.setCell ⟨w.heap.size + 1 + 1, 0, none⟩ (.int .i64 k)).cell? ⟨qb, 1, none⟩ = some (.int .i64 f.so) := by rw [HV3.out]; exact d1
    by_cases h3 : f.so = 3
    · rw [if_pos h3] at hnw
      rw [h3] at e1
      have hb4' : Below V3.heap.size V3 (V3.alloc (.cells #[.int .i64 0, .int .i64 0] 57)) := (Below.refl _ V3).alloc (Nat.le_refl _) _
      have hP4 := hP3.later hb4'
      have hP5 := hP4.set (M' := nw k Mj f) (by omega) 7 (.slice (some ⟨V2.heap.size, 0, none⟩) 1 1) (fun P C h => ⟨_, C, by rw [hnw]; rfl, by rw [hnw]; exact ⟨own_lit' [.int .i64 0, .int .i64 0] hz3 (by have := hP3.off.size; omega) (by unfold maxLen; omega) rfl, h.c⟩⟩)
      have hoff := (ho3.trans (Off.of_below hb4' : Off (fun q => q = w.heap.size + 1 + 1) _ _) (fun _ _ h => h)).setCell (p := ⟨w.heap.size + 1 + 1, 7, none⟩) rfl (.slice (some ⟨V2.heap.size, 0, none⟩) 1 1)
      have HF := Lib.hid (And.intro (kf_one hoff (s := w4.heap.size) (by omega)) (And.intro hP5 (ket_one (tf := 65) (ti := 3) hoff (lo := w.heap.size + 3) (by omega))))
      rw [World.setCell_alloc_past _ _ _ _ (by omega)] at HF
      clear hP3 hP4 hP5 hoff hb4' hc3 ho3 ok d0 d1 d2 d3 d4 d5 d6
      rw [← HV3.out] at HF
      gi_wp2
      exact ⟨HF.out.1, by rw [HST.out]; exact HF.out.2.1, HF.out.2.2⟩
    by_cases h4 : f.so = 4
    · rw [if_neg (by omega), if_pos h4] at hnw
      rw [h4] at e1
      have hb4' : Below V3.heap.size V3 (V3.alloc (.cells #[.int .i64 0] 3)) := (Below.refl _ V3).alloc (Nat.le_refl _) _
      have hP4 := hP3.later hb4'
      have hP5 := hP4.set (M' := nw k Mj f) (by omega) 8 (.slice (some ⟨V2.heap.size, 0, none⟩) 1 1) (fun P C h => ⟨P, _, by rw [hnw]; rfl, by rw [hnw]; exact ⟨h.p, own_lit' [.int .i64 0] hz3 (by have := hP3.off.size; omega) (by unfold maxLen; omega) rfl⟩⟩)
      have hoff := (ho3.trans (Off.of_below hb4' : Off (fun q => q = w.heap.size + 1 + 1) _ _) (fun _ _ h => h)).setCell (p := ⟨w.heap.size + 1 + 1, 8, none⟩) rfl (.slice (some ⟨V2.heap.size, 0, none⟩) 1 1)
      have HF := Lib.hid (And.intro (kf_one hoff (s := w4.heap.size) (by omega)) (And.intro hP5 (ket_one (tf := 65) (ti := 3) hoff (lo := w.heap.size + 3) (by omega))))
      rw [World.setCell_alloc_past _ _ _ _ (by omega)] at HF
      clear hP3 hP4 hP5 hoff hb4' hc3 ho3 ok d0 d1 d2 d3 d4 d5 d6
      rw [← HV3.out] at HF
      gi_wp2
      exact ⟨HF.out.1, by rw [HST.out]; exact HF.out.2.1, HF.out.2.2⟩
    by_cases h1 : f.so = 1
    · rw [if_neg (by omega), if_neg (by omega), if_pos (by omega)] at hnw
      obtain ⟨jn, hjn, hpl⟩ := ok.pl (by omega)
      rw [hpl, Int.toNat_natCast] at hnw
      rw [h1] at e1
      have KS := start_any f
      unfold Fd.v Fd.cs at KS
      rw [hpl, h1] at KS
      have KS := Lib.hid KS
      obtain ⟨sv, hsv⟩ : ∃ sv, startV f = sv := ⟨_, rfl⟩
      rw [hsv] at KS hnw
      have hP5 := fun W (hW : Below V3.heap.size V3 W) => (hP3.later hW).set (M' := nw k Mj f) (by omega) (1 + jn) (.int .i64 sv) (fun P C h => ⟨P, C, by rw [hnw, mC_put hjn], by rw [hnw]; exact ⟨by rw [Mg.put_p]; exact h.p, by rw [Mg.put_c]; exact h.c⟩⟩)
      have hoff := fun W (hW : Below V3.heap.size V3 W) => (ho3.trans (Off.of_below hW : Off (fun q => q = w.heap.size + 1 + 1) _ _) (fun _ _ h => h)).setCell (p := ⟨w.heap.size + 1 + 1, 1 + jn, none⟩) rfl (.int .i64 sv)
      have HF := Lib.hid (fun W (hW : Below V3.heap.size V3 W) => And.intro (kf_one (hoff W hW) (s := w4.heap.size) (by omega)) (And.intro (hP5 W hW) (ket_one (tf := 65) (ti := 3) (hoff W hW) (lo := w.heap.size + 3) (by omega))))
      have hj6 : (jn : Int) < 6 := by omega
      have q3 : (((1 : Int)) == 3) = false := rfl
      have lP : ∀ W, Below V3.heap.size V3 W → (Instr.loadAt 3 (.pointer (some ⟨qb, 2, none⟩))).run Try.prog W = .ok (.int .i64 (jn : Int)) W := fun W hW => by
        have hx := (hW.cell (p := ⟨qb, 2, none⟩) hqlt).trans d2
        rw [hpl] at hx
        simp [Instr.loadAt, go_sem, hx]
      have lF : ∀ W, Below V3.heap.size V3 W → (Instr.loadAt 65 (.pointer (some ⟨qb, 0, none⟩))).run Try.prog W = .ok (.agg #[.string f.nm, .int .i64 1, .int .i64 (jn : Int), .int .i64 f.le, .int .i64 f.mo, .int .i64 f.si, .int .i64 f.ab]) W := fun W hW => by
        obtain ⟨t0, t1, t2, t3, t4, t5, t6⟩ := fd_block ((hW.block _ hqlt).trans hc3)
        rw [hpl] at t2
        rw [h1] at t1
        simp [Instr.loadAt, go_sem, t0, t1, t2, t3, t4, t5, t6]
      have lS : ∀ W, Below V3.heap.size V3 W → W.cell? ⟨w.heap.size + 1 + 1, 1 + jn, none⟩ = some (.int .i64 (({ Mj with k := k } : Mg).at' jn)) ∧ W.frozen? ⟨w.heap.size + 1 + 1, 1 + jn, none⟩ = false := fun W hW => by
        obtain ⟨P, C, m1, m2⟩ := (hP3.later hW).m
        exact ⟨mg_at m1 hjn, frozen_of_row W (w.heap.size + 1 + 1) (1 + jn) _ _ m1⟩
      clear hP3 hP5 hoff hc3 ho3 ok d0 d1 d2 d3 d4 d5 d6 hpl hsv g7 g8 y7 y8
      gi_wp2_with fail
      rw [HV3.out]
      refine wpIn_region_FS 31 6 7 [] (fun _ _ _ => True) (fun W => Below V3.heap.size V3 W) (fun _ W W' => W' = W.setCell ⟨w.heap.size + 1 + 1, 1 + jn, none⟩ (.int .i64 sv)) (by kernel_rfl) (fun ⟨_, _, h⟩ => h) (by kernel_rfl) (by rfl) (by kernel_rfl) (by rfl) (by simp) (fun W W' h hb => h.trans (hb.mono h.size)) (fun _ _ _ _ _ _ => trivial) (Below.refl _ _).drew (by rfl) ?_
      repeat (refine wpFS_step (wpF_pure rfl rfl ?_); go_big_quiet_step (fail); refine wpQuiet_nil ?_; simp only [wpF])
      refine wpFS_step (wpF_load (ad := ⟨qb, 2, none⟩) (.int .i64 (jn : Int)) rfl (by rfl) (by rfl) (by rfl) lP ?_)
      simp only [wpF, Act.put, List.setIfInBounds_toArray, List.set_cons_succ, List.set_cons_zero]
      refine wpFS_step (wpF_load (ad := ⟨qb, 0, none⟩) (.agg #[.string f.nm, .int .i64 1, .int .i64 (jn : Int), .int .i64 f.le, .int .i64 f.mo, .int .i64 f.si, .int .i64 f.ab]) rfl (by rfl) (by rfl) (by rfl) lF ?_)
      simp only [wpF, Act.put, List.setIfInBounds_toArray, List.set_cons_succ, List.set_cons_zero]
      refine wpFS_step (wpF_call (f := 36) (args := #[(.agg #[.string f.nm, .int .i64 1, .int .i64 (jn : Int), .int .i64 f.le, .int .i64 f.mo, .int .i64 f.si, .int .i64 f.ab])]) (.int .i64 sv) rfl rfl (fun x => by first | rfl | (simp [go_sem]; done)) (fun W hW => KS.out W) ?_)
      simp only [wpF, Act.put, List.setIfInBounds_toArray, List.set_cons_succ, List.set_cons_zero]
      repeat (refine wpFS_step (wpF_pure rfl rfl ?_); go_big_quiet_step (fail); refine wpQuiet_nil ?_; simp only [wpF])
      refine wpFS_store rfl rfl rfl ⟨w.heap.size + 1 + 1, 1 + jn, none⟩ (fun _ => .int .i64 sv) (fun _ => rfl) (fun _ => by rfl) (fun xs W' hW' _ => ?_) ?_
      · obtain ⟨k1, k2⟩ := lS W' hW'
        exact ⟨_, by simp [Instr.storeAt, go_sem, k1, k2], rfl⟩
      simp only [wpFS]
      rintro xs W1 W2 hW1 _ rfl
      simp only [fill]
      have HF1 := Lib.hid (HF.out W1 hW1)
      clear HF lP lF lS KS hW1
      gi_wp2
      exact ⟨HF1.out.1, by rw [HST.out]; exact HF1.out.2.1, HF1.out.2.2⟩
    by_cases h2 : f.so = 2
    · rw [if_neg (by omega), if_neg (by omega), if_pos (by omega)] at hnw
      obtain ⟨jn, hjn, hpl⟩ := ok.pl (by omega)
      rw [hpl, Int.toNat_natCast] at hnw
      rw [h2] at e1
      have KS := start_any f
      unfold Fd.v Fd.cs at KS
      rw [hpl, h2] at KS
      have KS := Lib.hid KS
      obtain ⟨sv, hsv⟩ : ∃ sv, startV f = sv := ⟨_, rfl⟩
      rw [hsv] at KS hnw
      have hP5 := fun W (hW : Below V3.heap.size V3 W) => (hP3.later hW).set (M' := nw k Mj f) (by omega) (1 + jn) (.int .i64 sv) (fun P C h => ⟨P, C, by rw [hnw, mC_put hjn], by rw [hnw]; exact ⟨by rw [Mg.put_p]; exact h.p, by rw [Mg.put_c]; exact h.c⟩⟩)
      have hoff := fun W (hW : Below V3.heap.size V3 W) => (ho3.trans (Off.of_below hW : Off (fun q => q = w.heap.size + 1 + 1) _ _) (fun _ _ h => h)).setCell (p := ⟨w.heap.size + 1 + 1, 1 + jn, none⟩) rfl (.int .i64 sv)
      have HF := Lib.hid (fun W (hW : Below V3.heap.size V3 W) => And.intro (kf_one (hoff W hW) (s := w4.heap.size) (by omega)) (And.intro (hP5 W hW) (ket_one (tf := 65) (ti := 3) (hoff W hW) (lo := w.heap.size + 3) (by omega))))
      have hj6 : (jn : Int) < 6 := by omega
      have q3 : (((2 : Int)) == 3) = false := rfl
      have lP : ∀ W, Below V3.heap.size V3 W → (Instr.loadAt 3 (.pointer (some ⟨qb, 2, none⟩))).run Try.prog W = .ok (.int .i64 (jn : Int)) W := fun W hW => by
        have hx := (hW.cell (p := ⟨qb, 2, none⟩) hqlt).trans d2
        rw [hpl] at hx
        simp [Instr.loadAt, go_sem, hx]
      have lF : ∀ W, Below V3.heap.size V3 W → (Instr.loadAt 65 (.pointer (some ⟨qb, 0, none⟩))).run Try.prog W = .ok (.agg #[.string f.nm, .int .i64 2, .int .i64 (jn : Int), .int .i64 f.le, .int .i64 f.mo, .int .i64 f.si, .int .i64 f.ab]) W := fun W hW => by
        obtain ⟨t0, t1, t2, t3, t4, t5, t6⟩ := fd_block ((hW.block _ hqlt).trans hc3)
        rw [hpl] at t2
        rw [h2] at t1
        simp [Instr.loadAt, go_sem, t0, t1, t2, t3, t4, t5, t6]
      have lS : ∀ W, Below V3.heap.size V3 W → W.cell? ⟨w.heap.size + 1 + 1, 1 + jn, none⟩ = some (.int .i64 (({ Mj with k := k } : Mg).at' jn)) ∧ W.frozen? ⟨w.heap.size + 1 + 1, 1 + jn, none⟩ = false := fun W hW => by
        obtain ⟨P, C, m1, m2⟩ := (hP3.later hW).m
        exact ⟨mg_at m1 hjn, frozen_of_row W (w.heap.size + 1 + 1) (1 + jn) _ _ m1⟩
      clear hP3 hP5 hoff hc3 ho3 ok d0 d1 d2 d3 d4 d5 d6 hpl hsv g7 g8 y7 y8
      gi_wp2_with fail
      rw [HV3.out]
      refine wpIn_region_FS 31 6 7 [] (fun _ _ _ => True) (fun W => Below V3.heap.size V3 W) (fun _ W W' => W' = W.setCell ⟨w.heap.size + 1 + 1, 1 + jn, none⟩ (.int .i64 sv)) (by kernel_rfl) (fun ⟨_, _, h⟩ => h) (by kernel_rfl) (by rfl) (by kernel_rfl) (by rfl) (by simp) (fun W W' h hb => h.trans (hb.mono h.size)) (fun _ _ _ _ _ _ => trivial) (Below.refl _ _).drew (by rfl) ?_
      repeat (refine wpFS_step (wpF_pure rfl rfl ?_); go_big_quiet_step (fail); refine wpQuiet_nil ?_; simp only [wpF])
      refine wpFS_step (wpF_load (ad := ⟨qb, 2, none⟩) (.int .i64 (jn : Int)) rfl (by rfl) (by rfl) (by rfl) lP ?_)
      simp only [wpF, Act.put, List.setIfInBounds_toArray, List.set_cons_succ, List.set_cons_zero]
      refine wpFS_step (wpF_load (ad := ⟨qb, 0, none⟩) (.agg #[.string f.nm, .int .i64 2, .int .i64 (jn : Int), .int .i64 f.le, .int .i64 f.mo, .int .i64 f.si, .int .i64 f.ab]) rfl (by rfl) (by rfl) (by rfl) lF ?_)
      simp only [wpF, Act.put, List.setIfInBounds_toArray, List.set_cons_succ, List.set_cons_zero]
      refine wpFS_step (wpF_call (f := 36) (args := #[(.agg #[.string f.nm, .int .i64 2, .int .i64 (jn : Int), .int .i64 f.le, .int .i64 f.mo, .int .i64 f.si, .int .i64 f.ab])]) (.int .i64 sv) rfl rfl (fun x => by first | rfl | (simp [go_sem]; done)) (fun W hW => KS.out W) ?_)
      simp only [wpF, Act.put, List.setIfInBounds_toArray, List.set_cons_succ, List.set_cons_zero]
      repeat (refine wpFS_step (wpF_pure rfl rfl ?_); go_big_quiet_step (fail); refine wpQuiet_nil ?_; simp only [wpF])
      refine wpFS_store rfl rfl rfl ⟨w.heap.size + 1 + 1, 1 + jn, none⟩ (fun _ => .int .i64 sv) (fun _ => rfl) (fun _ => by rfl) (fun xs W' hW' _ => ?_) ?_
      · obtain ⟨k1, k2⟩ := lS W' hW'
        exact ⟨_, by simp [Instr.storeAt, go_sem, k1, k2], rfl⟩
      simp only [wpFS]
      rintro xs W1 W2 hW1 _ rfl
      simp only [fill]
      have HF1 := Lib.hid (HF.out W1 hW1)
      clear HF lP lF lS KS hW1
      gi_wp2
      exact ⟨HF1.out.1, by rw [HST.out]; exact HF1.out.2.1, HF1.out.2.2⟩
    rw [if_neg h3, if_neg h4, if_neg (by omega)] at hnw
    have HF := Lib.hid (And.intro (kf_one ho3 (s := w4.heap.size) (by omega)) (And.intro (hnw ▸ hP3 : NwB (w.heap.size + 1 + 1) w4.heap.size w4 (nw k Mj f) V3) (ket_one (tf := 65) (ti := 3) ho3 (lo := w.heap.size + 3) (by omega))))
    rw [← HV3.out] at HF
    have hs56 : f.so = 5 ∨ f.so = 6 := by omega
    clear hP3 hc3 ho3 ok d0 d1 d2 d3 d4 d5 d6 hnw hso
    rcases hs56 with h5 | h5
    all_goals
      rw [h5] at e1
      gi_wp2
      exact ⟨HF.out.1, by rw [HST.out]; exact HF.out.2.1, HF.out.2.2⟩
  case iter =>
    intro Bk X l V hBk hBlt hX hl hD hB hY
    have h := fall_in 8 (by omega) 7 l (w.heap.size + 3) k 2 (fun j V => NwB (w.heap.size + 1 + 1) w4.heap.size w4 ((L.take j).foldl (nw k) (Mg.zero 0)) V ∧ Bk V) X
      (fun j A B h hb => ⟨h.1.later hb, hBk A _ h.2 hb.size (fun q h1 h2 => by have := hBlt A h.2; exact hb.block q (by omega))⟩)
      (fun j f W h hf => by
        rw [KA.out] at hf
        exact (hY j f W ⟨hf, h.1⟩ h.2 (List.getElem?_eq_some_iff.1 hf).1).mono (fun e W2 h => h.elim (fun h => .inl ⟨h.1, h.2.1, h.2.2.1⟩) (fun h => .inr ⟨h.1, h.2.1⟩)))
      V ((hD.off.block _ (by omega) (by omega)).trans hg0) ((hD.off.block _ (by omega) (by omega)).trans hg1) ⟨hD, hB⟩
    rw [KA.out] at h
    exact h
  case done =>
    rintro D V hD hP hK
    rw [List.take_length, HG.out] at hP
    obtain ⟨P, C, m1, m2⟩ := hP.m
    obtain ⟨⟨a3, cp3, rfl, _, _⟩, ⟨b3, cb3, rfl, _, _⟩⟩ := m2.at
    obtain ⟨np, hnp⟩ : ∃ np, G.p.length = np := ⟨_, rfl⟩
    obtain ⟨nc, hnc⟩ : ∃ nc, G.c.length = nc := ⟨_, rfl⟩
    rw [hnp, hnc] at m1 m2
    obtain ⟨f0, f1, f2, f3, f4, f5, f6, f7, f8, f9, f10⟩ := mg_block m1
    have r2 := (hP.off.block (w.heap.size + 1) (by omega) (by omega)).trans HP1.out
    have HR2 := Lib.hid r2
    have hbV := HB4.out.trans (hP.off.below (B := w.heap.size) (fun k hk => by omega) (by have := HB4.out.size; omega))
    have HBV := Lib.hid hbV
    have HOV := Lib.hid m2
    have HKD := Lib.hid hK
    have hD2 : D ≠ w.heap.size + 1 := by omega
    have HST := Lib.hid (mg_store V (w.heap.size + 1) _ #[.int .i64 G.k, .int .i64 G.n0, .int .i64 G.n1, .int .i64 G.n2, .int .i64 G.n3, .int .i64 G.n4, .int .i64 G.n5, .slice a3 np cp3, .slice b3 nc cb3, .string G.tx, .string G.tg] HR2.out rfl rfl (by simp [Value.oneCell']))
    clear hP r2 hbV m1 m2 hK hnp hnc
    gi_wp2_with (refine wpListIn_store_run rfl 26 (.tmp 2) (.tmp 30) rfl (some ⟨w.heap.size + 1, 0, none⟩) rfl (.agg #[.int .i64 G.k, .int .i64 G.n0, .int .i64 G.n1, .int .i64 G.n2, .int .i64 G.n3, .int .i64 G.n4, .int .i64 G.n5, .slice a3 np cp3, .slice b3 nc cb3, .string G.tx, .string G.tg]) rfl HST.out ?_)
    have hfin := setRow_heap V (w.heap.size + 1) _ #[.int .i64 G.k, .int .i64 G.n0, .int .i64 G.n1, .int .i64 G.n2, .int .i64 G.n3, .int .i64 G.n4, .int .i64 G.n5, .slice a3 np cp3, .slice b3 nc cb3, .string G.tx, .string G.tg] _ _ HR2.out
    have hoff := Off.setRow (S := fun k => k = w.heap.size + 1) (Off.refl _ V) rfl #[.int .i64 G.k, .int .i64 G.n0, .int .i64 G.n1, .int .i64 G.n2, .int .i64 G.n3, .int .i64 G.n4, .int .i64 G.n5, .slice a3 np cp3, .slice b3 nc cb3, .string G.tx, .string G.tg]
    have hbf := HBV.out.trans (hoff.below (B := w.heap.size) (fun k hk => by omega) HBV.out.size)
    have hof := HOV.out.off hoff (fun g hg e => by have := (HOV.out.p.lt g hg).1; omega) (fun g hg e => by have := (HOV.out.c.lt g hg).1; omega)
    have HKf := (setRow_other V (w.heap.size + 1) D #[.int .i64 G.k, .int .i64 G.n0, .int .i64 G.n1, .int .i64 G.n2, .int .i64 G.n3, .int .i64 G.n4, .int .i64 G.n5, .slice a3 np cp3, .slice b3 nc cb3, .string G.tx, .string G.tg] hD2).trans HKD.out
    generalize V.setRow (w.heap.size + 1) _ = Wf at *
    refine ⟨by simp, .inl ⟨_, _, rfl, run_takeDeferred HKf, ?_⟩⟩
    obtain ⟨y0, y1, y2, y3, y4, y5, y6, y7, y8, y9, y10⟩ := mg_block (W := Wf.putObj D (.deferred none)) ((World.putObj_heap_other (by omega)).trans hfin)
    refine ⟨.agg #[.int .i64 G.k, .int .i64 G.n0, .int .i64 G.n1, .int .i64 G.n2, .int .i64 G.n3, .int .i64 G.n4, .int .i64 G.n5, .slice a3 np cp3, .slice b3 nc cb3, .string G.tx, .string G.tg], by simp [results, Try.f15, go_sem, y0, y1, y2, y3, y4, y5, y6, y7, y8, y9, y10], _, _, rfl, ?_, hbf.trans (below_put _ _ (by omega))⟩
    refine MOwn.less (base := w4.heap.size) ?_ (by omega)
    exact ⟨ownsRow_putObj hof.p _ HKf rfl, ownsRow_putObj hof.c _ HKf rfl⟩
  case stop => exact fun _ _ _ _ h => h.elim
end Go.Proofs.Ytnbhiamnoapmlaa
