/-
  Contract of layer 16's Find: the field of a name.
-/
import Derived.Test.YtnbhiamnoapmlaaFldW
import Derived.Test.YtnbhiamnoapmlaaStopB
namespace Go.Proofs.Ytnbhiamnoapmlaa
open Go.RowKit Go.Shelf
set_option maxRecDepth 100000
attribute [local go_sem] Oper.semAt_some

/-- the first of a name -/
def fnd (L : List Fd) (nm : ByteArray) : Option Fd := L.find? fun f => decide (f.nm = nm)
theorem FD_all (k : Int) : ∀ f ∈ FD k, (f.si = 1 ∨ f.si = 2) ∧ f.nm ≠ ⟨#[]⟩ := by
  rcases kind_ways k with rfl | rfl | rfl | rfl | rfl | ⟨h1, h2, h3, h4, h5⟩
  case' inr.inr.inr.inr.inr => rw [show FD k = [] by simp [FD, raw, h1, h2, h3, h4, h5, pls]]
  all_goals simp [FD, raw, pls]
theorem FDv_two (k : Int) : FDv k 2 = FD k := List.filter_eq_self.2 fun f hf => by
  have := (FD_all k f hf).1
  simp
  omega
theorem fnd_at {L : List Fd} {nm : ByteArray} {j : Nat} {f : Fd} (hj : L[j]? = some f) (h : f.nm = nm) (hn : ∀ g ∈ L.take j, g.nm ≠ nm) : fnd L nm = some f := by
  unfold fnd
  rw [List.find?_eq_some_iff_append]
  have hi := (List.getElem?_eq_some_iff.1 hj).1
  refine ⟨by simpa using h, L.take j, L.drop (j + 1), ?_, fun g hg => by simpa using hn g hg⟩
  conv => lhs; rw [← List.take_append_drop j L, List.drop_eq_getElem_cons hi]
  rw [(List.getElem?_eq_some_iff.1 hj).2]
theorem fnd_none {L : List Fd} {nm : ByteArray} (hn : ∀ g ∈ L, g.nm ≠ nm) : fnd L nm = none := by
  unfold fnd
  rw [List.find?_eq_none]
  intro g hg
  simpa using hn g hg
theorem seven_set {V : World} {b : Nat} {T : TypeId} (f : Fd) {f0 : Fd} (h : V.heap[b]? = some (.cells f0.cs T (0, 0))) :
    (((((((V.setCell ⟨b, 0, none⟩ (.string f.nm)).setCell ⟨b, 1, none⟩ (.int .i64 f.so)).setCell ⟨b, 2, none⟩ (.int .i64 f.pl)).setCell ⟨b, 3, none⟩ (.int .i64 f.le)).setCell ⟨b, 4, none⟩ (.int .i64 f.mo)).setCell ⟨b, 5, none⟩ (.int .i64 f.si)).setCell ⟨b, 6, none⟩ (.int .i64 f.ab)).heap[b]? = some (.cells f.cs T (0, 0)) := by
  rw [setCell_at (setCell_at (setCell_at (setCell_at (setCell_at (setCell_at (setCell_at h))))))]
  simp [Fd.cs]
theorem seven_off {V W : World} {b : Nat} {u0 u1 u2 u3 u4 u5 u6 : Value} (h : Off (fun q => q = b) V W) :
    Off (fun q => q = b) V (((((((W.setCell ⟨b, 0, none⟩ u0).setCell ⟨b, 1, none⟩ u1).setCell ⟨b, 2, none⟩ u2).setCell ⟨b, 3, none⟩ u3).setCell ⟨b, 4, none⟩ u4).setCell ⟨b, 5, none⟩ u5).setCell ⟨b, 6, none⟩ u6) :=
  ((((((h.setCell (p := ⟨b, 0, none⟩) rfl u0).setCell (p := ⟨b, 1, none⟩) rfl u1).setCell (p := ⟨b, 2, none⟩) rfl u2).setCell (p := ⟨b, 3, none⟩) rfl u3).setCell (p := ⟨b, 4, none⟩) rfl u4).setCell (p := ⟨b, 5, none⟩) rfl u5).setCell (p := ⟨b, 6, none⟩) rfl u6
theorem keepsFrom_off {V W : World} {b s : Nat} (h : Off (fun q => q = b) V W) (hb : b < s) : KeepsFrom s V W :=
  ⟨h.size, fun q o hq ho _ => (h.block q (Array.getElem?_eq_some_iff.1 ho).1 (by intro e; omega)).trans ho⟩
/-- what Find answers -/
def finR (o : Option Fd) : Value := .tuple #[(o.getD Fd.zero).v, .bool o.isSome]

set_option maxHeartbeats 4000000 in
theorem ffind_any (k : Int) (nm : ByteArray) (w : World) : Calls Try.prog 42 #[.int .i64 k, .string nm] w fun e w' => e = .returned (finR (fnd (FD k) nm)) ∧ Below w.heap.size w w' := by
  obtain ⟨w3, hw3⟩ : ∃ w3, w3 = ((w.alloc (.cells #[.string nm] 9)).alloc (.cells Fd.zero.cs 65)).alloc (.cells Fd.zero.cs 65) := ⟨_, rfl⟩
  have hs3 : w3.heap.size = w.heap.size + 3 := by rw [hw3]; simp
  have hb3 : Below w.heap.size w w3 := by rw [hw3]; exact (((Below.refl _ w).alloc (Nat.le_refl _) _).alloc (by simp) _).alloc (by simp; omega) _
  have p0 : w3.heap[w.heap.size]? = some (.cells #[.string nm] 9 (0, 0)) := by
    rw [hw3, Below.heap_alloc _ _ _ (by simp; omega), Below.heap_alloc _ _ _ (by simp)]; exact World.alloc_heap_new _ _
  have p1 : w3.heap[w.heap.size + 1]? = some (.cells Fd.zero.cs 65 (0, 0)) := by
    rw [hw3, Below.heap_alloc _ _ _ (by simp)]
    have := World.alloc_heap_new (w.alloc (.cells #[.string nm] 9)) (.cells Fd.zero.cs 65)
    rwa [World.size_alloc] at this
  have p2 : w3.heap[w.heap.size + 1 + 1]? = some (.cells Fd.zero.cs 65 (0, 0)) := by
    rw [hw3]
    have := World.alloc_heap_new ((w.alloc (.cells #[.string nm] 9)).alloc (.cells Fd.zero.cs 65)) (.cells Fd.zero.cs 65)
    rwa [World.size_alloc, World.size_alloc] at this
  have HW := Lib.hid hw3
  clear hw3
  obtain ⟨R, hR⟩ : ∃ R, fnd (FD k) nm = R := ⟨_, rfl⟩
  rw [hR]
  have HR := Lib.hid hR
  clear hR
  refine (callsIn_wide (n := 9)).1 ?_
  refine callsIn_of_wp_marks Try.func42 rfl trivial ?_ rfl
  simp only [Try.ntmps42, List.size_toArray, List.length_cons, List.length_nil, Nat.reduceAdd, Nat.reduceSub, Array.replicate_succ, Array.replicate_zero, List.push_toArray, List.append_toArray, List.nil_append, List.cons_append]
  gi_wp2_with fail
  refine wpIn_wide.2 (wp_scope_straight ((wpIn_wide (n := 9)).1 ?_))
  gi_wp2_with fail
  apply wpIn_label
  gi_wp2_with fail
  refine ⟨trivial, ?_⟩
  unfold Fd.cs Fd.zero at HW
  rw [← HW.out]
  refine (callsIn_wide.2 (fall_any k 2 w3)).mono ?_
  rintro e w4 ⟨rfl, hg0, hg1, hb4⟩
  clear HW
  rw [hs3] at hg0 hg1
  have hs4 := (Array.getElem?_eq_some_iff.1 hg1).1
  have q0 := (hb4.block _ (by omega)).trans p0
  have q1 := (hb4.block _ (by omega)).trans p1
  have q2 := (hb4.block _ (by omega)).trans p2
  have hb04 := hb3.trans (hb4.mono (by omega))
  clear p0 p1 p2 hb4 hb3
  obtain ⟨L, hL⟩ : ∃ L, FD k = L := ⟨_, rfl⟩
  have HL := Lib.hid hL
  rw [hL] at HR
  have hNE := Lib.hid (FD_all k)
  rw [hL] at hNE
  have HF2 := Lib.hid (FDv_two k)
  rw [hL] at HF2
  clear hL
  gi_wp2_with fail
  refine range_stopb rfl (by omega) (gf := 39) (lb := #[.pointer (some ⟨w.heap.size + 3, 0, none⟩), .pointer (some ⟨w.heap.size + 3 + 1, 0, none⟩)]) rfl trivial (enters_of Try.func39 (by kernel_rfl) rfl)
    (fun f : Fd => #[f.v]) (fun _ => rfl)
    (fun j f V => L[j]? = some f ∧ (∀ g ∈ L.take j, g.nm ≠ nm) ∧ Below w4.heap.size w4 V)
    (fun j f q V => (L[j]? = some f ∧ (∀ g ∈ L.take j, g.nm ≠ nm) ∧ Below w4.heap.size w4 V) ∧ w4.heap.size ≤ q ∧ V.heap[q]? = some (.cells f.cs 65 (0, 0)))
    (fun j V => (∀ g ∈ L.take j, g.nm ≠ nm) ∧ Below w4.heap.size w4 V)
    (fun cd V => cd = .exit 0 ∧ ∃ (j : Nat) (f : Fd), L[j]? = some f ∧ f.nm = nm ∧ (∀ g ∈ L.take j, g.nm ≠ nm) ∧ V.heap[w.heap.size + 1 + 1]? = some (.cells f.cs 65 (0, 0)) ∧ Off (fun q => q = w.heap.size + 1 + 1) w4 V)
    (KeT 65 3 (w.heap.size + 3)) L.length
    (fun j f q V l o o' h hl ho hc' => ⟨⟨h.1.1, h.1.2.1, h.1.2.2.trans (below_put V o' hl)⟩, h.2.1, (World.putObj_heap_other (fun e => by subst e; rw [h.2.2] at ho; injection ho with ho; subst ho; cases hc')).trans h.2.2⟩)
    (fun j V l o o' h hl ho hc' => ⟨h.1, h.2.trans (below_put V o' hl)⟩)
    (fun cd V l o o' h hl ho hc' => by
      obtain ⟨h1, j, f, h2, h3, h4, h5, h6⟩ := h
      exact ⟨h1, j, f, h2, h3, h4, (World.putObj_heap_other (by omega)).trans h5, off_below h6 (below_put V o' hl)⟩)
    (fun _ _ _ h k => h.trans k) (fun V l o o' hl ho hc' => KeT.putObj ho hc')
    (fun o => ⟨fun g hg => by simp at hg, ((Below.refl w4.heap.size w4).alloc (Nat.le_refl _) _).alloc (by simp) _⟩) ?round ?iter ?done ?stop
  case round =>
    rintro l j f V K ⟨hf, hn, hbV⟩ hj hK
    have HK := Lib.hid hK
    clear hK
    unfold Fd.v Fd.cs
    gi_wp2_with fail
    refine HK.out _ V.heap.size _ ⟨⟨hf, hn, hbV.alloc hbV.size _⟩, hbV.size, World.alloc_heap_new _ _⟩ ⟨by simp, fun q o _ ho _ => (Below.heap_alloc _ _ _ (Array.getElem?_eq_some_iff.1 ho).1).trans ho⟩ (KeT.of_below ((Below.refl _ V).alloc (Nat.le_refl _) _)) ?_
    clear HK hbV
    rintro l V2 hl ⟨⟨_, _, hbV⟩, hq, hc⟩
    obtain ⟨d0, d1, d2, d3, d4, d5, d6⟩ := fd_block hc
    have bX : V2.cell? ⟨w.heap.size, 0, none⟩ = some (.string nm) := (hbV.cell (p := ⟨w.heap.size, 0, none⟩) (by show w.heap.size < _; omega)).trans (by simp [World.cell?, q0])
    by_cases h : f.nm = nm
    · obtain ⟨e0, e1, e2, e3, e4, e5, e6⟩ := fd_block (f := Fd.zero) ((hbV.block _ (by omega)).trans q2)
      have fz := fun j => frozen_of_row V2 (w.heap.size + 1 + 1) j _ _ ((hbV.block _ (by omega)).trans q2)
      have z0 := fz 0; have z1 := fz 1; have z2 := fz 2; have z3 := fz 3; have z4 := fz 4; have z5 := fz 5; have z6 := fz 6
      have HH := Lib.hid h
      rw [h] at d0
      clear fz h
      have hW := (hbV.block _ (by omega)).trans q2
      gi_wp2
      rw [← HH.out]
      exact ⟨keepsFrom_off (seven_off (Off.refl _ _)) (by omega), rfl, j, f, hf, rfl, HH.out.symm ▸ hn, seven_set f hW, seven_off (off_below (Off.refl _ _) hbV)⟩
    · have hne := str_ne h
      have hfin := Lib.hid (show _ ∧ _ ∧ _ from ⟨(⟨Nat.le_refl _, fun _ _ _ ho _ => ho⟩ : KeepsFrom w4.heap.size V2 V2), (fun g hg => by
          rw [List.take_add_one, hf, List.mem_append] at hg
          rcases hg with hg | hg
          · exact hn g hg
          · simp at hg; subst hg; exact h : ∀ g ∈ L.take (j + 1), g.nm ≠ nm), hbV⟩)
      clear hn hbV hf
      gi_wp2
      exact ⟨hfin.out.1, hfin.out.2, KeT.refl _⟩
  case iter =>
    intro Bk X l V hBk hBlt hX hl hD hB hY
    have h := fall_in 8 (by omega) 7 l (w.heap.size + 3) k 2 (fun j V => ((∀ g ∈ L.take j, g.nm ≠ nm) ∧ Below w4.heap.size w4 V) ∧ Bk V) X
      (fun j A B h hb => ⟨⟨h.1.1, h.1.2.trans (hb.mono h.1.2.size)⟩, hBk A _ h.2 hb.size (fun q h1 h2 => by have := hBlt A h.2; exact hb.block q (by omega))⟩)
      (fun j f W h hf => by
        rw [HF2.out] at hf
        exact (hY j f W ⟨hf, h.1⟩ h.2 (List.getElem?_eq_some_iff.1 hf).1).mono (fun e W2 h => h.elim (fun h => .inl ⟨h.1, h.2.1, h.2.2.1⟩) (fun h => .inr ⟨h.1, h.2.1⟩)))
      V ((hD.2.block _ (by omega)).trans hg0) ((hD.2.block _ (by omega)).trans hg1) ⟨hD, hB⟩
    rw [HF2.out] at h
    exact h
  case done =>
    rintro D V hD ⟨hn, hbV⟩ hK
    rw [List.take_length] at hn
    have h0 : R = none := by rw [← HR.out]; exact fnd_none hn
    subst h0
    obtain ⟨d0, d1, d2, d3, d4, d5, d6⟩ := fd_block (f := Fd.zero) ((hbV.block _ (by omega)).trans q2)
    obtain ⟨e0, e1, e2, e3, e4, e5, e6⟩ := fd_block (f := Fd.zero) ((hbV.block _ (by omega)).trans q1)
    have fz := fun j => frozen_of_row V (w.heap.size + 1) j _ _ ((hbV.block _ (by omega)).trans q1)
    have z0 := fz 0; have z1 := fz 1; have z2 := fz 2; have z3 := fz 3; have z4 := fz 4; have z5 := fz 5; have z6 := fz 6
    clear fz
    have hset := seven_set Fd.zero ((hbV.block _ (by omega)).trans q1)
    have hoff : Off (fun q => q = w.heap.size + 1) V _ := seven_off (V := V) (W := V) (b := w.heap.size + 1) (u0 := .string Fd.zero.nm) (u1 := .int .i64 Fd.zero.so) (u2 := .int .i64 Fd.zero.pl) (u3 := .int .i64 Fd.zero.le) (u4 := .int .i64 Fd.zero.mo) (u5 := .int .i64 Fd.zero.si) (u6 := .int .i64 Fd.zero.ab) (Off.refl _ _)
    simp only [Fd.zero] at d0 d1 d2 d3 d4 d5 d6 e0 e1 e2 e3 e4 e5 e6 hset hoff
    gi_wp2_with fail
    refine wpIn_wide.2 ?_
    go_region
    generalize World.setCell _ ⟨w.heap.size + 1, 6, none⟩ _ = W5 at *
    have HB := Lib.hid (hb04.trans ((hbV.mono hb04.size).trans (hoff.below (B := w.heap.size) (fun k hk => by omega) (by have := hbV.size; omega))))
    have hK5 : W5.drew.heap[D]? = some (.deferred (some [])) := (hoff.block D (Array.getElem?_eq_some_iff.1 hK).1 (by omega)).trans hK
    obtain ⟨y0, y1, y2, y3, y4, y5, y6⟩ := fd_block (w := W5.drew.putObj D (.deferred none)) (f := Fd.zero) ((World.putObj_heap_other (by omega)).trans hset)
    clear d0 d1 d2 d3 d4 d5 d6 e0 e1 e2 e3 e4 e5 e6 z0 z1 z2 z3 z4 z5 z6 hset hoff hbV q0 q1 q2
    gi_wp2
    simp only [Exit.noGoto]
    refine ⟨by simp, .inl ⟨_, _, rfl, run_takeDeferred hK5, ?_⟩⟩
    refine ⟨_, ?_, rfl, HB.out.drew.trans (below_put _ _ (by omega))⟩
    simp [results, Try.f42, go_sem, finR, Fd.v, Fd.cs, y0, y1, y2, y3, y4, y5, y6]
  case stop =>
    rintro D cd V hD ⟨rfl, j, f, hf, hx, hn, hV, hO⟩ hK
    have h0 : R = some f := by rw [← HR.out]; exact fnd_at hf hx hn
    subst h0
    clear hx
    have hne := str_nil (hNE.out f (List.mem_of_getElem? hf)).2
    have q1V := (hO.block _ (by omega) (by omega)).trans q1
    obtain ⟨d0, d1, d2, d3, d4, d5, d6⟩ := fd_block hV
    obtain ⟨e0, e1, e2, e3, e4, e5, e6⟩ := fd_block (f := Fd.zero) q1V
    have fz := fun j => frozen_of_row V (w.heap.size + 1) j _ _ q1V
    have z0 := fz 0; have z1 := fz 1; have z2 := fz 2; have z3 := fz 3; have z4 := fz 4; have z5 := fz 5; have z6 := fz 6
    clear fz
    have hset := seven_set f q1V
    have hoff : Off (fun q => q = w.heap.size + 1) V _ := seven_off (V := V) (W := V) (b := w.heap.size + 1) (u0 := .string f.nm) (u1 := .int .i64 f.so) (u2 := .int .i64 f.pl) (u3 := .int .i64 f.le) (u4 := .int .i64 f.mo) (u5 := .int .i64 f.si) (u6 := .int .i64 f.ab) (Off.refl _ _)
    gi_wp2_with fail
    refine wpIn_wide.2 ?_
    go_region
    generalize World.setCell _ ⟨w.heap.size + 1, 6, none⟩ _ = W5 at *
    have hbV : Below w.heap.size w4 V := hO.below (fun k hk => by omega) (by have := hb04.size; omega)
    have HB := Lib.hid (hb04.trans (hbV.trans (hoff.below (B := w.heap.size) (fun k hk => by omega) (by have := hbV.size; have := hb04.size; omega))))
    have hK5 : W5.drew.heap[D]? = some (.deferred (some [])) := (hoff.block D (Array.getElem?_eq_some_iff.1 hK).1 (by omega)).trans hK
    obtain ⟨y0, y1, y2, y3, y4, y5, y6⟩ := fd_block (w := W5.drew.putObj D (.deferred none)) (f := f) ((World.putObj_heap_other (by omega)).trans hset)
    clear d0 d1 d2 d3 d4 d5 d6 e0 e1 e2 e3 e4 e5 e6 z0 z1 z2 z3 z4 z5 z6 hset hoff hbV q0 q1 q2
    gi_wp2
    simp only [Exit.noGoto]
    refine ⟨by simp, .inl ⟨_, _, rfl, run_takeDeferred hK5, ?_⟩⟩
    refine ⟨_, ?_, rfl, HB.out.drew.trans (below_put _ _ (by omega))⟩
    simp [results, Try.f42, go_sem, finR, Fd.v, Fd.cs, y0, y1, y2, y3, y4, y5, y6]
end Go.Proofs.Ytnbhiamnoapmlaa
