/-
  Contract of law 16's known: the chapter's example.
-/
import Derived.Test.YtnnpbakgjcjbaaaFldM
namespace Go.Proofs.Ytnnpbakgjcjbaaa
open Go.RowKit Go.Shelf
set_option maxRecDepth 100000
attribute [local go_sem] Oper.semAt_some

theorem fall_not_nil (p q : Nat) (w : World) : (binOp .eql 31 (.func (.func 20) #[] #[.pointer (some ⟨p, 0, none⟩), .pointer (some ⟨q, 0, none⟩)]) .nilFunc).run Try.prog w = .ok (.bool false) w := by kernel_rfl
/-- what a list of names in a row tells -/
theorem names_at {base n : Nat} {tn : TypeId} {w : World} {u : Value} {l : List ByteArray} (h : w.ownsRow base tn 1 u l.length (l.map Value.string)) (hn : l.length = n) : ∃ A c, u = .slice A n c ∧ n ≤ c ∧ ∀ (j : Nat) (x : ByteArray), l[j]? = some x → ∃ g, A = some ⟨g, 0, none⟩ ∧ base ≤ g ∧ g < w.heap.size ∧ w.cell? ⟨g, j, none⟩ = some (.string x) := by
  subst hn
  have h1 := h.2
  rcases h1 with ⟨rfl, h0⟩ | ⟨g, cap, cur, rfl, hg, hh, hc, _⟩
  · have : l = [] := List.eq_nil_of_length_eq_zero h0
    subst this
    exact ⟨none, 0, rfl, Nat.le_refl _, fun j x hj => by simp at hj⟩
  · refine ⟨some ⟨g, 0, none⟩, cap, rfl, hc, fun j x hj => ⟨g, rfl, hg, (Array.getElem?_eq_some_iff.1 hh).1, ?_⟩⟩
    have := h.cells (g := g) rfl j (.string x) (by rw [List.getElem?_map, hj]; rfl)
    rwa [Addr.add_lit, Nat.zero_add] at this

set_option maxHeartbeats 4000000 in
theorem flknown_any (w : World) : Calls Try.prog 14 #[] w fun e w' => e = .returned (.bool true) ∧ Below w.heap.size w w' := by
  obtain ⟨i0, hi, hz, hz1, hz2⟩ := info_parts strInfo
  obtain ⟨w1, hw1⟩ : ∃ w1, w1 = w.alloc (.cells #[.slice none 0 0] 45) := ⟨_, rfl⟩
  have hs1 : w1.heap.size = w.heap.size + 1 := by rw [hw1]; simp
  have hb1 : Below w.heap.size w w1 := by rw [hw1]; exact (Below.refl _ w).alloc (Nat.le_refl _) _
  have p0 : w1.heap[w.heap.size]? = some (.cells #[.slice none 0 0] 45 (0, 0)) := by rw [hw1]; exact World.alloc_heap_new _ _
  have HW := Lib.hid hw1
  clear hw1
  refine (callsIn_wide (n := 9)).1 ?_
  refine callsIn_of_wp_marks Try.func14 rfl trivial ?_ rfl
  simp only [Try.ntmps14, List.size_toArray, List.length_nil, Nat.reduceSub, Array.replicate_succ, Array.replicate_zero, List.push_toArray, List.append_toArray, List.nil_append, List.cons_append]
  gi_wp2_with fail
  refine ⟨trivial, ?_⟩
  rw [← HW.out]
  refine (callsIn_wide.2 (fall_any 2 1 w1)).mono ?_
  rintro e w4 ⟨rfl, hg0, hg1, hb4⟩
  clear HW
  rw [hs1] at hg0 hg1 hb4
  have hs4 := (Array.getElem?_eq_some_iff.1 hg1).1
  have q0 := (hb4.block _ (by omega)).trans p0
  have hb04 := hb1.trans (hb4.mono (by omega))
  clear p0 hb4 hb1
  have hnn := fall_not_nil (w.heap.size + 1) (w.heap.size + 1 + 1)
  gi_wp2_with fail
  refine range_stopb rfl (by omega) (gf := 20) (lb := #[.pointer (some ⟨w.heap.size + 1, 0, none⟩), .pointer (some ⟨w.heap.size + 1 + 1, 0, none⟩)]) rfl trivial (enters_of Try.func20 (by kernel_rfl) rfl)
    (fun f : Fd => #[f.v]) (fun _ => rfl)
    (fun j f V => (FDv 2 1)[j]? = some f ∧ Nm 9 45 w.heap.size w4.heap.size w4 (((FDv 2 1).take j).map Fd.nm) V)
    (fun j f q V => ((FDv 2 1)[j]? = some f ∧ Nm 9 45 w.heap.size w4.heap.size w4 (((FDv 2 1).take j).map Fd.nm) V) ∧ w4.heap.size ≤ q ∧ V.heap[q]? = some (.cells f.cs 29 (0, 0)))
    (fun j V => Nm 9 45 w.heap.size w4.heap.size w4 (((FDv 2 1).take j).map Fd.nm) V)
    (fun cd V => False)
    (KeT 29 3 (w.heap.size + 1)) (FDv 2 1).length
    (fun j f q V l o o' h hl ho hc' => ⟨⟨h.1.1, h.1.2.putObj hl ho hc'⟩, h.2.1, (World.putObj_heap_other (fun e => by subst e; rw [h.2.2] at ho; injection ho with ho; subst ho; cases hc')).trans h.2.2⟩)
    (fun j V l o o' h hl ho hc' => h.putObj hl ho hc')
    (fun cd V l o o' h hl ho hc' => h)
    (fun _ _ _ h k => h.trans k) (fun V l o o' hl ho hc' => KeT.putObj ho hc')
    (fun o => Nm.start q0 _ _) ?round ?iter ?done ?stop
  case round =>
    rintro l j f V K ⟨hf, hN⟩ hj hK
    have HK := Lib.hid hK
    have hsz := hN.off.size
    clear hK
    unfold Fd.v Fd.cs
    gi_wp2_with fail
    refine HK.out _ V.heap.size _ ⟨⟨hf, hN.later ((Below.refl _ V).alloc (Nat.le_refl _) _)⟩, hsz, World.alloc_heap_new _ _⟩ ⟨by simp, fun q o _ ho _ => (Below.heap_alloc _ _ _ (Array.getElem?_eq_some_iff.1 ho).1).trans ho⟩ (KeT.of_below ((Below.refl _ V).alloc (Nat.le_refl _) _)) ?_
    clear HK hN
    rintro l V2 hl ⟨⟨_, hN⟩, hq, hc⟩
    obtain ⟨d0, d1, d2, d3, d4, d5, d6⟩ := fd_block hc
    obtain ⟨u, n, X, hu, hown, hn, hX⟩ := hN.box
    have hsz2 := hN.off.size
    have eu : V2.cell? ⟨w.heap.size, 0, none⟩ = some u := by simp [World.cell?, hu]
    have hlen : n ≤ 10 := by
      have h1 : (FDv 2 1).length ≤ 10 := by decide
      rw [hn, List.length_map, List.length_take]; omega
    have HS := Lib.hid (fun v' W4 h4 hgr => Nm.push (tf := 29) (ti := 3) (g := w.heap.size + 1) (s := w4.heap.size) (v' := v') (W4 := W4) (x := f.nm) (o := .cells #[.string f.nm] 9) (by omega) (Nat.le_refl _) (Nat.lt_succ_self _) (by decide) (by decide) hu hown hn hX hN.off h4 hgr)
    have HO := Lib.hid (own_below7 hown ((Below.refl _ V2).alloc (Nat.le_refl _) (.cells #[.string f.nm] 9)))
    clear hown hu hn hX hN hc
    gi_wp2_with (gi_at_builtin; refine wpListIn_append_own _ rfl (.tmp 11) (.tmp 14) 45 rfl w4.heap.size 9 i0 _ 1 16 Try.underlying45 hi hz hz1 hz2 rfl (by decide) _ _ _ rfl HO.out ⟨V2.heap.size, 0, none⟩ 1 1 [Value.string f.nm] rfl rfl (cell_one_new _ _ _) (by simp [Value.oneCell']) (by unfold maxLen; omega) (by omega) (by rw [World.size_alloc]; omega) ?_)
    intro v' W4 hown4 hgr4 _
    obtain ⟨gA, gn, gc, rfl⟩ : ∃ a b c, v' = .slice a b c := by
      rcases hown4.2 with ⟨rfl, _⟩ | ⟨_, _, _, rfl, _⟩ <;> exact ⟨_, _, _, rfl⟩
    obtain ⟨s1, s2, s3, s4⟩ := HS.out _ W4 hown4 hgr4
    have e1 : W4.cell? ⟨w.heap.size, 0, none⟩ = some u := by simp [World.cell?, s1]
    have e2 := frozen_of_row W4 w.heap.size 0 _ _ s1
    have HFin := Lib.hid (And.intro s3 (And.intro s2 s4))
    clear s1 s2 s3 s4 HS HO hown4 hgr4
    gi_wp2
    obtain ⟨f1, f2, f3⟩ := HFin.out
    refine ⟨f1, ?_, f3⟩
    rw [List.take_add_one, hf, List.map_append]
    exact f2
  case iter =>
    intro Bk X l V hBk hBlt hX hl hD hB hY
    exact fall_in 8 (by omega) 7 l (w.heap.size + 1) 2 1 (fun j V => Nm 9 45 w.heap.size w4.heap.size w4 (((FDv 2 1).take j).map Fd.nm) V ∧ Bk V) X
      (fun j A B h hb => ⟨h.1.later hb, hBk A _ h.2 hb.size (fun q h1 h2 => by have := hBlt A h.2; exact hb.block q (by omega))⟩)
      (fun j f W h hf => (hY j f W ⟨hf, h.1⟩ h.2 (List.getElem?_eq_some_iff.1 hf).1).mono (fun e W2 h => h.elim (fun h => .inl ⟨h.1, h.2.1, h.2.2.1⟩) (fun h => .inr ⟨h.1, h.2.1⟩)))
      V ((hD.off.block _ (by omega) (by omega)).trans hg0) ((hD.off.block _ (by omega) (by omega)).trans hg1) ⟨hD, hB⟩
  case done =>
    rintro D V hD hN hK
    rw [List.take_length] at hN
    obtain ⟨u, n, X, hu, hown, hn, hX⟩ := hN.box
    subst hn hX
    obtain ⟨A, c, rfl, hc2, hat⟩ := names_at hown rfl
    obtain ⟨g, rfl, hg, hglt, n0⟩ := hat 0 ⟨#[114, 111, 98, 111, 116]⟩ rfl
    obtain ⟨g', hg', _, _, n1⟩ := hat 1 ⟨#[114, 101, 97, 115, 111, 110]⟩ rfl
    obtain rfl : g = g' := by injection hg' with h; injection h
    rw [show (((FDv 2 1).map Fd.nm).length) = 2 from rfl] at hu hc2
    have hbV : Below w.heap.size w V := hb04.trans (hN.off.below (fun k hk => by omega) (by omega))
    have HF : Hid (fnd (FD 2) ⟨#[122, 111, 110, 101]⟩ = some ⟨⟨#[122, 111, 110, 101]⟩, 1, 2, 0, 4095, 2, 0⟩) := rfl
    have FI := ffind_any 2 ⟨#[122, 111, 110, 101]⟩
    rw [HF.out] at FI
    simp only [finR, Fd.v, Fd.cs, Option.getD_some, Option.isSome_some] at FI
    have eu : V.cell? ⟨w.heap.size, 0, none⟩ = some (.slice (some ⟨g, 0, none⟩) 2 c) := by simp [World.cell?, hu]
    have HB := Lib.hid hbV
    have hwV := hbV.size
    have hDV := (Array.getElem?_eq_some_iff.1 hK).1
    clear hg' hat hown hN hbV q0 hg0 hg1
    gi_wp2_with fail
    refine ⟨trivial, (callsIn_wide.2 (FI V)).mono ?_⟩
    rintro e V5 ⟨rfl, hb5⟩
    have eu5 : V5.cell? ⟨w.heap.size, 0, none⟩ = some (.slice (some ⟨g, 0, none⟩) 2 c) := (hb5.cell (p := ⟨w.heap.size, 0, none⟩) (by show w.heap.size < _; omega)).trans eu
    have n05 := (hb5.cell (p := ⟨g, 0, none⟩) hglt).trans n0
    have n15 := (hb5.cell (p := ⟨g, 1, none⟩) hglt).trans n1
    have hK5 := (hb5.block D hDV).trans hK
    have HB5 := Lib.hid (HB.out.trans (hb5.mono hwV))
    have hs5 := hb5.size
    have hl5 : w.heap.size < V5.heap.size := by omega
    have hg5 : g < V5.heap.size := by omega
    clear eu n0 n1 hK hb5 FI HB hu
    gi_wp2
    refine ⟨by simp, .inl ⟨_, _, rfl, run_takeDeferred ((Below.heap_alloc _ _ D (by omega)).trans hK5), ?_⟩⟩
    refine ⟨_, results_tmp rfl _ _ _, rfl, (HB5.out.alloc (by omega) _).trans (below_put _ _ (by omega))⟩
  case stop => exact fun _ _ _ _ h => h.elim
end Go.Proofs.Ytnnpbakgjcjbaaa
