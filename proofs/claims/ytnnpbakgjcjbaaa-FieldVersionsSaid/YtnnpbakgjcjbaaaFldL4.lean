/-
  The walk of the law FieldVersions: it returns true.
-/
import Derived.Test.YtnnpbakgjcjbaaaFldL1
namespace Go.Proofs.Ytnnpbakgjcjbaaa
open Go.RowKit Go.Shelf
set_option maxRecDepth 100000
attribute [local go_sem] Oper.semAt_some

/-- names that lie in a row, their list in a box -/
structure Ns (ts : TypeId) (B lo n : Nat) (l : List ByteArray) (A : Option Addr) (c : Nat) (V : World) : Prop where
  box : Boxed V B ts (.slice A n c)
  len : l.length = n
  room : n ≤ c
  names : ∀ (j : Nat) (x : ByteArray), l[j]? = some x → ∃ g, A = some ⟨g, 0, none⟩ ∧ lo ≤ g ∧ g < V.heap.size ∧ V.cell? ⟨g, j, none⟩ = some (.string x)
theorem Ns.off {ts : TypeId} {B lo n c : Nat} {l : List ByteArray} {A : Option Addr} {V W : World} {S : Nat → Prop} (h : Ns ts B lo n l A c V) (ho : Off S V W) (hB : ¬ S B) (hS : ∀ k, lo ≤ k → ¬ S k) : Ns ts B lo n l A c W :=
  ⟨(ho.block _ h.box.lt hB).trans h.box, h.len, h.room, fun j x hj => by
    obtain ⟨g, h1, h2, h3, h4⟩ := h.names j x hj
    exact ⟨g, h1, h2, Nat.lt_of_lt_of_le h3 ho.size, ho.cell h4 (hS g h2)⟩⟩
theorem Nm.done {tn ts : TypeId} {B base lo n : Nat} {w4 V : World} {l : List ByteArray} (h : Nm tn ts B base w4 l V) (hn : l.length = n) (hlo : lo ≤ base) : ∃ A c, Ns ts B lo n l A c V := by
  obtain ⟨u, m, X, h1, h2, rfl, rfl⟩ := h.box
  obtain ⟨A, c, rfl, hc, hat⟩ := names_at h2 hn
  refine ⟨A, c, h1, hn, hc, fun j x hj => ?_⟩
  obtain ⟨g, a1, a2, a3, a4⟩ := hat j x hj
  exact ⟨g, a1, by omega, a3, a4⟩
theorem FDv_big {k v : Int} (hv : 2 ≤ v) : FDv k v = FD k := List.filter_eq_self.2 fun f hf => by
  have := (FD_all k f hf).1
  simp
  omega
theorem FDv_one (k : Int) : ∀ f ∈ FDv k 1, f.si = 1 := fun f hf => by
  unfold FDv at hf
  rw [List.mem_filter] at hf
  have h1 := (FD_all k f hf.1).1
  have h2 : f.si ≤ 1 := by simpa using hf.2
  omega
theorem FDv_one_len {k : Int} (h1 : 1 ≤ k) (h5 : k ≤ 5) : 2 ≤ (FDv k 1).length ∧ (FDv k 1).length ≤ 6 := by
  obtain rfl | rfl | rfl | rfl | rfl : k = 1 ∨ k = 2 ∨ k = 3 ∨ k = 4 ∨ k = 5 := by omega
  all_goals decide
theorem later_of (x : Int) : ∃ K, wrap64 (2 + wrap64 ((IntKind.u64.wrap x).tmod 1000)) = K ∧ 2 ≤ K ∧ K ≤ 1001 := by
  have h0 : IntKind.u64.wrap x = x % 18446744073709551616 := by
    simp [IntKind.wrap, IntKind.bits, IntKind.signed]
  refine ⟨_, rfl, ?_⟩
  rw [h0, Int.tmod_eq_emod_of_nonneg (Int.emod_nonneg _ (by decide))]
  unfold wrap64
  omega

set_option maxHeartbeats 8000000 in
theorem vers_go (kind later : Int) (w : World) : Calls Try.prog 6 #[.int .i64 kind, .int .i64 later] w fun e w' => e = .returned (.bool true) ∧ Below w.heap.size w w' := by
  obtain ⟨i0, hi, hz, hz1, hz2⟩ := info_parts strInfo
  obtain ⟨K, hK, hK1, hK5⟩ := kind_of kind
  obtain ⟨LT, hLT, hLT2, _⟩ := later_of later
  have HSI := Lib.hid (FDv_one K)
  obtain ⟨h12, h16⟩ := FDv_one_len hK1 hK5
  have H1L := Lib.hid h16
  have H12 := Lib.hid h12
  obtain ⟨L, hL⟩ : ∃ L, FD K = L := ⟨_, rfl⟩
  have HF2 := Lib.hid (FDv_big (k := K) (v := 2) (Int.le_refl _))
  have HF3 := Lib.hid (FDv_big (k := K) hLT2)
  have HFV : Hid (FDv K 1 = (FD K).filter fun f => decide (f.si ≤ 1)) := rfl
  have hL6 := (FD_first hK1 hK5).2.1
  have HOK := Lib.hid (FD_ok K)
  have HALL := Lib.hid (FD_all K)
  have HFI := Lib.hid (ffind_any K)
  rw [hL] at HF2 HF3 HFV hL6 HOK HALL HFI
  have HL6 := Lib.hid hL6
  obtain ⟨n, hn⟩ : ∃ n, L.length = n := ⟨_, rfl⟩
  rw [hn] at hL6
  have HN := Lib.hid hn
  obtain ⟨m, hm⟩ : ∃ m, (FDv K 1).length = m := ⟨_, rfl⟩
  rw [hm] at h12 h16
  have HM := Lib.hid hm
  clear hn hL hm
  refine (callsIn_wide (n := 9)).1 ?_
  refine callsIn_of_wp_marks Try.func6 rfl trivial ?_ rfl
  simp only [Try.ntmps6, List.size_toArray, List.length_cons, List.length_nil, Nat.reduceAdd, Nat.reduceSub, Array.replicate_succ, Array.replicate_zero, List.push_toArray, List.append_toArray, List.nil_append, List.cons_append]
  gi_wp2_with fail
  rw [hK, hLT]
  obtain ⟨w5, hw5⟩ : ∃ w5, (((w.alloc (.cells #[.bool false] 4)).alloc (.cells #[.slice none 0 0] 45)).alloc (.cells #[.slice none 0 0] 45)).alloc (.cells #[.slice none 0 0] 45) = w5 := ⟨_, rfl⟩
  rw [hw5]
  have hs5 : w5.heap.size = w.heap.size + 4 := by rw [← hw5]; simp
  have bw5 : Below w.heap.size w w5 := by rw [← hw5]; exact ((((Below.refl _ w).alloc (Nat.le_refl _) _).alloc (by simp) _).alloc (by simp; omega) _).alloc (by simp; omega) _
  have rw5 : Boxed w5 w.heap.size 4 (.bool false) := by
    rw [← hw5]; exact (Below.heap_alloc _ _ _ (by simp; omega)).trans ((Below.heap_alloc _ _ _ (by simp; omega)).trans ((Below.heap_alloc _ _ _ (by simp)).trans (World.alloc_heap_new _ _)))
  have z1w5 : Boxed w5 (w.heap.size + 1) 45 (.slice none 0 0) := by
    rw [← hw5]
    have := World.alloc_heap_new (w.alloc (.cells #[.bool false] 4)) (.cells #[.slice none 0 0] 45)
    rw [World.size_alloc] at this
    exact (Below.heap_alloc _ _ _ (by simp)).trans ((Below.heap_alloc _ _ _ (by simp)).trans this)
  have z2w5 : Boxed w5 (w.heap.size + 1 + 1) 45 (.slice none 0 0) := by
    rw [← hw5]
    have := World.alloc_heap_new ((w.alloc (.cells #[.bool false] 4)).alloc (.cells #[.slice none 0 0] 45)) (.cells #[.slice none 0 0] 45)
    rw [World.size_alloc, World.size_alloc] at this
    exact (Below.heap_alloc _ _ _ (by simp)).trans this
  have z3w5 : Boxed w5 (w.heap.size + 1 + 1 + 1) 45 (.slice none 0 0) := by
    rw [← hw5]
    have := World.alloc_heap_new (((w.alloc (.cells #[.bool false] 4)).alloc (.cells #[.slice none 0 0] 45)).alloc (.cells #[.slice none 0 0] 45)) (.cells #[.slice none 0 0] 45)
    rw [World.size_alloc, World.size_alloc, World.size_alloc] at this
    exact this
  clear hw5 hK hLT
  refine ⟨trivial, (callsIn_wide.2 (fall_any K 1 w5)).mono ?_⟩
  rintro e X1 ⟨rfl, hg01, hg11, hbx1⟩
  have hsw1 := hbx1.size
  have z1X1 : Boxed X1 (w.heap.size + 1) 45 (.slice none 0 0) := (hbx1.block _ z1w5.lt).trans z1w5
  have z2X1 : Boxed X1 (w.heap.size + 1 + 1) 45 (.slice none 0 0) := (hbx1.block _ z2w5.lt).trans z2w5
  have z3X1 : Boxed X1 (w.heap.size + 1 + 1 + 1) 45 (.slice none 0 0) := (hbx1.block _ z3w5.lt).trans z3w5
  have rX1 : Boxed X1 w.heap.size 4 (.bool false) := (hbx1.block _ rw5.lt).trans rw5
  have bX1 : Below w.heap.size w X1 := bw5.trans (hbx1.mono bw5.size)
  have lz1 := z1w5.lt
  obtain ⟨g1, hg1⟩ : ∃ g1, w5.heap.size = g1 := ⟨_, rfl⟩
  rw [hg1] at hg01 hg11 hsw1 lz1 ⊢
  have hgs1 := (Array.getElem?_eq_some_iff.1 hg11).1
  have hnn1 := fall_not_nil g1 (g1 + 1)
  clear hbx1 z1w5 z2w5 z3w5 rw5 bw5  hg1
  gi_wp2_with fail
  refine range_stopb rfl (by omega) (gf := 20) (lb := #[.pointer (some ⟨g1, 0, none⟩), .pointer (some ⟨g1 + 1, 0, none⟩)]) rfl trivial (enters_of Try.func20 (by kernel_rfl) rfl)
    (fun f : Fd => #[f.v]) (fun _ => rfl)
    (fun j f V => (FDv K 1)[j]? = some f ∧ Nm 9 45 (w.heap.size + 1) X1.heap.size X1 ((((FDv K 1).take j).map Fd.nm)) V)
    (fun j f q V => ((FDv K 1)[j]? = some f ∧ Nm 9 45 (w.heap.size + 1) X1.heap.size X1 ((((FDv K 1).take j).map Fd.nm)) V) ∧ X1.heap.size ≤ q ∧ V.heap[q]? = some (.cells f.cs 29 (0, 0)))
    (fun j V => Nm 9 45 (w.heap.size + 1) X1.heap.size X1 ((((FDv K 1).take j).map Fd.nm)) V)
    (fun _ _ => False)
    (KeT 29 3 g1) (FDv K 1).length
    (fun j f q V l o o' h hl ho hc' => ⟨⟨h.1.1, h.1.2.putObj hl ho hc'⟩, h.2.1, (World.putObj_heap_other (fun e => by subst e; rw [h.2.2] at ho; injection ho with ho; subst ho; cases hc')).trans h.2.2⟩)
    (fun j V l o o' h hl ho hc' => h.putObj hl ho hc')
    (fun _ _ _ _ _ h _ _ _ => h)
    (fun _ _ _ h k => h.trans k) (fun V l o o' hl ho hc' => KeT.putObj ho hc')
    (fun o => Nm.start z1X1 _ _) ?round1 ?iter1 ?done1 ?stop1
  case round1 =>
    rintro l j f V KK ⟨hf, hN⟩ hj hK
    have HK := Lib.hid hK
    have hsz := hN.off.size
    clear hK
    unfold Fd.v Fd.cs
    gi_wp2_with fail
    refine HK.out _ V.heap.size _ ⟨⟨hf, hN.later ((Below.refl _ V).alloc (Nat.le_refl _) _)⟩, hsz, World.alloc_heap_new _ _⟩ ⟨by simp, fun q o _ ho _ => (Below.heap_alloc _ _ _ (Array.getElem?_eq_some_iff.1 ho).1).trans ho⟩ (KeT.of_below ((Below.refl _ V).alloc (Nat.le_refl _) _)) ?_
    clear HK hN
    rintro l V2 hl ⟨⟨_, hN⟩, hq, hc⟩
    obtain ⟨d0, d1, d2, d3, d4, d5, d6⟩ := fd_block hc
    have hqlt := (Array.getElem?_eq_some_iff.1 hc).1
    obtain ⟨u, n, X, hu, hown, hn, hX⟩ := hN.box
    have hsz2 := hN.off.size
    have eu : V2.cell? ⟨w.heap.size + 1, 0, none⟩ = some u := by simp [World.cell?, hu]
    have hlen : n ≤ 10 := by
      rw [hn, List.length_map, List.length_take]
      have := H1L.out
      omega
    have HS := Lib.hid (fun v' W4 h4 hgr => Nm.push (tf := 29) (ti := 3) (g := g1) (s := X1.heap.size) (v' := v') (W4 := W4) (x := f.nm) (o := .cells #[.string f.nm] 9) (by omega) (Nat.le_refl _) lz1 (by decide) (by decide) hu hown hn hX hN.off h4 hgr)
    have HO := Lib.hid (own_below7 hown ((Below.refl _ V2).alloc (Nat.le_refl _) (.cells #[.string f.nm] 9)))
    have HC := Lib.hid hc
    clear hown hu hn hX hN hc
    gi_wp2_with (gi_at_builtin; refine wpListIn_append_own _ rfl (.tmp 35) (.tmp 38) 45 rfl X1.heap.size 9 i0 _ 1 16 Try.underlying45 hi hz hz1 hz2 rfl (by decide) _ _ _ rfl HO.out ⟨V2.heap.size, 0, none⟩ 1 1 [Value.string f.nm] rfl rfl (cell_one_new _ _ _) (by simp [Value.oneCell']) (by unfold maxLen; omega) (by omega) (by rw [World.size_alloc]; omega) ?_)
    intro v' W4 hown4 hgr4 _
    obtain ⟨gA, gn, gc, rfl⟩ : ∃ a b c, v' = .slice a b c := by
      rcases hown4.2 with ⟨rfl, _⟩ | ⟨_, _, _, rfl, _⟩ <;> exact ⟨_, _, _, rfl⟩
    obtain ⟨s1, s2, s3, s4⟩ := HS.out _ W4 hown4 hgr4
    have e1 : W4.cell? ⟨w.heap.size + 1, 0, none⟩ = some u := by simp [World.cell?, s1]
    have e2 := frozen_of_row W4 (w.heap.size + 1) 0 _ _ s1
    have hsi : f.si = 1 := HSI.out f (List.mem_of_getElem? hf)
    obtain ⟨_, _, _, _, _, d5', _⟩ := fd_block (s4.block (by omega) (.inl rfl) HC.out)
    rw [hsi] at d5'
    have HFin := Lib.hid (And.intro s3 (And.intro s2 s4))
    clear s1 s2 s3 s4 HS HO hown4 hgr4
    gi_wp2
    obtain ⟨f1, f2, f3⟩ := HFin.out
    refine ⟨f1, ?_, f3⟩
    rw [List.take_add_one, hf, List.map_append]
    exact f2
  case iter1 =>
    intro Bk X l V hBk hBlt hX hl hD hB hY
    have h := fall_in 8 (by omega) 7 l g1 K 1 (fun j V => Nm 9 45 (w.heap.size + 1) X1.heap.size X1 ((((FDv K 1).take j).map Fd.nm)) V ∧ Bk V) X
      (fun j A B h hb => ⟨h.1.later hb, hBk A _ h.2 hb.size (fun q h1 h2 => by have := hBlt A h.2; exact hb.block q (by omega))⟩)
      (fun j f W h hf => (hY j f W ⟨hf, h.1⟩ h.2 (List.getElem?_eq_some_iff.1 hf).1).mono (fun e W2 h => h.elim (fun h => .inl ⟨h.1, h.2.1, h.2.2.1⟩) (fun h => .inr ⟨h.1, h.2.1⟩)))
      V ((hD.off.block _ (by omega) (by omega)).trans hg01) ((hD.off.block _ (by omega) (by omega)).trans hg11) ⟨hD, hB⟩
    exact h
  case stop1 => exact fun _ _ _ _ h => h.elim
  case done1 =>
    rintro D1 Y1 hD1 hN hK1
    rw [List.take_length] at hN
    obtain ⟨A1, c1, n1Y1⟩ := hN.done (show ((FDv K 1).map Fd.nm).length = m by rw [List.length_map]; exact HM.out) (lo := w.heap.size + 4) (by omega)
    have hO1 := hN.off
    have hsY1 := hO1.size
    have rY1 : Boxed Y1 w.heap.size 4 (.bool false) := (hO1.block _ rX1.lt (by omega)).trans rX1
    have bY1 : Below w.heap.size w Y1 := bX1.trans (hO1.below (B := w.heap.size) (fun k hk => by omega) bX1.size)
    have z2Y1 : Boxed Y1 (w.heap.size + 1 + 1) 45 (.slice none 0 0) := (hO1.block _ z2X1.lt (by omega)).trans z2X1
    have z3Y1 : Boxed Y1 (w.heap.size + 1 + 1 + 1) 45 (.slice none 0 0) := (hO1.block _ z3X1.lt (by omega)).trans z3X1
    have k1Y1 := hK1
    have hdw1 : w.heap.size + 4 ≤ D1 := by omega
    clear hN hO1 hK1 rX1 bX1 z1X1 z2X1 z3X1  hnn1 hg01 hg11
    gi_wp2_with fail
    refine ⟨trivial, (callsIn_wide.2 (fall_any K 2 Y1)).mono ?_⟩
    rintro e X2 ⟨rfl, hg02, hg12, hbx2⟩
    have hsw2 := hbx2.size
    have z2X2 : Boxed X2 (w.heap.size + 1 + 1) 45 (.slice none 0 0) := (hbx2.block _ z2Y1.lt).trans z2Y1
    have z3X2 : Boxed X2 (w.heap.size + 1 + 1 + 1) 45 (.slice none 0 0) := (hbx2.block _ z3Y1.lt).trans z3Y1
    have rX2 : Boxed X2 w.heap.size 4 (.bool false) := (hbx2.block _ rY1.lt).trans rY1
    have bX2 : Below w.heap.size w X2 := bY1.trans (hbx2.mono bY1.size)
    have n1X2 := n1Y1.off (Off.of_below (S := fun _ => False) hbx2) (fun h => h) (fun _ _ h => h)
    have k1X2 := (hbx2.block _ (Array.getElem?_eq_some_iff.1 k1Y1).1).trans k1Y1
    have hlt1X2 := (Array.getElem?_eq_some_iff.1 k1X2).1
    have lz2 := z2Y1.lt
    obtain ⟨g2, hg2⟩ : ∃ g2, Y1.heap.size = g2 := ⟨_, rfl⟩
    rw [hg2] at hg02 hg12 hsw2 lz2 ⊢
    have hgs2 := (Array.getElem?_eq_some_iff.1 hg12).1
    have hnn2 := fall_not_nil g2 (g2 + 1)
    clear hbx2 z2Y1 z3Y1 rY1 bY1 n1Y1 k1Y1 hg2
    gi_wp2_with fail
    refine range_stopb rfl (by omega) (gf := 20) (lb := #[.pointer (some ⟨g2, 0, none⟩), .pointer (some ⟨g2 + 1, 0, none⟩)]) rfl trivial (enters_of Try.func20 (by kernel_rfl) rfl)
      (fun f : Fd => #[f.v]) (fun _ => rfl)
      (fun j f V => L[j]? = some f ∧ Nm 9 45 (w.heap.size + 1 + 1) X2.heap.size X2 (((L.take j).map Fd.nm)) V)
      (fun j f q V => (L[j]? = some f ∧ Nm 9 45 (w.heap.size + 1 + 1) X2.heap.size X2 (((L.take j).map Fd.nm)) V) ∧ X2.heap.size ≤ q ∧ V.heap[q]? = some (.cells f.cs 29 (0, 0)))
      (fun j V => Nm 9 45 (w.heap.size + 1 + 1) X2.heap.size X2 (((L.take j).map Fd.nm)) V)
      (fun _ _ => False)
      (KeT 29 3 g2) L.length
      (fun j f q V l o o' h hl ho hc' => ⟨⟨h.1.1, h.1.2.putObj hl ho hc'⟩, h.2.1, (World.putObj_heap_other (fun e => by subst e; rw [h.2.2] at ho; injection ho with ho; subst ho; cases hc')).trans h.2.2⟩)
      (fun j V l o o' h hl ho hc' => h.putObj hl ho hc')
      (fun _ _ _ _ _ h _ _ _ => h)
      (fun _ _ _ h k => h.trans k) (fun V l o o' hl ho hc' => KeT.putObj ho hc')
      (fun o => Nm.start z2X2 _ _) ?round2 ?iter2 ?done2 ?stop2
    case round2 =>
      rintro l j f V KK ⟨hf, hN⟩ hj hK
      have HK := Lib.hid hK
      have hsz := hN.off.size
      clear hK
      unfold Fd.v Fd.cs
      gi_wp2_with fail
      refine HK.out _ V.heap.size _ ⟨⟨hf, hN.later ((Below.refl _ V).alloc (Nat.le_refl _) _)⟩, hsz, World.alloc_heap_new _ _⟩ ⟨by simp, fun q o _ ho _ => (Below.heap_alloc _ _ _ (Array.getElem?_eq_some_iff.1 ho).1).trans ho⟩ (KeT.of_below ((Below.refl _ V).alloc (Nat.le_refl _) _)) ?_
      clear HK hN
      rintro l V2 hl ⟨⟨_, hN⟩, hq, hc⟩
      obtain ⟨d0, d1, d2, d3, d4, d5, d6⟩ := fd_block hc
      have hqlt := (Array.getElem?_eq_some_iff.1 hc).1
      obtain ⟨u, n, X, hu, hown, hn, hX⟩ := hN.box
      have hsz2 := hN.off.size
      have eu : V2.cell? ⟨w.heap.size + 1 + 1, 0, none⟩ = some u := by simp [World.cell?, hu]
      have hlen : n ≤ 10 := by
        rw [hn, List.length_map, List.length_take]
        have := HL6.out
        omega
      have HS := Lib.hid (fun v' W4 h4 hgr => Nm.push (tf := 29) (ti := 3) (g := g2) (s := X2.heap.size) (v' := v') (W4 := W4) (x := f.nm) (o := .cells #[.string f.nm] 9) (by omega) (Nat.le_refl _) lz2 (by decide) (by decide) hu hown hn hX hN.off h4 hgr)
      have HO := Lib.hid (own_below7 hown ((Below.refl _ V2).alloc (Nat.le_refl _) (.cells #[.string f.nm] 9)))
      have HC := Lib.hid hc
      clear hown hu hn hX hN hc
      gi_wp2_with (gi_at_builtin; refine wpListIn_append_own _ rfl (.tmp 49) (.tmp 52) 45 rfl X2.heap.size 9 i0 _ 1 16 Try.underlying45 hi hz hz1 hz2 rfl (by decide) _ _ _ rfl HO.out ⟨V2.heap.size, 0, none⟩ 1 1 [Value.string f.nm] rfl rfl (cell_one_new _ _ _) (by simp [Value.oneCell']) (by unfold maxLen; omega) (by omega) (by rw [World.size_alloc]; omega) ?_)
      intro v' W4 hown4 hgr4 _
      obtain ⟨gA, gn, gc, rfl⟩ : ∃ a b c, v' = .slice a b c := by
        rcases hown4.2 with ⟨rfl, _⟩ | ⟨_, _, _, rfl, _⟩ <;> exact ⟨_, _, _, rfl⟩
      obtain ⟨s1, s2, s3, s4⟩ := HS.out _ W4 hown4 hgr4
      have e1 : W4.cell? ⟨w.heap.size + 1 + 1, 0, none⟩ = some u := by simp [World.cell?, s1]
      have e2 := frozen_of_row W4 (w.heap.size + 1 + 1) 0 _ _ s1
      have HFin := Lib.hid (And.intro s3 (And.intro s2 s4))
      clear s1 s2 s3 s4 HS HO hown4 hgr4
      gi_wp2
      obtain ⟨f1, f2, f3⟩ := HFin.out
      refine ⟨f1, ?_, f3⟩
      rw [List.take_add_one, hf, List.map_append]
      exact f2
    case iter2 =>
      intro Bk X l V hBk hBlt hX hl hD hB hY
      have h := fall_in 8 (by omega) 7 l g2 K 2 (fun j V => Nm 9 45 (w.heap.size + 1 + 1) X2.heap.size X2 (((L.take j).map Fd.nm)) V ∧ Bk V) X
        (fun j A B h hb => ⟨h.1.later hb, hBk A _ h.2 hb.size (fun q h1 h2 => by have := hBlt A h.2; exact hb.block q (by omega))⟩)
        (fun j f W h hf => (hY j f W ⟨by rw [← HF2.out]; exact hf, h.1⟩ h.2 (List.getElem?_eq_some_iff.1 (show L[j]? = some f by rw [← HF2.out]; exact hf)).1).mono (fun e W2 h => h.elim (fun h => .inl ⟨h.1, h.2.1, h.2.2.1⟩) (fun h => .inr ⟨h.1, h.2.1⟩)))
        V ((hD.off.block _ (by omega) (by omega)).trans hg02) ((hD.off.block _ (by omega) (by omega)).trans hg12) ⟨hD, hB⟩
      rw [HF2.out] at h
      exact h
    case stop2 => exact fun _ _ _ _ h => h.elim
    case done2 =>
      rintro D2 Y2 hD2 hN hK2
      rw [List.take_length] at hN
      obtain ⟨A2, c2, n2Y2⟩ := hN.done (show (L.map Fd.nm).length = n by rw [List.length_map]; exact HN.out) (lo := w.heap.size + 4) (by omega)
      have hO2 := hN.off
      have hsY2 := hO2.size
      have rY2 : Boxed Y2 w.heap.size 4 (.bool false) := (hO2.block _ rX2.lt (by omega)).trans rX2
      have bY2 : Below w.heap.size w Y2 := bX2.trans (hO2.below (B := w.heap.size) (fun k hk => by omega) bX2.size)
      have z3Y2 : Boxed Y2 (w.heap.size + 1 + 1 + 1) 45 (.slice none 0 0) := (hO2.block _ z3X2.lt (by omega)).trans z3X2
      have n1Y2 := n1X2.off hO2 (by omega) (fun k hk => by omega)
      have k1Y2 := (hO2.block _ (Array.getElem?_eq_some_iff.1 k1X2).1 (by omega)).trans k1X2
      have k2Y2 := hK2
      have hdw2 : w.heap.size + 4 ≤ D2 := by omega
      clear hN hO2 hK2 rX2 bX2 z2X2 z3X2 n1X2 k1X2 hnn2 hg02 hg12
      gi_wp2_with fail
      refine ⟨trivial, (callsIn_wide.2 (fall_any K LT Y2)).mono ?_⟩
      rintro e X3 ⟨rfl, hg03, hg13, hbx3⟩
      have hsw3 := hbx3.size
      have z3X3 : Boxed X3 (w.heap.size + 1 + 1 + 1) 45 (.slice none 0 0) := (hbx3.block _ z3Y2.lt).trans z3Y2
      have rX3 : Boxed X3 w.heap.size 4 (.bool false) := (hbx3.block _ rY2.lt).trans rY2
      have bX3 : Below w.heap.size w X3 := bY2.trans (hbx3.mono bY2.size)
      have n1X3 := n1Y2.off (Off.of_below (S := fun _ => False) hbx3) (fun h => h) (fun _ _ h => h)
      have k1X3 := (hbx3.block _ (Array.getElem?_eq_some_iff.1 k1Y2).1).trans k1Y2
      have hlt1X3 := (Array.getElem?_eq_some_iff.1 k1X3).1
      have n2X3 := n2Y2.off (Off.of_below (S := fun _ => False) hbx3) (fun h => h) (fun _ _ h => h)
      have k2X3 := (hbx3.block _ (Array.getElem?_eq_some_iff.1 k2Y2).1).trans k2Y2
      have hlt2X3 := (Array.getElem?_eq_some_iff.1 k2X3).1
      have lz3 := z3Y2.lt
      obtain ⟨g3, hg3⟩ : ∃ g3, Y2.heap.size = g3 := ⟨_, rfl⟩
      rw [hg3] at hg03 hg13 hsw3 lz3 ⊢
      have hgs3 := (Array.getElem?_eq_some_iff.1 hg13).1
      have hnn3 := fall_not_nil g3 (g3 + 1)
      clear hbx3 z3Y2 rY2 bY2 n1Y2 k1Y2 n2Y2 k2Y2 hg3
      gi_wp2_with fail
      refine range_stopb rfl (by omega) (gf := 20) (lb := #[.pointer (some ⟨g3, 0, none⟩), .pointer (some ⟨g3 + 1, 0, none⟩)]) rfl trivial (enters_of Try.func20 (by kernel_rfl) rfl)
        (fun f : Fd => #[f.v]) (fun _ => rfl)
        (fun j f V => L[j]? = some f ∧ Nm 9 45 (w.heap.size + 1 + 1 + 1) X3.heap.size X3 (((L.take j).map Fd.nm)) V)
        (fun j f q V => (L[j]? = some f ∧ Nm 9 45 (w.heap.size + 1 + 1 + 1) X3.heap.size X3 (((L.take j).map Fd.nm)) V) ∧ X3.heap.size ≤ q ∧ V.heap[q]? = some (.cells f.cs 29 (0, 0)))
        (fun j V => Nm 9 45 (w.heap.size + 1 + 1 + 1) X3.heap.size X3 (((L.take j).map Fd.nm)) V)
        (fun _ _ => False)
        (KeT 29 3 g3) L.length
        (fun j f q V l o o' h hl ho hc' => ⟨⟨h.1.1, h.1.2.putObj hl ho hc'⟩, h.2.1, (World.putObj_heap_other (fun e => by subst e; rw [h.2.2] at ho; injection ho with ho; subst ho; cases hc')).trans h.2.2⟩)
        (fun j V l o o' h hl ho hc' => h.putObj hl ho hc')
        (fun _ _ _ _ _ h _ _ _ => h)
        (fun _ _ _ h k => h.trans k) (fun V l o o' hl ho hc' => KeT.putObj ho hc')
        (fun o => Nm.start z3X3 _ _) ?round3 ?iter3 ?done3 ?stop3
      case round3 =>
        rintro l j f V KK ⟨hf, hN⟩ hj hK
        have HK := Lib.hid hK
        have hsz := hN.off.size
        clear hK
        unfold Fd.v Fd.cs
        gi_wp2_with fail
        refine HK.out _ V.heap.size _ ⟨⟨hf, hN.later ((Below.refl _ V).alloc (Nat.le_refl _) _)⟩, hsz, World.alloc_heap_new _ _⟩ ⟨by simp, fun q o _ ho _ => (Below.heap_alloc _ _ _ (Array.getElem?_eq_some_iff.1 ho).1).trans ho⟩ (KeT.of_below ((Below.refl _ V).alloc (Nat.le_refl _) _)) ?_
        clear HK hN
        rintro l V2 hl ⟨⟨_, hN⟩, hq, hc⟩
        obtain ⟨d0, d1, d2, d3, d4, d5, d6⟩ := fd_block hc
        have hqlt := (Array.getElem?_eq_some_iff.1 hc).1
        obtain ⟨u, n, X, hu, hown, hn, hX⟩ := hN.box
        have hsz2 := hN.off.size
        have eu : V2.cell? ⟨w.heap.size + 1 + 1 + 1, 0, none⟩ = some u := by simp [World.cell?, hu]
        have hlen : n ≤ 10 := by
          rw [hn, List.length_map, List.length_take]
          have := HL6.out
          omega
        have HS := Lib.hid (fun v' W4 h4 hgr => Nm.push (tf := 29) (ti := 3) (g := g3) (s := X3.heap.size) (v' := v') (W4 := W4) (x := f.nm) (o := .cells #[.string f.nm] 9) (by omega) (Nat.le_refl _) lz3 (by decide) (by decide) hu hown hn hX hN.off h4 hgr)
        have HO := Lib.hid (own_below7 hown ((Below.refl _ V2).alloc (Nat.le_refl _) (.cells #[.string f.nm] 9)))
        have HC := Lib.hid hc
        clear hown hu hn hX hN hc
        gi_wp2_with (gi_at_builtin; refine wpListIn_append_own _ rfl (.tmp 61) (.tmp 64) 45 rfl X3.heap.size 9 i0 _ 1 16 Try.underlying45 hi hz hz1 hz2 rfl (by decide) _ _ _ rfl HO.out ⟨V2.heap.size, 0, none⟩ 1 1 [Value.string f.nm] rfl rfl (cell_one_new _ _ _) (by simp [Value.oneCell']) (by unfold maxLen; omega) (by omega) (by rw [World.size_alloc]; omega) ?_)
        intro v' W4 hown4 hgr4 _
        obtain ⟨gA, gn, gc, rfl⟩ : ∃ a b c, v' = .slice a b c := by
          rcases hown4.2 with ⟨rfl, _⟩ | ⟨_, _, _, rfl, _⟩ <;> exact ⟨_, _, _, rfl⟩
        obtain ⟨s1, s2, s3, s4⟩ := HS.out _ W4 hown4 hgr4
        have e1 : W4.cell? ⟨w.heap.size + 1 + 1 + 1, 0, none⟩ = some u := by simp [World.cell?, s1]
        have e2 := frozen_of_row W4 (w.heap.size + 1 + 1 + 1) 0 _ _ s1
        have HFin := Lib.hid (And.intro s3 (And.intro s2 s4))
        clear s1 s2 s3 s4 HS HO hown4 hgr4
        gi_wp2
        obtain ⟨f1, f2, f3⟩ := HFin.out
        refine ⟨f1, ?_, f3⟩
        rw [List.take_add_one, hf, List.map_append]
        exact f2
      case iter3 =>
        intro Bk X l V hBk hBlt hX hl hD hB hY
        have h := fall_in 8 (by omega) 7 l g3 K LT (fun j V => Nm 9 45 (w.heap.size + 1 + 1 + 1) X3.heap.size X3 (((L.take j).map Fd.nm)) V ∧ Bk V) X
          (fun j A B h hb => ⟨h.1.later hb, hBk A _ h.2 hb.size (fun q h1 h2 => by have := hBlt A h.2; exact hb.block q (by omega))⟩)
          (fun j f W h hf => (hY j f W ⟨by rw [← HF3.out]; exact hf, h.1⟩ h.2 (List.getElem?_eq_some_iff.1 (show L[j]? = some f by rw [← HF3.out]; exact hf)).1).mono (fun e W2 h => h.elim (fun h => .inl ⟨h.1, h.2.1, h.2.2.1⟩) (fun h => .inr ⟨h.1, h.2.1⟩)))
          V ((hD.off.block _ (by omega) (by omega)).trans hg03) ((hD.off.block _ (by omega) (by omega)).trans hg13) ⟨hD, hB⟩
        rw [HF3.out] at h
        exact h
      case stop3 => exact fun _ _ _ _ h => h.elim
      case done3 =>
        rintro D3 Y3 hD3 hN hK3
        rw [List.take_length] at hN
        obtain ⟨A3, c3, n3Y3⟩ := hN.done (show (L.map Fd.nm).length = n by rw [List.length_map]; exact HN.out) (lo := w.heap.size + 4) (by omega)
        have hO3 := hN.off
        have hsY3 := hO3.size
        have rY3 : Boxed Y3 w.heap.size 4 (.bool false) := (hO3.block _ rX3.lt (by omega)).trans rX3
        have bY3 : Below w.heap.size w Y3 := bX3.trans (hO3.below (B := w.heap.size) (fun k hk => by omega) bX3.size)
        have n1Y3 := n1X3.off hO3 (by omega) (fun k hk => by omega)
        have k1Y3 := (hO3.block _ (Array.getElem?_eq_some_iff.1 k1X3).1 (by omega)).trans k1X3
        have n2Y3 := n2X3.off hO3 (by omega) (fun k hk => by omega)
        have k2Y3 := (hO3.block _ (Array.getElem?_eq_some_iff.1 k2X3).1 (by omega)).trans k2X3
        have k3Y3 := hK3
        have hdw3 : w.heap.size + 4 ≤ D3 := by omega
        clear hN hO3 hK3 rX3 bX3 z3X3 n1X3 k1X3 n2X3 k2X3 hnn3 hg03 hg13
        gi_wp2_with fail
        gi_loopw [15, 16] (fun av iv wr => ∃ i : Nat, i ≤ n ∧ iv = .int .i64 (i : Int) ∧ av = .int .i64 (((L.take i).filter fun f => decide (f.si ≤ 1)).length : Int) ∧ Hid (Below Y3.heap.size Y3 wr)) (fun _ iv _ => n - (intOf iv).toNat)
        case atStart => exact ⟨0, by omega, rfl, rfl, Lib.hid (Below.refl _ _)⟩
        case round =>
          obtain ⟨i, hi', rfl, rfl, HBr⟩ := hrel
          have hTm : ((L.take i).filter fun f => decide (f.si ≤ 1)).length ≤ m := by
            rw [← HM.out, HFV.out]
            exact List.Sublist.length_le ((List.take_sublist i L).filter _)
          have a1 := n1Y3.off (Off.of_below (S := fun _ => False) HBr.out) (fun h => h) (fun _ _ h => h)
          have a2 := n2Y3.off (Off.of_below (S := fun _ => False) HBr.out) (fun h => h) (fun _ _ h => h)
          have a3 := n3Y3.off (Off.of_below (S := fun _ => False) HBr.out) (fun h => h) (fun _ _ h => h)
          have c2' := a2.box.cell
          have hr2 := a2.room
          have hr3 := a3.room
          have hr1 := a1.room
          rcases Nat.lt_or_ge i n with hlt | hge
          · obtain ⟨f, hf⟩ : ∃ f, L[i]? = some f := ⟨_, List.getElem?_eq_getElem (by rw [HN.out]; exact hlt)⟩
            have hfn : fnd L f.nm = some f := fnd_at hf rfl (fun g hg => by
              obtain ⟨j, hj, hj2⟩ := List.mem_take_iff_getElem.1 hg
              exact (HOK.out i f hf).2 j g (by omega) (by rw [← hj2]; exact List.getElem?_eq_getElem (by omega)))
            have KNf := HFI.out f.nm
            rw [hfn] at KNf
            simp only [finR, Fd.v, Fd.cs, Option.getD_some, Option.isSome_some] at KNf
            have hft := filter_take (p := fun f => decide (f.si ≤ 1)) hf
            have hfg := filter_get (p := fun f => decide (f.si ≤ 1)) hf
            have hsi := (HALL.out f (List.mem_of_getElem? hf)).1
            rw [← HFV.out] at hfg
            obtain ⟨T, hT⟩ : ∃ T, ((L.take i).filter fun f => decide (f.si ≤ 1)).length = T := ⟨_, rfl⟩
            rw [hT] at hft hfg hTm ⊢
            have hnm : (L.map Fd.nm)[i]? = some f.nm := by rw [List.getElem?_map, hf]; rfl
            obtain ⟨gb, rfl, hgb1, hgb2, m2⟩ := a2.names i f.nm hnm
            have hin : (i : Int) < (n : Int) := by omega
            have hnc2 : (n : Int) ≤ (c2 : Int) := by omega
            have hnc3 : (n : Int) ≤ (c3 : Int) := by omega
            have hi6 : i ≤ 6 := by omega
            have HA := Lib.hid (And.intro a1 (And.intro a2 a3))
            clear a1 a2 a3 hT hfn hf
            gi_wp2_with fail
            refine ⟨trivial, (callsIn_wide.2 (KNf wr)).mono ?_⟩
            rintro e X ⟨rfl, hbX⟩
            clear KNf c2' m2
            gi_wp2_with fail
            obtain ⟨X4, hX4⟩ : ∃ X4, X.alloc (.cells #[.string f.nm, .int .i64 f.so, .int .i64 f.pl, .int .i64 f.le, .int .i64 f.mo, .int .i64 f.si, .int .i64 f.ab] 29) = X4 := ⟨_, rfl⟩
            rw [hX4]
            have hb4 : Below X.heap.size X X4 := by rw [← hX4]; exact (Below.refl _ _).alloc (Nat.le_refl _) _
            obtain ⟨_, _, _, _, _, d5, _⟩ := fd_block (f := f) (show X4.heap[X.heap.size]? = some (.cells f.cs 29 (0, 0)) by rw [← hX4]; exact World.alloc_heap_new _ _)
            clear hX4
            have hw4 : Below wr.heap.size wr X4 := hbX.trans (hb4.mono hbX.size)
            have HB4 := Lib.hid (HBr.out.trans (hw4.mono HBr.out.size))
            obtain ⟨a1, a2, a3⟩ := HA.out
            have b1 := a1.off (Off.of_below (S := fun _ => False) hw4) (fun h => h) (fun _ _ h => h)
            have b2 := a2.off (Off.of_below (S := fun _ => False) hw4) (fun h => h) (fun _ _ h => h)
            have b3 := a3.off (Off.of_below (S := fun _ => False) hw4) (fun h => h) (fun _ _ h => h)
            obtain ⟨gb', hgb', _, _, m2⟩ := b2.names i f.nm hnm
            obtain rfl : gb = gb' := by injection hgb' with h; injection h
            obtain ⟨gc, rfl, _, _, m3⟩ := b3.names i f.nm hnm
            have e1 := b1.box.cell
            have e2 := b2.box.cell
            have e3 := b3.box.cell
            by_cases h1 : f.si = 1
            · rw [if_pos (by simp; omega)] at hft
              have hg := hfg (by simp; omega)
              have hTlt : T < m := by have := (List.getElem?_eq_some_iff.1 hg).1; rw [HM.out] at this; exact this
              obtain ⟨ga, rfl, _, _, m1⟩ := b1.names T f.nm (by rw [List.getElem?_map, hg]; rfl)
              have hTm2 : (T : Int) < (m : Int) := by omega
              have hmc : (m : Int) ≤ (c1 : Int) := by omega
              have HT := Lib.hid hft
              rw [h1] at d5
              clear hft hfg hg hbX hb4 hw4 a1 a2 a3 b1 b2 b3 hgb' hnm hsi h1
              refine wpIn_wide.2 ?_
              go_quiet (fail)
              gi_wp2_with fail
              refine wpIn_wide.2 ?_
              go_quiet (fail)
              gi_wp2
              exact ⟨⟨i + 1, by omega, by go_num, by rw [HT.out]; go_num, Lib.hid (below_drewN HB4.out _)⟩, by simp only [intOf]; omega⟩
            · obtain h2 : f.si = 2 := by omega
              rw [if_neg (by simp; omega), Nat.add_zero] at hft
              have HT := Lib.hid hft
              rw [h2] at d5
              clear hft hfg hbX hb4 hw4 a1 a2 a3 b1 b2 b3 hgb' hnm hsi h1 h2
              refine wpIn_wide.2 ?_
              go_quiet (fail)
              gi_wp2
              exact ⟨⟨i + 1, by omega, by go_num, by rw [HT.out, Nat.add_zero], Lib.hid (below_drewN HB4.out _)⟩, by simp only [intOf]; omega⟩
          · obtain rfl : n = i := by omega
            have hTe : ((L.take n).filter fun f => decide (f.si ≤ 1)).length = m := by
              rw [List.take_of_length_le (by rw [HN.out]; exact Nat.le_refl _), ← HFV.out]
              exact HM.out
            rw [hTe]
            have h2m : (2 : Int) ≤ (m : Int) := by omega
            have HA := Lib.hid (And.intro a1 (And.intro a2 a3))
            clear hTe hTm a1 a2 a3
            gi_wp2_with fail
            refine ⟨trivial, (callsIn_wide.2 (flknown_any wr)).mono ?_⟩
            rintro e X ⟨rfl, hbX⟩
            obtain ⟨a1, a2, a3⟩ := HA.out
            have b1 := a1.off (Off.of_below (S := fun _ => False) hbX) (fun h => h) (fun _ _ h => h)
            have b2 := a2.off (Off.of_below (S := fun _ => False) hbX) (fun h => h) (fun _ _ h => h)
            have b3 := a3.off (Off.of_below (S := fun _ => False) hbX) (fun h => h) (fun _ _ h => h)
            have e1 := b1.box.cell
            have e2 := b2.box.cell
            have e3 := b3.box.cell
            have h3X : Below Y3.heap.size Y3 X := HBr.out.trans (hbX.mono HBr.out.size)
            have rX : Boxed X w.heap.size 4 (.bool false) := (h3X.block _ rY3.lt).trans rY3
            have r0 := rX.cell
            have r1 := rX.frozen
            have HRX := Lib.hid (rX.set (.bool true))
            have hd1 := (h3X.block _ (Array.getElem?_eq_some_iff.1 k1Y3).1).trans k1Y3
            have hd2 := (h3X.block _ (Array.getElem?_eq_some_iff.1 k2Y3).1).trans k2Y3
            have hd3 := (h3X.block _ (Array.getElem?_eq_some_iff.1 k3Y3).1).trans k3Y3
            have HD := Lib.hid (And.intro hd1 (And.intro hd2 hd3))
            have HBX := Lib.hid (bY3.trans (h3X.mono bY3.size))
            have hlt1 := (Array.getElem?_eq_some_iff.1 k1Y3).1
            have hlt2 := (Array.getElem?_eq_some_iff.1 k2Y3).1
            clear a1 a2 a3 b1 b2 b3 hbX h3X rX hd1 hd2 hd3 c2'
            gi_wp2
            obtain ⟨x1, x2, x3⟩ := HD.out
            have y1 := (Below.heap_setCell X ⟨w.heap.size, 0, none⟩ (.bool true) D1 (by show _ ≠ w.heap.size; omega)).trans x1
            have y2 := (Below.heap_setCell X ⟨w.heap.size, 0, none⟩ (.bool true) D2 (by show _ ≠ w.heap.size; omega)).trans x2
            have y3 := (Below.heap_setCell X ⟨w.heap.size, 0, none⟩ (.bool true) D3 (by show _ ≠ w.heap.size; omega)).trans x3
            have hZB := HBX.out.setCell (p := ⟨w.heap.size, 0, none⟩) (Nat.le_refl _) (.bool true)
            have hZL := HRX.out
            generalize World.setCell X ⟨w.heap.size, 0, none⟩ (.bool true) = Z at *
            have hYL : Boxed (((Z.putObj D3 (.deferred none)).putObj D2 (.deferred none)).putObj D1 (.deferred none)) w.heap.size 4 (.bool true) := (World.putObj_heap_other (by omega)).trans ((World.putObj_heap_other (by omega)).trans ((World.putObj_heap_other (by omega)).trans hZL))
            have kR := hYL.cell
            refine ⟨by simp, .inl ⟨_, _, rfl, run_takeDeferred y3, ?_⟩⟩
            refine ⟨by simp, .inl ⟨_, _, rfl, run_takeDeferred ((World.putObj_heap_other (by omega)).trans y2), ?_⟩⟩
            refine ⟨by simp, .inl ⟨_, _, rfl, run_takeDeferred ((World.putObj_heap_other (by omega)).trans ((World.putObj_heap_other (by omega)).trans y1)), ?_⟩⟩
            refine ⟨.bool true, ?_, rfl, ((hZB.trans (below_put _ _ (by omega))).trans (below_put _ _ (by omega))).trans (below_put _ _ (by omega))⟩
            simp [results, Try.f6, go_sem, kR]
theorem walk_fvers (a0 : Int) (a1 : Int) (_w0 : (Lit.int .i64 a0).wf = true) (_w1 : (Lit.int .i64 a1).wf = true) (w : World) :
    Calls Try.prog 6 #[.int .i64 a0, .int .i64 a1] w fun e w' => e = .returned (.bool true) ∧ Below w.heap.size w w' := vers_go a0 a1 w
end Go.Proofs.Ytnnpbakgjcjbaaa
