/-
  MsgNumbers: the numbers of any message, by names, are the document's; one that is set is told, others stay, and the message stays as it was; for every message, name, number and stop, with no condition.
-/
import Derived.Test.YtnbhiamnoapmlaaRows
import Derived.Below
import Derived.WalkKit
import Derived.ProofKit
import Derived.OpenShut
import Derived.ShutString
import Derived.ChangeOld
import Derived.Test.YtnbhiamnoapmlaaMNNumbersProof4
namespace Go.Proofs.Ytnbhiamnoapmlaa
open Go.RowKit Go.Shelf
set_option maxRecDepth 100000
attribute [local go_sem] Oper.semAt_some

/-- what stands all along: the message's box, stop's, was's, the list's, and what they hang on -/
structure NzF (b0 bw bl : Nat) (A : Mg) (P C P' C' : Value) (stop : Int) (Ad : Option Addr) (n c : Nat) (L : List Fd) (V : World) : Prop where
  m : V.heap[b0]? = some (.cells (mC A P C) 26 (0, 0))
  st : Boxed V (b0 + 1) 3 (.int .i64 stop)
  was : V.heap[bw]? = some (.cells (mC A P' C') 26 (0, 0))
  l : Boxed V bl 43 (.slice Ad n c)
  row : FdsIn 0 V Ad L
  ma : MAt V V.heap.size A P C
  mw : MAt V V.heap.size A P' C'
theorem FdsIn.under {B : Nat} {w w' : World} {A : Option Addr} {L : List Fd} (h : FdsIn 0 w A L) (hb : Below B w w') (hB : w.heap.size ≤ B) : FdsIn 0 w' A L := fun j f hj => by
  obtain ⟨g, h1, h2, h3, h4⟩ := h j f hj
  exact ⟨g, h1, h2, Nat.lt_of_lt_of_le h3 hb.size, fun q u hq => (hb.cell (p := ⟨g, j * 7 + q, none⟩) (by show g < _; omega)).trans (h4 q u hq)⟩

set_option maxHeartbeats 16000000 in
theorem numbers_go (X : Mg) (P Q : Value) (nm : ByteArray) (v stop : Int) (w : World) (h1 : MAt w w.heap.size X P Q) : Calls Try.prog 4 #[mV X P Q, .string nm, .int .i64 v, .int .i64 stop] w fun e w' => e = .returned (.bool true) ∧ Below w.heap.size w w' := by
  obtain ⟨w1, hw1⟩ : ∃ w1, (w.alloc (.cells (mC X P Q) 26)).alloc (.cells #[.int .i64 stop] 3) = w1 := ⟨_, rfl⟩
  have hb1 : Below w.heap.size w w1 := by rw [← hw1]; exact ((Below.refl _ w).alloc (Nat.le_refl _) _).alloc (by simp) _
  have q0 : w1.heap[w.heap.size]? = some (.cells (mC X P Q) 26 (0, 0)) := by rw [← hw1, Below.heap_alloc _ _ _ (by simp)]; exact World.alloc_heap_new _ _
  have q1 : Boxed w1 (w.heap.size + 1) 3 (.int .i64 stop) := by
    have := Boxed.new (w.alloc (.cells (mC X P Q) 26)) 3 (.int .i64 stop)
    rw [World.size_alloc] at this
    rw [← hw1]; exact this
  have KX := Lib.hid (cut_F hb1.size (h1.below hb1))
  have HW1 := Lib.hid hw1
  have HB1 := Lib.hid hb1
  have HQ := Lib.hid (And.intro q0 q1)
  have hl1 : w.heap.size + 1 < w1.heap.size := q1.lt
  clear hw1 hb1 q0 q1 h1
  refine (callsIn_wide (n := 9)).1 ?_
  refine callsIn_of_wp_marks Try.func4 rfl trivial ?_ rfl
  simp only [Try.ntmps4, List.size_toArray, List.length_cons, List.length_nil, Nat.reduceAdd, Nat.reduceSub, Array.replicate_succ, Array.replicate_zero, List.push_toArray, List.append_toArray, List.nil_append, List.cons_append]
  unfold mV
  gi_wp2_with (rw [HW1.out]; refine wpListIn_load_run rfl 26 (.tmp 4) rfl (some ⟨w.heap.size, 0, none⟩) rfl (.agg (mC X P Q)) (mg_read HQ.out.1) ?_)
  refine ⟨trivial, ?_⟩
  refine (callsIn_wide.2 KX.out).mono ?_
  rintro e w2 ⟨_, rfl, ⟨A, P, C, hsA, rfl, hA⟩, hb2⟩
  obtain ⟨⟨a3, c3, rfl, -, -⟩, ⟨b3, d3, rfl, -, -⟩⟩ := id hA
  obtain ⟨P3, hP3⟩ : ∃ P3, Value.slice a3 A.p.length c3 = P3 := ⟨_, rfl⟩
  obtain ⟨C3, hC3⟩ : ∃ C3, Value.slice b3 A.c.length d3 = C3 := ⟨_, rfl⟩
  have hone : (mC A P3 C3).all (·.oneCell') = true := by rw [← hP3, ← hC3]; simp [mC, Value.oneCell']
  rw [hP3, hC3] at hA ⊢
  clear hP3 hC3
  unfold mV
  have r0 := (hb2.block _ (by omega)).trans HQ.out.1
  have r1 : Boxed w2 (w.heap.size + 1) 3 (.int .i64 stop) := (hb2.block _ hl1).trans HQ.out.2
  obtain ⟨w3, hw3⟩ : ∃ w3, w2.setRow w.heap.size (mC A P3 C3) = w3 := ⟨_, rfl⟩
  have hst := mg_store w2 w.heap.size (mC X P Q) (mC A P3 C3) r0 rfl rfl hone
  rw [hw3] at hst
  have HST := Lib.hid hst
  have hs1 := HB1.out.size
  have hs2 := hb2.size
  have q0 : w3.heap[w.heap.size]? = some (.cells (mC A P3 C3) 26 (0, 0)) := by rw [← hw3]; exact setRow_heap w2 _ _ _ _ _ r0
  have q1 : Boxed w3 (w.heap.size + 1) 3 (.int .i64 stop) := by rw [← hw3]; exact (setRow_other _ _ _ _ (by omega)).trans r1
  have hoff := Off.setRow (S := fun k => w.heap.size ≤ k) (Off.refl _ w2) (Nat.le_refl w.heap.size) (mC A P3 C3)
  have hb23 : Below w.heap.size w2 w3 := by rw [← hw3]; exact hoff.below (B := w.heap.size) (fun k hk => by omega) (by omega)
  have HB3 := Lib.hid (HB1.out.trans ((hb2.mono hs1).trans hb23))
  have hl3 := q1.lt
  have hmA3 := hA.below hb23
  have HMA := Lib.hid hmA3
  have K2 := Lib.hid (copy_F hsA (show FMs A (.agg (mC A P3 C3)) w3 from ⟨_, _, rfl, hmA3.mono (by omega)⟩))
  have HQ3 := Lib.hid (And.intro q0 q1)
  clear hw3 hst hb23 hoff q0 q1 r0 r1 hA hmA3 hb2 hs1 hs2 hone KX HQ HW1 HB1 hl1
  gi_wp2_with (first | refine wpListIn_store_run rfl 26 (.tmp 4) (.tmp 26) rfl (some ⟨w.heap.size, 0, none⟩) rfl (.agg (mC A P3 C3)) rfl HST.out ?_ | refine wpListIn_load_run rfl 26 (.tmp 4) rfl (some ⟨w.heap.size, 0, none⟩) rfl (.agg (mC A P3 C3)) (mg_read HQ3.out.1) ?_)
  refine ⟨trivial, ?_⟩
  refine (callsIn_wide.2 K2.out).mono ?_
  rintro e w4 ⟨_, rfl, ⟨P, C, rfl, hZ⟩, hb4⟩
  obtain ⟨⟨a5, c5, rfl, -, -⟩, ⟨b5, d5, rfl, -, -⟩⟩ := id hZ
  obtain ⟨P5, hP5⟩ : ∃ P3, Value.slice a5 A.p.length c5 = P3 := ⟨_, rfl⟩
  obtain ⟨C5, hC5⟩ : ∃ C3, Value.slice b5 A.c.length d5 = C3 := ⟨_, rfl⟩
  have hone : (mC A P5 C5).all (·.oneCell') = true := by rw [← hP5, ← hC5]; simp [mC, Value.oneCell']
  rw [hP5, hC5] at hZ ⊢
  clear hP5 hC5
  unfold mV
  obtain ⟨w5, hw5⟩ : ∃ w5, (w4.alloc (.cells #[.int .i64 0, .int .i64 0, .int .i64 0, .int .i64 0, .int .i64 0, .int .i64 0, .int .i64 0, .slice none 0 0, .slice none 0 0, .string ⟨#[]⟩, .string ⟨#[]⟩] 26)).setRow w4.heap.size (mC A P5 C5) = w5 := ⟨_, rfl⟩
  have hst := mg_store (w4.alloc (.cells #[.int .i64 0, .int .i64 0, .int .i64 0, .int .i64 0, .int .i64 0, .int .i64 0, .int .i64 0, .slice none 0 0, .slice none 0 0, .string ⟨#[]⟩, .string ⟨#[]⟩] 26)) w4.heap.size #[.int .i64 0, .int .i64 0, .int .i64 0, .int .i64 0, .int .i64 0, .int .i64 0, .int .i64 0, .slice none 0 0, .slice none 0 0, .string ⟨#[]⟩, .string ⟨#[]⟩] (mC A P5 C5) (World.alloc_heap_new _ _) rfl rfl hone
  rw [hw5] at hst
  have HST := Lib.hid hst
  have hb45a : Below w4.heap.size w4 (w4.alloc (.cells #[.int .i64 0, .int .i64 0, .int .i64 0, .int .i64 0, .int .i64 0, .int .i64 0, .int .i64 0, .slice none 0 0, .slice none 0 0, .string ⟨#[]⟩, .string ⟨#[]⟩] 26)) := (Below.refl _ w4).alloc (Nat.le_refl _) _
  have hb45 : Below w4.heap.size w4 w5 := by
    rw [← hw5]
    exact hb45a.trans ((Off.setRow (S := fun k => w4.heap.size ≤ k) (Off.refl _ _) (Nat.le_refl w4.heap.size) _).below (B := w4.heap.size) (fun k hk => by omega) hb45a.size)
  have q5 : w5.heap[w4.heap.size]? = some (.cells (mC A P5 C5) 26 (0, 0)) := by rw [← hw5]; exact setRow_heap _ _ _ _ _ _ (World.alloc_heap_new _ _)
  have hl5 : w4.heap.size < w5.heap.size := (Array.getElem?_eq_some_iff.1 q5).1
  have hs34 := hb4.size
  have hb35 := hb4.trans (hb45.mono hs34)
  have q50 := (hb35.block _ (by omega)).trans HQ3.out.1
  have q51 : Boxed w5 (w.heap.size + 1) 3 (.int .i64 stop) := (hb35.block _ hl3).trans HQ3.out.2
  have k0 := row_cell q50 0 (.int .i64 A.k) rfl
  have HQ5 := Lib.hid (And.intro q50 (And.intro q51 q5))
  have HMZ := Lib.hid (hZ.later hb45)
  have HMA5 := Lib.hid (HMA.out.below (hb35.mono (by omega)))
  have HB5 := Lib.hid (HB3.out.trans (hb35.mono HB3.out.size))
  have K3 := Lib.hid (rall_any A.k w5)
  clear hw5 hst hb45 hb45a q5 q50 q51 hZ hb4 hb35 hone HMA K2 HQ3 HB3
  gi_wp2_with (first | refine wpListIn_store_run rfl 26 (.tmp 9) (.tmp 28) rfl (some ⟨w4.heap.size, 0, none⟩) rfl (.agg (mC A P5 C5)) rfl HST.out ?_)
  refine ⟨trivial, ?_⟩
  refine (callsIn_wide.2 K3.out).mono ?_
  rintro e w6 ⟨Ad, c, rfl, hcap, hrow, hb56⟩
  obtain ⟨L, hL⟩ : ∃ L, FD A.k = L := ⟨_, rfl⟩
  have hl6 : L.length ≤ 6 := by rw [← hL]; exact FD_few A.k
  have HFI := Lib.hid (FD_fdok A.k)
  rw [hL] at hcap hrow HFI ⊢
  have HL := Lib.hid hL
  obtain ⟨n, hn⟩ : ∃ n, L.length = n := ⟨_, rfl⟩
  rw [hn] at hcap hl6 ⊢
  have HN := Lib.hid hn
  have HCAP := Lib.hid hcap
  clear hL hn K3 HST k0
  have hs56 := hb56.size
  have hw6 : w.heap.size ≤ w6.heap.size := Nat.le_trans HB5.out.size hs56
  have hw46 : w4.heap.size < w6.heap.size := by omega
  obtain ⟨w7, hw7⟩ : ∃ w7, ((w6.alloc (.cells #[.slice Ad n c] 43)).alloc (.cells #[.int .i64 0] 3)).alloc (.cells #[.bool true] 4) = w7 := ⟨_, rfl⟩
  have hb67 : Below w6.heap.size w6 w7 := by rw [← hw7]; exact (((Below.refl _ w6).alloc (Nat.le_refl _) _).alloc (by simp) _).alloc (by simp; omega) _
  have p0 : Boxed w7 w6.heap.size 43 (.slice Ad n c) := by rw [← hw7]; exact ((Boxed.new w6 _ _).alloc _).alloc _
  have p1 : Boxed w7 (w6.heap.size + 1) 3 (.int .i64 0) := by
    have := Boxed.new (w6.alloc (.cells #[.slice Ad n c] 43)) 3 (.int .i64 0)
    rw [World.size_alloc] at this
    rw [← hw7]; exact this.alloc _
  have p2 : Boxed w7 (w6.heap.size + 1 + 1) 4 (.bool true) := by
    have := Boxed.new ((w6.alloc (.cells #[.slice Ad n c] 43)).alloc (.cells #[.int .i64 0] 3)) 4 (.bool true)
    rw [World.size_alloc, World.size_alloc] at this
    rw [← hw7]; exact this
  have hs7 : w6.heap.size + 1 + 1 < w7.heap.size := p2.lt
  have hb57 : Below w5.heap.size w5 w7 := hb56.trans (hb67.mono hs56)
  have HB7 := Lib.hid (HB5.out.trans (hb57.mono HB5.out.size))
  have HNZ : Hid (∀ V, Below (w6.heap.size + 1) w7 V → NzF w.heap.size w4.heap.size w6.heap.size A P3 C3 P5 C5 stop Ad n c L V) := Lib.hid fun V hV => by
    have hV5 : Below w5.heap.size w5 V := hb57.trans (hV.mono (by omega))
    have hsV := hV.size
    have hs5w := HB5.out.size
    exact ⟨(hV5.block _ (by omega)).trans HQ5.out.1, (hV5.block _ (HQ5.out.2.1.lt)).trans HQ5.out.2.1, (hV5.block _ hl5).trans HQ5.out.2.2, (hV.block _ (by omega)).trans p0,
      fun j f hj => by
        obtain ⟨g, a1, a2, a3, a4⟩ := hrow j f hj
        exact ⟨g, a1, by omega, by omega, fun q u hq => (hV.cell (p := ⟨g, j * 7 + q, none⟩) (by show g < _; omega)).trans ((hb67.cell (p := ⟨g, j * 7 + q, none⟩) (by show g < _; omega)).trans (a4 q u hq))⟩,
      (HMA5.out.below (hV5.mono hs5w)).mono (by omega), (HMZ.out.below hV5).mono (by omega)⟩
  have HW7 := Lib.hid hw7
  have HP := Lib.hid (And.intro p1 p2)
  have hs57 := hb57.size
  have hnz := HNZ.out w7 (Below.refl _ _)
  have K4 := Lib.hid (mnums_any A P3 C3 w7)
  have l7 := mg_read hnz.m
  unfold mV at K4 l7
  have L7 := Lib.hid l7
  clear hw7 hb67 p0 p1 p2 hrow hb56 hb57 hnz HQ5 HMZ HMA5 HB5 hl5 hl3 hs34 l7
  gi_wp2_with (rw [HW7.out]; refine wpListIn_load_run rfl 26 (.tmp 4) rfl (some ⟨w.heap.size, 0, none⟩) rfl (.agg (mC A P3 C3)) L7.out ?_)
  refine ⟨trivial, ?_⟩
  refine (callsIn_wide.2 K4.out).mono ?_
  rintro e w8 ⟨g, h, rfl, hg7, hh7, hg, hh, hb78⟩
  obtain ⟨bi, hbi⟩ : ∃ bi, w6.heap.size + 1 = bi := ⟨_, rfl⟩
  rw [hbi] at HNZ HP hs7 ⊢
  have hs78 := hb78.size
  have hbi8 : bi + 1 < w8.heap.size := by omega
  have hP1 : Boxed w8 bi 3 (.int .i64 0) := (hb78.block _ (by omega)).trans HP.out.1
  have hP2 : Boxed w8 (bi + 1) 4 (.bool true) := (hb78.block _ (by omega)).trans HP.out.2
  have hN8 : Nb bi L w8 0 0 w8 := ⟨hP1, hP2, Nat.le_refl _, fun p f _ h2 _ => by omega, Off.refl _ _⟩
  have HN8 := Lib.hid hN8
  have HG := Lib.hid (And.intro hg hh)
  have hlg := (Array.getElem?_eq_some_iff.1 hg).1
  have hlh := (Array.getElem?_eq_some_iff.1 hh).1
  have HS6 := Lib.hid hbi
  have HNZ8 : Hid (∀ V, Below bi w8 V → NzF w.heap.size w4.heap.size w6.heap.size A P3 C3 P5 C5 stop Ad n c L V) := Lib.hid fun V hV => HNZ.out V ((hb78.mono (by omega)).trans hV)
  have HB8 := Lib.hid (HB7.out.trans (hb78.mono HB7.out.size))
  have hnn := mnums_not_nil g h
  have h6i : w6.heap.size < bi := by omega
  clear hb78 hP1 hP2 hN8 hg hh hbi HW7 K4 L7 HNZ HB7 HP
  gi_wp2_with fail
  refine range_stops rfl (by omega) (gf := 37) (lb := #[.pointer (some ⟨g, 0, none⟩), .pointer (some ⟨h, 0, none⟩)]) rfl trivial (enters_of Try.func37 (by kernel_rfl) rfl)
    (fun f : Fd => #[.string f.nm, .int .i64 (A.at' f.pl.toNat)]) (fun _ => rfl)
    (fun j f V => (∃ ii, Nb bi L w8 j ii V) ∧ L[j]? = some f ∧ 0 ≤ f.pl)
    (fun j V => ∃ ii, Nb bi L w8 j ii V) (fun _ _ => False) (KeC w7.heap.size) L.length
    (fun j f V l' o o' hR hl' ho hc' => ⟨hR.1.elim fun ii hb => ⟨ii, hb.later hbi8 (below_put V o' hl')⟩, hR.2⟩)
    (fun j V l' o o' hR hl' ho hc' => hR.elim fun ii hb => ⟨ii, hb.later hbi8 (below_put V o' hl')⟩)
    (fun _ _ _ _ _ h _ _ _ => h)
    (fun _ _ _ h k => h.trans k) (fun V l' o o' hl' ho hc' => KeC.putObj ho hc')
    (fun o => ⟨0, HN8.out.later hbi8 (((Below.refl w8.heap.size w8).alloc (Nat.le_refl _) _).alloc (by simp) _)⟩) ?a1 ?assign1 ?body1 ?iter1 ?done1 ?stop1
  case assign1 =>
    intro l' x V K hK
    gi_wp2
    exact hK
  case stop1 =>
    rintro D cd V hD hF
    exact hF.elim
  case iter1 =>
    intro Bk X2 l V hBk hBlt hX hl hD hB hYV
    obtain ⟨_, hDn⟩ := id hD
    have hIn := numbers_in 8 (by omega) 7 l g h w8.heap.size w7.heap.size A (fun j V => ∃ ii, Nb bi L w8 j ii V) Bk X2 hs78 hl
      (fun j V V' hR hV => hR.elim fun ii hb => ⟨ii, hb.later hbi8 hV⟩) hBk hBlt hX
      (fun j f V hR hf hp => hR.elim fun ii hb => ⟨ii, hb.skip (by rw [← HL.out]; exact hf) hp⟩)
      (fun j f V hR hf hp hB => by
        rw [HL.out] at hf
        exact hYV j f V ⟨hR, hf, hp⟩ hB (List.getElem?_eq_some_iff.1 hf).1)
      V ((hDn.off.block _ hlg (by omega)).trans HG.out.1) ((hDn.off.block _ hlh (by omega)).trans HG.out.2) hh7 hD hB
    rw [HL.out] at hIn
    exact hIn
  case body1 =>
    rintro l' j f V hl' ⟨⟨ii0, hNb⟩, hf, hpl⟩ hj
    have hok := HFI.out f (List.mem_of_getElem? hf)
    obtain ⟨jj, hj6, hjj⟩ : ∃ jj : Nat, jj < 6 ∧ f.pl = (jj : Int) := by
      by_cases h3 : f.so < 3
      · exact hok.pl h3
      · exact absurd (hok.no h3) (by omega)
    have htn : f.pl.toNat = jj := by rw [hjj]; exact Int.toNat_natCast _
    rw [htn]
    rw [HN.out] at hj
    have HF := Lib.hid hf
    have HJJ := Lib.hid hjj
    have HNb := Lib.hid hNb
    clear hok htn hpl hf hjj hNb
    gi_wp2_with fail
    gi_loopw [] (fun wr => ∃ ii : Nat, Hid (Nb bi L w8 j ii wr) ∧ Hid (Off (fun q => q = bi ∨ q = bi + 1) V wr)) (fun wr => 7 - inBoxN bi wr)
    case atStart => exact ⟨ii0, HNb, Lib.hid (Off.refl _ _)⟩
    case round =>
      obtain ⟨ii, HR, HO⟩ := hrel
      have hle := HR.out.le
      have hbr : Below bi w8 wr := HR.out.off.below (fun q hq => by omega) (by omega)
      have NZ := HNZ8.out wr hbr
      have i1 := HR.out.num.cell
      have i2 := HR.out.num.frozen
      have o1 := HR.out.ok.cell
      have o2 := HR.out.ok.frozen
      have cl := NZ.l.cell
      have HI := Lib.hid (inBoxN_of HR.out.num)
      have hin : (ii : Int) < (n : Int) := by omega
      have hnc : (n : Int) ≤ (c : Int) := by have := HCAP.out; omega
      have hii : ii ≤ 6 := by omega
      by_cases hij : ii < j
      · obtain ⟨f', hf'⟩ : ∃ f', L[ii]? = some f' := ⟨_, List.getElem?_eq_getElem (by rw [HN.out]; omega)⟩
        obtain ⟨gr, rfl, -, -, -, -, e2, -, -, -, -⟩ := NZ.row.seven hf'
        have hneg := HR.out.gap ii f' (Nat.le_refl _) hij hf'
        have HST := Lib.hid (And.intro (HR.out.step hij) (And.intro (HO.out.setCell (p := ⟨bi, 0, none⟩) (.inl rfl) (.int .i64 ((ii : Int) + 1))) (inBoxN_of (HR.out.step hij).num)))
        clear hf' hbr NZ o1 o2
        gi_wp2
        exact ⟨⟨ii + 1, Lib.hid HST.out.1, Lib.hid HST.out.2.1⟩, by rw [HST.out.2.2, HI.out]; omega⟩
      · obtain rfl : ii = j := by omega
        obtain ⟨gr, rfl, -, -, e0, -, e2, -, -, -, -⟩ := NZ.row.seven HF.out
        rw [HJJ.out] at e2
        have k1 := mg_at NZ.m hj6
        have hz6 : (jj : Int) < 6 := by omega
        have HST := Lib.hid (And.intro HR.out.again.next (HO.out.setCell (p := ⟨bi + 1, 0, none⟩) (.inr rfl) (.bool true) |>.setCell (p := ⟨bi, 0, none⟩) (.inl rfl) (.int .i64 ((ii : Int) + 1))))
        have i3 := HR.out.again.num.cell
        have i4 := HR.out.again.num.frozen
        have hk := keeps_two HST.out.2 hs7 hbi8
        have HK := Lib.hid hk
        clear hbr NZ hij hk
        gi_wp2
        exact ⟨HK.out.1, ⟨ii + 1, HST.out.1⟩, HK.out.2⟩
  case done1 =>
    rintro D V hD ⟨ii0, hNb⟩ hK
    rw [HN.out] at hNb
    have HNb := Lib.hid hNb
    have HK := Lib.hid hK
    clear hNb hK
    gi_wp2_with fail
    gi_loopw [] (fun wr => ∃ ii : Nat, Hid (Nb bi L w8 n ii wr) ∧ Hid (wr.heap[D]? = some (.deferred (some [])))) (fun wr => 7 - inBoxN bi wr)
    case atStart => exact ⟨ii0, HNb, HK⟩
    case round =>
      obtain ⟨ii, HR, HD⟩ := hrel
      have hle := HR.out.le
      have hbr : Below bi w8 wr := HR.out.off.below (fun q hq => by omega) (by omega)
      have NZ := HNZ8.out wr hbr
      have i1 := HR.out.num.cell
      have i2 := HR.out.num.frozen
      have o1 := HR.out.ok.cell
      have o2 := HR.out.ok.frozen
      have cl := NZ.l.cell
      have HI := Lib.hid (inBoxN_of HR.out.num)
      have hnc : (n : Int) ≤ (c : Int) := by have := HCAP.out; omega
      have hii : ii ≤ 6 := by omega
      by_cases hij : ii < n
      · have hin : (ii : Int) < (n : Int) := by omega
        obtain ⟨f', hf'⟩ : ∃ f', L[ii]? = some f' := ⟨_, List.getElem?_eq_getElem (by rw [HN.out]; omega)⟩
        obtain ⟨gr, rfl, -, -, -, -, e2, -, -, -, -⟩ := NZ.row.seven hf'
        have hneg := HR.out.gap ii f' (Nat.le_refl _) hij hf'
        have h2 := HR.out.again
        have hd2 := (Below.heap_setCell (wr.setCell ⟨bi + 1, 0, none⟩ (.bool true)) ⟨bi, 0, none⟩ (.int .i64 ((ii : Int) + 1)) D (by show D ≠ bi; omega)).trans ((Below.heap_setCell wr ⟨bi + 1, 0, none⟩ (.bool true) D (by show D ≠ bi + 1; omega)).trans HD.out)
        have HST := Lib.hid (And.intro (h2.step hij) (And.intro hd2 (inBoxN_of (h2.step hij).num)))
        have i3 := h2.num.cell
        have i4 := h2.num.frozen
        clear hf' hbr NZ h2 hd2
        gi_wp2
        exact ⟨⟨ii + 1, Lib.hid HST.out.1, Lib.hid HST.out.2.1⟩, by rw [HST.out.2.2, HI.out]; omega⟩
      · obtain rfl : ii = n := by omega
        have l9 := mg_read NZ.m
        obtain ⟨bk, hbk⟩ : ∃ bk, wr.heap.size = bk := ⟨_, rfl⟩
        obtain ⟨w9, hw9⟩ : ∃ w9, wr.alloc (.cells #[.int .i64 0] 3) = w9 := ⟨_, rfl⟩
        have hb9 : Below wr.heap.size wr w9 := by rw [← hw9]; exact (Below.refl _ wr).alloc (Nat.le_refl _) _
        have hsr := HR.out.off.size
        have p9 : Boxed w9 bk 3 (.int .i64 0) := by rw [← hw9, ← hbk]; exact Boxed.new wr _ _
        have ok9 : Boxed w9 (bi + 1) 4 (.bool true) := (hb9.block _ (by omega)).trans HR.out.ok
        have hd9 : w9.heap[D]? = some (.deferred (some [])) := (hb9.block _ (Array.getElem?_eq_some_iff.1 HD.out).1).trans HD.out
        have hb89 : Below bi w8 w9 := hbr.trans (hb9.mono (by omega))
        have NZ9 := HNZ8.out w9 hb89
        have l9 := mg_read NZ9.m
        unfold mV at l9
        have L9 := Lib.hid l9
        have K5 := Lib.hid (mnums_any A P3 C3 w9)
        unfold mV at K5
        have HP9 := Lib.hid (And.intro p9 (And.intro ok9 hd9))
        have HB9 := Lib.hid hb89
        have HW9 := Lib.hid hw9
        rw [hbk] at hb9
        have hs9 : bk < w9.heap.size := p9.lt
        have hbk8 : w8.heap.size ≤ bk := by omega
        have HBK := Lib.hid hbk
        have hlo := HD.out
        have hDl : D < bk := by rw [← hbk]; exact (Array.getElem?_eq_some_iff.1 HD.out).1
        clear hbr NZ hij hw9 p9 ok9 hd9 hb9 hb89 NZ9 l9 hsr hbk i2 o1 o2 HR HD hlo hle HI
        gi_wp2_with (rw [HW9.out]; refine wpListIn_load_run rfl 26 (.tmp 4) rfl (some ⟨w.heap.size, 0, none⟩) rfl (.agg (mC A P3 C3)) L9.out ?_)
        rw [HBK.out]
        refine ⟨trivial, ?_⟩
        refine (callsIn_wide.2 K5.out).mono ?_
        rintro e w10 ⟨g', h', rfl, hg9, hh9, hg', hh', hb910⟩
        have hs910 := hb910.size
        have hbk10 : bk < w10.heap.size := by omega
        have hNk0 : Nk bk stop w10 0 w10 := ⟨⟨0, (hb910.block _ hs9).trans HP9.out.1, Nat.le_refl _, by omega⟩, Off.refl _ _⟩
        have HNk0 := Lib.hid hNk0
        have HG' := Lib.hid (And.intro hg' hh')
        have hlg' := (Array.getElem?_eq_some_iff.1 hg').1
        have hlh' := (Array.getElem?_eq_some_iff.1 hh').1
        have hnn' := mnums_not_nil g' h'
        have HB10 := Lib.hid (HB9.out.trans (hb910.mono (by omega)))
        have HP10 := Lib.hid (And.intro ((hb910.block _ HP9.out.2.1.lt).trans HP9.out.2.1 : Boxed w10 (bi + 1) 4 (.bool true)) ((hb910.block _ (by omega)).trans HP9.out.2.2 : w10.heap[D]? = some (.deferred (some []))))
        clear hb910 hNk0 hg' hh' HP9 HB9 L9 K5 HW9 hnn i1 cl
        gi_wp2_with fail
        refine (fun d => range_stops (Dn := fun j V => Nk bk stop w10 j V) (Sx := fun cd V => cd = .exit 6 ∧ Nk bk stop w10 L.length V) (N := L.length) rfl (by omega) (gf := 37) (lb := #[.pointer (some ⟨g', 0, none⟩), .pointer (some ⟨h', 0, none⟩)]) rfl trivial (enters_of Try.func37 (by kernel_rfl) rfl)
          (fun f : Fd => #[.string f.nm, .int .i64 (A.at' f.pl.toNat)]) (fun _ => rfl)
          (fun j f V => Nk bk stop w10 j V ∧ L[j]? = some f ∧ 0 ≤ f.pl)
          (KeC w9.heap.size)
          (fun j f V l' o o' hR hl' ho hc' => ⟨hR.1.later hbk10 (below_put V o' hl'), hR.2⟩)
          (fun j V l' o o' hR hl' ho hc' => hR.later hbk10 (below_put V o' hl'))
          (fun cd V l' o o' h hl' ho hc' => ⟨h.1, h.2.later hbk10 (below_put V o' hl')⟩)
          (fun _ _ _ h k => h.trans k) (fun V l' o o' hl' ho hc' => KeC.putObj ho hc')
          (fun o => HNk0.out.later hbk10 (((Below.refl w10.heap.size w10).alloc (Nat.le_refl _) _).alloc (by simp) _)) ?a2 ?assign2 ?body2 ?iter2 d (fun D2 cd V hD hs hK => by
            obtain ⟨rfl, hs⟩ := hs
            exact wpIn_exit (d D2 V hD hs hK))) ?done2
        case assign2 =>
          intro l' x V K hK
          gi_wp2
          exact hK
        case iter2 =>
          intro Bk X2 l V hBk hBlt hX hl hD hB hYV
          have hIn := numbers_in 8 (by omega) 7 l g' h' w10.heap.size w9.heap.size A (fun j V => Nk bk stop w10 j V) Bk X2 hs910 hl
            (fun j V V' hR hV => hR.later hbk10 hV) hBk hBlt hX
            (fun j f V hR hf hp => hR.more (Nat.le_succ j))
            (fun j f V hR hf hp hB => by
              rw [HL.out] at hf
              exact hYV j f V ⟨hR, hf, hp⟩ hB (List.getElem?_eq_some_iff.1 hf).1)
            V ((hD.off.block _ hlg' (by omega)).trans HG'.out.1) ((hD.off.block _ hlh' (by omega)).trans HG'.out.2) hh9 hD hB
          rw [HL.out] at hIn
          exact hIn
        case body2 =>
          rintro l' j f V hl' ⟨hNk, hf, hpl⟩ hj
          have hbV : Below bi w8 V := HB10.out.trans (hNk.off.below (fun q hq => by omega) (by omega))
          have st := (HNZ8.out V hbV).st.cell
          obtain ⟨⟨k, hk, hkj, hks⟩, hO⟩ := id hNk
          have k1 := hk.cell
          have k2 := hk.frozen
          have hkb : k ≤ 6 := by have := HN.out; omega
          have HJ := Lib.hid hj
          by_cases hst : (k : Int) = stop
          · have HNK := Lib.hid (hNk.more (Nat.le_of_lt HJ.out))
            have hfin := Lib.hid (⟨Nat.le_refl _, fun _ _ _ ho _ => ho⟩ : KeepsFrom w10.heap.size V V)
            clear hbV hk hO hf hpl hNk hj
            subst hst
            gi_wp2
            exact ⟨hfin.out, rfl, HNK.out⟩
          · have hoff : Off (fun q => q = bk) V (V.setCell ⟨bk, 0, none⟩ (.int .i64 ((k : Int) + 1))) := Off.setCell (S := fun q => q = bk) (Off.refl _ V) (p := ⟨bk, 0, none⟩) rfl _
            have hkk := keeps_one hoff hs9 hbk10
            have hnew : Nk bk stop w10 (j + 1) (V.setCell ⟨bk, 0, none⟩ (.int .i64 ((k : Int) + 1))) := ⟨⟨k + 1, by have := hk.set (.int .i64 ((k : Int) + 1)); rwa [show ((k : Int) + 1) = ((k + 1 : Nat) : Int) by omega] at this ⊢, by omega, by omega⟩, hO.setCell (p := ⟨bk, 0, none⟩) rfl _⟩
            have hfin := Lib.hid (And.intro hkk.1 (And.intro hnew hkk.2))
            clear hbV hk hO hf hpl hNk hj hoff hkk hnew
            gi_wp2
            exact ⟨hfin.out.1, hfin.out.2.1, hfin.out.2.2⟩
        case done2 =>
          rintro D2 V hD2 hNk hK2
          have hbV : Below bi w8 V := HB10.out.trans (hNk.off.below (fun q hq => by omega) (by omega))
          have NZ := HNZ8.out V hbV
          obtain ⟨⟨k, hk, -, hks⟩, hO⟩ := id hNk
          have hsV := hO.size
          have okV : Boxed V (bi + 1) 4 (.bool true) := boxed_off HP10.out.1 hO (by omega)
          have dV : V.heap[D]? = some (.deferred (some [])) := (hO.block _ (Array.getElem?_eq_some_iff.1 HP10.out.2).1 (by omega)).trans HP10.out.2
          have HB0 := Lib.hid (HB8.out.trans (hbV.mono (by omega)))
          have HBXS := Lib.hid (And.intro okV (And.intro hk (And.intro dV hK2)))
          have HKS := Lib.hid hks
          have HNZV := Lib.hid NZ
          have cl := NZ.l.cell
          have lV := mg_read NZ.m
          unfold mV at lV
          have LV := Lib.hid lV
          have hD2l := (Array.getElem?_eq_some_iff.1 hK2).1
          have hwV := HB0.out.size
          have hmsz := (Array.getElem?_eq_some_iff.1 NZ.m).1
          clear hbV NZ hk hO okV dV hNk hK2 hks lV HNk0 HG' hnn' HN8 HG
          rcases fnd_ways L nm with hw | hw
          · by_cases hpl : ∃ (j : Nat) (f : Fd), L[j]? = some f ∧ fnd L nm = some f ∧ IdxAt L nm (j : Int) ∧ 0 ≤ f.pl
            · obtain ⟨j, f, hf, hfd, hidx, hp0⟩ := hpl
              clear hw
              have hw : ∃ (j : Nat) (f : Fd), L[j]? = some f ∧ fnd L nm = some f ∧ IdxAt L nm (j : Int) ∧ 0 ≤ f.pl := ⟨j, f, hf, hfd, hidx, hp0⟩
              clear hf hfd hidx hp0 f j
              obtain ⟨j, f, hf, hfd, hidx, hpl⟩ := hw
              have hok := HFI.out f (List.mem_of_getElem? hf)
              obtain ⟨jj, hj6, hjj⟩ : ∃ jj : Nat, jj < 6 ∧ f.pl = (jj : Int) := by
                by_cases h3 : f.so < 3
                · exact hok.pl h3
                · exact absurd (hok.no h3) (by omega)
              have hB : plB (fnd L nm) = true := by rw [hfd]; simp [plB, hjj]
              have hget : getM A nm = A.at' jj := by unfold getM; rw [HL.out, hB]; simp [hfd, hjj]
              have hset : setM A nm v = (A.put jj v) := by unfold setM; rw [HL.out, hB]; simp [hfd, hjj]
              have K6 := Lib.hid (rfind_any Ad ii c nm 0 L (j : Int) V HN.out (by omega) HNZV.out.row hidx)
              have K7 := mget_any A P3 C3 nm V
              rw [HL.out, hB, hget] at K7
              unfold mV at K7
              have K7 := Lib.hid K7
              have HSET := Lib.hid hset
              have HS0 := Lib.hid hset
              have HBB := Lib.hid hB
              obtain ⟨gr, rfl, -, hgr, e0, -, e2, -, -, -, -⟩ := HNZV.out.row.seven hf
              rw [hjj] at e2
              have hjl := (List.getElem?_eq_some_iff.1 hf).1
              rw [HN.out] at hjl
              have hin : (j : Int) < (ii : Int) := by omega
              have hj7 : j ≤ 6 := by omega
              have hgr7 := hgr
              clear hidx hfd hB hget hset
              gi_wp2_with fail
              refine ⟨trivial, ?_⟩
              refine (callsIn_wide.2 K6.out).mono ?_
              rintro e wx ⟨rfl, rfl⟩
              gi_wp2_with (refine wpListIn_load_run rfl 26 (.tmp 4) rfl (some ⟨w.heap.size, 0, none⟩) rfl (.agg (mC A P3 C3)) LV.out ?_)
              refine ⟨trivial, ?_⟩
              refine (callsIn_wide.2 K7.out).mono ?_
              rintro e w11 ⟨rfl, hb11⟩
              have hs11 := hb11.size
              have NZ := HNZV.out
              have l11 := mg_read ((hb11.block _ hmsz).trans NZ.m)
              unfold mV at l11
              have L11 := Lib.hid l11
              have ma11 := (NZ.ma.below hb11).mono hs11
              have K8 := mset_any A P3 C3 nm v w11 hsA ma11
              rw [HSET.out, HL.out, HBB.out] at K8
              unfold mV at K8
              have K8 := Lib.hid K8
              have HB11 := Lib.hid hb11
              clear hb11 l11 ma11 NZ K7 K6
              gi_wp2_with (refine wpListIn_load_run rfl 26 (.tmp 4) rfl (some ⟨w.heap.size, 0, none⟩) rfl (.agg (mC A P3 C3)) L11.out ?_)
              refine ⟨trivial, ?_⟩
              refine (callsIn_wide.2 K8.out).mono ?_
              intro e w12 hC
              unfold MSR mV at hC
              obtain ⟨P8, C8, rfl, ho8, hb12⟩ := hC
              obtain ⟨⟨a8, c8, rfl, -, -⟩, ⟨b8, d8, rfl, -, -⟩⟩ := ho8.at
              have hm8 := ho8.at
              obtain ⟨P8, hP8⟩ : ∃ P3, Value.slice a8 (A.put jj v).p.length c8 = P3 := ⟨_, rfl⟩
              obtain ⟨C8, hC8⟩ : ∃ C3, Value.slice b8 (A.put jj v).c.length d8 = C3 := ⟨_, rfl⟩
              have hone : (mC (A.put jj v) P8 C8).all (·.oneCell') = true := by rw [← hP8, ← hC8]; simp [mC, Value.oneCell']
              rw [hP8, hC8] at hm8 ⊢
              clear hP8 hC8 ho8
              obtain ⟨bx, hbx⟩ : ∃ bx, w12.heap.size = bx := ⟨_, rfl⟩
              obtain ⟨w13, hw13⟩ : ∃ w13, (w12.alloc (.cells #[.int .i64 0, .int .i64 0, .int .i64 0, .int .i64 0, .int .i64 0, .int .i64 0, .int .i64 0, .slice none 0 0, .slice none 0 0, .string ⟨#[]⟩, .string ⟨#[]⟩] 26)).setRow w12.heap.size (mC (A.put jj v) P8 C8) = w13 := ⟨_, rfl⟩
              have hst := mg_store (w12.alloc (.cells #[.int .i64 0, .int .i64 0, .int .i64 0, .int .i64 0, .int .i64 0, .int .i64 0, .int .i64 0, .slice none 0 0, .slice none 0 0, .string ⟨#[]⟩, .string ⟨#[]⟩] 26)) w12.heap.size #[.int .i64 0, .int .i64 0, .int .i64 0, .int .i64 0, .int .i64 0, .int .i64 0, .int .i64 0, .slice none 0 0, .slice none 0 0, .string ⟨#[]⟩, .string ⟨#[]⟩] (mC (A.put jj v) P8 C8) (World.alloc_heap_new _ _) rfl rfl hone
              rw [hw13] at hst
              have HST := Lib.hid hst
              have hbb : Below w12.heap.size w12 (w12.alloc (.cells #[.int .i64 0, .int .i64 0, .int .i64 0, .int .i64 0, .int .i64 0, .int .i64 0, .int .i64 0, .slice none 0 0, .slice none 0 0, .string ⟨#[]⟩, .string ⟨#[]⟩] 26)) := (Below.refl _ w12).alloc (Nat.le_refl _) _
              have hb1213 : Below w12.heap.size w12 w13 := by
                rw [← hw13]
                exact hbb.trans ((Off.setRow (S := fun k => w12.heap.size ≤ k) (Off.refl _ _) (Nat.le_refl w12.heap.size) _).below (B := w12.heap.size) (fun k hk => by omega) hbb.size)
              have q13 : w13.heap[w12.heap.size]? = some (.cells (mC (A.put jj v) P8 C8) 26 (0, 0)) := by rw [← hw13]; exact setRow_heap _ _ _ _ _ _ (World.alloc_heap_new _ _)
              rw [hbx] at q13
              have hs12 := hb12.size
              have hV13 : Below V.heap.size V w13 := HB11.out.trans ((hb12.mono hs11).trans (hb1213.mono (Nat.le_trans hs11 hs12)))
              have NZ := HNZV.out
              have l13 := mg_read ((hV13.block _ hmsz).trans NZ.m)
              unfold mV at l13
              have L13 := Lib.hid l13
              have hs13 := hV13.size
              have K9 := Lib.hid (of_F hsA (show FMs A (.agg (mC A P3 C3)) w13 from ⟨_, _, rfl, (NZ.ma.below hV13).mono hs13⟩))
              have hx13 := hm8.below hb1213
              rw [hbx] at hx13
              have HX13 := Lib.hid (And.intro q13 hx13)
              have HV13 := Lib.hid hV13
              have HBX := Lib.hid hbx
              have hbxl := (Array.getElem?_eq_some_iff.1 q13).1
              have hbxV : V.heap.size ≤ bx := by omega
              clear hw13 hst hbb hb1213 q13 hV13 NZ l13 hx13 hm8 hone K8 hb12 HB11 L11 hs11 hs12 hbx
              gi_wp2_with (first | refine wpListIn_store_run rfl 26 (.tmp 22) (.tmp 134) rfl (some ⟨w12.heap.size, 0, none⟩) rfl (.agg (mC (A.put jj v) P8 C8)) rfl HST.out ?_ | (refine wpListIn_load_run rfl 26 (.tmp 4) rfl (some ⟨w.heap.size, 0, none⟩) rfl (.agg (mC A P3 C3)) L13.out ?_))
              rw [HBX.out]
              clear HST L13
              refine ⟨trivial, ?_⟩
              refine (callsIn_wide.2 K9.out).mono ?_
              rintro e w14 ⟨_, rfl, ⟨P, C, rfl, hZ⟩, hb14⟩
              obtain ⟨⟨a9, c9, rfl, -, -⟩, ⟨b9, d9, rfl, -, -⟩⟩ := id hZ
              obtain ⟨P9, hP9⟩ : ∃ P3, Value.slice a9 A.p.length c9 = P3 := ⟨_, rfl⟩
              obtain ⟨C9, hC9⟩ : ∃ C3, Value.slice b9 A.c.length d9 = C3 := ⟨_, rfl⟩
              have hone : (mC A P9 C9).all (·.oneCell') = true := by rw [← hP9, ← hC9]; simp [mC, Value.oneCell']
              rw [hP9, hC9] at hZ ⊢
              clear hP9 hC9 K9
              unfold mV
              obtain ⟨bt, hbt⟩ : ∃ bt, w14.heap.size = bt := ⟨_, rfl⟩
              obtain ⟨w15, hw15⟩ : ∃ w15, (w14.alloc (.cells #[.int .i64 0, .int .i64 0, .int .i64 0, .int .i64 0, .int .i64 0, .int .i64 0, .int .i64 0, .slice none 0 0, .slice none 0 0, .string ⟨#[]⟩, .string ⟨#[]⟩] 34)).setRow w14.heap.size (mC A P9 C9) = w15 := ⟨_, rfl⟩
              have hst := mr_store (w14.alloc (.cells #[.int .i64 0, .int .i64 0, .int .i64 0, .int .i64 0, .int .i64 0, .int .i64 0, .int .i64 0, .slice none 0 0, .slice none 0 0, .string ⟨#[]⟩, .string ⟨#[]⟩] 34)) w14.heap.size #[.int .i64 0, .int .i64 0, .int .i64 0, .int .i64 0, .int .i64 0, .int .i64 0, .int .i64 0, .slice none 0 0, .slice none 0 0, .string ⟨#[]⟩, .string ⟨#[]⟩] (mC A P9 C9) (World.alloc_heap_new _ _) rfl rfl hone
              rw [hw15] at hst
              have HST := Lib.hid hst
              have hbb : Below w14.heap.size w14 (w14.alloc (.cells #[.int .i64 0, .int .i64 0, .int .i64 0, .int .i64 0, .int .i64 0, .int .i64 0, .int .i64 0, .slice none 0 0, .slice none 0 0, .string ⟨#[]⟩, .string ⟨#[]⟩] 34)) := (Below.refl _ w14).alloc (Nat.le_refl _) _
              have hb1415 : Below w14.heap.size w14 w15 := by
                rw [← hw15]
                exact hbb.trans ((Off.setRow (S := fun k => w14.heap.size ≤ k) (Off.refl _ _) (Nat.le_refl w14.heap.size) _).below (B := w14.heap.size) (fun k hk => by omega) hbb.size)
              have q15 : w15.heap[w14.heap.size]? = some (.cells (mC A P9 C9) 34 (0, 0)) := by rw [← hw15]; exact setRow_heap _ _ _ _ _ _ (World.alloc_heap_new _ _)
              rw [hbt] at q15
              have hs14 := hb14.size
              have hb1315 := hb14.trans (hb1415.mono hs14)
              have hV15 : Below V.heap.size V w15 := HV13.out.trans (hb1315.mono hs13)
              have hbtl := (Array.getElem?_eq_some_iff.1 q15).1
              have hbtx : w13.heap.size ≤ bt := by omega
              have hV15s := hV15.size
              have x15 := (hb1315.block _ hbxl).trans HX13.out.1
              have mx15 := HX13.out.2.below (hb1315.mono (Nat.le_of_lt hbxl))
              have mt15 := hZ.below hb1415
              rw [hbt] at mt15
              have HBT := Lib.hid hbt
              have H15 := Lib.hid (And.intro hV15 (And.intro x15 (And.intro mx15 (And.intro q15 mt15))))
              clear hw15 hst hbb hb1415 q15 hV15 x15 mx15 mt15 hone hZ hb14 hb1315 HX13 HV13 hs14 hbt
              have NZ := HNZV.out
              have hF : FinZ w w.heap.size w4.heap.size bx bt (bi + 1) bk D D2 A (A.put jj v) A P3 C3 P5 C5 P8 C8 P9 C9 k stop w15 := by
                have hv := H15.out.1
                exact ⟨(hv.block _ hmsz).trans NZ.m, (hv.block _ NZ.st.lt).trans NZ.st, (hv.block _ (Array.getElem?_eq_some_iff.1 NZ.was).1).trans NZ.was, H15.out.2.1, H15.out.2.2.2.1, (hv.block _ HBXS.out.1.lt).trans HBXS.out.1, (hv.block _ HBXS.out.2.1.lt).trans HBXS.out.2.1,
                  (hv.block _ (Array.getElem?_eq_some_iff.1 HBXS.out.2.2.1).1).trans HBXS.out.2.2.1, (hv.block _ hD2l).trans HBXS.out.2.2.2, (NZ.ma.below hv).mono (by omega), (NZ.mw.below hv).mono (by omega), H15.out.2.2.1.mono (by omega), H15.out.2.2.2.2.mono (by omega),
                  ⟨by omega, by omega, by omega, by omega, by omega, by omega, by omega⟩, ⟨by omega, by omega, by omega, by omega, by omega, by omega, by omega⟩, by omega, HB0.out.trans (hv.mono hwV)⟩
              have hF2 := hF.put hj6 v
              have hF3 := hF2.again
              obtain ⟨Z, hZ⟩ : ∃ Z, (w15.setCell ⟨bt, 1 + jj, none⟩ (.int .i64 v)).setCell ⟨bi + 1, 0, none⟩ (.bool true) = Z := ⟨_, rfl⟩
              rw [hZ] at hF3
              have hb16 : Below V.heap.size w15 (w15.setCell ⟨bt, 1 + jj, none⟩ (.int .i64 v)) := (Below.refl V.heap.size w15).setCell (p := ⟨bt, 1 + jj, none⟩) (by show V.heap.size ≤ bt; omega) _
              have cl15 := (H15.out.1.cell (p := ⟨w6.heap.size, 0, none⟩) NZ.l.lt).trans cl
              have e215 := (H15.out.1.cell (p := ⟨gr, j * 7 + 2, none⟩) hgr7).trans e2
              have cl16 := (hb16.cell (p := ⟨w6.heap.size, 0, none⟩) NZ.l.lt).trans cl15
              have e216 := (hb16.cell (p := ⟨gr, j * 7 + 2, none⟩) hgr7).trans e215
              have t15 := row_cell hF.t (1 + jj) _ (mC_at hj6 A P9 C9)
              have t15z := frozen_of_row w15 bt (1 + jj) _ _ hF.t
              have o16 := hF2.ok.cell
              have o16z := hF2.ok.frozen
              have k16 := mg_at hF2.m hj6
              have hz6 : (jj : Int) < 6 := by omega
              rw [← HBT.out] at t15 t15z cl16 e216 o16 o16z k16 hZ
              have HZ := Lib.hid hZ
              have HF3 := Lib.hid hF3
              clear hZ hF hF2 hF3 hb16 NZ H15 cl e0 e2
              gi_wp2_with (refine wpListIn_store_run rfl 34 (.tmp 24) (.tmp 137) rfl (some ⟨w14.heap.size, 0, none⟩) rfl (.agg (mC A P9 C9)) rfl HST.out ?_)
              rw [HZ.out, HBT.out]
              clear LV HNZV HBXS HSET HBB
              have lOK : ∀ W, Below Z.heap.size Z W → (Instr.loadAt 4 (.pointer (some ⟨bi + 1, 0, none⟩))).run Try.prog W = .ok (.bool true) W := fun W hW => by
                have k1 := (hW.cell (p := ⟨_, 0, none⟩) HF3.out.ok.lt).trans HF3.out.ok.cell
                simp [Instr.loadAt, go_sem, k1]
              have lX : ∀ W, Below Z.heap.size Z W → (Instr.loadAt 26 (.pointer (some ⟨bx, 0, none⟩))).run Try.prog W = .ok (.agg (mC (A.put jj v) P8 C8)) W := fun W hW => mg_read ((hW.block _ (Array.getElem?_eq_some_iff.1 HF3.out.x).1).trans HF3.out.x)
              have lT : ∀ W, Below Z.heap.size Z W → (Instr.loadAt 34 (.pointer (some ⟨bt, 0, none⟩))).run Try.prog W = .ok (.agg (mC (A.put jj v) P9 C9)) W := fun W hW => mr_read ((hW.block _ (Array.getElem?_eq_some_iff.1 HF3.out.t).1).trans HF3.out.t)
              have lM : ∀ W, Below Z.heap.size Z W → (Instr.loadAt 26 (.pointer (some ⟨w.heap.size, 0, none⟩))).run Try.prog W = .ok (.agg (mC A P3 C3)) W := fun W hW => mg_read ((hW.block _ (Array.getElem?_eq_some_iff.1 HF3.out.m).1).trans HF3.out.m)
              have lW : ∀ W, Below Z.heap.size Z W → (Instr.loadAt 26 (.pointer (some ⟨w4.heap.size, 0, none⟩))).run Try.prog W = .ok (.agg (mC A P5 C5)) W := fun W hW => mg_read ((hW.block _ (Array.getElem?_eq_some_iff.1 HF3.out.was).1).trans HF3.out.was)
              have lS : ∀ W, Below Z.heap.size Z W → (Instr.loadAt 3 (.pointer (some ⟨w.heap.size + 1, 0, none⟩))).run Try.prog W = .ok (.int .i64 stop) W := fun W hW => by
                have k1 := (hW.cell (p := ⟨_, 0, none⟩) HF3.out.st.lt).trans HF3.out.st.cell
                simp [Instr.loadAt, go_sem, k1]
              have lK : ∀ W, Below Z.heap.size Z W → (Instr.loadAt 3 (.pointer (some ⟨bk, 0, none⟩))).run Try.prog W = .ok (.int .i64 (k : Int)) W := fun W hW => by
                have k1 := (hW.cell (p := ⟨_, 0, none⟩) HF3.out.k.lt).trans HF3.out.k.cell
                simp [Instr.loadAt, go_sem, k1]
              have hsG : Msm (A.put jj v) := by rw [← HS0.out]; exact setM_small hsA nm v
              have hbtz := (Array.getElem?_eq_some_iff.1 HF3.out.t).1
              have KO := Lib.hid (show ∀ W, Below Z.heap.size Z W → Calls Try.prog 11 #[.agg (mC (A.put jj v) P8 C8)] W fun e w' => ∃ u, e = .returned u ∧ FMs (A.put jj v) u w' ∧ Below W.heap.size W w' from fun W hW => of_F hsG ⟨_, _, rfl, ((HF3.out.mx.mono (Nat.le_of_lt hbtz)).below hW).mono hW.size⟩)
              have KS := Lib.hid (show ∀ x W, Below Z.heap.size Z W → FMs (A.put jj v) x W → Calls Try.prog 12 #[x, .agg (mC (A.put jj v) P9 C9)] W fun e w' => e = .returned (.bool true) ∧ Below W.heap.size W w' from fun x W hW hx => by
                have := rsame_F hsG hx (M' := (A.put jj v)) ⟨_, _, rfl, ((HF3.out.mt.mono (Nat.le_of_lt hbtz)).below hW).mono hW.size⟩
                rw [decide_eq_true rfl] at this
                exact this)
              have KM := Lib.hid (show ∀ W, Below Z.heap.size Z W → Calls Try.prog 14 #[.agg (mC A P3 C3), .agg (mC A P5 C5)] W fun e w' => e = .returned (.bool true) ∧ Below W.heap.size W w' from fun W hW => by
                have := same_F (M := A) (M' := A) (x := mV A P3 C3) (y := mV A P5 C5) hsA ⟨_, _, rfl, ((HF3.out.ma.mono (Nat.le_of_lt hbtz)).below hW).mono hW.size⟩ ⟨_, _, rfl, ((HF3.out.mw.mono (Nat.le_of_lt hbtz)).below hW).mono hW.size⟩
                rw [decide_eq_true rfl] at this
                exact this)
              refine wpIn_wide.2 ?_
              have hstop := HKS.out
              by_cases hneg : stop < 0
              · refine wp_region_F 201 [183] (fun _ => FMs (A.put jj v)) (fun W => Below Z.heap.size Z W) (by kernel_rfl) (by kernel_rfl) (by rfl) (by simp) (fun W W' h hb => h.trans (hb.mono h.size)) (fun s x W W' h hb => h.later hb) (Below.refl _ _).drew ?_
                refine wpF_call (f := 16) (args := #[]) (.bool true) rfl rfl (fun x => by first | rfl | (simp [go_sem]; done)) (fun W hW => mknown_any W) ?_
                simp only [Act.put, List.setIfInBounds_toArray, List.set_cons_succ, List.set_cons_zero]
                repeat (refine wpF_pure rfl rfl ?_; go_big_quiet_step (fail); refine wpQuiet_nil ?_)
                refine wpF_load (ad := ⟨bi + 1, 0, none⟩) (.bool true) rfl (by rfl) (by rfl) (by rfl) lOK ?_
                simp only [Act.put, List.setIfInBounds_toArray, List.set_cons_succ, List.set_cons_zero]
                repeat (refine wpF_pure rfl rfl ?_; go_big_quiet_step (fail); refine wpQuiet_nil ?_)
                refine wpF_load (ad := ⟨bx, 0, none⟩) (.agg (mC (A.put jj v) P8 C8)) rfl (by rfl) (by rfl) (by rfl) lX ?_
                simp only [Act.put, List.setIfInBounds_toArray, List.set_cons_succ, List.set_cons_zero]
                refine wpF_callsrc 183 (f := 11) (args := #[.agg (mC (A.put jj v) P8 C8)]) (by simp) rfl rfl rfl (fun x => by first | rfl | (simp [go_sem]; done)) (fun W hW => KO.out W hW) ?_
                simp only [Act.put, List.setIfInBounds_toArray, List.set_cons_succ, List.set_cons_zero]
                refine wpF_load (ad := ⟨bt, 0, none⟩) (.agg (mC (A.put jj v) P9 C9)) rfl (by rfl) (by rfl) (by rfl) lT ?_
                simp only [Act.put, List.setIfInBounds_toArray, List.set_cons_succ, List.set_cons_zero]
                refine wpF_use 183 23 (f := 12) (fun x => #[x, .agg (mC (A.put jj v) P9 C9)]) (.bool true) (by simp) rfl (by kernel_rfl) (by kernel_rfl) (by kernel_rfl) (fun _ => rfl) (fun v x => by first | rfl | (simp [go_sem]; done)) (fun x W hW hx => KS.out x W hW hx) ?_
                simp only [Act.put, List.setIfInBounds_toArray, List.set_cons_succ, List.set_cons_zero]
                repeat (refine wpF_pure rfl rfl ?_; go_big_quiet_step (fail); refine wpQuiet_nil ?_)
                refine wpF_load (ad := ⟨w.heap.size, 0, none⟩) (.agg (mC A P3 C3)) rfl (by rfl) (by rfl) (by rfl) lM ?_
                simp only [Act.put, List.setIfInBounds_toArray, List.set_cons_succ, List.set_cons_zero]
                refine wpF_load (ad := ⟨w4.heap.size, 0, none⟩) (.agg (mC A P5 C5)) rfl (by rfl) (by rfl) (by rfl) lW ?_
                simp only [Act.put, List.setIfInBounds_toArray, List.set_cons_succ, List.set_cons_zero]
                refine wpF_call (f := 14) (args := #[.agg (mC A P3 C3), .agg (mC A P5 C5)]) (.bool true) rfl rfl (fun x => by first | rfl | (simp [go_sem]; done)) (fun W hW => KM.out W hW) ?_
                simp only [Act.put, List.setIfInBounds_toArray, List.set_cons_succ, List.set_cons_zero]
                repeat (refine wpF_pure rfl rfl ?_; go_big_quiet_step (fail); refine wpQuiet_nil ?_)
                refine wpF_load (ad := ⟨w.heap.size + 1, 0, none⟩) (.int .i64 stop) rfl (by rfl) (by rfl) (by rfl) lS ?_
                simp only [Act.put, List.setIfInBounds_toArray, List.set_cons_succ, List.set_cons_zero]
                repeat (refine wpF_pure rfl rfl ?_; go_big_quiet_step (fail); refine wpQuiet_nil ?_)
                refine wpF_skipY rfl (by rfl) ?_
                simp only [Act.put, List.setIfInBounds_toArray, List.set_cons_succ, List.set_cons_zero]
                refine wpF_skipY rfl (by rfl) ?_
                simp only [Act.put, List.setIfInBounds_toArray, List.set_cons_succ, List.set_cons_zero]
                repeat (refine wpF_pure rfl rfl ?_; go_big_quiet_step (fail); refine wpQuiet_nil ?_)
                intro xs wz hz hxs
                simp only [fill]
                generalize xs 183 = x183
                have hd1 := (hz.block _ (Array.getElem?_eq_some_iff.1 HF3.out.d).1).trans HF3.out.d
                have hd2 := (hz.block _ (Array.getElem?_eq_some_iff.1 HF3.out.d2).1).trans HF3.out.d2
                have HD := Lib.hid (And.intro hd1 hd2)
                have HBZ := Lib.hid (HF3.out.b.trans (hz.mono HF3.out.b.size))
                have hDD : D ≠ D2 := by omega
                have hwD : w.heap.size ≤ D := by omega
                have hwD2 : w.heap.size ≤ D2 := by omega
                clear hz hxs lOK lX lT lM lW lS lK KO KS KM hd1 hd2 HF3
                simp only [Act.put, List.setIfInBounds_toArray, List.set_cons_succ, List.set_cons_zero]
                gi_wp2
                refine ⟨by simp, .inl ⟨_, _, rfl, run_takeDeferred HD.out.2, ?_⟩⟩
                refine ⟨by simp, .inl ⟨_, _, rfl, run_takeDeferred ((World.putObj_heap_other (by omega)).trans HD.out.1), ?_⟩⟩
                refine ⟨.bool true, ?_, rfl, (HBZ.out.trans (below_put _ _ hwD2)).trans (below_put _ _ hwD)⟩
                simp [results, Try.f4, go_sem]
              · have hle : (k : Int) ≤ stop := by omega
                refine wp_region_F 201 [183] (fun _ => FMs (A.put jj v)) (fun W => Below Z.heap.size Z W) (by kernel_rfl) (by kernel_rfl) (by rfl) (by simp) (fun W W' h hb => h.trans (hb.mono h.size)) (fun s x W W' h hb => h.later hb) (Below.refl _ _).drew ?_
                refine wpF_call (f := 16) (args := #[]) (.bool true) rfl rfl (fun x => by first | rfl | (simp [go_sem]; done)) (fun W hW => mknown_any W) ?_
                simp only [Act.put, List.setIfInBounds_toArray, List.set_cons_succ, List.set_cons_zero]
                repeat (refine wpF_pure rfl rfl ?_; go_big_quiet_step (fail); refine wpQuiet_nil ?_)
                refine wpF_load (ad := ⟨bi + 1, 0, none⟩) (.bool true) rfl (by rfl) (by rfl) (by rfl) lOK ?_
                simp only [Act.put, List.setIfInBounds_toArray, List.set_cons_succ, List.set_cons_zero]
                repeat (refine wpF_pure rfl rfl ?_; go_big_quiet_step (fail); refine wpQuiet_nil ?_)
                refine wpF_load (ad := ⟨bx, 0, none⟩) (.agg (mC (A.put jj v) P8 C8)) rfl (by rfl) (by rfl) (by rfl) lX ?_
                simp only [Act.put, List.setIfInBounds_toArray, List.set_cons_succ, List.set_cons_zero]
                refine wpF_callsrc 183 (f := 11) (args := #[.agg (mC (A.put jj v) P8 C8)]) (by simp) rfl rfl rfl (fun x => by first | rfl | (simp [go_sem]; done)) (fun W hW => KO.out W hW) ?_
                simp only [Act.put, List.setIfInBounds_toArray, List.set_cons_succ, List.set_cons_zero]
                refine wpF_load (ad := ⟨bt, 0, none⟩) (.agg (mC (A.put jj v) P9 C9)) rfl (by rfl) (by rfl) (by rfl) lT ?_
                simp only [Act.put, List.setIfInBounds_toArray, List.set_cons_succ, List.set_cons_zero]
                refine wpF_use 183 23 (f := 12) (fun x => #[x, .agg (mC (A.put jj v) P9 C9)]) (.bool true) (by simp) rfl (by kernel_rfl) (by kernel_rfl) (by kernel_rfl) (fun _ => rfl) (fun v x => by first | rfl | (simp [go_sem]; done)) (fun x W hW hx => KS.out x W hW hx) ?_
                simp only [Act.put, List.setIfInBounds_toArray, List.set_cons_succ, List.set_cons_zero]
                repeat (refine wpF_pure rfl rfl ?_; go_big_quiet_step (fail); refine wpQuiet_nil ?_)
                refine wpF_load (ad := ⟨w.heap.size, 0, none⟩) (.agg (mC A P3 C3)) rfl (by rfl) (by rfl) (by rfl) lM ?_
                simp only [Act.put, List.setIfInBounds_toArray, List.set_cons_succ, List.set_cons_zero]
                refine wpF_load (ad := ⟨w4.heap.size, 0, none⟩) (.agg (mC A P5 C5)) rfl (by rfl) (by rfl) (by rfl) lW ?_
                simp only [Act.put, List.setIfInBounds_toArray, List.set_cons_succ, List.set_cons_zero]
                refine wpF_call (f := 14) (args := #[.agg (mC A P3 C3), .agg (mC A P5 C5)]) (.bool true) rfl rfl (fun x => by first | rfl | (simp [go_sem]; done)) (fun W hW => KM.out W hW) ?_
                simp only [Act.put, List.setIfInBounds_toArray, List.set_cons_succ, List.set_cons_zero]
                repeat (refine wpF_pure rfl rfl ?_; go_big_quiet_step (fail); refine wpQuiet_nil ?_)
                refine wpF_load (ad := ⟨w.heap.size + 1, 0, none⟩) (.int .i64 stop) rfl (by rfl) (by rfl) (by rfl) lS ?_
                simp only [Act.put, List.setIfInBounds_toArray, List.set_cons_succ, List.set_cons_zero]
                repeat (refine wpF_pure rfl rfl ?_; go_big_quiet_step (fail); refine wpQuiet_nil ?_)
                refine wpF_load (ad := ⟨bk, 0, none⟩) (.int .i64 (k : Int)) rfl (by rfl) (by rfl) (by rfl) lK ?_
                simp only [Act.put, List.setIfInBounds_toArray, List.set_cons_succ, List.set_cons_zero]
                refine wpF_load (ad := ⟨w.heap.size + 1, 0, none⟩) (.int .i64 stop) rfl (by rfl) (by rfl) (by rfl) lS ?_
                simp only [Act.put, List.setIfInBounds_toArray, List.set_cons_succ, List.set_cons_zero]
                repeat (refine wpF_pure rfl rfl ?_; go_big_quiet_step (fail); refine wpQuiet_nil ?_)
                intro xs wz hz hxs
                simp only [fill]
                generalize xs 183 = x183
                have hd1 := (hz.block _ (Array.getElem?_eq_some_iff.1 HF3.out.d).1).trans HF3.out.d
                have hd2 := (hz.block _ (Array.getElem?_eq_some_iff.1 HF3.out.d2).1).trans HF3.out.d2
                have HD := Lib.hid (And.intro hd1 hd2)
                have HBZ := Lib.hid (HF3.out.b.trans (hz.mono HF3.out.b.size))
                have hDD : D ≠ D2 := by omega
                have hwD : w.heap.size ≤ D := by omega
                have hwD2 : w.heap.size ≤ D2 := by omega
                clear hz hxs lOK lX lT lM lW lS lK KO KS KM hd1 hd2 HF3
                simp only [Act.put, List.setIfInBounds_toArray, List.set_cons_succ, List.set_cons_zero]
                gi_wp2
                refine ⟨by simp, .inl ⟨_, _, rfl, run_takeDeferred HD.out.2, ?_⟩⟩
                refine ⟨by simp, .inl ⟨_, _, rfl, run_takeDeferred ((World.putObj_heap_other (by omega)).trans HD.out.1), ?_⟩⟩
                refine ⟨.bool true, ?_, rfl, (HBZ.out.trans (below_put _ _ hwD2)).trans (below_put _ _ hwD)⟩
                simp [results, Try.f4, go_sem]
            · obtain ⟨j, f, hf, hfd, hidx⟩ := hw
              have hpn : ¬ 0 ≤ f.pl := fun h => hpl ⟨j, f, hf, hfd, hidx, h⟩
              clear hpl
              have hw : ∃ (j : Nat) (f : Fd), L[j]? = some f ∧ fnd L nm = some f ∧ IdxAt L nm (j : Int) ∧ ¬ 0 ≤ f.pl := ⟨j, f, hf, hfd, hidx, hpn⟩
              clear hf hfd hidx hpn f j
              obtain ⟨j, f, hf, hfd, hidx, hpl⟩ := hw
              have hok := HFI.out f (List.mem_of_getElem? hf)
              have hjj : f.pl = -1 := by
                by_cases h3 : f.so < 3
                · obtain ⟨jj, _, e⟩ := hok.pl h3
                  omega
                · exact hok.no h3
              have hB : plB (fnd L nm) = false := by rw [hfd]; simp [plB, hjj]
              have hget : getM A nm = 0 := by unfold getM; rw [HL.out, hB]; simp
              have hset : setM A nm v = A := by unfold setM; rw [HL.out, hB]; simp
              have K6 := Lib.hid (rfind_any Ad ii c nm 0 L (j : Int) V HN.out (by omega) HNZV.out.row hidx)
              have K7 := mget_any A P3 C3 nm V
              rw [HL.out, hB, hget] at K7
              unfold mV at K7
              have K7 := Lib.hid K7
              have HSET := Lib.hid hset
              have HS0 := Lib.hid hset
              have HBB := Lib.hid hB
              obtain ⟨gr, rfl, -, hgr, e0, -, e2, -, -, -, -⟩ := HNZV.out.row.seven hf
              rw [hjj] at e2
              have hjl := (List.getElem?_eq_some_iff.1 hf).1
              rw [HN.out] at hjl
              have hin : (j : Int) < (ii : Int) := by omega
              have hj7 : j ≤ 6 := by omega
              have hgr7 := hgr
              clear hidx hfd hB hget hset
              gi_wp2_with fail
              refine ⟨trivial, ?_⟩
              refine (callsIn_wide.2 K6.out).mono ?_
              rintro e wx ⟨rfl, rfl⟩
              gi_wp2_with (refine wpListIn_load_run rfl 26 (.tmp 4) rfl (some ⟨w.heap.size, 0, none⟩) rfl (.agg (mC A P3 C3)) LV.out ?_)
              refine ⟨trivial, ?_⟩
              refine (callsIn_wide.2 K7.out).mono ?_
              rintro e w11 ⟨rfl, hb11⟩
              have hs11 := hb11.size
              have NZ := HNZV.out
              have l11 := mg_read ((hb11.block _ hmsz).trans NZ.m)
              unfold mV at l11
              have L11 := Lib.hid l11
              have ma11 := (NZ.ma.below hb11).mono hs11
              have K8 := mset_any A P3 C3 nm v w11 hsA ma11
              rw [HSET.out, HL.out, HBB.out] at K8
              unfold mV at K8
              have K8 := Lib.hid K8
              have HB11 := Lib.hid hb11
              clear hb11 l11 ma11 NZ K7 K6
              gi_wp2_with (refine wpListIn_load_run rfl 26 (.tmp 4) rfl (some ⟨w.heap.size, 0, none⟩) rfl (.agg (mC A P3 C3)) L11.out ?_)
              refine ⟨trivial, ?_⟩
              refine (callsIn_wide.2 K8.out).mono ?_
              intro e w12 hC
              unfold MSR mV at hC
              obtain ⟨P8, C8, rfl, ho8, hb12⟩ := hC
              obtain ⟨⟨a8, c8, rfl, -, -⟩, ⟨b8, d8, rfl, -, -⟩⟩ := ho8.at
              have hm8 := ho8.at
              obtain ⟨P8, hP8⟩ : ∃ P3, Value.slice a8 A.p.length c8 = P3 := ⟨_, rfl⟩
              obtain ⟨C8, hC8⟩ : ∃ C3, Value.slice b8 A.c.length d8 = C3 := ⟨_, rfl⟩
              have hone : (mC A P8 C8).all (·.oneCell') = true := by rw [← hP8, ← hC8]; simp [mC, Value.oneCell']
              rw [hP8, hC8] at hm8 ⊢
              clear hP8 hC8 ho8
              obtain ⟨bx, hbx⟩ : ∃ bx, w12.heap.size = bx := ⟨_, rfl⟩
              obtain ⟨w13, hw13⟩ : ∃ w13, (w12.alloc (.cells #[.int .i64 0, .int .i64 0, .int .i64 0, .int .i64 0, .int .i64 0, .int .i64 0, .int .i64 0, .slice none 0 0, .slice none 0 0, .string ⟨#[]⟩, .string ⟨#[]⟩] 26)).setRow w12.heap.size (mC A P8 C8) = w13 := ⟨_, rfl⟩
              have hst := mg_store (w12.alloc (.cells #[.int .i64 0, .int .i64 0, .int .i64 0, .int .i64 0, .int .i64 0, .int .i64 0, .int .i64 0, .slice none 0 0, .slice none 0 0, .string ⟨#[]⟩, .string ⟨#[]⟩] 26)) w12.heap.size #[.int .i64 0, .int .i64 0, .int .i64 0, .int .i64 0, .int .i64 0, .int .i64 0, .int .i64 0, .slice none 0 0, .slice none 0 0, .string ⟨#[]⟩, .string ⟨#[]⟩] (mC A P8 C8) (World.alloc_heap_new _ _) rfl rfl hone
              rw [hw13] at hst
              have HST := Lib.hid hst
              have hbb : Below w12.heap.size w12 (w12.alloc (.cells #[.int .i64 0, .int .i64 0, .int .i64 0, .int .i64 0, .int .i64 0, .int .i64 0, .int .i64 0, .slice none 0 0, .slice none 0 0, .string ⟨#[]⟩, .string ⟨#[]⟩] 26)) := (Below.refl _ w12).alloc (Nat.le_refl _) _
              have hb1213 : Below w12.heap.size w12 w13 := by
                rw [← hw13]
                exact hbb.trans ((Off.setRow (S := fun k => w12.heap.size ≤ k) (Off.refl _ _) (Nat.le_refl w12.heap.size) _).below (B := w12.heap.size) (fun k hk => by omega) hbb.size)
              have q13 : w13.heap[w12.heap.size]? = some (.cells (mC A P8 C8) 26 (0, 0)) := by rw [← hw13]; exact setRow_heap _ _ _ _ _ _ (World.alloc_heap_new _ _)
              rw [hbx] at q13
              have hs12 := hb12.size
              have hV13 : Below V.heap.size V w13 := HB11.out.trans ((hb12.mono hs11).trans (hb1213.mono (Nat.le_trans hs11 hs12)))
              have NZ := HNZV.out
              have l13 := mg_read ((hV13.block _ hmsz).trans NZ.m)
              unfold mV at l13
              have L13 := Lib.hid l13
              have hs13 := hV13.size
              have K9 := Lib.hid (of_F hsA (show FMs A (.agg (mC A P3 C3)) w13 from ⟨_, _, rfl, (NZ.ma.below hV13).mono hs13⟩))
              have hx13 := hm8.below hb1213
              rw [hbx] at hx13
              have HX13 := Lib.hid (And.intro q13 hx13)
              have HV13 := Lib.hid hV13
              have HBX := Lib.hid hbx
              have hbxl := (Array.getElem?_eq_some_iff.1 q13).1
              have hbxV : V.heap.size ≤ bx := by omega
              clear hw13 hst hbb hb1213 q13 hV13 NZ l13 hx13 hm8 hone K8 hb12 HB11 L11 hs11 hs12 hbx
              gi_wp2_with (first | refine wpListIn_store_run rfl 26 (.tmp 22) (.tmp 134) rfl (some ⟨w12.heap.size, 0, none⟩) rfl (.agg (mC A P8 C8)) rfl HST.out ?_ | (refine wpListIn_load_run rfl 26 (.tmp 4) rfl (some ⟨w.heap.size, 0, none⟩) rfl (.agg (mC A P3 C3)) L13.out ?_))
              rw [HBX.out]
              clear HST L13
              refine ⟨trivial, ?_⟩
              refine (callsIn_wide.2 K9.out).mono ?_
              rintro e w14 ⟨_, rfl, ⟨P, C, rfl, hZ⟩, hb14⟩
              obtain ⟨⟨a9, c9, rfl, -, -⟩, ⟨b9, d9, rfl, -, -⟩⟩ := id hZ
              obtain ⟨P9, hP9⟩ : ∃ P3, Value.slice a9 A.p.length c9 = P3 := ⟨_, rfl⟩
              obtain ⟨C9, hC9⟩ : ∃ C3, Value.slice b9 A.c.length d9 = C3 := ⟨_, rfl⟩
              have hone : (mC A P9 C9).all (·.oneCell') = true := by rw [← hP9, ← hC9]; simp [mC, Value.oneCell']
              rw [hP9, hC9] at hZ ⊢
              clear hP9 hC9 K9
              unfold mV
              obtain ⟨bt, hbt⟩ : ∃ bt, w14.heap.size = bt := ⟨_, rfl⟩
              obtain ⟨w15, hw15⟩ : ∃ w15, (w14.alloc (.cells #[.int .i64 0, .int .i64 0, .int .i64 0, .int .i64 0, .int .i64 0, .int .i64 0, .int .i64 0, .slice none 0 0, .slice none 0 0, .string ⟨#[]⟩, .string ⟨#[]⟩] 34)).setRow w14.heap.size (mC A P9 C9) = w15 := ⟨_, rfl⟩
              have hst := mr_store (w14.alloc (.cells #[.int .i64 0, .int .i64 0, .int .i64 0, .int .i64 0, .int .i64 0, .int .i64 0, .int .i64 0, .slice none 0 0, .slice none 0 0, .string ⟨#[]⟩, .string ⟨#[]⟩] 34)) w14.heap.size #[.int .i64 0, .int .i64 0, .int .i64 0, .int .i64 0, .int .i64 0, .int .i64 0, .int .i64 0, .slice none 0 0, .slice none 0 0, .string ⟨#[]⟩, .string ⟨#[]⟩] (mC A P9 C9) (World.alloc_heap_new _ _) rfl rfl hone
              rw [hw15] at hst
              have HST := Lib.hid hst
              have hbb : Below w14.heap.size w14 (w14.alloc (.cells #[.int .i64 0, .int .i64 0, .int .i64 0, .int .i64 0, .int .i64 0, .int .i64 0, .int .i64 0, .slice none 0 0, .slice none 0 0, .string ⟨#[]⟩, .string ⟨#[]⟩] 34)) := (Below.refl _ w14).alloc (Nat.le_refl _) _
              have hb1415 : Below w14.heap.size w14 w15 := by
                rw [← hw15]
                exact hbb.trans ((Off.setRow (S := fun k => w14.heap.size ≤ k) (Off.refl _ _) (Nat.le_refl w14.heap.size) _).below (B := w14.heap.size) (fun k hk => by omega) hbb.size)
              have q15 : w15.heap[w14.heap.size]? = some (.cells (mC A P9 C9) 34 (0, 0)) := by rw [← hw15]; exact setRow_heap _ _ _ _ _ _ (World.alloc_heap_new _ _)
              rw [hbt] at q15
              have hs14 := hb14.size
              have hb1315 := hb14.trans (hb1415.mono hs14)
              have hV15 : Below V.heap.size V w15 := HV13.out.trans (hb1315.mono hs13)
              have hbtl := (Array.getElem?_eq_some_iff.1 q15).1
              have hbtx : w13.heap.size ≤ bt := by omega
              have hV15s := hV15.size
              have x15 := (hb1315.block _ hbxl).trans HX13.out.1
              have mx15 := HX13.out.2.below (hb1315.mono (Nat.le_of_lt hbxl))
              have mt15 := hZ.below hb1415
              rw [hbt] at mt15
              have HBT := Lib.hid hbt
              have H15 := Lib.hid (And.intro hV15 (And.intro x15 (And.intro mx15 (And.intro q15 mt15))))
              clear hw15 hst hbb hb1415 q15 hV15 x15 mx15 mt15 hone hZ hb14 hb1315 HX13 HV13 hs14 hbt
              have NZ := HNZV.out
              have hF : FinZ w w.heap.size w4.heap.size bx bt (bi + 1) bk D D2 A A A P3 C3 P5 C5 P8 C8 P9 C9 k stop w15 := by
                have hv := H15.out.1
                exact ⟨(hv.block _ hmsz).trans NZ.m, (hv.block _ NZ.st.lt).trans NZ.st, (hv.block _ (Array.getElem?_eq_some_iff.1 NZ.was).1).trans NZ.was, H15.out.2.1, H15.out.2.2.2.1, (hv.block _ HBXS.out.1.lt).trans HBXS.out.1, (hv.block _ HBXS.out.2.1.lt).trans HBXS.out.2.1,
                  (hv.block _ (Array.getElem?_eq_some_iff.1 HBXS.out.2.2.1).1).trans HBXS.out.2.2.1, (hv.block _ hD2l).trans HBXS.out.2.2.2, (NZ.ma.below hv).mono (by omega), (NZ.mw.below hv).mono (by omega), H15.out.2.2.1.mono (by omega), H15.out.2.2.2.2.mono (by omega),
                  ⟨by omega, by omega, by omega, by omega, by omega, by omega, by omega⟩, ⟨by omega, by omega, by omega, by omega, by omega, by omega, by omega⟩, by omega, HB0.out.trans (hv.mono hwV)⟩
              have HF3 := Lib.hid hF
              obtain ⟨Z, hZ⟩ : ∃ Z, Z = w15 := ⟨_, rfl⟩
              subst hZ
              clear hF NZ H15 cl
              gi_wp2_with (refine wpListIn_store_run rfl 34 (.tmp 24) (.tmp 137) rfl (some ⟨w14.heap.size, 0, none⟩) rfl (.agg (mC A P9 C9)) rfl HST.out ?_)
              rw [HBT.out]
              clear LV HNZV HBXS HSET HBB
              have lOK : ∀ W, Below Z.heap.size Z W → (Instr.loadAt 4 (.pointer (some ⟨bi + 1, 0, none⟩))).run Try.prog W = .ok (.bool true) W := fun W hW => by
                have k1 := (hW.cell (p := ⟨_, 0, none⟩) HF3.out.ok.lt).trans HF3.out.ok.cell
                simp [Instr.loadAt, go_sem, k1]
              have lX : ∀ W, Below Z.heap.size Z W → (Instr.loadAt 26 (.pointer (some ⟨bx, 0, none⟩))).run Try.prog W = .ok (.agg (mC A P8 C8)) W := fun W hW => mg_read ((hW.block _ (Array.getElem?_eq_some_iff.1 HF3.out.x).1).trans HF3.out.x)
              have lT : ∀ W, Below Z.heap.size Z W → (Instr.loadAt 34 (.pointer (some ⟨bt, 0, none⟩))).run Try.prog W = .ok (.agg (mC A P9 C9)) W := fun W hW => mr_read ((hW.block _ (Array.getElem?_eq_some_iff.1 HF3.out.t).1).trans HF3.out.t)
              have lM : ∀ W, Below Z.heap.size Z W → (Instr.loadAt 26 (.pointer (some ⟨w.heap.size, 0, none⟩))).run Try.prog W = .ok (.agg (mC A P3 C3)) W := fun W hW => mg_read ((hW.block _ (Array.getElem?_eq_some_iff.1 HF3.out.m).1).trans HF3.out.m)
              have lW : ∀ W, Below Z.heap.size Z W → (Instr.loadAt 26 (.pointer (some ⟨w4.heap.size, 0, none⟩))).run Try.prog W = .ok (.agg (mC A P5 C5)) W := fun W hW => mg_read ((hW.block _ (Array.getElem?_eq_some_iff.1 HF3.out.was).1).trans HF3.out.was)
              have lS : ∀ W, Below Z.heap.size Z W → (Instr.loadAt 3 (.pointer (some ⟨w.heap.size + 1, 0, none⟩))).run Try.prog W = .ok (.int .i64 stop) W := fun W hW => by
                have k1 := (hW.cell (p := ⟨_, 0, none⟩) HF3.out.st.lt).trans HF3.out.st.cell
                simp [Instr.loadAt, go_sem, k1]
              have lK : ∀ W, Below Z.heap.size Z W → (Instr.loadAt 3 (.pointer (some ⟨bk, 0, none⟩))).run Try.prog W = .ok (.int .i64 (k : Int)) W := fun W hW => by
                have k1 := (hW.cell (p := ⟨_, 0, none⟩) HF3.out.k.lt).trans HF3.out.k.cell
                simp [Instr.loadAt, go_sem, k1]
              have hsG : Msm A := hsA
              have hbtz := (Array.getElem?_eq_some_iff.1 HF3.out.t).1
              have KO := Lib.hid (show ∀ W, Below Z.heap.size Z W → Calls Try.prog 11 #[.agg (mC A P8 C8)] W fun e w' => ∃ u, e = .returned u ∧ FMs A u w' ∧ Below W.heap.size W w' from fun W hW => of_F hsG ⟨_, _, rfl, ((HF3.out.mx.mono (Nat.le_of_lt hbtz)).below hW).mono hW.size⟩)
              have KS := Lib.hid (show ∀ x W, Below Z.heap.size Z W → FMs A x W → Calls Try.prog 12 #[x, .agg (mC A P9 C9)] W fun e w' => e = .returned (.bool true) ∧ Below W.heap.size W w' from fun x W hW hx => by
                have := rsame_F hsG hx (M' := A) ⟨_, _, rfl, ((HF3.out.mt.mono (Nat.le_of_lt hbtz)).below hW).mono hW.size⟩
                rw [decide_eq_true rfl] at this
                exact this)
              have KM := Lib.hid (show ∀ W, Below Z.heap.size Z W → Calls Try.prog 14 #[.agg (mC A P3 C3), .agg (mC A P5 C5)] W fun e w' => e = .returned (.bool true) ∧ Below W.heap.size W w' from fun W hW => by
                have := same_F (M := A) (M' := A) (x := mV A P3 C3) (y := mV A P5 C5) hsA ⟨_, _, rfl, ((HF3.out.ma.mono (Nat.le_of_lt hbtz)).below hW).mono hW.size⟩ ⟨_, _, rfl, ((HF3.out.mw.mono (Nat.le_of_lt hbtz)).below hW).mono hW.size⟩
                rw [decide_eq_true rfl] at this
                exact this)
              refine wpIn_wide.2 ?_
              have hstop := HKS.out
              by_cases hneg : stop < 0
              · refine wp_region_F 201 [183] (fun _ => FMs A) (fun W => Below Z.heap.size Z W) (by kernel_rfl) (by kernel_rfl) (by rfl) (by simp) (fun W W' h hb => h.trans (hb.mono h.size)) (fun s x W W' h hb => h.later hb) (Below.refl _ _).drew ?_
                refine wpF_call (f := 16) (args := #[]) (.bool true) rfl rfl (fun x => by first | rfl | (simp [go_sem]; done)) (fun W hW => mknown_any W) ?_
                simp only [Act.put, List.setIfInBounds_toArray, List.set_cons_succ, List.set_cons_zero]
                repeat (refine wpF_pure rfl rfl ?_; go_big_quiet_step (fail); refine wpQuiet_nil ?_)
                refine wpF_load (ad := ⟨bi + 1, 0, none⟩) (.bool true) rfl (by rfl) (by rfl) (by rfl) lOK ?_
                simp only [Act.put, List.setIfInBounds_toArray, List.set_cons_succ, List.set_cons_zero]
                repeat (refine wpF_pure rfl rfl ?_; go_big_quiet_step (fail); refine wpQuiet_nil ?_)
                refine wpF_load (ad := ⟨bx, 0, none⟩) (.agg (mC A P8 C8)) rfl (by rfl) (by rfl) (by rfl) lX ?_
                simp only [Act.put, List.setIfInBounds_toArray, List.set_cons_succ, List.set_cons_zero]
                refine wpF_callsrc 183 (f := 11) (args := #[.agg (mC A P8 C8)]) (by simp) rfl rfl rfl (fun x => by first | rfl | (simp [go_sem]; done)) (fun W hW => KO.out W hW) ?_
                simp only [Act.put, List.setIfInBounds_toArray, List.set_cons_succ, List.set_cons_zero]
                refine wpF_load (ad := ⟨bt, 0, none⟩) (.agg (mC A P9 C9)) rfl (by rfl) (by rfl) (by rfl) lT ?_
                simp only [Act.put, List.setIfInBounds_toArray, List.set_cons_succ, List.set_cons_zero]
                refine wpF_use 183 23 (f := 12) (fun x => #[x, .agg (mC A P9 C9)]) (.bool true) (by simp) rfl (by kernel_rfl) (by kernel_rfl) (by kernel_rfl) (fun _ => rfl) (fun v x => by first | rfl | (simp [go_sem]; done)) (fun x W hW hx => KS.out x W hW hx) ?_
                simp only [Act.put, List.setIfInBounds_toArray, List.set_cons_succ, List.set_cons_zero]
                repeat (refine wpF_pure rfl rfl ?_; go_big_quiet_step (fail); refine wpQuiet_nil ?_)
                refine wpF_load (ad := ⟨w.heap.size, 0, none⟩) (.agg (mC A P3 C3)) rfl (by rfl) (by rfl) (by rfl) lM ?_
                simp only [Act.put, List.setIfInBounds_toArray, List.set_cons_succ, List.set_cons_zero]
                refine wpF_load (ad := ⟨w4.heap.size, 0, none⟩) (.agg (mC A P5 C5)) rfl (by rfl) (by rfl) (by rfl) lW ?_
                simp only [Act.put, List.setIfInBounds_toArray, List.set_cons_succ, List.set_cons_zero]
                refine wpF_call (f := 14) (args := #[.agg (mC A P3 C3), .agg (mC A P5 C5)]) (.bool true) rfl rfl (fun x => by first | rfl | (simp [go_sem]; done)) (fun W hW => KM.out W hW) ?_
                simp only [Act.put, List.setIfInBounds_toArray, List.set_cons_succ, List.set_cons_zero]
                repeat (refine wpF_pure rfl rfl ?_; go_big_quiet_step (fail); refine wpQuiet_nil ?_)
                refine wpF_load (ad := ⟨w.heap.size + 1, 0, none⟩) (.int .i64 stop) rfl (by rfl) (by rfl) (by rfl) lS ?_
                simp only [Act.put, List.setIfInBounds_toArray, List.set_cons_succ, List.set_cons_zero]
                repeat (refine wpF_pure rfl rfl ?_; go_big_quiet_step (fail); refine wpQuiet_nil ?_)
                refine wpF_skipY rfl (by rfl) ?_
                simp only [Act.put, List.setIfInBounds_toArray, List.set_cons_succ, List.set_cons_zero]
                refine wpF_skipY rfl (by rfl) ?_
                simp only [Act.put, List.setIfInBounds_toArray, List.set_cons_succ, List.set_cons_zero]
                repeat (refine wpF_pure rfl rfl ?_; go_big_quiet_step (fail); refine wpQuiet_nil ?_)
                intro xs wz hz hxs
                simp only [fill]
                generalize xs 183 = x183
                have hd1 := (hz.block _ (Array.getElem?_eq_some_iff.1 HF3.out.d).1).trans HF3.out.d
                have hd2 := (hz.block _ (Array.getElem?_eq_some_iff.1 HF3.out.d2).1).trans HF3.out.d2
                have HD := Lib.hid (And.intro hd1 hd2)
                have HBZ := Lib.hid (HF3.out.b.trans (hz.mono HF3.out.b.size))
                have hDD : D ≠ D2 := by omega
                have hwD : w.heap.size ≤ D := by omega
                have hwD2 : w.heap.size ≤ D2 := by omega
                clear hz hxs lOK lX lT lM lW lS lK KO KS KM hd1 hd2 HF3
                simp only [Act.put, List.setIfInBounds_toArray, List.set_cons_succ, List.set_cons_zero]
                gi_wp2
                refine ⟨by simp, .inl ⟨_, _, rfl, run_takeDeferred HD.out.2, ?_⟩⟩
                refine ⟨by simp, .inl ⟨_, _, rfl, run_takeDeferred ((World.putObj_heap_other (by omega)).trans HD.out.1), ?_⟩⟩
                refine ⟨.bool true, ?_, rfl, (HBZ.out.trans (below_put _ _ hwD2)).trans (below_put _ _ hwD)⟩
                simp [results, Try.f4, go_sem]
              · have hle : (k : Int) ≤ stop := by omega
                refine wp_region_F 201 [183] (fun _ => FMs A) (fun W => Below Z.heap.size Z W) (by kernel_rfl) (by kernel_rfl) (by rfl) (by simp) (fun W W' h hb => h.trans (hb.mono h.size)) (fun s x W W' h hb => h.later hb) (Below.refl _ _).drew ?_
                refine wpF_call (f := 16) (args := #[]) (.bool true) rfl rfl (fun x => by first | rfl | (simp [go_sem]; done)) (fun W hW => mknown_any W) ?_
                simp only [Act.put, List.setIfInBounds_toArray, List.set_cons_succ, List.set_cons_zero]
                repeat (refine wpF_pure rfl rfl ?_; go_big_quiet_step (fail); refine wpQuiet_nil ?_)
                refine wpF_load (ad := ⟨bi + 1, 0, none⟩) (.bool true) rfl (by rfl) (by rfl) (by rfl) lOK ?_
                simp only [Act.put, List.setIfInBounds_toArray, List.set_cons_succ, List.set_cons_zero]
                repeat (refine wpF_pure rfl rfl ?_; go_big_quiet_step (fail); refine wpQuiet_nil ?_)
                refine wpF_load (ad := ⟨bx, 0, none⟩) (.agg (mC A P8 C8)) rfl (by rfl) (by rfl) (by rfl) lX ?_
                simp only [Act.put, List.setIfInBounds_toArray, List.set_cons_succ, List.set_cons_zero]
                refine wpF_callsrc 183 (f := 11) (args := #[.agg (mC A P8 C8)]) (by simp) rfl rfl rfl (fun x => by first | rfl | (simp [go_sem]; done)) (fun W hW => KO.out W hW) ?_
                simp only [Act.put, List.setIfInBounds_toArray, List.set_cons_succ, List.set_cons_zero]
                refine wpF_load (ad := ⟨bt, 0, none⟩) (.agg (mC A P9 C9)) rfl (by rfl) (by rfl) (by rfl) lT ?_
                simp only [Act.put, List.setIfInBounds_toArray, List.set_cons_succ, List.set_cons_zero]
                refine wpF_use 183 23 (f := 12) (fun x => #[x, .agg (mC A P9 C9)]) (.bool true) (by simp) rfl (by kernel_rfl) (by kernel_rfl) (by kernel_rfl) (fun _ => rfl) (fun v x => by first | rfl | (simp [go_sem]; done)) (fun x W hW hx => KS.out x W hW hx) ?_
                simp only [Act.put, List.setIfInBounds_toArray, List.set_cons_succ, List.set_cons_zero]
                repeat (refine wpF_pure rfl rfl ?_; go_big_quiet_step (fail); refine wpQuiet_nil ?_)
                refine wpF_load (ad := ⟨w.heap.size, 0, none⟩) (.agg (mC A P3 C3)) rfl (by rfl) (by rfl) (by rfl) lM ?_
                simp only [Act.put, List.setIfInBounds_toArray, List.set_cons_succ, List.set_cons_zero]
                refine wpF_load (ad := ⟨w4.heap.size, 0, none⟩) (.agg (mC A P5 C5)) rfl (by rfl) (by rfl) (by rfl) lW ?_
                simp only [Act.put, List.setIfInBounds_toArray, List.set_cons_succ, List.set_cons_zero]
                refine wpF_call (f := 14) (args := #[.agg (mC A P3 C3), .agg (mC A P5 C5)]) (.bool true) rfl rfl (fun x => by first | rfl | (simp [go_sem]; done)) (fun W hW => KM.out W hW) ?_
                simp only [Act.put, List.setIfInBounds_toArray, List.set_cons_succ, List.set_cons_zero]
                repeat (refine wpF_pure rfl rfl ?_; go_big_quiet_step (fail); refine wpQuiet_nil ?_)
                refine wpF_load (ad := ⟨w.heap.size + 1, 0, none⟩) (.int .i64 stop) rfl (by rfl) (by rfl) (by rfl) lS ?_
                simp only [Act.put, List.setIfInBounds_toArray, List.set_cons_succ, List.set_cons_zero]
                repeat (refine wpF_pure rfl rfl ?_; go_big_quiet_step (fail); refine wpQuiet_nil ?_)
                refine wpF_load (ad := ⟨bk, 0, none⟩) (.int .i64 (k : Int)) rfl (by rfl) (by rfl) (by rfl) lK ?_
                simp only [Act.put, List.setIfInBounds_toArray, List.set_cons_succ, List.set_cons_zero]
                refine wpF_load (ad := ⟨w.heap.size + 1, 0, none⟩) (.int .i64 stop) rfl (by rfl) (by rfl) (by rfl) lS ?_
                simp only [Act.put, List.setIfInBounds_toArray, List.set_cons_succ, List.set_cons_zero]
                repeat (refine wpF_pure rfl rfl ?_; go_big_quiet_step (fail); refine wpQuiet_nil ?_)
                intro xs wz hz hxs
                simp only [fill]
                generalize xs 183 = x183
                have hd1 := (hz.block _ (Array.getElem?_eq_some_iff.1 HF3.out.d).1).trans HF3.out.d
                have hd2 := (hz.block _ (Array.getElem?_eq_some_iff.1 HF3.out.d2).1).trans HF3.out.d2
                have HD := Lib.hid (And.intro hd1 hd2)
                have HBZ := Lib.hid (HF3.out.b.trans (hz.mono HF3.out.b.size))
                have hDD : D ≠ D2 := by omega
                have hwD : w.heap.size ≤ D := by omega
                have hwD2 : w.heap.size ≤ D2 := by omega
                clear hz hxs lOK lX lT lM lW lS lK KO KS KM hd1 hd2 HF3
                simp only [Act.put, List.setIfInBounds_toArray, List.set_cons_succ, List.set_cons_zero]
                gi_wp2
                refine ⟨by simp, .inl ⟨_, _, rfl, run_takeDeferred HD.out.2, ?_⟩⟩
                refine ⟨by simp, .inl ⟨_, _, rfl, run_takeDeferred ((World.putObj_heap_other (by omega)).trans HD.out.1), ?_⟩⟩
                refine ⟨.bool true, ?_, rfl, (HBZ.out.trans (below_put _ _ hwD2)).trans (below_put _ _ hwD)⟩
                simp [results, Try.f4, go_sem]
          · obtain ⟨hfd, hidx⟩ := hw
            have hB : plB (fnd L nm) = false := by rw [hfd]; simp [plB, Fd.zero]
            have hget : getM A nm = 0 := by unfold getM; rw [HL.out, hB]; simp
            have hset : setM A nm v = A := by unfold setM; rw [HL.out, hB]; simp
            have K6 := Lib.hid (rfind_any Ad ii c nm 0 L (-1) V HN.out (by omega) HNZV.out.row hidx)
            have K7 := mget_any A P3 C3 nm V
            rw [HL.out, hB, hget] at K7
            unfold mV at K7
            have K7 := Lib.hid K7
            have HSET := Lib.hid hset
            have HS0 := Lib.hid hset
            have HBB := Lib.hid hB
            clear hidx hfd hB hget hset
            gi_wp2_with fail
            refine ⟨trivial, ?_⟩
            refine (callsIn_wide.2 K6.out).mono ?_
            rintro e wx ⟨rfl, rfl⟩
            gi_wp2_with (refine wpListIn_load_run rfl 26 (.tmp 4) rfl (some ⟨w.heap.size, 0, none⟩) rfl (.agg (mC A P3 C3)) LV.out ?_)
            refine ⟨trivial, ?_⟩
            refine (callsIn_wide.2 K7.out).mono ?_
            rintro e w11 ⟨rfl, hb11⟩
            have hs11 := hb11.size
            have NZ := HNZV.out
            have l11 := mg_read ((hb11.block _ hmsz).trans NZ.m)
            unfold mV at l11
            have L11 := Lib.hid l11
            have ma11 := (NZ.ma.below hb11).mono hs11
            have K8 := mset_any A P3 C3 nm v w11 hsA ma11
            rw [HSET.out, HL.out, HBB.out] at K8
            unfold mV at K8
            have K8 := Lib.hid K8
            have HB11 := Lib.hid hb11
            clear hb11 l11 ma11 NZ K7 K6
            gi_wp2_with (refine wpListIn_load_run rfl 26 (.tmp 4) rfl (some ⟨w.heap.size, 0, none⟩) rfl (.agg (mC A P3 C3)) L11.out ?_)
            refine ⟨trivial, ?_⟩
            refine (callsIn_wide.2 K8.out).mono ?_
            intro e w12 hC
            unfold MSR mV at hC
            obtain ⟨P8, C8, rfl, ho8, hb12⟩ := hC
            obtain ⟨⟨a8, c8, rfl, -, -⟩, ⟨b8, d8, rfl, -, -⟩⟩ := ho8.at
            have hm8 := ho8.at
            obtain ⟨P8, hP8⟩ : ∃ P3, Value.slice a8 A.p.length c8 = P3 := ⟨_, rfl⟩
            obtain ⟨C8, hC8⟩ : ∃ C3, Value.slice b8 A.c.length d8 = C3 := ⟨_, rfl⟩
            have hone : (mC A P8 C8).all (·.oneCell') = true := by rw [← hP8, ← hC8]; simp [mC, Value.oneCell']
            rw [hP8, hC8] at hm8 ⊢
            clear hP8 hC8 ho8
            obtain ⟨bx, hbx⟩ : ∃ bx, w12.heap.size = bx := ⟨_, rfl⟩
            obtain ⟨w13, hw13⟩ : ∃ w13, (w12.alloc (.cells #[.int .i64 0, .int .i64 0, .int .i64 0, .int .i64 0, .int .i64 0, .int .i64 0, .int .i64 0, .slice none 0 0, .slice none 0 0, .string ⟨#[]⟩, .string ⟨#[]⟩] 26)).setRow w12.heap.size (mC A P8 C8) = w13 := ⟨_, rfl⟩
            have hst := mg_store (w12.alloc (.cells #[.int .i64 0, .int .i64 0, .int .i64 0, .int .i64 0, .int .i64 0, .int .i64 0, .int .i64 0, .slice none 0 0, .slice none 0 0, .string ⟨#[]⟩, .string ⟨#[]⟩] 26)) w12.heap.size #[.int .i64 0, .int .i64 0, .int .i64 0, .int .i64 0, .int .i64 0, .int .i64 0, .int .i64 0, .slice none 0 0, .slice none 0 0, .string ⟨#[]⟩, .string ⟨#[]⟩] (mC A P8 C8) (World.alloc_heap_new _ _) rfl rfl hone
            rw [hw13] at hst
            have HST := Lib.hid hst
            have hbb : Below w12.heap.size w12 (w12.alloc (.cells #[.int .i64 0, .int .i64 0, .int .i64 0, .int .i64 0, .int .i64 0, .int .i64 0, .int .i64 0, .slice none 0 0, .slice none 0 0, .string ⟨#[]⟩, .string ⟨#[]⟩] 26)) := (Below.refl _ w12).alloc (Nat.le_refl _) _
            have hb1213 : Below w12.heap.size w12 w13 := by
              rw [← hw13]
              exact hbb.trans ((Off.setRow (S := fun k => w12.heap.size ≤ k) (Off.refl _ _) (Nat.le_refl w12.heap.size) _).below (B := w12.heap.size) (fun k hk => by omega) hbb.size)
            have q13 : w13.heap[w12.heap.size]? = some (.cells (mC A P8 C8) 26 (0, 0)) := by rw [← hw13]; exact setRow_heap _ _ _ _ _ _ (World.alloc_heap_new _ _)
            rw [hbx] at q13
            have hs12 := hb12.size
            have hV13 : Below V.heap.size V w13 := HB11.out.trans ((hb12.mono hs11).trans (hb1213.mono (Nat.le_trans hs11 hs12)))
            have NZ := HNZV.out
            have l13 := mg_read ((hV13.block _ hmsz).trans NZ.m)
            unfold mV at l13
            have L13 := Lib.hid l13
            have hs13 := hV13.size
            have K9 := Lib.hid (of_F hsA (show FMs A (.agg (mC A P3 C3)) w13 from ⟨_, _, rfl, (NZ.ma.below hV13).mono hs13⟩))
            have hx13 := hm8.below hb1213
            rw [hbx] at hx13
            have HX13 := Lib.hid (And.intro q13 hx13)
            have HV13 := Lib.hid hV13
            have HBX := Lib.hid hbx
            have hbxl := (Array.getElem?_eq_some_iff.1 q13).1
            have hbxV : V.heap.size ≤ bx := by omega
            clear hw13 hst hbb hb1213 q13 hV13 NZ l13 hx13 hm8 hone K8 hb12 HB11 L11 hs11 hs12 hbx
            gi_wp2_with (first | refine wpListIn_store_run rfl 26 (.tmp 22) (.tmp 134) rfl (some ⟨w12.heap.size, 0, none⟩) rfl (.agg (mC A P8 C8)) rfl HST.out ?_ | (refine wpListIn_load_run rfl 26 (.tmp 4) rfl (some ⟨w.heap.size, 0, none⟩) rfl (.agg (mC A P3 C3)) L13.out ?_))
            rw [HBX.out]
            clear HST L13
            refine ⟨trivial, ?_⟩
            refine (callsIn_wide.2 K9.out).mono ?_
            rintro e w14 ⟨_, rfl, ⟨P, C, rfl, hZ⟩, hb14⟩
            obtain ⟨⟨a9, c9, rfl, -, -⟩, ⟨b9, d9, rfl, -, -⟩⟩ := id hZ
            obtain ⟨P9, hP9⟩ : ∃ P3, Value.slice a9 A.p.length c9 = P3 := ⟨_, rfl⟩
            obtain ⟨C9, hC9⟩ : ∃ C3, Value.slice b9 A.c.length d9 = C3 := ⟨_, rfl⟩
            have hone : (mC A P9 C9).all (·.oneCell') = true := by rw [← hP9, ← hC9]; simp [mC, Value.oneCell']
            rw [hP9, hC9] at hZ ⊢
            clear hP9 hC9 K9
            unfold mV
            obtain ⟨bt, hbt⟩ : ∃ bt, w14.heap.size = bt := ⟨_, rfl⟩
            obtain ⟨w15, hw15⟩ : ∃ w15, (w14.alloc (.cells #[.int .i64 0, .int .i64 0, .int .i64 0, .int .i64 0, .int .i64 0, .int .i64 0, .int .i64 0, .slice none 0 0, .slice none 0 0, .string ⟨#[]⟩, .string ⟨#[]⟩] 34)).setRow w14.heap.size (mC A P9 C9) = w15 := ⟨_, rfl⟩
            have hst := mr_store (w14.alloc (.cells #[.int .i64 0, .int .i64 0, .int .i64 0, .int .i64 0, .int .i64 0, .int .i64 0, .int .i64 0, .slice none 0 0, .slice none 0 0, .string ⟨#[]⟩, .string ⟨#[]⟩] 34)) w14.heap.size #[.int .i64 0, .int .i64 0, .int .i64 0, .int .i64 0, .int .i64 0, .int .i64 0, .int .i64 0, .slice none 0 0, .slice none 0 0, .string ⟨#[]⟩, .string ⟨#[]⟩] (mC A P9 C9) (World.alloc_heap_new _ _) rfl rfl hone
            rw [hw15] at hst
            have HST := Lib.hid hst
            have hbb : Below w14.heap.size w14 (w14.alloc (.cells #[.int .i64 0, .int .i64 0, .int .i64 0, .int .i64 0, .int .i64 0, .int .i64 0, .int .i64 0, .slice none 0 0, .slice none 0 0, .string ⟨#[]⟩, .string ⟨#[]⟩] 34)) := (Below.refl _ w14).alloc (Nat.le_refl _) _
            have hb1415 : Below w14.heap.size w14 w15 := by
              rw [← hw15]
              exact hbb.trans ((Off.setRow (S := fun k => w14.heap.size ≤ k) (Off.refl _ _) (Nat.le_refl w14.heap.size) _).below (B := w14.heap.size) (fun k hk => by omega) hbb.size)
            have q15 : w15.heap[w14.heap.size]? = some (.cells (mC A P9 C9) 34 (0, 0)) := by rw [← hw15]; exact setRow_heap _ _ _ _ _ _ (World.alloc_heap_new _ _)
            rw [hbt] at q15
            have hs14 := hb14.size
            have hb1315 := hb14.trans (hb1415.mono hs14)
            have hV15 : Below V.heap.size V w15 := HV13.out.trans (hb1315.mono hs13)
            have hbtl := (Array.getElem?_eq_some_iff.1 q15).1
            have hbtx : w13.heap.size ≤ bt := by omega
            have hV15s := hV15.size
            have x15 := (hb1315.block _ hbxl).trans HX13.out.1
            have mx15 := HX13.out.2.below (hb1315.mono (Nat.le_of_lt hbxl))
            have mt15 := hZ.below hb1415
            rw [hbt] at mt15
            have HBT := Lib.hid hbt
            have H15 := Lib.hid (And.intro hV15 (And.intro x15 (And.intro mx15 (And.intro q15 mt15))))
            clear hw15 hst hbb hb1415 q15 hV15 x15 mx15 mt15 hone hZ hb14 hb1315 HX13 HV13 hs14 hbt
            have NZ := HNZV.out
            have hF : FinZ w w.heap.size w4.heap.size bx bt (bi + 1) bk D D2 A A A P3 C3 P5 C5 P8 C8 P9 C9 k stop w15 := by
              have hv := H15.out.1
              exact ⟨(hv.block _ hmsz).trans NZ.m, (hv.block _ NZ.st.lt).trans NZ.st, (hv.block _ (Array.getElem?_eq_some_iff.1 NZ.was).1).trans NZ.was, H15.out.2.1, H15.out.2.2.2.1, (hv.block _ HBXS.out.1.lt).trans HBXS.out.1, (hv.block _ HBXS.out.2.1.lt).trans HBXS.out.2.1,
                (hv.block _ (Array.getElem?_eq_some_iff.1 HBXS.out.2.2.1).1).trans HBXS.out.2.2.1, (hv.block _ hD2l).trans HBXS.out.2.2.2, (NZ.ma.below hv).mono (by omega), (NZ.mw.below hv).mono (by omega), H15.out.2.2.1.mono (by omega), H15.out.2.2.2.2.mono (by omega),
                ⟨by omega, by omega, by omega, by omega, by omega, by omega, by omega⟩, ⟨by omega, by omega, by omega, by omega, by omega, by omega, by omega⟩, by omega, HB0.out.trans (hv.mono hwV)⟩
            have HF3 := Lib.hid hF
            obtain ⟨Z, hZ⟩ : ∃ Z, Z = w15 := ⟨_, rfl⟩
            subst hZ
            clear hF NZ H15 cl
            gi_wp2_with (refine wpListIn_store_run rfl 34 (.tmp 24) (.tmp 137) rfl (some ⟨w14.heap.size, 0, none⟩) rfl (.agg (mC A P9 C9)) rfl HST.out ?_)
            rw [HBT.out]
            clear LV HNZV HBXS HSET HBB
            have lOK : ∀ W, Below Z.heap.size Z W → (Instr.loadAt 4 (.pointer (some ⟨bi + 1, 0, none⟩))).run Try.prog W = .ok (.bool true) W := fun W hW => by
              have k1 := (hW.cell (p := ⟨_, 0, none⟩) HF3.out.ok.lt).trans HF3.out.ok.cell
              simp [Instr.loadAt, go_sem, k1]
            have lX : ∀ W, Below Z.heap.size Z W → (Instr.loadAt 26 (.pointer (some ⟨bx, 0, none⟩))).run Try.prog W = .ok (.agg (mC A P8 C8)) W := fun W hW => mg_read ((hW.block _ (Array.getElem?_eq_some_iff.1 HF3.out.x).1).trans HF3.out.x)
            have lT : ∀ W, Below Z.heap.size Z W → (Instr.loadAt 34 (.pointer (some ⟨bt, 0, none⟩))).run Try.prog W = .ok (.agg (mC A P9 C9)) W := fun W hW => mr_read ((hW.block _ (Array.getElem?_eq_some_iff.1 HF3.out.t).1).trans HF3.out.t)
            have lM : ∀ W, Below Z.heap.size Z W → (Instr.loadAt 26 (.pointer (some ⟨w.heap.size, 0, none⟩))).run Try.prog W = .ok (.agg (mC A P3 C3)) W := fun W hW => mg_read ((hW.block _ (Array.getElem?_eq_some_iff.1 HF3.out.m).1).trans HF3.out.m)
            have lW : ∀ W, Below Z.heap.size Z W → (Instr.loadAt 26 (.pointer (some ⟨w4.heap.size, 0, none⟩))).run Try.prog W = .ok (.agg (mC A P5 C5)) W := fun W hW => mg_read ((hW.block _ (Array.getElem?_eq_some_iff.1 HF3.out.was).1).trans HF3.out.was)
            have lS : ∀ W, Below Z.heap.size Z W → (Instr.loadAt 3 (.pointer (some ⟨w.heap.size + 1, 0, none⟩))).run Try.prog W = .ok (.int .i64 stop) W := fun W hW => by
              have k1 := (hW.cell (p := ⟨_, 0, none⟩) HF3.out.st.lt).trans HF3.out.st.cell
              simp [Instr.loadAt, go_sem, k1]
            have lK : ∀ W, Below Z.heap.size Z W → (Instr.loadAt 3 (.pointer (some ⟨bk, 0, none⟩))).run Try.prog W = .ok (.int .i64 (k : Int)) W := fun W hW => by
              have k1 := (hW.cell (p := ⟨_, 0, none⟩) HF3.out.k.lt).trans HF3.out.k.cell
              simp [Instr.loadAt, go_sem, k1]
            have hsG : Msm A := hsA
            have hbtz := (Array.getElem?_eq_some_iff.1 HF3.out.t).1
            have KO := Lib.hid (show ∀ W, Below Z.heap.size Z W → Calls Try.prog 11 #[.agg (mC A P8 C8)] W fun e w' => ∃ u, e = .returned u ∧ FMs A u w' ∧ Below W.heap.size W w' from fun W hW => of_F hsG ⟨_, _, rfl, ((HF3.out.mx.mono (Nat.le_of_lt hbtz)).below hW).mono hW.size⟩)
            have KS := Lib.hid (show ∀ x W, Below Z.heap.size Z W → FMs A x W → Calls Try.prog 12 #[x, .agg (mC A P9 C9)] W fun e w' => e = .returned (.bool true) ∧ Below W.heap.size W w' from fun x W hW hx => by
              have := rsame_F hsG hx (M' := A) ⟨_, _, rfl, ((HF3.out.mt.mono (Nat.le_of_lt hbtz)).below hW).mono hW.size⟩
              rw [decide_eq_true rfl] at this
              exact this)
            have KM := Lib.hid (show ∀ W, Below Z.heap.size Z W → Calls Try.prog 14 #[.agg (mC A P3 C3), .agg (mC A P5 C5)] W fun e w' => e = .returned (.bool true) ∧ Below W.heap.size W w' from fun W hW => by
              have := same_F (M := A) (M' := A) (x := mV A P3 C3) (y := mV A P5 C5) hsA ⟨_, _, rfl, ((HF3.out.ma.mono (Nat.le_of_lt hbtz)).below hW).mono hW.size⟩ ⟨_, _, rfl, ((HF3.out.mw.mono (Nat.le_of_lt hbtz)).below hW).mono hW.size⟩
              rw [decide_eq_true rfl] at this
              exact this)
            refine wpIn_wide.2 ?_
            have hstop := HKS.out
            by_cases hneg : stop < 0
            · refine wp_region_F 201 [183] (fun _ => FMs A) (fun W => Below Z.heap.size Z W) (by kernel_rfl) (by kernel_rfl) (by rfl) (by simp) (fun W W' h hb => h.trans (hb.mono h.size)) (fun s x W W' h hb => h.later hb) (Below.refl _ _).drew ?_
              refine wpF_call (f := 16) (args := #[]) (.bool true) rfl rfl (fun x => by first | rfl | (simp [go_sem]; done)) (fun W hW => mknown_any W) ?_
              simp only [Act.put, List.setIfInBounds_toArray, List.set_cons_succ, List.set_cons_zero]
              repeat (refine wpF_pure rfl rfl ?_; go_big_quiet_step (fail); refine wpQuiet_nil ?_)
              refine wpF_load (ad := ⟨bi + 1, 0, none⟩) (.bool true) rfl (by rfl) (by rfl) (by rfl) lOK ?_
              simp only [Act.put, List.setIfInBounds_toArray, List.set_cons_succ, List.set_cons_zero]
              repeat (refine wpF_pure rfl rfl ?_; go_big_quiet_step (fail); refine wpQuiet_nil ?_)
              refine wpF_load (ad := ⟨bx, 0, none⟩) (.agg (mC A P8 C8)) rfl (by rfl) (by rfl) (by rfl) lX ?_
              simp only [Act.put, List.setIfInBounds_toArray, List.set_cons_succ, List.set_cons_zero]
              refine wpF_callsrc 183 (f := 11) (args := #[.agg (mC A P8 C8)]) (by simp) rfl rfl rfl (fun x => by first | rfl | (simp [go_sem]; done)) (fun W hW => KO.out W hW) ?_
              simp only [Act.put, List.setIfInBounds_toArray, List.set_cons_succ, List.set_cons_zero]
              refine wpF_load (ad := ⟨bt, 0, none⟩) (.agg (mC A P9 C9)) rfl (by rfl) (by rfl) (by rfl) lT ?_
              simp only [Act.put, List.setIfInBounds_toArray, List.set_cons_succ, List.set_cons_zero]
              refine wpF_use 183 23 (f := 12) (fun x => #[x, .agg (mC A P9 C9)]) (.bool true) (by simp) rfl (by kernel_rfl) (by kernel_rfl) (by kernel_rfl) (fun _ => rfl) (fun v x => by first | rfl | (simp [go_sem]; done)) (fun x W hW hx => KS.out x W hW hx) ?_
              simp only [Act.put, List.setIfInBounds_toArray, List.set_cons_succ, List.set_cons_zero]
              repeat (refine wpF_pure rfl rfl ?_; go_big_quiet_step (fail); refine wpQuiet_nil ?_)
              refine wpF_load (ad := ⟨w.heap.size, 0, none⟩) (.agg (mC A P3 C3)) rfl (by rfl) (by rfl) (by rfl) lM ?_
              simp only [Act.put, List.setIfInBounds_toArray, List.set_cons_succ, List.set_cons_zero]
              refine wpF_load (ad := ⟨w4.heap.size, 0, none⟩) (.agg (mC A P5 C5)) rfl (by rfl) (by rfl) (by rfl) lW ?_
              simp only [Act.put, List.setIfInBounds_toArray, List.set_cons_succ, List.set_cons_zero]
              refine wpF_call (f := 14) (args := #[.agg (mC A P3 C3), .agg (mC A P5 C5)]) (.bool true) rfl rfl (fun x => by first | rfl | (simp [go_sem]; done)) (fun W hW => KM.out W hW) ?_
              simp only [Act.put, List.setIfInBounds_toArray, List.set_cons_succ, List.set_cons_zero]
              repeat (refine wpF_pure rfl rfl ?_; go_big_quiet_step (fail); refine wpQuiet_nil ?_)
              refine wpF_load (ad := ⟨w.heap.size + 1, 0, none⟩) (.int .i64 stop) rfl (by rfl) (by rfl) (by rfl) lS ?_
              simp only [Act.put, List.setIfInBounds_toArray, List.set_cons_succ, List.set_cons_zero]
              repeat (refine wpF_pure rfl rfl ?_; go_big_quiet_step (fail); refine wpQuiet_nil ?_)
              refine wpF_skipY rfl (by rfl) ?_
              simp only [Act.put, List.setIfInBounds_toArray, List.set_cons_succ, List.set_cons_zero]
              refine wpF_skipY rfl (by rfl) ?_
              simp only [Act.put, List.setIfInBounds_toArray, List.set_cons_succ, List.set_cons_zero]
              repeat (refine wpF_pure rfl rfl ?_; go_big_quiet_step (fail); refine wpQuiet_nil ?_)
              intro xs wz hz hxs
              simp only [fill]
              generalize xs 183 = x183
              have hd1 := (hz.block _ (Array.getElem?_eq_some_iff.1 HF3.out.d).1).trans HF3.out.d
              have hd2 := (hz.block _ (Array.getElem?_eq_some_iff.1 HF3.out.d2).1).trans HF3.out.d2
              have HD := Lib.hid (And.intro hd1 hd2)
              have HBZ := Lib.hid (HF3.out.b.trans (hz.mono HF3.out.b.size))
              have hDD : D ≠ D2 := by omega
              have hwD : w.heap.size ≤ D := by omega
              have hwD2 : w.heap.size ≤ D2 := by omega
              clear hz hxs lOK lX lT lM lW lS lK KO KS KM hd1 hd2 HF3
              simp only [Act.put, List.setIfInBounds_toArray, List.set_cons_succ, List.set_cons_zero]
              gi_wp2
              refine ⟨by simp, .inl ⟨_, _, rfl, run_takeDeferred HD.out.2, ?_⟩⟩
              refine ⟨by simp, .inl ⟨_, _, rfl, run_takeDeferred ((World.putObj_heap_other (by omega)).trans HD.out.1), ?_⟩⟩
              refine ⟨.bool true, ?_, rfl, (HBZ.out.trans (below_put _ _ hwD2)).trans (below_put _ _ hwD)⟩
              simp [results, Try.f4, go_sem]
            · have hle : (k : Int) ≤ stop := by omega
              refine wp_region_F 201 [183] (fun _ => FMs A) (fun W => Below Z.heap.size Z W) (by kernel_rfl) (by kernel_rfl) (by rfl) (by simp) (fun W W' h hb => h.trans (hb.mono h.size)) (fun s x W W' h hb => h.later hb) (Below.refl _ _).drew ?_
              refine wpF_call (f := 16) (args := #[]) (.bool true) rfl rfl (fun x => by first | rfl | (simp [go_sem]; done)) (fun W hW => mknown_any W) ?_
              simp only [Act.put, List.setIfInBounds_toArray, List.set_cons_succ, List.set_cons_zero]
              repeat (refine wpF_pure rfl rfl ?_; go_big_quiet_step (fail); refine wpQuiet_nil ?_)
              refine wpF_load (ad := ⟨bi + 1, 0, none⟩) (.bool true) rfl (by rfl) (by rfl) (by rfl) lOK ?_
              simp only [Act.put, List.setIfInBounds_toArray, List.set_cons_succ, List.set_cons_zero]
              repeat (refine wpF_pure rfl rfl ?_; go_big_quiet_step (fail); refine wpQuiet_nil ?_)
              refine wpF_load (ad := ⟨bx, 0, none⟩) (.agg (mC A P8 C8)) rfl (by rfl) (by rfl) (by rfl) lX ?_
              simp only [Act.put, List.setIfInBounds_toArray, List.set_cons_succ, List.set_cons_zero]
              refine wpF_callsrc 183 (f := 11) (args := #[.agg (mC A P8 C8)]) (by simp) rfl rfl rfl (fun x => by first | rfl | (simp [go_sem]; done)) (fun W hW => KO.out W hW) ?_
              simp only [Act.put, List.setIfInBounds_toArray, List.set_cons_succ, List.set_cons_zero]
              refine wpF_load (ad := ⟨bt, 0, none⟩) (.agg (mC A P9 C9)) rfl (by rfl) (by rfl) (by rfl) lT ?_
              simp only [Act.put, List.setIfInBounds_toArray, List.set_cons_succ, List.set_cons_zero]
              refine wpF_use 183 23 (f := 12) (fun x => #[x, .agg (mC A P9 C9)]) (.bool true) (by simp) rfl (by kernel_rfl) (by kernel_rfl) (by kernel_rfl) (fun _ => rfl) (fun v x => by first | rfl | (simp [go_sem]; done)) (fun x W hW hx => KS.out x W hW hx) ?_
              simp only [Act.put, List.setIfInBounds_toArray, List.set_cons_succ, List.set_cons_zero]
              repeat (refine wpF_pure rfl rfl ?_; go_big_quiet_step (fail); refine wpQuiet_nil ?_)
              refine wpF_load (ad := ⟨w.heap.size, 0, none⟩) (.agg (mC A P3 C3)) rfl (by rfl) (by rfl) (by rfl) lM ?_
              simp only [Act.put, List.setIfInBounds_toArray, List.set_cons_succ, List.set_cons_zero]
              refine wpF_load (ad := ⟨w4.heap.size, 0, none⟩) (.agg (mC A P5 C5)) rfl (by rfl) (by rfl) (by rfl) lW ?_
              simp only [Act.put, List.setIfInBounds_toArray, List.set_cons_succ, List.set_cons_zero]
              refine wpF_call (f := 14) (args := #[.agg (mC A P3 C3), .agg (mC A P5 C5)]) (.bool true) rfl rfl (fun x => by first | rfl | (simp [go_sem]; done)) (fun W hW => KM.out W hW) ?_
              simp only [Act.put, List.setIfInBounds_toArray, List.set_cons_succ, List.set_cons_zero]
              repeat (refine wpF_pure rfl rfl ?_; go_big_quiet_step (fail); refine wpQuiet_nil ?_)
              refine wpF_load (ad := ⟨w.heap.size + 1, 0, none⟩) (.int .i64 stop) rfl (by rfl) (by rfl) (by rfl) lS ?_
              simp only [Act.put, List.setIfInBounds_toArray, List.set_cons_succ, List.set_cons_zero]
              repeat (refine wpF_pure rfl rfl ?_; go_big_quiet_step (fail); refine wpQuiet_nil ?_)
              refine wpF_load (ad := ⟨bk, 0, none⟩) (.int .i64 (k : Int)) rfl (by rfl) (by rfl) (by rfl) lK ?_
              simp only [Act.put, List.setIfInBounds_toArray, List.set_cons_succ, List.set_cons_zero]
              refine wpF_load (ad := ⟨w.heap.size + 1, 0, none⟩) (.int .i64 stop) rfl (by rfl) (by rfl) (by rfl) lS ?_
              simp only [Act.put, List.setIfInBounds_toArray, List.set_cons_succ, List.set_cons_zero]
              repeat (refine wpF_pure rfl rfl ?_; go_big_quiet_step (fail); refine wpQuiet_nil ?_)
              intro xs wz hz hxs
              simp only [fill]
              generalize xs 183 = x183
              have hd1 := (hz.block _ (Array.getElem?_eq_some_iff.1 HF3.out.d).1).trans HF3.out.d
              have hd2 := (hz.block _ (Array.getElem?_eq_some_iff.1 HF3.out.d2).1).trans HF3.out.d2
              have HD := Lib.hid (And.intro hd1 hd2)
              have HBZ := Lib.hid (HF3.out.b.trans (hz.mono HF3.out.b.size))
              have hDD : D ≠ D2 := by omega
              have hwD : w.heap.size ≤ D := by omega
              have hwD2 : w.heap.size ≤ D2 := by omega
              clear hz hxs lOK lX lT lM lW lS lK KO KS KM hd1 hd2 HF3
              simp only [Act.put, List.setIfInBounds_toArray, List.set_cons_succ, List.set_cons_zero]
              gi_wp2
              refine ⟨by simp, .inl ⟨_, _, rfl, run_takeDeferred HD.out.2, ?_⟩⟩
              refine ⟨by simp, .inl ⟨_, _, rfl, run_takeDeferred ((World.putObj_heap_other (by omega)).trans HD.out.1), ?_⟩⟩
              refine ⟨.bool true, ?_, rfl, (HBZ.out.trans (below_put _ _ hwD2)).trans (below_put _ _ hwD)⟩
              simp [results, Try.f4, go_sem]
end Go.Proofs.Ytnbhiamnoapmlaa

namespace Go.Proofs.Ytnbhiamnoapmlaa.msgNumbers
open Go.ChangeShapes Go.WideShapes Go.ChangeAt Go.RowKit
open Go.ChangeMaps (open_string shut_string)
set_option linter.unusedVariables false

theorem own : ownKnob Try.prog.godebug = none := by kernel_rfl
theorem laidOut : laidOutB Try.prog = true := by kernel_rfl

set_option maxRecDepth 100000 in
theorem lifted (os : Os) (started : os.Started) (H : Type) (enc : TypeId × Value → H) :
    ReturnsInHanded {} Try.checked os 4 .any (Rows.msgNumbersSpec.pre6 enc Try.prog Try.f4 Rows.msgNumbersRow.domain false) (Rows.msgNumbersSpec.post enc Try.prog Try.f4 false true false false) := by
  refine returnsInHanded_of_change (C := Try.checked) own started (by kernel_rfl) Try.func4
    (ChangeSpec.witness6 (enc := enc) (C := Try.checked) false ⟨#[], #[.agg #[.int .i64 0, .int .i64 0, .int .i64 0, .int .i64 0, .int .i64 0, .int .i64 0, .int .i64 0, .slice none 0 0, .slice none 0 0, .string ⟨#[]⟩, .string ⟨#[]⟩], .string ⟨#[]⟩, .int .i64 0, .int .i64 0], []⟩ 8 (by kernel_rfl) (by kernel_rfl) (by kernel_rfl) (by kernel_rfl)) ?_
  intro W base args ds gs before hval0 hW hcnd _
  have hval : ∀ (j : Nat) t v, Try.f4.params[j]? = some t → args[j]? = some v → Value.okWide Try.prog W .any base t v := hval0
  have hW' := hW
  obtain ⟨p, q, hA0, hV, rfl, hfz, hnd⟩ := hW
  have hA : DataW.TrodAll enc Try.prog W 0 (fun _ => true) true Try.f4.params.toList args.toList ds p := hA0
  rw [Try.params4] at hA hval
  obtain ⟨v0, vs0, d0, ds0, p0, q0, hargs, rfl, rfl, h0, r0⟩ := trodAll_cons hA
  obtain ⟨v1, vs1, d1, ds1, p1, q1, rfl, rfl, rfl, h1, r1⟩ := trodAll_cons r0
  obtain ⟨v2, vs2, d2, ds2, p2, q2, rfl, rfl, rfl, h2, r2⟩ := trodAll_cons r1
  obtain ⟨v3, vs3, d3, ds3, p3, q3, rfl, rfl, rfl, h3, r3⟩ := trodAll_cons r2
  obtain ⟨rfl, rfl, rfl⟩ := trodAll_nil r3
  obtain rfl : args = #[v0, v1, v2, v3] := by cases args; simp_all
  obtain ⟨rfl, rfl⟩ := trodVars_none hV
  have k0 := h0
  have lt0 : ∀ x ∈ p0, x.block < W.heap.size := by obtain ⟨m, hm⟩ := k0; exact DataW.trod_lt m _ _ _ hm
  obtain ⟨mM0, mP0, mC0, rfl, y0⟩ := open_msg (hval 0 26 v0 rfl rfl) h0
  obtain ⟨s1, rfl, rfl, rfl, u1⟩ := open_string Try.underlying9 (hval 1 9 v1 rfl rfl) h1
  obtain ⟨a2, rfl, rfl, rfl, w2⟩ := open_int Try.underlying3 (hval 2 3 v2 rfl rfl) h2
  obtain ⟨a3, rfl, rfl, rfl, w3⟩ := open_int Try.underlying3 (hval 3 3 v3 rfl rfl) h3
  clear hA0 hval0
  refine (numbers_go mM0 mP0 mC0 s1 a2 a3 W y0).mono fun e W' ⟨he, bel⟩ => ?_
  subst he
  exact ⟨_, rfl, _, _, _, [], _, [], hW', trodAll_mk1 (shut_bool Try.underlying4 _), (trodAll_cons_mk (Below.trod laidOut (by kernel_rfl) (of_decide_eq_true (by kernel_rfl)) k0 bel lt0) (trodAll_cons_mk (shut_string Try.underlying9 u1) (trodAll_cons_mk (shut_int Try.underlying3 w2) (trodAll_cons_mk (shut_int Try.underlying3 w3) trodAll_mk0)))), rfl, bel.frame _, fun h => by cases h⟩

theorem over : Rows.msgNumbersRow.holds Try.pinned (OpenSpec.ofChange Rows.msgNumbersSpec) :=
  OpenClaim.holds_of_wide 4 Try.f4 rfl rfl rfl rfl rfl rfl rfl ⟨rfl, rfl, rfl, rfl, rfl⟩ rfl rfl rfl rfl rfl (by kernel_rfl) Try.func4 (by kernel_rfl)
    (of_decide_eq_true (by kernel_rfl)) (by unfold Func.isWrapper; first | (rw [if_pos (by decide +kernel)]; kernel_rfl) | (rw [if_neg (by decide +kernel)]; exact ⟨rfl, rfl⟩))
    (fun os started H enc _ => lifted os started H enc)

theorem proved : Rows.MsgNumbersSaid := over
#print axioms proved
end Go.Proofs.Ytnbhiamnoapmlaa.msgNumbers
