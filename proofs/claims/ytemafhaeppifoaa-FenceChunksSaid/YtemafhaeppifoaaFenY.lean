/-
  The walk of the law FenceChunks: it returns true.
-/
import Derived.Test.YtemafhaeppifoaaFenH
import Derived.Test.YtemafhaeppifoaaFenD
import Derived.Test.YtemafhaeppifoaaFenL
import Derived.Test.YtemafhaeppifoaaKpA
namespace Go.Proofs.Ytemafhaeppifoaa
open Go.RowKit Go.Shelf
set_option maxRecDepth 100000
attribute [local go_sem] Oper.semAt_some

theorem rnd_one {ss R R' : List Int} {n : Nat} (h : rnd ss n R) (h' : rnd ss n R') : R = R' := by
  rcases h with ⟨⟨s, hs, h0⟩, rfl⟩ | ⟨ha, rfl⟩
  · rcases h' with ⟨_, rfl⟩ | ⟨hb, _⟩
    · rfl
    · have := hb s hs; omega
  · rcases h' with ⟨⟨s, hs, h0⟩, _⟩ | ⟨_, rfl⟩
    · have := ha s hs; omega
    · rfl
theorem rnd_parts (ss : List Int) (zs : List Int) : ∃ R ps, rnd ss zs.length R ∧ Fc.Parts R 0 zs ps ∧ ps.length ≤ (zs.length + 1) * (ss.length + 1) + 1 ∧ (zs ≠ [] → ∃ (jj : Nat) (s : Int), R[jj]? = some s ∧ 0 < s) := by
  by_cases h : ∃ s ∈ ss, 0 < s
  · obtain ⟨ps, h1, h2⟩ := Fc.parts_some h zs
    refine ⟨ss, ps, .inl ⟨h, rfl⟩, h1, ?_, fun _ => ?_⟩
    · rw [Nat.mul_succ]; omega
    · obtain ⟨s, hs, h0⟩ := h
      obtain ⟨j, hj, rfl⟩ := List.mem_iff_getElem.1 hs
      exact ⟨j, _, List.getElem?_eq_getElem hj, h0⟩
  · refine ⟨[(zs.length : Int)], _, .inr ⟨fun s hs => ?_, rfl⟩, Fc.parts_whole zs, ?_, fun hn => ⟨0, _, rfl, ?_⟩⟩
    · have : ¬ 0 < s := fun h0 => h ⟨s, hs, h0⟩
      omega
    · split <;> simp
    · have := List.length_pos_iff.2 hn; omega
theorem chunk_not_nil (B1 B2 : Nat) (w : World) : (binOp .eql 41 (.func (.func 24) #[] #[.pointer (some ⟨B1, 0, none⟩), .pointer (some ⟨B2, 0, none⟩)]) .nilFunc).run Try.prog w = .ok (.bool false) w := by
  kernel_rfl
theorem flat_take {ps : List (List Int)} {j : Nat} {b : List Int} (h : ps[j]? = some b) : (ps.take (j + 1)).flatten = (ps.take j).flatten ++ b := by
  rw [List.take_add_one, h]; simp
theorem flat_take_le (ps : List (List Int)) (j : Nat) : (ps.take j).flatten.length ≤ ps.flatten.length := by
  conv => rhs; rw [← List.take_append_drop j ps, List.flatten_append, List.length_append]
  omega

set_option maxHeartbeats 8000000 in
theorem chunks_go (a : Option Addr) (n m c : Nat) (es : List Int) (a2 : Option Addr) (n2 q c2 : Nat) (fs : List Int) (w : World) (hn : es.length = n) (hc : n ≤ c) (hz : Bytes es) (h1 : Nums .u8 w w.heap.size a es)
    (hn2 : fs.length = n2) (hc2 : n2 ≤ c2) (h2 : Nums .i64 w w.heap.size a2 fs)
    (hm : min (n : Int) 600 = (m : Int)) (hmn : m ≤ n) (hm2 : m ≤ 600) (hq : min (n2 : Int) 20 = (q : Int)) (hqn : q ≤ n2) (hq2 : q ≤ 20) :
    Calls Try.prog 5 #[.slice a n c, .slice a2 n2 c2] w fun e w' => e = .returned (.bool true) ∧ Below w.heap.size w w' := by
  obtain ⟨i0, hi, hz0, hzz1, hzz2⟩ := info_parts byteInfo
  have hmc : (m : Int) ≤ (c : Int) := by omega
  have hqc : (q : Int) ≤ (c2 : Int) := by omega
  have hlen : (es.take m).length = m := by rw [List.length_take]; omega
  have hlen2 : (fs.take q).length = q := by rw [List.length_take]; omega
  have hzb := hz.take m
  have hnum := h1.take m
  have hnum2 := h2.take q
  generalize es.take m = bs at *
  generalize fs.take q = ss at *
  clear hz h1 h2 hn hn2
  obtain ⟨R, ps, hR, hP, hpl, hpos⟩ := rnd_parts ss bs
  rw [hlen, hlen2] at hpl
  rw [hlen] at hR
  have hpl2 : ps.length ≤ 20000 := by
    have : (m + 1) * (q + 1) ≤ 601 * 21 := Nat.mul_le_mul (by omega) (by omega)
    omega
  have hfl := hP.flat
  have HZ := Lib.hid hzb
  have HL := Lib.hid hlen
  have HL2 := Lib.hid hlen2
  have HR := Lib.hid hR
  have HP := Lib.hid hP
  have HPO := Lib.hid hpos
  have HFL := Lib.hid hfl
  have HN := Lib.hid hnum
  have HN2 := Lib.hid hnum2
  clear hzb hR hP hpos hfl hpl hlen hlen2 hnum hnum2
  obtain ⟨w0, hw0⟩ : ∃ w0, w.alloc (.cells #[.bool false] 4) = w0 := ⟨_, rfl⟩
  have bR0 : Boxed w0 w.heap.size 4 (.bool false) := by rw [← hw0]; exact Boxed.new w _ _
  have hs0 : w0.heap.size = w.heap.size + 1 := by rw [← hw0]; simp
  have hbw0 : Below w.heap.size w w0 := by rw [← hw0]; exact (Below.refl _ w).alloc (Nat.le_refl _) _
  refine (callsIn_wide (n := 9)).1 ?_
  refine callsIn_of_wp_marks Try.func5 rfl trivial ?_ rfl
  simp only [Try.ntmps5, List.size_toArray, List.length_cons, List.length_nil, Nat.reduceAdd, Nat.reduceSub, Array.replicate_succ, Array.replicate_zero, List.push_toArray, List.append_toArray, List.nil_append, List.cons_append]
  gi_wp2
  refine wpIn_wide.2 ?_
  go_quiet (fail)
  have hbd : Below w0.heap.size w0 (w0.drewN nq) := below_drewN (Below.refl _ _) nq
  have bRd : Boxed (w0.drewN nq) w.heap.size 4 (.bool false) := bR0
  have hbwd := hbw0.trans (hbd.mono hbw0.size)
  have HNd := Lib.hid ((HN.out.below hbwd).mono hbwd.size)
  have HNd2 := Lib.hid ((HN2.out.below hbwd).mono hbwd.size)
  have hsd : (w0.drewN nq).heap.size = w.heap.size + 1 := hs0
  generalize w0.drewN nq = wd at *
  clear hw0 bR0 hs0 hbw0 hbd HN HN2
  have K := rchunks_any a m c bs a2 q c2 ss R ps wd HL.out (by omega) (by omega) HNd.out HL2.out (by omega) (by omega) HNd2.out HR.out HP.out (by omega)
  gi_wp2_with fail
  refine ⟨trivial, ?_⟩
  refine (callsIn_wide.2 K).mono ?_
  rintro e w1 ⟨AW, cW, rfl, hcW, hLW, hb1⟩
  clear K
  have HLW := Lib.hid hLW
  clear hLW
  obtain ⟨N, hNN⟩ : ∃ N, ps.length = N := ⟨_, rfl⟩
  have HNN := Lib.hid hNN
  rw [hNN] at hcW hpl2 ⊢
  clear hNN
  gi_wp2_with fail
  refine ⟨trivial, ?_⟩
  have hs1 := hb1.size
  obtain ⟨w2, hw2⟩ : ∃ w2, ((w1.alloc (.cells #[.slice AW N cW] 23)).alloc (.cells #[.slice none 0 0] 22)).alloc (.cells #[.int .i64 0] 3) = w2 := ⟨_, rfl⟩
  have hs2 : w2.heap.size = w1.heap.size + 3 := by rw [← hw2]; simp
  have bW2 : Boxed w2 w1.heap.size 23 (.slice AW N cW) := by rw [← hw2]; exact ((Boxed.new w1 _ _).alloc _).alloc _
  have bA2 : Boxed w2 (w1.heap.size + 1) 22 (.slice none 0 0) := by
    rw [← hw2]
    have := (Boxed.new (w1.alloc (.cells #[.slice AW N cW] 23)) 22 (.slice none 0 0)).alloc (.cells #[.int .i64 0] 3)
    rwa [World.size_alloc] at this
  have bI2 : Boxed w2 (w1.heap.size + 2) 3 (.int .i64 ((0 : Nat) : Int)) := by
    rw [← hw2]
    have := Boxed.new ((w1.alloc (.cells #[.slice AW N cW] 23)).alloc (.cells #[.slice none 0 0] 22)) 3 (.int .i64 0)
    rwa [World.size_alloc, World.size_alloc] at this
  have hb12 : Below w1.heap.size w1 w2 := by rw [← hw2]; exact (((Below.refl _ w1).alloc (Nat.le_refl _) _).alloc (by simp) _).alloc (by simp; omega) _
  have hbd2 := hb1.trans (hb12.mono hs1)
  have hsd2 := hbd2.size
  rw [hw2]
  refine (callsIn_wide.2 (chunks_any a m c bs a2 q c2 ss w2 HL.out (by omega) ((HNd.out.below hbd2).mono hsd2) HL2.out (by omega) ((HNd2.out.below hbd2).mono hsd2))).mono ?_
  rintro e w3 ⟨B1, B2, C1, k1, C2, q2, k2, R', rfl, hRq, hR', hseq⟩
  have hRR := rnd_one HR.out hR'
  subst hRR
  have hfn := chunk_not_nil B1 B2
  have hb23 := hseq.below
  have hs23 := hb23.size
  have bW : Boxed w3 w1.heap.size 23 (.slice AW N cW) := (hb23.block _ (by omega)).trans bW2
  have bA : Boxed w3 (w1.heap.size + 1) 22 (.slice none 0 0) := (hb23.block _ (by omega)).trans bA2
  have bI : Boxed w3 (w1.heap.size + 2) 3 (.int .i64 ((0 : Nat) : Int)) := (hb23.block _ (by omega)).trans bI2
  have hb13 := hb12.trans (hb23.mono (by omega))
  have hbd3 := hbd2.trans (hb23.mono hsd2)
  have bR : Boxed w3 w.heap.size 4 (.bool false) := (hbd3.block _ (by omega)).trans bRd
  clear hw2 bW2 bA2 bI2 hb12 hbd2 bRd hR' hb23
  have hI3 : w1.heap.size + 2 < w3.heap.size := by omega
  have hA3 : w1.heap.size + 1 < w3.heap.size := by omega
  have hBel : ∀ V, Off (fun k => k = w1.heap.size + 2 ∨ k = w1.heap.size + 1) w3 V → Below w1.heap.size w1 V := fun V hV => hb13.trans (hV.below (fun k hk => by omega) (by omega))
  have hq2l : q2 ≤ 1000000 := by
    rcases HR.out with ⟨_, h⟩ | ⟨_, h⟩
    · have := HL2.out; rw [h] at hRq; omega
    · rw [h] at hRq; simp at hRq; omega
  have hT0 : TwoB w3 (w1.heap.size + 2) (w1.heap.size + 1) 3 22 5 .u8 0 [] w3 := ⟨bI, ⟨_, bA, World.ownsRow_nil _ _ _ _, fun _ => rfl⟩, Off.refl _ _⟩
  gi_wp2_with fail
  refine range_stops rfl (by omega) (gf := 24) (lb := #[.pointer (some ⟨B1, 0, none⟩), .pointer (some ⟨B2, 0, none⟩)]) rfl trivial (enters_of Try.func24 (by kernel_rfl) rfl)
    (fun x : Option Addr × List Int => #[Value.slice x.1 x.2.length x.2.length]) (fun _ => rfl)
    (fun j x V => TwoB w3 (w1.heap.size + 2) (w1.heap.size + 1) 3 22 5 .u8 j (ps.take j).flatten V ∧ ps[j]? = some x.2 ∧ Nums .u8 V V.heap.size x.1 x.2)
    (fun j V => TwoB w3 (w1.heap.size + 2) (w1.heap.size + 1) 3 22 5 .u8 j (ps.take j).flatten V) (fun _ _ => False) (KpA (w1.heap.size + 2) (w1.heap.size + 1)) ps.length
    (fun j x V l o o' h hl ho hc' => ⟨h.1.putObj hI3 hA3 hl ho hc', h.2.1, by rw [show (V.putObj l o').heap.size = V.heap.size by simp [World.putObj]]; exact h.2.2.putObj ho hc' o'⟩)
    (fun j V l o o' h hl ho hc' => h.putObj hI3 hA3 hl ho hc')
    (fun _ _ _ _ _ h _ _ _ => h)
    (fun _ _ _ h k => h.trans k) (fun V l o o' hl ho hc' => KpA.putObj (by omega) ho hc')
    (fun o => hT0.start hI3 hA3 (((Below.refl w3.heap.size w3).alloc (Nat.le_refl _) _).alloc (by simp) _)) ?a1 ?assign ?body ?iter ?done ?stop
  case assign =>
    intro l x V K hK
    gi_wp2
    exact hK
  case body =>
    rintro l j x V hl ⟨hT, hx, hnx⟩ hj
    have hVs := hT.off.size
    obtain ⟨v, hv, hrow, _⟩ := hT.row
    obtain ⟨Av, cv, rfl, hcv⟩ := own_slice_le hrow
    have kI := hT.cnt.cell
    have kW := (show Boxed V w1.heap.size 23 (.slice AW N cW) from (hT.off.block w1.heap.size (by omega) (by omega)).trans bW).cell
    have hbV := hBel V hT.off
    have hft := flat_take hx
    have hfle := flat_take_le ps (j + 1)
    rw [hft, HFL.out, HL.out, List.length_append] at hfle
    obtain ⟨g, Ai, ci, rfl, hg, hcell, hbl, hnb⟩ := (HLW.out.below hbV) j x.2 hx
    have E := same_any V.heap.size x.1 Ai x.2.length x.2.length x.2.length ci x.2 x.2 V rfl rfl (by omega) hnx (hnb.mono (by have := hbV.size; omega))
    rw [decide_eq_true rfl] at E
    rw [HNN.out] at hj
    have hjN : (j : Int) < (N : Int) := by omega
    have hjN2 : ¬ (N : Int) ≤ (j : Int) := by omega
    have hNc : (N : Int) ≤ (cW : Int) := by omega
    have hj2 : (j : Int) ≤ 100000 := by omega
    obtain ⟨FF, hFF⟩ : ∃ FF, (ps.take j).flatten = FF := ⟨_, rfl⟩
    rw [hFF] at hT hrow hft hfle hv hcv
    obtain ⟨T, hT1⟩ : ∃ T, FF.length = T := ⟨_, rfl⟩
    rw [hT1] at hfle
    clear hFF
    have HT1 := Lib.hid hT1
    have HT := Lib.hid hT
    have HV := Lib.hid hv
    have HRW := Lib.hid hrow
    have HX := Lib.hid hnx
    have HFT := Lib.hid hft
    rw [hT1] at HV HRW
    clear hT hx hnx hnb hbV hv hrow hft hT1 hfn hT0
    gi_wp2_with fail
    refine ⟨trivial, ?_⟩
    refine (CallsIn.inRound l (callsIn_wide.2 E)).mono ?_
    rintro e V1 ⟨rfl, d, hV1⟩
    have hb1 : Below V.heap.size V V1 := by rw [hV1]; exact below_drewN (Below.refl _ _) d
    clear E hV1
    have kA1 : V1.cell? ⟨w1.heap.size + 1, 0, none⟩ = some (.slice Av T cv) := (hb1.cell (p := ⟨w1.heap.size + 1, 0, none⟩) (by simp only; omega)).trans HV.out.cell
    have kI1 : V1.cell? ⟨w1.heap.size + 2, 0, none⟩ = some (.int .i64 (j : Int)) := (hb1.cell (p := ⟨w1.heap.size + 2, 0, none⟩) (by simp only; omega)).trans kI
    have HR1 := Lib.hid (own_below HRW.out hb1)
    have HX1 := Lib.hid ((HX.out.below hb1).mono hb1.size)
    have HM1 : Hid (T + x.2.length ≤ maxLen) := by show _ ≤ _; unfold maxLen; omega
    have HM2 : Hid ((T + x.2.length) * 1 ≤ 140737488355328) := by show _ ≤ _; omega
    have HM3 : Hid (w3.heap.size ≤ V1.heap.size) := by show _ ≤ _; have := hb1.size; omega
    gi_wp2_with (gi_at_builtin; refine wpListIn_append_any_at rfl (.tmp 43) (.tmp 44) 22 rfl w3.heap.size 5 i0 (.int .u8 0) 1 Try.underlying22 hi hz0 hzz1 hzz2 rfl .u8 _ _ x.2 _ rfl HR1.out x.1 _ _ _ rfl rfl HX1.out HM1.out HM2.out HM3.out ?_)
    intro v' V2 hown hg hat
    obtain ⟨Ap, cp, rfl, _⟩ := own_slice_le hown
    obtain ⟨hA2, hI2, hIs, hTn, hkf, hkp⟩ := HT.out.next (ys := x.2) (m := T + x.2.length) HV.out (by rw [HT1.out]; exact HRW.out) (by omega) hI3 hA3 hb1 (by rw [List.length_append, HT1.out]) hown hg hat
    have kA2 := hA2.cell
    have fA2 := hA2.frozen
    have kIs := hIs.cell
    have fIs := hIs.frozen
    rw [← HFT.out] at hTn
    have hfin := Lib.hid (And.intro hkf (And.intro hTn hkp))
    clear hown hg hat hA2 hI2 hIs hTn hkf hkp HT HV HRW HX HR1 HX1 HM1 HM2 HM3
    gi_wp2
    exact hfin.out
  case iter =>
    intro Bk X l V hBk hBlt hX hlw hD hB hY
    have hVs := hD.off.size
    have hkeep : ∀ b off v, w2.heap.size ≤ b → w3.cell? ⟨b, off, none⟩ = some v → V.cell? ⟨b, off, none⟩ = some v := fun b off v hb hc => hD.off.cell hc (by simp only; omega)
    have hbox1 := hkeep B1 0 _ hseq.lo1 hseq.box1
    have hbox2 := hkeep B2 0 _ hseq.lo2 hseq.box2
    have hn1 : Nums .u8 V V.heap.size C1 bs := fun h0 => by
      obtain ⟨b, off, e, hb, hcl⟩ := hseq.nums1 h0
      exact ⟨b, off, e, by omega, fun j z hj => hkeep _ _ _ hb.1 (hcl j z hj)⟩
    have hn2 : NumsS .i64 V (fun b => w1.heap.size + 2 < b ∧ b < V.heap.size) C2 R := fun h0 => by
      obtain ⟨b, off, e, hb, hcl⟩ := hseq.nums2 h0
      exact ⟨b, off, e, ⟨by omega, by omega⟩, fun j z hj => hkeep _ _ _ hb.1 (hcl j z hj)⟩
    have hD0 : TwoB w3 (w1.heap.size + 2) (w1.heap.size + 1) 3 22 5 .u8 0 [] V := hD
    refine (chunks_in 8 (by omega) 7 l B1 B2 m k1 q2 k2 (w1.heap.size + 2) w3.heap.size C1 C2 bs R ps HL.out (by omega) hRq hq2l hseq.room2 HP.out HPO.out
      (fun j V => TwoB w3 (w1.heap.size + 2) (w1.heap.size + 1) 3 22 5 .u8 j (ps.take j).flatten V) Bk X (KpA (w1.heap.size + 2) (w1.heap.size + 1))
      (fun A B h hb => TwoB.start h hI3 hA3 hb) hBk hBlt (fun A => KpA.refl _ _ A) (fun _ _ _ h k => h.trans k) (fun _ _ h => h.size)
      (fun A B k o h0 hk hbk ho hc => hk.same k o (by omega) (by omega) (by rw [h0.own0]; simp) ho hc)
      (fun j A' b W1 h1 h2 h3 h4 => hY j (A', b) W1 ⟨h1, h2, h3⟩ h4 (by
        rcases Nat.lt_or_ge j ps.length with h | h
        · exact h
        · rw [List.getElem?_eq_none h] at h2; cases h2)) V hbox1 hbox2 (by have := hseq.lo2; omega) (by have := hseq.hi2; omega) hn1 hn2 hD0 hB).mono ?_
    exact fun e W' h => h
  case done =>
    rintro D V hD hT hK
    rw [List.take_length, HFL.out] at hT
    have hVs := hT.off.size
    obtain ⟨v, hv, hrow, _⟩ := hT.row
    obtain ⟨Av, cv, rfl, hcv⟩ := own_slice_le hrow
    have hnv := Nums.of_own hrow
    rw [HL.out] at hv hcv
    have hI := hT.cnt
    rw [HNN.out] at hI
    have bWV : Boxed V w1.heap.size 23 (.slice AW N cW) := (hT.off.block w1.heap.size (by omega) (by omega)).trans bW
    have bRV : Boxed V w.heap.size 4 (.bool false) := (hT.off.block w.heap.size (by omega) (by omega)).trans bR
    have hbV : Below w.heap.size w V := hbwd.trans ((hbd3.trans (hT.off.below (fun k hk => by omega) (by omega))).mono hbwd.size)
    have hna : Nums .u8 V V.heap.size a bs := (HNd.out.below (hbd3.trans (hT.off.below (fun k hk => by omega) (by omega)))).mono (by omega)
    have HNV := Lib.hid hnv
    have HNA := Lib.hid hna
    clear bW bA bI bR hseq hBel hT hrow hnv hna hT0 hfn
    gi_wp2_with fail
    refine ⟨trivial, ?_⟩
    refine (callsIn_wide.2 (known_any V)).mono ?_
    rintro e V9 ⟨rfl, hb9⟩
    have kI9 := (show Boxed V9 (w1.heap.size + 2) 3 _ from (hb9.block _ hI.lt).trans hI).cell
    have kW9 := (show Boxed V9 w1.heap.size 23 _ from (hb9.block _ bWV.lt).trans bWV).cell
    have kA9 := (show Boxed V9 (w1.heap.size + 1) 22 _ from (hb9.block _ hv.lt).trans hv).cell
    have bR9 : Boxed V9 w.heap.size 4 (.bool false) := (hb9.block _ bRV.lt).trans bRV
    have hK9 := (hb9.block D (Array.getElem?_eq_some_iff.1 hK).1).trans hK
    have hbV9 := hbV.trans (hb9.mono hbV.size)
    have E := same_len V9.heap.size Av a m m cv c bs bs V9 rfl HL.out HL.out (by omega) ((HNV.out.below hb9).mono hb9.size) ((HNA.out.below hb9).mono hb9.size)
    have hDR : w.heap.size ≠ D := by omega
    clear hI bWV bRV hbV hb9 hK HNV HNA hv
    gi_wp2_with fail
    refine ⟨trivial, ?_⟩
    refine (callsIn_wide.2 E).mono ?_
    rintro e V10 ⟨rfl, d, hV10⟩
    have hb10 : Below V9.heap.size V9 V10 := by rw [hV10]; exact below_drewN (Below.refl _ _) d
    have bR10 : Boxed V10 w.heap.size 4 (.bool false) := (hb10.block _ bR9.lt).trans bR9
    have kR10 := bR10.cell
    have fR10 := bR10.frozen
    have hK10 := (hb10.block D (Array.getElem?_eq_some_iff.1 hK9).1).trans hK9
    have hbV10 := hbV9.trans (hb10.mono hbV9.size)
    clear hV10 E bR9 hK9 hbV9 hb10
    gi_wp2
    have hbf := hbV10.setCell (p := ⟨w.heap.size, 0, none⟩) (Nat.le_refl _) (.bool true)
    have bRf := bR10.set (.bool true)
    have hKf : (V10.setCell ⟨w.heap.size, 0, none⟩ (.bool true)).heap[D]? = some (.deferred (some [])) := (Below.heap_setCell V10 _ _ _ (Ne.symm hDR)).trans hK10
    generalize V10.setCell ⟨w.heap.size, 0, none⟩ (.bool true) = Wf at *
    refine ⟨by simp, .inl ⟨_, _, rfl, run_takeDeferred hKf, ?_⟩⟩
    have hbh := hbf.trans (below_put (B := w.heap.size) Wf (.deferred none) (by omega : w.heap.size ≤ D))
    have bRh : Boxed (Wf.putObj D (.deferred none)) w.heap.size 4 (.bool true) := (World.putObj_heap_other hDR).trans bRf
    have kRh := bRh.cell
    refine ⟨.bool true, ?_, rfl, hbh⟩
    simp [results, Try.f5, go_sem, kRh]
  case stop =>
    rintro D cd W' _ h _
    exact h.elim

theorem walk_chunks (a0 : Option Addr) (len0 cap0 : Nat) (z0 : List Int) (a1 : Option Addr) (len1 cap1 : Nat) (z1 : List Int) (w : World) (w0 : IsRow .u8 w a0 len0 cap0 z0) (w1 : IsRow .i64 w a1 len1 cap1 z1) :
    Calls Try.prog 5 #[.slice a0 len0 cap0, .slice a1 len1 cap1] w fun e w' => e = .returned (.bool true) ∧ Below w.heap.size w w' := by
  obtain ⟨e0, l0, q0, m0, k0, r0⟩ := w0.elems
  obtain ⟨e1, l1, q1, m1, k1, _⟩ := w1.elems
  exact chunks_go a0 len0 (min len0 600) cap0 e0 a1 len1 (min len1 20) cap1 e1 w l0 q0 (bytes_of r0) k0 l1 q1 k1 (by omega) (by omega) (by omega) (by omega) (by omega) (by omega)
end Go.Proofs.Ytemafhaeppifoaa
