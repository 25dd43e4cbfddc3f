/-
  The walk of the law FenceJoins: it returns true.
-/
import Derived.Test.YtemafhaeppifoaaFenL
import Derived.Test.YtemafhaeppifoaaLstA
namespace Go.Proofs.Ytemafhaeppifoaa
open Go.RowKit Go.Shelf
set_option maxRecDepth 100000
attribute [local go_sem] Oper.semAt_some

set_option maxHeartbeats 4000000 in
theorem joins_go (a1 a2 : Option Addr) (n1 m1 c1 n2 m2 c2 : Nat) (es fs : List Int) (w : World) (hn1 : es.length = n1) (hc1 : n1 ≤ c1) (hz1 : Bytes es) (h1 : Nums .u8 w w.heap.size a1 es)
    (hn2 : fs.length = n2) (hc2 : n2 ≤ c2) (hz2 : Bytes fs) (h2 : Nums .u8 w w.heap.size a2 fs)
    (hm1 : min (n1 : Int) 300 = (m1 : Int)) (hmn1 : m1 ≤ n1) (hm31 : m1 ≤ 300) (hm2 : min (n2 : Int) 300 = (m2 : Int)) (hmn2 : m2 ≤ n2) (hm32 : m2 ≤ 300) :
    Calls Try.prog 6 #[.slice a1 n1 c1, .slice a2 n2 c2] w fun e w' => e = .returned (.bool true) ∧ Below w.heap.size w w' := by
  obtain ⟨i0, hi, hz0, hzz1, hzz2⟩ := info_parts byteInfo
  obtain ⟨j0, hj, hj0, hj1, hj2⟩ := info_parts listInfo
  have hmc1 : (m1 : Int) ≤ (c1 : Int) := by omega
  have hmc2 : (m2 : Int) ≤ (c2 : Int) := by omega
  have hl1 : (es.take m1).length = m1 := by rw [List.length_take]; omega
  have hl2 : (fs.take m2).length = m2 := by rw [List.length_take]; omega
  have hzb1 := hz1.take m1
  have hzb2 := hz2.take m2
  have hnum1 := h1.take m1
  have hnum2 := h2.take m2
  generalize es.take m1 = xs at *
  generalize fs.take m2 = ys at *
  clear hz1 hz2 h1 h2 hn1 hn2
  have HZ1 := Lib.hid hzb1
  have HZ2 := Lib.hid hzb2
  have HL1 := Lib.hid hl1
  have HL2 := Lib.hid hl2
  have HN1 := Lib.hid hnum1
  have HN2 := Lib.hid hnum2
  clear hzb1 hzb2 hl1 hl2 hnum1 hnum2
  go_enter Try.func6, Try.ntmps6
  go_wp2
  go_quiet (fail)
  have hbd : Below w.heap.size w (w.drewN nq) := below_drewN (Below.refl _ _) nq
  generalize w.drewN nq = wd at *
  have hsd := hbd.size
  have HNd1 := Lib.hid ((HN1.out.below hbd).mono hsd)
  have HNd2 := Lib.hid ((HN2.out.below hbd).mono hsd)
  have HBd := Lib.hid hbd
  clear hbd HN1 HN2
  have HK1 := Lib.hid (MadeK.lit 5 .u8 (Below.refl wd.heap.size wd))
  have HA1 := Lib.hid (HNd1.out.below ((Below.refl wd.heap.size wd).alloc (Nat.le_refl _) (.cells #[] 5)))
  have HX1 : Hid (([] : List Int).length + m1 ≤ maxLen) := by show _ ≤ _; unfold maxLen; simp only [List.length_nil]; omega
  have HX2 : Hid ((([] : List Int).length + m1) * 1 ≤ 140737488355328) := by show _ ≤ _; simp only [List.length_nil]; omega
  have HX3 : Hid (xs.length + 1 ≤ maxLen) := by show _ ≤ _; unfold maxLen; rw [HL1.out]; omega
  have HX4 : Hid ((xs.length + 1) * 1 ≤ 140737488355328) := by show _ ≤ _; rw [HL1.out]; omega
  go_wp2_with (at_builtin; refine wpList_append_any rfl (.tmp 22) (.tmp 23) 22 rfl _ 5 i0 (.int .u8 0) 1 Try.underlying22 hi hz0 hzz1 hzz2 rfl .u8 [] xs _ rfl HK1.out.1 _ _ _ _ rfl HL1.out HA1.out HX1.out HX2.out HK1.out.2.size ?_)
  intro v1 w1 hown hg
  have HM1 := Lib.hid (HK1.out.more (zs := xs) (v' := v1) (by simpa using hown) hg)
  rw [List.nil_append] at HM1
  clear hown hg HK1 HA1
  have HO1 := Lib.hid (HM1.out.later (.cells #[.int .u8 0] 5))
  have HA2 := Lib.hid ((Nums.new .u8 w1 5 [0] #[.int .u8 0] rfl))
  go_wp2_with (at_builtin; refine wpList_append_any rfl (.tmp 24) (.tmp 25) 22 rfl _ 5 i0 (.int .u8 0) 1 Try.underlying22 hi hz0 hzz1 hzz2 rfl .u8 xs [0] v1 rfl HO1.out.1 _ 1 1 _ rfl rfl HA2.out HX3.out HX4.out HO1.out.2.size ?_)
  intro v2 w2 hown hg
  have HM2 := Lib.hid (HO1.out.more (zs := [0]) (v' := v2) hown hg)
  clear hown hg HM1 HO1 HA2 HX1 HX2 HX3 HX4
  obtain ⟨A2, k2, rfl, hk2, hnu2⟩ := HM2.out.slice
  have hb2 := HM2.out.2
  have hlx : (xs ++ [0]).length = m1 + 1 := by rw [List.length_append, HL1.out]; rfl
  rw [hlx] at hk2 ⊢
  have hB2 := HZ1.out.append (y := [0]) (fun z hz => by simp at hz; omega)
  have S2 := split_any A2 (m1 + 1) k2 (xs ++ [0]) w2 hlx (by omega) hB2 hnu2
  clear hlx hB2 hnu2 HM2
  go_wp2_with fail
  refine S2.mono ?_
  rintro e w3 ⟨AX, cX, AO, cO, rfl, hcX, hcO, hLX, hNO, hb3⟩
  have ho0 : Fc.opn [] (xs ++ [0]) = [] := by rw [Fc.opn_app, Fc.opn]
  rw [ho0] at hcO hNO ⊢
  clear S2 ho0 hcO hNO
  have hbd3 := hb2.trans (hb3.mono hb2.size)
  clear hb2 hb3
  have HLX := Lib.hid hLX
  clear hLX
  have S3 := split_any a2 m2 c2 ys w3 HL2.out (by omega) HZ2.out ((HNd2.out.below hbd3).mono hbd3.size)
  go_wp2_with fail
  refine S3.mono ?_
  rintro e w4 ⟨AY, cY, AL, cL, rfl, hcY, hcL, hLY, hNL, hb4⟩
  clear S3
  have hLX4 := (HLX.out.below hb4).mono hb4.size
  have hbd4 := hbd3.trans (hb4.mono hbd3.size)
  clear hbd3 hb4 HLX
  have HLX := Lib.hid hLX4
  have HLY := Lib.hid hLY
  have HNL := Lib.hid hNL
  clear hLX4 hLY hNL
  have HK1 := Lib.hid (MadeK.lit 5 .u8 (Below.refl w4.heap.size w4))
  have HA1 := Lib.hid (((HNd1.out.below hbd4).mono hbd4.size).below ((Below.refl w4.heap.size w4).alloc (Nat.le_refl _) (.cells #[] 5)))
  have HX1 : Hid (([] : List Int).length + m1 ≤ maxLen) := by show _ ≤ _; unfold maxLen; simp only [List.length_nil]; omega
  have HX2 : Hid ((([] : List Int).length + m1) * 1 ≤ 140737488355328) := by show _ ≤ _; simp only [List.length_nil]; omega
  have HX3 : Hid (xs.length + 1 ≤ maxLen) := by show _ ≤ _; unfold maxLen; rw [HL1.out]; omega
  have HX4 : Hid ((xs.length + 1) * 1 ≤ 140737488355328) := by show _ ≤ _; rw [HL1.out]; omega
  have HX5 : Hid ((xs ++ [0]).length + m2 ≤ maxLen) := by show _ ≤ _; unfold maxLen; rw [List.length_append, HL1.out]; simp only [List.length_singleton]; omega
  have HX6 : Hid (((xs ++ [0]).length + m2) * 1 ≤ 140737488355328) := by show _ ≤ _; rw [List.length_append, HL1.out]; simp only [List.length_singleton]; omega
  go_wp2_with (at_builtin; refine wpList_append_any rfl (.tmp 36) (.tmp 37) 22 rfl _ 5 i0 (.int .u8 0) 1 Try.underlying22 hi hz0 hzz1 hzz2 rfl .u8 [] xs _ rfl HK1.out.1 _ _ _ _ rfl HL1.out HA1.out HX1.out HX2.out HK1.out.2.size ?_)
  intro v5 w5 hown hg
  have HM1 := Lib.hid (HK1.out.more (zs := xs) (v' := v5) (by simpa using hown) hg)
  rw [List.nil_append] at HM1
  clear hown hg HK1 HA1
  have HO1 := Lib.hid (HM1.out.later (.cells #[.int .u8 0] 5))
  have HA2 := Lib.hid ((Nums.new .u8 w5 5 [0] #[.int .u8 0] rfl))
  go_wp2_with (at_builtin; refine wpList_append_any rfl (.tmp 38) (.tmp 39) 22 rfl _ 5 i0 (.int .u8 0) 1 Try.underlying22 hi hz0 hzz1 hzz2 rfl .u8 xs [0] v5 rfl HO1.out.1 _ 1 1 _ rfl rfl HA2.out HX3.out HX4.out HO1.out.2.size ?_)
  intro v6 w6 hown hg
  have HM2 := Lib.hid (HO1.out.more (zs := [0]) (v' := v6) hown hg)
  clear hown hg HM1 HO1 HA2 HX1 HX2 HX3 HX4
  have HA3 := Lib.hid ((HNd2.out.below hbd4).mono hbd4.size |>.below HM2.out.2)
  go_wp2_with (at_builtin; refine wpList_append_any rfl (.tmp 40) (.tmp 41) 22 rfl _ 5 i0 (.int .u8 0) 1 Try.underlying22 hi hz0 hzz1 hzz2 rfl .u8 (xs ++ [0]) ys v6 rfl HM2.out.1 _ _ _ _ rfl HL2.out HA3.out HX5.out HX6.out HM2.out.2.size ?_)
  intro v7 w7 hown hg
  have HM3 := Lib.hid (HM2.out.more (zs := ys) (v' := v7) (by simpa using hown) hg)
  clear hown hg HM2 HA3 HX5 HX6
  obtain ⟨A7, k7, rfl, hk7, hnu7⟩ := HM3.out.slice
  have hb7 := HM3.out.2
  rw [List.append_assoc, List.singleton_append] at hk7 hnu7 ⊢
  have hlx : (xs ++ 0 :: ys).length = m1 + 1 + m2 := by rw [List.length_append, List.length_cons, HL1.out, HL2.out]; omega
  rw [hlx] at hk7 ⊢
  have hB7 : Bytes (xs ++ 0 :: ys) := HZ1.out.append (fun z hz => by rcases List.mem_cons.1 hz with rfl | h; omega; exact HZ2.out z h)
  have S7 := split_any A7 (m1 + 1 + m2) k7 (xs ++ 0 :: ys) w7 hlx (by omega) hB7 hnu7
  clear hlx hB7 hnu7 HM3
  go_wp2_with fail
  refine S7.mono ?_
  rintro e w8 ⟨AZ, cZ, AE, cE, rfl, hcZ, hcE, hLZ, hNE, hb8⟩
  clear S7
  have hb48 := hb7.trans (hb8.mono hb7.size)
  have hb8w := HBd.out.trans ((hbd4.trans (hb48.mono hbd4.size)).mono hsd)
  have hzo : Fc.opn [] (xs ++ 0 :: ys) = Fc.opn [] ys := Fc.opn_app xs ys []
  rw [hzo] at hcE hNE ⊢
  have hzs := Fc.segs_app xs ys
  obtain ⟨ve1, hva1, hso1⟩ := ((HLX.out.below hb48).mono hb48.size).vals
  obtain ⟨ve2, hva2, hso2⟩ := ((HLY.out.below hb48).mono hb48.size).vals
  have hNL8 := (HNL.out.below hb48).mono hb48.size
  have hso := hso1.append hso2
  rw [← hzs] at hso
  have hmem : ∀ b ∈ Fc.segs (xs ++ 0 :: ys), b.length ≤ 1000000000 := fun b hb => by
    have := (Fc.segs_mem hb).2.2
    rw [List.length_append, List.length_cons, HL1.out, HL2.out] at this; omega
  have hq1 := Fc.segs_len (xs ++ [0])
  have hq2 := Fc.segs_len ys
  rw [List.length_append, HL1.out, List.length_singleton] at hq1
  rw [HL2.out] at hq2
  have ho1 : (Fc.opn [] ys).length ≤ 1000000 := by
    have h := HNL.out
    clear h
    have : ∀ (l now : List Int), (Fc.opn now l).length ≤ now.length + l.length := by
      intro l
      induction l with
      | nil => intro now; simp [Fc.opn]
      | cons z r ih =>
        intro now
        by_cases hz : z = 0
        · subst hz; rw [Fc.opn_zero]; have := ih []; simp at this ⊢; omega
        · rw [Fc.opn_ne hz]; have := ih (now ++ [z]); simp at this ⊢; omega
    have := this ys []
    rw [HL2.out] at this; simp at this; omega
  have hl1 := hso1.1
  have hl2 := hso2.1
  have hl3 : (Fc.segs (xs ++ 0 :: ys)).length = ve1.length + ve2.length := by rw [hzs, List.length_append, hl1, hl2]
  rw [hl3] at hcZ ⊢
  rw [← hl1] at hcX hq1 ⊢
  rw [← hl2] at hcY hq2 ⊢
  obtain ⟨OL, hOL⟩ : ∃ OL, (Fc.opn [] ys).length = OL := ⟨_, rfl⟩
  rw [hOL] at hcL hcE ho1 ⊢
  have HOL := Lib.hid hOL
  have HSO := Lib.hid hso
  have HV1 := Lib.hid hva1
  have HV2 := Lib.hid hva2
  have HO1 := Lib.hid hso1.one_cell
  have HO2 := Lib.hid hso2.one_cell
  have HNE := Lib.hid hNE
  have HNL8 := Lib.hid hNL8
  have HLZ := Lib.hid hLZ
  have HL3 := Lib.hid hl3
  clear hOL hso hva1 hva2 hso1 hso2 hNE hNL8 hLZ hl3 hl1 hl2 hzs hzo hb48 hb7 hb8 hbd4 HLX HLY HNL HNd1 HNd2 HZ1 HZ2
  go_wp2_with fail
  refine (known_any w8).mono ?_
  rintro e w9 ⟨rfl, hb9⟩
  have hb9w := hb8w.trans (hb9.mono hb8w.size)
  have HB9 := Lib.hid hb9
  clear hb8w hb9
  have E := same_any w9.heap.size AL AE OL OL cL cE (Fc.opn [] ys) (Fc.opn [] ys) w9 HOL.out HOL.out (by omega) ((HNL8.out.below HB9.out).mono HB9.out.size) ((HNE.out.below HB9.out).mono HB9.out.size)
  rw [decide_eq_true rfl] at E
  go_wp2_with fail
  refine E.mono ?_
  rintro e w10 ⟨rfl, d, hw10⟩
  have hb910 : Below w9.heap.size w9 w10 := by rw [hw10]; exact below_drewN (Below.refl _ _) d
  have hb810 := HB9.out.trans (hb910.mono HB9.out.size)
  have hbw := hb9w.trans (hb910.mono hb9w.size)
  clear hw10 E hb9w hb910 HB9 HNE HNL8 HOL
  have HB := Lib.hid hb810
  have HBw := Lib.hid hbw
  clear hb810 hbw
  have hown0 : Hid ((w10.alloc (.cells #[] 22)).ownsRow w10.heap.size 22 1 (.slice (some ⟨w10.heap.size, 0, none⟩) 0 0) 0 []) := World.ownsRow_made w10 #[] 0 (Nat.le_refl _) (Nat.zero_le _) rfl
  have hb11 : Below w8.heap.size w8 (w10.alloc (.cells #[] 22)) := HB.out.alloc HB.out.size _
  have HV11 := Lib.hid (HV1.out.below hb11)
  have HY1 : Hid (0 + ve1.length ≤ maxLen) := by show _ ≤ _; unfold maxLen; omega
  have HY2 : Hid ((0 + ve1.length) * 24 ≤ 140737488355328) := by show _ ≤ _; omega
  have HY3 : Hid (ve1.length + ve2.length ≤ maxLen) := by show _ ≤ _; unfold maxLen; omega
  have HY4 : Hid ((ve1.length + ve2.length) * 24 ≤ 140737488355328) := by show _ ≤ _; omega
  have HY5 : Hid (w10.heap.size ≤ (w10.alloc (.cells #[] 22)).heap.size) := by show _ ≤ _; rw [World.size_alloc]; omega
  have HB11 := Lib.hid hb11
  clear hb11
  go_wp2_with (at_builtin; refine wpList_append_vals rfl (.tmp 59) (.tmp 60) 23 rfl w10.heap.size 22 j0 (.slice none 0 0) 24 Try.underlying23 hj hj0 hj1 hj2 rfl 0 [] ve1 _ rfl hown0.out _ _ _ _ rfl rfl HV11.out HO1.out HY1.out HY2.out HY5.out ?_)
  intro v12 w12 hown hg
  have hlt := hown0.out.lt
  have hb12 : Below w10.heap.size w10 w12 := (((Below.refl _ w10).alloc (Nat.le_refl _) _).grown hg (by simp) (fun g hk => (hlt g hk).1))
  have hb812 := HB.out.trans (hb12.mono HB.out.size)
  have HOw := Lib.hid hown
  have HV12 := Lib.hid (HV2.out.below hb812)
  have HY6 : Hid (w10.heap.size ≤ w12.heap.size) := hb12.size
  have HB12 := Lib.hid hb12
  clear hown hg hlt hb12 hb812 hown0
  go_wp2_with (at_builtin; refine wpList_append_vals rfl (.tmp 61) (.tmp 62) 23 rfl w10.heap.size 22 j0 (.slice none 0 0) 24 Try.underlying23 hj hj0 hj1 hj2 rfl _ _ ve2 v12 rfl HOw.out _ _ _ _ rfl rfl HV12.out HO2.out HY3.out HY4.out HY6.out ?_)
  intro v13 w13 hown hg
  have hlt := HOw.out.lt
  have hb13 : Below w10.heap.size w10 w13 := HB12.out.grown hg HB12.out.size (fun g hk => (hlt g hk).1)
  have hb813 := HB.out.trans (hb13.mono HB.out.size)
  obtain ⟨AR, cR, rfl, hcR, hLR⟩ := ((HSO.out.below hb813).mono hb813.size).lies hown (Nat.le_refl _)
  have hLZ13 := (HLZ.out.below hb813).mono hb813.size
  have hbf := HBw.out.trans (hb13.mono HBw.out.size)
  rw [HL3.out] at hcR ⊢
  have F := lists_eq w13.heap.size AZ AR (ve1.length + ve2.length) cZ cR _ w13 HL3.out (by omega) hmem hcZ hcR hLZ13 hLR
  clear hown hg hlt hb13 hb813 hLZ13 hLR hmem
  go_wp2_with fail
  refine F.mono ?_
  rintro e w14 ⟨rfl, d2, hw14⟩
  have hbF := Lib.hid (show Below w.heap.size w w14 by rw [hw14]; exact below_drewN hbf d2)
  clear hw14 F hbf
  go_wp2
  go_ret
  exact ⟨rfl, hbF.out⟩

theorem walk_joins (a0 : Option Addr) (len0 cap0 : Nat) (z0 : List Int) (a1 : Option Addr) (len1 cap1 : Nat) (z1 : List Int) (w : World) (w0 : IsRow .u8 w a0 len0 cap0 z0) (w1 : IsRow .u8 w a1 len1 cap1 z1) :
    Calls Try.prog 6 #[.slice a0 len0 cap0, .slice a1 len1 cap1] w fun e w' => e = .returned (.bool true) ∧ Below w.heap.size w w' := by
  obtain ⟨e0, l0, q0, m0, k0, r0⟩ := w0.elems
  obtain ⟨e1, l1, q1, m1, k1, r1⟩ := w1.elems
  exact joins_go a0 a1 len0 (min len0 300) cap0 len1 (min len1 300) cap1 e0 e1 w l0 q0 (bytes_of r0) k0 l1 q1 (bytes_of r1) k1 (by omega) (by omega) (by omega) (by omega) (by omega) (by omega)
end Go.Proofs.Ytemafhaeppifoaa
