/-
  The walk of the law FenceWraps: it returns true.
-/
import Derived.Test.YtemafhaeppifoaaFenW
import Derived.Test.YtemafhaeppifoaaFenL
import Derived.Test.YtemafhaeppifoaaFenA
namespace Go.Proofs.Ytemafhaeppifoaa
open Go.RowKit Go.Shelf
set_option maxRecDepth 100000
attribute [local go_sem] Oper.semAt_some

/-- what the law makes of a list -/
def cutz (b : List Int) : List Int := (b.take 60).filter fun z => decide (z ≠ 0)
theorem cutz_nz (b : List Int) : Cb.NZ (cutz b) := fun c hc => by
  have := (List.mem_filter.1 hc).2
  simpa using this
theorem cutz_len (b : List Int) : (cutz b).length ≤ 60 := by
  have h1 := List.length_filter_le (fun z => decide (z ≠ 0)) (b.take 60)
  rw [List.length_take] at h1
  unfold cutz; omega
theorem filter_take {b : List Int} {k : Nat} {z : Int} (hz : b[k]? = some z) : (b.take (k + 1)).filter (fun z => decide (z ≠ 0)) = (b.take k).filter (fun z => decide (z ≠ 0)) ++ (if z ≠ 0 then [z] else []) := by
  rw [List.take_add_one, hz, List.filter_append]
  by_cases h : z = 0 <;> simp [h]
theorem wrap_len_one (bl : List (List Int)) (b : List Int) : (Fc.wrap (bl ++ [b])).length = (Fc.wrap bl).length + b.length + 2 := by
  rw [Fc.wrap_append, Fc.wrap_one]; simp; omega
theorem wrap_len_60 (bl : List (List Int)) : (Fc.wrap (bl.map cutz)).length ≤ 62 * bl.length := by
  induction bl with
  | nil => simp [Fc.wrap]
  | cons b r ih =>
    rw [List.map_cons, Fc.wrap_cons]
    have := cutz_len b
    simp only [List.length_cons, List.length_append] at ih ⊢
    omega

theorem bytes_wrap {bl : List (List Int)} (h : ∀ b ∈ bl, Bytes b) : Bytes (Fc.wrap bl) := by
  induction bl with
  | nil => intro z hz; simp [Fc.wrap] at hz
  | cons b r ih =>
    rw [Fc.wrap_cons]
    have h1 := ih fun c hc => h c (by simp [hc])
    have h2 := h b (by simp)
    intro z hz
    rcases List.mem_cons.1 hz with rfl | hz
    · omega
    · rcases List.mem_append.1 hz with hz | hz
      · exact h2 z hz
      · rcases List.mem_cons.1 hz with rfl | hz
        · omega
        · exact h1 z hz

set_option maxHeartbeats 8000000 in
theorem wraps_go (A : Option Addr) (n c : Nat) (bl : List (List Int)) (w : World) (hn : bl.length = n) (h1 : ListArg w A bl) :
    Calls Try.prog 4 #[.slice A n c] w fun e w' => e = .returned (.bool true) ∧ Below w.heap.size w w' := by
  obtain ⟨i0, hi, hz0, hzz1, hzz2⟩ := info_parts byteInfo
  obtain ⟨j0, hj, hj0, hj1, hj2⟩ := info_parts listInfo
  have HL := Lib.hid hn
  have HA := Lib.hid h1
  clear hn h1
  go_enter Try.func4, Try.ntmps4
  go_wp2
  go_loopw [3, 4, 5, 6, 7, 8] (fun v u sn si _ _ wr => ∃ (i : Nat) (xs ys : List Value), i ≤ n ∧ i ≤ 20 ∧ si = .int .i64 (i : Int) ∧ sn = .int .i64 (((Fc.wrap ((bl.take i).map cutz)).length : Nat) : Int) ∧
      Hid (L1 5 22 .u8 w.heap.size wr v xs ((bl.take i).map cutz)) ∧ Hid (L1 5 22 .u8 w.heap.size wr u ys (((bl.take i).map cutz).filter (fun b => decide (b ≠ [])))) ∧ Hid (u.ownBlock = none ∨ u.ownBlock ≠ v.ownBlock) ∧ Hid (Below w.heap.size w wr))
    (fun _ _ _ si _ _ _ => n - (intOf si).toNat)
  case atStart => exact ⟨0, [], [], by omega, by omega, rfl, rfl, L1.start _ _ _ _ _, L1.start _ _ _ _ _, .inl rfl, Below.refl _ _⟩
  case round =>
    obtain ⟨i, xs, ys, hin, hi20, rfl, rfl, HV, HU, HS, HB⟩ := hrel
    by_cases hlt : i < n ∧ i < 20
    · obtain ⟨b, hb⟩ : ∃ b, bl[i]? = some b := ⟨_, List.getElem?_eq_getElem (by rw [HL.out]; exact hlt.1)⟩
      obtain ⟨g, o, Ai, ci, hAe, hg, hcell0, hbl, hcm, hnb, hwf⟩ := HA.out i b hb
      have hlt1 : (i : Int) < (n : Int) := by omega
      have hlt2 : (i : Int) < 20 := by omega
      have HNB := Lib.hid hnb
      have HC0 := Lib.hid hcell0
      have HT := Lib.hid (show (bl.take (i + 1)).map cutz = (bl.take i).map cutz ++ [cutz b] by rw [List.take_add_one, hb]; simp)
      have HWL := Lib.hid (wrap_len_60 (bl.take i))
      subst hAe
      clear hb hnb hcell0 hwf
      obtain ⟨SL, hSL⟩ : ∃ SL, (bl.take i).map cutz = SL := ⟨_, rfl⟩
      have HSl := Lib.hid (show SL.length = i by rw [← hSL, List.length_map, List.length_take, HL.out]; omega)
      rw [hSL] at HV HU HT HWL ⊢
      have hfll := List.length_filter_le (fun b : List Int => decide (b ≠ [])) SL
      obtain ⟨FL, hFL⟩ : ∃ FL, SL.filter (fun b => decide (b ≠ [])) = FL := ⟨_, rfl⟩
      rw [hFL] at HU hfll
      rw [HSl.out] at hfll
      have HFL := Lib.hid hFL
      clear hFL
      obtain ⟨N, hN⟩ : ∃ N, (Fc.wrap SL).length = N := ⟨_, rfl⟩
      rw [hN] at HWL ⊢
      have hNl : N ≤ 1240 := by have := HWL.out; rw [List.length_take] at this; omega
      have HN := Lib.hid hN
      clear hSL hN HWL
      obtain ⟨q, hq⟩ : ∃ q, b.length = q := ⟨_, rfl⟩
      rw [hq] at hbl HC0
      have HQ := Lib.hid hq
      clear hq
      obtain ⟨wz, hwz⟩ : ∃ wz, wr = wz := ⟨_, rfl⟩
      have HWZ := Lib.hid hwz
      rw [hwz] at HV HU HB
      clear hwz
      have hcw0 : wr.cell? ⟨g, o + i, none⟩ = some (.slice Ai q ci) := by rw [HWZ.out]; exact (HB.out.cell (p := ⟨g, o + i, none⟩) hg).trans HC0.out
      go_wp2
      clear hcw0
      go_loopw [7, 8] (fun v7 s8 wi => ∃ (k : Nat), k ≤ q ∧ k ≤ 60 ∧ s8 = .int .i64 (k : Int) ∧ Hid (MadeK 5 .u8 wz wi ((b.take k).filter (fun z => decide (z ≠ 0))) v7))
        (fun _ s8 _ => q - (intOf s8).toNat)
      case atStart => exact ⟨0, by omega, by omega, rfl, by rw [HWZ.out]; exact MadeK.nil _ _ (Below.refl _ _)⟩
      case round =>
        obtain ⟨k, hkq, hk60, rfl, HM⟩ := hrel
        have HBw := Lib.hid (HB.out.trans (HM.out.2.mono HB.out.size))
        have hcw : wr.cell? ⟨g, o + i, none⟩ = some (.slice Ai q ci) := (HBw.out.cell (p := ⟨g, o + i, none⟩) hg).trans HC0.out
        by_cases hk : k < q ∧ k < 60
        · obtain ⟨z, hz⟩ : ∃ z, b[k]? = some z := ⟨_, List.getElem?_eq_getElem (by rw [HQ.out]; exact hk.1)⟩
          obtain ⟨b1, o1, rfl, hb1, hc1⟩ := (HNB.out.below HBw.out).open hz
          have hft := filter_take hz
          have hk1 : (k : Int) < (q : Int) := by omega
          have hk2 : (k : Int) < 60 := by omega
          have hfl : ((b.take k).filter (fun z => decide (z ≠ 0))).length ≤ 60 := by
            have h1 := List.length_filter_le (fun z => decide (z ≠ 0)) (b.take k)
            rw [List.length_take] at h1; omega
          clear hz
          by_cases hz0 : z = 0
          · have HF : Hid (MadeK 5 .u8 wz wr ((b.take (k + 1)).filter (fun z => decide (z ≠ 0))) u7) := by
              show MadeK _ _ _ _ _ _
              rw [hft, if_neg (by simpa using hz0), List.append_nil]; exact HM.out
            subst hz0
            clear hft
            go_wp2
            go_roundw
            case rel => exact ⟨k + 1, by omega, by omega, by go_num, HF⟩
            case measure => simp [intOf]; omega
          · rw [if_pos hz0] at hft
            have HFT := Lib.hid hft
            have HZ0 := Lib.hid hz0
            have hz1 : (z != 0) = true := by simp [hz0]
            have hz2 : ¬ z = 0 := hz0
            have HO1 := Lib.hid (HM.out.later (.cells #[.int .u8 z] 5))
            have HA1 := Lib.hid ((Nums.new .u8 wr 5 [z] #[.int .u8 z] rfl))
            have HX1 : Hid (((b.take k).filter (fun z => decide (z ≠ 0))).length + 1 ≤ maxLen) := by show _ ≤ _; unfold maxLen; omega
            have HX2 : Hid ((((b.take k).filter (fun z => decide (z ≠ 0))).length + 1) * 1 ≤ 140737488355328) := by show _ ≤ _; omega
            clear hft hz0
            go_wp2_with (at_builtin; refine wpList_append_any rfl (.tmp 43) (.tmp 51) 22 rfl _ 5 i0 (.int .u8 0) 1 Try.underlying22 hi hz0 hzz1 hzz2 rfl .u8 _ [z] _ rfl HO1.out.1 _ 1 1 _ rfl rfl HA1.out HX1.out HX2.out HO1.out.2.size ?_)
            intro v1 w1 hown hgr
            have HM1 := Lib.hid (HO1.out.more (zs := [z]) (v' := v1) (by simpa using hown) hgr)
            have HF : Hid (MadeK 5 .u8 wz w1 ((b.take (k + 1)).filter (fun z => decide (z ≠ 0))) v1) := by
              show MadeK _ _ _ _ _ _
              rw [HFT.out]; exact HM1.out
            clear hown hgr HO1 HA1 HX1 HX2
            go_wp2
            go_roundw
            case rel => exact ⟨k + 1, by omega, by omega, by go_num, HF⟩
            case measure => simp [intOf]; omega
        · have hft : (b.take k).filter (fun z => decide (z ≠ 0)) = cutz b := by
            unfold cutz
            by_cases h60 : k = 60
            · rw [h60]
            · rw [List.take_of_length_le (by rw [HQ.out]; omega), List.take_of_length_le (by rw [HQ.out]; omega)]
          rw [hft] at HM
          have hcl := cutz_len b
          have HE := Lib.hid (El1.of_made HM.out HB.out.size)
          have HV2 := Lib.hid (HV.out.below HM.out.2)
          have HU2 := Lib.hid (HU.out.below HM.out.2)
          obtain ⟨Ab, cb, hbe⟩ := HE.out.slice
          obtain ⟨m, hm⟩ : ∃ m, (cutz b).length = m := ⟨_, rfl⟩
          rw [hm] at hcl hbe
          have HMl := Lib.hid hm
          subst hbe
          have HSN : Hid ((((Fc.wrap ((bl.take (i + 1)).map cutz)).length : Nat) : Int) = (N : Int) + (m : Int) + 2) := by
            show _ = _
            rw [HT.out, wrap_len_one, HN.out, HMl.out]; omega
          have hBr := HBw.out
          have hbs := hBr.size
          have HX1 : Hid (SL.length + 1 ≤ maxLen) := by show _ ≤ _; unfold maxLen; rw [HSl.out]; omega
          have HX2 : Hid ((SL.length + 1) * 24 ≤ 140737488355328) := by show _ ≤ _; rw [HSl.out]; omega
          have HX3 : Hid (w.heap.size ≤ (wr.alloc (.cells #[.slice Ab m cb] 22)).heap.size) := by show _ ≤ _; rw [World.size_alloc]; omega
          have HX4 : Hid (FL.length + 1 ≤ maxLen) := by show _ ≤ _; unfold maxLen; omega
          have HX5 : Hid ((FL.length + 1) * 24 ≤ 140737488355328) := by show _ ≤ _; omega
          have hex : ((k : Int) < (q : Int) ∧ ¬ (k : Int) < 60) ∨ ¬ (k : Int) < (q : Int) := by omega
          clear hft hm hk HM HV HU HWZ HC0 HNB
          rcases hex with ⟨hk1, hk2⟩ | hk1
          all_goals (
            go_wp2_with (at_builtin; refine wpList_append_own_at _ rfl (.tmp 53) (.tmp 55) 23 rfl w.heap.size 22 j0 (.slice none 0 0) 1 24 Try.underlying23 hj hj0 hj1 hj2 rfl (by decide) _ _ _ rfl (HV2.out.out.alloc _) ⟨wr.heap.size, 0, none⟩ 1 1 [_] rfl rfl (cell_one_new _ _ _) (by simp [Value.oneCell']) HX1.out HX2.out HX3.out ?_)
            intro v1 w1 hown hg1 _ hat
            have HV3 := Lib.hid (HV2.out.push (by decide) HE.out hown hg1)
            have HU3 := Lib.hid (HU2.out.beside (by decide) HS.out HV2.out.out hg1)
            have HE3 := Lib.hid (HE.out.grown (by decide) HV2.out.out hg1)
            have HS3 := Lib.hid (apart_grown (o := .deferred none) HU2.out.out HS.out (by rw [World.size_alloc]; exact hat))
            have HB3 := Lib.hid ((hBr.alloc hbs (.cells #[.slice Ab m cb] 22)).grown hg1 (by rw [World.size_alloc]; omega) (fun g hk => (HV2.out.out.lt g hk).1))
            have hbs3 := HB3.out.size
            clear hown hg1 hat HV2 HU2 HE hBr HX1 HX2 HX3
            by_cases hm0 : m = 0
            · have hcz : cutz b = [] := List.eq_nil_of_length_eq_zero (by rw [HMl.out]; exact hm0)
              have HFV : Hid (L1 5 22 .u8 w.heap.size w1 v1 (xs ++ [Value.slice Ab m cb]) ((bl.take (i + 1)).map cutz)) := by
                show L1 _ _ _ _ _ _ _ _; rw [HT.out]; exact HV3.out
              have HFU : Hid (L1 5 22 .u8 w.heap.size w1 u4 ys (((bl.take (i + 1)).map cutz).filter (fun b => decide (b ≠ [])))) := by
                show L1 _ _ _ _ _ _ _ _; rw [HT.out, List.filter_append, HFL.out, hcz]; simpa using HU3.out
              have hm1 : ¬ (0 : Int) < (m : Int) := by omega
              clear hcz
              go_wp2
              go_roundw
              case rel => exact ⟨i + 1, _, _, by omega, by omega, by go_num, (by rw [HSN.out] <;> first | rfl | (congr 1; omega)), HFV, HFU, HS3, HB3⟩
              case measure => simp [intOf]; omega
            · have hm1 : (0 : Int) < (m : Int) := by omega
              have hcz : ¬ cutz b = [] := fun e => hm0 (by rw [← HMl.out, e]; rfl)
              have HX3 : Hid (w.heap.size ≤ (w1.alloc (.cells #[.slice Ab m cb] 22)).heap.size) := by show _ ≤ _; rw [World.size_alloc]; omega
              have HCZ := Lib.hid hcz
              clear hcz hm0
              go_wp2_with (at_builtin; refine wpList_append_own_at _ rfl (.tmp 65) (.tmp 67) 23 rfl w.heap.size 22 j0 (.slice none 0 0) 1 24 Try.underlying23 hj hj0 hj1 hj2 rfl (by decide) _ _ _ rfl (HU3.out.out.alloc _) ⟨w1.heap.size, 0, none⟩ 1 1 [_] rfl rfl (cell_one_new _ _ _) (by simp [Value.oneCell']) HX4.out HX5.out HX3.out ?_)
              intro v2 w2 hown hg1 _ hat
              have HU4 := Lib.hid (HU3.out.push (by decide) HE3.out hown hg1)
              have hsy := apart_symm HV3.out.out HU3.out.out HS3.out
              have HV4 := Lib.hid (HV3.out.beside (by decide) hsy HU3.out.out hg1)
              have HS4 := Lib.hid (apart_symm HU4.out.out HV4.out.out (apart_grown (o := .deferred none) HV3.out.out hsy (by rw [World.size_alloc]; exact hat)))
              have HB4 := Lib.hid ((HB3.out.alloc hbs3 (.cells #[.slice Ab m cb] 22)).grown hg1 (by rw [World.size_alloc]; omega) (fun g hk => (HU3.out.out.lt g hk).1))
              have HFV : Hid (L1 5 22 .u8 w.heap.size w2 v1 (xs ++ [Value.slice Ab m cb]) ((bl.take (i + 1)).map cutz)) := by
                show L1 _ _ _ _ _ _ _ _; rw [HT.out]; exact HV4.out
              have HFU : Hid (L1 5 22 .u8 w.heap.size w2 v2 (ys ++ [Value.slice Ab m cb]) (((bl.take (i + 1)).map cutz).filter (fun b => decide (b ≠ [])))) := by
                show L1 _ _ _ _ _ _ _ _; rw [HT.out, List.filter_append, HFL.out, List.filter_cons_of_pos (by simpa using HCZ.out)]; exact HU4.out
              clear hown hg1 hat hsy
              go_wp2
              go_roundw
              case rel => exact ⟨i + 1, _, _, by omega, by omega, by go_num, (by rw [HSN.out] <;> first | rfl | (congr 1; omega)), HFV, HFU, HS4, HB4⟩
              case measure => simp [intOf]; omega)
    · have hex : ((i : Int) < (n : Int) ∧ ¬ (i : Int) < 20) ∨ ¬ (i : Int) < (n : Int) := by omega
      obtain ⟨SL, hSL⟩ : ∃ SL, (bl.take i).map cutz = SL := ⟨_, rfl⟩
      have HNZ := Lib.hid (show ∀ b ∈ SL, Cb.NZ b by
        rw [← hSL]; intro b hb
        obtain ⟨b0, _, rfl⟩ := List.mem_map.1 hb
        exact cutz_nz b0)
      have HM60 := Lib.hid (show ∀ b ∈ SL, b.length ≤ 60 by
        rw [← hSL]; intro b hb
        obtain ⟨b0, _, rfl⟩ := List.mem_map.1 hb
        exact cutz_len b0)
      have HWL := Lib.hid (wrap_len_60 (bl.take i))
      have HSl := Lib.hid (show SL.length = i by rw [← hSL, List.length_map, List.length_take, HL.out]; omega)
      rw [hSL] at HV HU HWL ⊢
      have hfll := List.length_filter_le (fun b : List Int => decide (b ≠ [])) SL
      have hsg := Fc.segs_wrap HNZ.out
      have hmf : ∀ b ∈ SL.filter (fun b => decide (b ≠ [])), b.length ≤ 1000000000 := fun b hb => by
        have := HM60.out b (List.mem_filter.1 hb).1; omega
      obtain ⟨FL, hFL⟩ : ∃ FL, SL.filter (fun b => decide (b ≠ [])) = FL := ⟨_, rfl⟩
      rw [hFL] at HU hfll hsg hmf
      rw [HSl.out] at hfll
      have hop := Fc.opn_wrap SL
      obtain ⟨N, hN⟩ : ∃ N, (Fc.wrap SL).length = N := ⟨_, rfl⟩
      rw [hN] at HWL ⊢
      have hNl : N ≤ 1240 := by have := HWL.out; rw [List.length_take] at this; omega
      have HN := Lib.hid hN
      have hbz : Bytes (Fc.wrap SL) := bytes_wrap (by
        rw [← hSL]; intro b hb
        obtain ⟨b0, h0, rfl⟩ := List.mem_map.1 hb
        obtain ⟨q, hq, hq2⟩ := List.mem_iff_getElem.1 (List.mem_of_mem_take h0)
        obtain ⟨_, _, _, _, _, _, _, _, _, _, hwf⟩ := HA.out q b0 (by rw [List.getElem?_eq_getElem hq, hq2])
        exact fun z hz => bytes_of hwf z (List.mem_of_mem_take (List.mem_filter.1 hz).1))
      obtain ⟨AV, cV, rfl, hcV, hLV⟩ := HV.out.lies
      obtain ⟨AU, cU, rfl, hcU, hLU⟩ := HU.out.lies
      rw [HSl.out] at hcV ⊢
      obtain ⟨F, hF⟩ : ∃ F, FL.length = F := ⟨_, rfl⟩
      rw [hF] at hcU hfll ⊢
      have HF := Lib.hid hF
      have HLU := Lib.hid hLU
      have HSG := Lib.hid hsg
      have HOP := Lib.hid hop
      have HMF := Lib.hid hmf
      have hBr := HB.out
      have K := wrap_any AV i cV SL wr HSl.out hcV (by omega) (by rw [hN]; omega) hLV
      clear hSL hN hF HV HU HS HA hLU hsg hop hmf HWL hLV hlt
      rcases hex with ⟨hk1, hk2⟩ | hk1
      all_goals (
        go_wp2_with fail
        refine K.mono ?_
        rintro e w1 ⟨v1, rfl, hm1⟩
        obtain ⟨A1, c1, rfl, hc1, hn1⟩ := hm1.slice
        have hb1 := hm1.2
        rw [HN.out] at hc1 ⊢
        have S1 := split_any A1 N c1 (Fc.wrap SL) w1 HN.out (by omega) hbz hn1
        clear hm1 hn1 K
        go_wp2_with fail
        refine S1.mono ?_
        rintro e w2 ⟨AX, cX, AO, cO, rfl, hcX, hcO, hLX, hNO, hb2⟩
        rw [HSG.out] at hcX hLX ⊢
        rw [HOP.out] at hcO hNO ⊢
        rw [HF.out] at hcX ⊢
        have hb12 := hb1.trans (hb2.mono hb1.size)
        have HLX := Lib.hid hLX
        clear S1 hLX hNO hb2 hb1
        go_wp2_with fail
        refine (known_any w2).mono ?_
        rintro e w3 ⟨rfl, hb3⟩
        have hb13 := hb12.trans (hb3.mono hb12.size)
        have E := lists_eq w3.heap.size AX AU F cX cU FL w3 HF.out (by omega) HMF.out hcX hcU ((HLX.out.below hb3).mono hb3.size) ((HLU.out.below hb13).mono hb13.size)
        have hbw := hBr.trans (hb13.mono hBr.size)
        clear hb12 hb3 hb13 HLX
        go_wp2_with fail
        refine E.mono ?_
        rintro e w4 ⟨rfl, d, hw4⟩
        have hbF := Lib.hid (show Below w.heap.size w w4 by rw [hw4]; exact below_drewN hbw d)
        clear hw4 E hbw
        go_wp2
        go_ret
        exact ⟨rfl, hbF.out⟩)
end Go.Proofs.Ytemafhaeppifoaa
