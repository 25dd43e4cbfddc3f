/-
  The walk of PenWrites.
-/
import Derived.Test.YtajeefnogdledaaWrites
namespace Go.Proofs.Ytajeefnogdledaa
open Go.RowKit
set_option maxRecDepth 100000
set_option maxHeartbeats 2000000 in
theorem writes_go (a0 : Int) (A : Option Addr) (len cap : Nat) (ds : List ActD) (w : World) (h0 : -9223372036854775808 ≤ a0) (h1 : a0 ≤ 9223372036854775807) (hlen : ds.length = len) (hlc : len ≤ 9223372036854775807) (hr : ActRow w A ds) :
    Calls Try.prog 3 #[.int .i64 a0, .slice A len cap] w fun e w' => e = .returned (.bool true) ∧ Below w.heap.size w w' := by
  have HR := Lib.hid hr
  have HD := Lib.hid hlen
  clear hr hlen
  obtain ⟨room, hroom⟩ : ∃ r : Int, (if a0 < 0 then 0 else a0) = r := ⟨_, rfl⟩
  have hr0 : 0 ≤ room := by rw [← hroom]; split <;> omega
  have hr1 : room ≤ 9223372036854775807 := by rw [← hroom]; split <;> omega
  have hrm : max a0 0 = room := by rw [← hroom]; split <;> omega
  have HN0 := new_any a0 w h0 h1
  rw [hrm] at HN0
  clear hrm
  go_enter Try.func3, Try.ntmps3
  go_wp2_with (go_at_call 7; refine HN0.mono ?_; rintro e w1 ⟨rfl, hp, hb⟩; have HP1 := Lib.hid hp; have HB1 := Lib.hid hb; clear hp hb HN0)
  have HI0 := Lib.hid (WI.start HP1.out HB1.out)
  obtain ⟨mb, hmb⟩ : ∃ mb, mb = w1.heap.size := ⟨_, rfl⟩
  rw [← hmb] at HI0 ⊢
  clear hmb
  go_loopw [7] (fun i wr => ∃ (k : Nat) (L : List Int) (f : Bool), k ≤ len ∧ k ≤ 40 ∧ i = .int .i64 k ∧ L.length ≤ 410 * k ∧ Hid (WI w mb room L f wr)) (fun i _ => len - (intOf i).toNat)
  case atStart => exact ⟨0, [], false, by omega, by omega, rfl, by simp, HI0⟩
  case round =>
    obtain ⟨k, L, f, hk, hk40, rfl, hLl, HI⟩ := hrel
    have HBW := Lib.hid HI.out.base
    by_cases hlt : k < len
    · by_cases hl4 : k < 40
      · obtain ⟨d, hd⟩ : ∃ d, ds[k]? = some d := ⟨_, List.getElem?_eq_getElem (by rw [HD.out]; exact hlt)⟩
        obtain ⟨hok, b1, o1, AL, AS, AB, nL, cL, nS, cS, nB, cB, rfl, hb1, HCELL, HACT⟩ := HR.out.get hd HBW.out
        obtain ⟨q0, q1, q2, q3, q4⟩ := HCELL.out
        have HOK := Lib.hid hok.cut
        have HSH := Lib.hid d.cut_short
        have hnb := actBytes_length hok.cut d.cut_short
        obtain ⟨g, A, cM, hws⟩ := HI.out
        have HWS := Lib.hid hws
        have HSZ := Lib.hid hws.base.size
        have hlti : (k : Int) < (len : Int) := by omega
        obtain ⟨dc, hdc⟩ : ∃ dc, d.cut = dc := ⟨_, rfl⟩
        have HDC := Lib.hid hdc
        rw [hdc] at HOK HSH hnb
        clear hd hok hws hdc
        go_upto_region 9 with (first
          | (go_at_call 8; refine (cut_any wr w.heap.size d _ HACT.out HSZ.out).mono ?_; rintro e wa ⟨v', rfl, ha, hb⟩; rw [HDC.out] at ha; have HACT2 := Lib.hid ha; obtain ⟨AL2, AS2, AB2, nL2, cL2, nS2, cS2, nB2, cB2, rfl, _⟩ := ha; have HWS2 := Lib.hid (HWS.out.later hb); clear hb))
        generalize hW : World.alloc _ _ = W
        obtain ⟨hcell, hws2, hbw, hltw⟩ := lay_facts HWS2.out hW
        have HACT3 := Lib.hid (HACT2.out.kept (hbw.mono HWS2.out.base.size))
        obtain ⟨p0, p1, p2, p3, p4⟩ := act_cells hcell
        have HAC := Lib.hid hcell
        have HWS3 := Lib.hid hws2
        obtain ⟨m0, m1, m2, n0, n1, n2⟩ := hws2.cells
        obtain ⟨ab, hab⟩ : ∃ ab, wa.heap.size = ab := ⟨_, rfl⟩
        rw [hab] at HAC p0 p1 p2 p3 p4 hltw ⊢
        have hmab : mb < ab := by rw [← hab]; exact HWS2.out.lt
        have hmab' : ¬ ab = mb := by omega
        clear hcell hws2 hW hbw hab
        obtain ⟨N, hN⟩ : ∃ N, (actBytes dc).length = N := ⟨_, rfl⟩
        have HN := Lib.hid hN
        rw [hN] at hnb
        clear hN
        go_cut [9, 10] (fun t9 t10 wx => ∃ g9 A' c', t9 = .pointer (some ⟨g9, 0, none⟩) ∧ t10 = .int .i64 (codeOf (fullNext room L f N)) ∧ Hid (NR W A L g9 A' c' room (bytesNext room L f (actBytes dc)) (fullNext room L f N) wx))
        case first =>
          have HB := Lib.hid HWS3.out.base.size
          have HRW := Lib.hid HWS3.out.row
          have hLb : L.length + N ≤ 1000000000 := by omega
          obtain ⟨y0, y1, y2, _, _, _⟩ := HWS3.out.cellsZ (Below.refl _ W)
          obtain ⟨x0, x1, x2, x3, x4⟩ := act_cellsZ HAC.out
          go_region_with (first
            | (go_at_call 10; refine (bytes_A HB.out HACT3.out HOK.out HSH.out).mono ?_; rintro e wb ⟨A2, n2, c2, rfl, hl2, HN2, HBW2, HZ, hlt2⟩; rw [HN.out] at hl2; subst hl2; obtain ⟨m0', m1', m2', m3', m4', m5'⟩ := HWS3.out.cellsZ HBW2.out)
            | (go_at_call 10; refine (bytes_B HB.out HACT3.out HOK.out HSH.out).mono ?_; rintro e wb ⟨A2, n2, c2, rfl, hl2, HN2, HBW2⟩; rw [HN.out] at hl2; subst hl2; obtain ⟨m0', m1', m2', m3', m4', m5'⟩ := HWS3.out.cellsZ HBW2.out)
            | (go_at_call 9; refine (raw_A HBW2.out hr0 hr1 HRW.out HN.out hLb HN2.out HZ.out hlt2).mono ?_; rintro e wz ⟨A', c', rfl, z0, z1, z2, z3, z4, z5, HNR⟩)
            | (go_at_call 9; refine (raw_B HBW2.out hr0 hr1 HRW.out HN.out hLb HN2.out).mono ?_; rintro e wz ⟨A', c', rfl, z0, z1, z2, z3, z4, z5, HNR⟩)
            | (go_at_call 9; refine (raw_C HBW2.out hr0 hr1 HRW.out HN.out hLb HN2.out).mono ?_; rintro e wz ⟨A', c', rfl, HNR⟩))
          all_goals (go_wp2_with fail; go_meet; exact ⟨_, _, _, rfl, rfl, HNR⟩)
        case rest =>
          obtain ⟨g9, A', c', rfl, rfl, HNR⟩ := hcut
          clear m0 m1 m2 n0 n1 n2 p0 p1 p2 p3 p4
          have hdo := do_in (mb := mb) hr0 hr1 (by omega) HWS3.out (by rw [HN.out]; exact HNR.out) HACT3.out HOK.out HSH.out
          rw [HN.out] at hdo
          have hL2 : (bytesNext room L f (actBytes dc)).length ≤ L.length + N := by
            have := HN.out
            unfold bytesNext
            split
            · omega
            · rw [List.length_append]; omega
          obtain ⟨L', hL'⟩ : ∃ L', bytesNext room L f (actBytes dc) = L' := ⟨_, rfl⟩
          obtain ⟨r0, r1, r2⟩ := HNR.out.cells
          obtain ⟨m0, m1, m2, n0, n1, n2⟩ := (HWS3.out.later HNR.out.base).cells
          obtain ⟨p0, p1, p2, p3, p4⟩ := act_cells ((HNR.out.base.block ab hltw).trans HAC.out)
          rw [hL'] at hdo hL2 r0
          cases hf' : fullNext room L f N with
          | true =>
            rw [hf'] at hdo r2
            rw [show codeOf true = 2 from rfl] at hdo ⊢
            have HDO := Lib.hid hdo
            clear hdo hL' hf' HNR
            go_upto_region 15 with (first
              | (go_at_call 11; refine HDO.out.mono ?_; rintro e w5 ⟨rfl, g5, hws5⟩; obtain ⟨s0, s1, s2, _, _, _⟩ := hws5.cells; have HWS5 := Lib.hid hws5; clear hws5))
            refine wp_region_order (0 :: 1 :: 2 :: 3 :: 4 :: 6 :: 7 :: 5 :: 8 :: 9 :: 10 :: 11 :: 12 :: 14 :: 15 :: 16 :: 13 :: 17 :: 18 :: 19 :: 20 :: 22 :: 21 :: 23 :: 24 :: 25 :: 26 :: 29 :: 30 :: 27 :: 28 :: 31 :: 32 :: 33 :: 34 :: 35 :: 36 :: 37 :: 38 :: 39 :: 40 :: 41 :: 42 :: []) (C := fun x => WS w mb g5 A' c' room L' true x ∧ True) (by kernel_rfl) (by kernel_rfl) ⟨HWS5.out.later (Below.refl _ _).drew, trivial⟩ ?_
            repeat (refine wpO3_pureL rfl rfl ?_; go_big_quiet_step (fail); refine wpQuiet_nil ?_)
            refine wpO3_loadL (.slice A' L'.length c') rfl rfl rfl (ad := ⟨mb, 0, none⟩) ?_ ?_ ?_
            · rfl
            · intro x hC
              obtain ⟨e0, e1, e2, _, _, _⟩ := WS.cells hC.1
              simp [Instr.loadAt, go_sem, e0]
            simp only [Act.put, List.setIfInBounds_toArray, List.set_cons_succ, List.set_cons_zero]
            repeat (refine wpO3_pureL rfl rfl ?_; go_big_quiet_step (fail); refine wpQuiet_nil ?_)
            refine wpO3_callL (fun v => ∃ A2 c2, v = .slice A2 L'.length c2) (fun v x => WS w mb g5 A' c' room L' true x ∧ ∀ A2 c2, v = .slice A2 L'.length c2 → Nums .u8 x x.heap.size A2 L') (f := 13) (args := #[.pointer (some ⟨w.heap.size, 0, none⟩)]) rfl rfl rfl (fun _ _ h => ⟨h.1, trivial⟩) (fun x => by first | rfl | (simp [go_sem]; done)) (fun x hC => ?_) ?_
            · exact (Bytes_any _ _ _ _ _ x hC.1.pen (by omega)).mono fun e y ⟨v, he, hm⟩ => bytes_fam hC.1 he hm
            rintro v ⟨A2, c2, rfl⟩
            simp only [Act.put, List.setIfInBounds_toArray, List.set_cons_succ, List.set_cons_zero]
            refine wpO3_callL (fun v => v = .bool true) (fun _ x => WS w mb g5 A' c' room L' true x ∧ ∀ A3 c3, Value.slice A2 L'.length c2 = .slice A3 L'.length c3 → Nums .u8 x x.heap.size A3 L') (f := 12) (args := #[.slice A2 L'.length c2, .slice A' L'.length c']) rfl rfl rfl (fun _ _ h => h) (fun x => by first | rfl | (simp [go_sem]; done)) (fun x hC => ?_) ?_
            · exact (same_len _ _ _ _ _ _ _ L' L' x rfl rfl rfl (by omega) (hC.2 _ _ rfl) hC.1.row).mono fun e y ⟨he, n, hy⟩ => ⟨_, he, rfl, hy ▸ ⟨hC.1.later (below_drewN (Below.refl _ _) n), fun A3 c3 h => ((hC.2 A3 c3 h).below (below_drewN (Below.refl _ _) n))⟩⟩
            rintro v rfl
            simp only [Act.put, List.setIfInBounds_toArray, List.set_cons_succ, List.set_cons_zero]
            repeat (refine wpO3_pureL rfl rfl ?_; go_big_quiet_step (fail); refine wpQuiet_nil ?_)
            refine wpO3_loadL (.slice A' L'.length c') rfl rfl rfl (ad := ⟨mb, 0, none⟩) ?_ ?_ ?_
            · rfl
            · intro x hC
              obtain ⟨e0, e1, e2, _, _, _⟩ := WS.cells hC.1
              simp [Instr.loadAt, go_sem, e0]
            simp only [Act.put, List.setIfInBounds_toArray, List.set_cons_succ, List.set_cons_zero]
            repeat (refine wpO3_pureL rfl rfl ?_; go_big_quiet_step (fail); refine wpQuiet_nil ?_)
            refine wpO3_callL (fun v => v = .int .i64 L'.length) (fun _ x => WS w mb g5 A' c' room L' true x ∧ ∀ A3 c3, Value.slice A2 L'.length c2 = .slice A3 L'.length c3 → Nums .u8 x x.heap.size A3 L') (f := 14) (args := #[.pointer (some ⟨w.heap.size, 0, none⟩)]) rfl rfl rfl (fun _ _ h => h) (fun x => by first | rfl | (simp [go_sem]; done)) (fun x hC => ?_) ?_
            · exact (len_any _ _ _ _ _ x hC.1.pen).mono fun e y ⟨he, hy⟩ => ⟨_, he, rfl, hy ▸ hC⟩
            rintro v rfl
            simp only [Act.put, List.setIfInBounds_toArray, List.set_cons_succ, List.set_cons_zero]
            repeat (refine wpO3_pureL rfl rfl ?_; go_big_quiet_step (fail); refine wpQuiet_nil ?_)
            refine wpO3_callL (fun v => v = .int .i64 0) (fun _ x => WS w mb g5 A' c' room L' true x ∧ ∀ A3 c3, Value.slice A2 L'.length c2 = .slice A3 L'.length c3 → Nums .u8 x x.heap.size A3 L') (f := 15) (args := #[.pointer (some ⟨w.heap.size, 0, none⟩)]) rfl rfl rfl (fun _ _ h => h) (fun x => by first | rfl | (simp [go_sem]; done)) (fun x hC => ?_) ?_
            · exact (Left_full _ _ _ _ x hC.1.pen).mono fun e y ⟨he, hy⟩ => ⟨_, he, rfl, hy ▸ hC⟩
            rintro v rfl
            simp only [Act.put, List.setIfInBounds_toArray, List.set_cons_succ, List.set_cons_zero]
            repeat (refine wpO3_pureL rfl rfl ?_; go_big_quiet_step (fail); refine wpQuiet_nil ?_)
            refine wpO3_loadL (.bool true) rfl rfl rfl (ad := ⟨mb, 2, none⟩) ?_ ?_ ?_
            · rfl
            · intro x hC
              obtain ⟨e0, e1, e2, _, _, _⟩ := WS.cells hC.1
              simp [Instr.loadAt, go_sem, e2]
            simp only [Act.put, List.setIfInBounds_toArray, List.set_cons_succ, List.set_cons_zero]
            repeat (refine wpO3_pureL rfl rfl ?_; go_big_quiet_step (fail); refine wpQuiet_nil ?_)
            refine wpO3_callL (fun v => v = .int .i64 2) (fun _ x => WS w mb g5 A' c' room L' true x ∧ ∀ A3 c3, Value.slice A2 L'.length c2 = .slice A3 L'.length c3 → Nums .u8 x x.heap.size A3 L') (f := 16) (args := #[.pointer (some ⟨w.heap.size, 0, none⟩)]) rfl rfl rfl (fun _ _ h => h) (fun x => by first | rfl | (simp [go_sem]; done)) (fun x hC => ?_) ?_
            · exact (err_any _ _ _ _ _ x hC.1.pen).mono fun e y ⟨he, hy⟩ => ⟨_, he, rfl, hy ▸ hC⟩
            rintro v rfl
            simp only [Act.put, List.setIfInBounds_toArray, List.set_cons_succ, List.set_cons_zero]
            repeat (refine wpO3_pureL rfl rfl ?_; go_big_quiet_step (fail); refine wpQuiet_nil ?_)
            refine wpO3_loadL (.bool true) rfl rfl rfl (ad := ⟨mb, 2, none⟩) ?_ ?_ ?_
            · rfl
            · intro x hC
              obtain ⟨e0, e1, e2, _, _, _⟩ := WS.cells hC.1
              simp [Instr.loadAt, go_sem, e2]
            simp only [Act.put, List.setIfInBounds_toArray, List.set_cons_succ, List.set_cons_zero]
            repeat (refine wpO3_pureL rfl rfl ?_; go_big_quiet_step (fail); refine wpQuiet_nil ?_)
            refine wpO3_skipL rfl rfl rfl ?_
            simp only [Act.put, List.setIfInBounds_toArray, List.set_cons_succ, List.set_cons_zero]
            repeat (refine wpO3_pureL rfl rfl ?_; go_big_quiet_step (fail); refine wpQuiet_nil ?_)
            by_cases hne : L' = []
            · subst hne
              rintro x6 ⟨hws6, _⟩
              have HWS6 := Lib.hid hws6
              clear hws6
              go_wp2_with (first
                | (go_at_call 13; refine (Bytes_any _ _ _ _ _ x6 HWS6.out.pen (by simp)).mono ?_; rintro e x7 ⟨v, rfl, hm⟩; obtain ⟨A3, c3, rfl, _, _⟩ := hm.slice; have HWS7 := Lib.hid (HWS6.out.later hm.2); clear hm))
              go_roundw
              case rel => exact ⟨k + 1, [], true, by omega, by omega, by go_num, by simp, ⟨_, _, _, HWS7.out⟩⟩
              case measure => simp [intOf]; omega
            · skip
              rintro x6 ⟨hws6, _⟩
              have HWS6 := Lib.hid hws6
              clear hws6
              have hpos : 0 < L'.length := List.length_pos_iff.2 hne
              go_upto_region 20 with (first
                | (go_at_call 13; refine (Bytes_any _ _ _ _ _ x6 HWS6.out.pen (by omega)).mono ?_; rintro e x7 ⟨v, rfl, hm⟩; obtain ⟨gb, c3, z0, rfl, hz0, hfz, hwb⟩ := bump HWS6.out hm hne; have HWB := Lib.hid hwb; clear hm hwb))
              refine wp_region_order (0 :: 2 :: 3 :: 1 :: 4 :: 5 :: []) (C := fun x => WS w mb g5 A' c' room L' true x ∧ True) (by kernel_rfl) (by kernel_rfl) ⟨(HWB.out _).later (Below.refl _ _).drew, trivial⟩ ?_
              repeat (refine wpO3_pureL rfl rfl ?_; go_big_quiet_step (fail); refine wpQuiet_nil ?_)
              refine wpO3_loadL (.slice A' L'.length c') rfl rfl rfl (ad := ⟨mb, 0, none⟩) ?_ ?_ ?_
              · rfl
              · intro x hC
                obtain ⟨e0, e1, e2, _, _, _⟩ := WS.cells hC.1
                simp [Instr.loadAt, go_sem, e0]
              simp only [Act.put, List.setIfInBounds_toArray, List.set_cons_succ, List.set_cons_zero]
              repeat (refine wpO3_pureL rfl rfl ?_; go_big_quiet_step (fail); refine wpQuiet_nil ?_)
              refine wpO3_callL (fun v => ∃ A2 c2, v = .slice A2 L'.length c2) (fun v x => WS w mb g5 A' c' room L' true x ∧ ∀ A2 c2, v = .slice A2 L'.length c2 → Nums .u8 x x.heap.size A2 L') (f := 13) (args := #[.pointer (some ⟨w.heap.size, 0, none⟩)]) rfl rfl rfl (fun _ _ h => ⟨h.1, trivial⟩) (fun x => by first | rfl | (simp [go_sem]; done)) (fun x hC => ?_) ?_
              · exact (Bytes_any _ _ _ _ _ x hC.1.pen (by omega)).mono fun e y ⟨v, he, hm⟩ => bytes_fam hC.1 he hm
              rintro v ⟨A2, c2, rfl⟩
              simp only [Act.put, List.setIfInBounds_toArray, List.set_cons_succ, List.set_cons_zero]
              refine wpO3_callL (fun v => v = .bool true) (fun _ x => WS w mb g5 A' c' room L' true x ∧ ∀ A3 c3, Value.slice A2 L'.length c2 = .slice A3 L'.length c3 → Nums .u8 x x.heap.size A3 L') (f := 12) (args := #[.slice A2 L'.length c2, .slice A' L'.length c']) rfl rfl rfl (fun _ _ h => h) (fun x => by first | rfl | (simp [go_sem]; done)) (fun x hC => ?_) ?_
              · exact (same_len _ _ _ _ _ _ _ L' L' x rfl rfl rfl (by omega) (hC.2 _ _ rfl) hC.1.row).mono fun e y ⟨he, n, hy⟩ => ⟨_, he, rfl, hy ▸ ⟨hC.1.later (below_drewN (Below.refl _ _) n), fun A3 c3 h => ((hC.2 A3 c3 h).below (below_drewN (Below.refl _ _) n))⟩⟩
              rintro v rfl
              simp only [Act.put, List.setIfInBounds_toArray, List.set_cons_succ, List.set_cons_zero]
              repeat (refine wpO3_pureL rfl rfl ?_; go_big_quiet_step (fail); refine wpQuiet_nil ?_)
              rintro x8 ⟨hws8, _⟩
              have HWS8 := Lib.hid hws8
              clear hws8
              go_wp2
              go_roundw
              case rel => exact ⟨k + 1, L', true, by omega, by omega, by go_num, by omega, ⟨_, _, _, HWS8.out⟩⟩
              case measure => simp [intOf]; omega
          | false =>
            rw [hf'] at hdo r2
            rw [show codeOf false = 0 from rfl] at hdo ⊢
            have HDO := Lib.hid hdo
            clear hdo hL' hf' HNR
            go_upto_region 15 with (first
              | (go_at_call 11; refine HDO.out.mono ?_; rintro e w5 ⟨rfl, g5, hws5⟩; obtain ⟨s0, s1, s2, _, _, _⟩ := hws5.cells; have HWS5 := Lib.hid hws5; clear hws5))
            refine wp_region_order (0 :: 1 :: 2 :: 3 :: 4 :: 6 :: 7 :: 5 :: 8 :: 9 :: 10 :: 11 :: 12 :: 14 :: 15 :: 16 :: 13 :: 17 :: 18 :: 19 :: 20 :: 22 :: 21 :: 23 :: 24 :: 25 :: 26 :: 29 :: 30 :: 27 :: 28 :: 31 :: 32 :: 33 :: 34 :: 35 :: 36 :: 37 :: 38 :: 39 :: 40 :: 41 :: 42 :: []) (C := fun x => WS w mb g5 A' c' room L' false x ∧ True) (by kernel_rfl) (by kernel_rfl) ⟨HWS5.out.later (Below.refl _ _).drew, trivial⟩ ?_
            repeat (refine wpO3_pureL rfl rfl ?_; go_big_quiet_step (fail); refine wpQuiet_nil ?_)
            refine wpO3_loadL (.slice A' L'.length c') rfl rfl rfl (ad := ⟨mb, 0, none⟩) ?_ ?_ ?_
            · rfl
            · intro x hC
              obtain ⟨e0, e1, e2, _, _, _⟩ := WS.cells hC.1
              simp [Instr.loadAt, go_sem, e0]
            simp only [Act.put, List.setIfInBounds_toArray, List.set_cons_succ, List.set_cons_zero]
            repeat (refine wpO3_pureL rfl rfl ?_; go_big_quiet_step (fail); refine wpQuiet_nil ?_)
            refine wpO3_callL (fun v => ∃ A2 c2, v = .slice A2 L'.length c2) (fun v x => WS w mb g5 A' c' room L' false x ∧ ∀ A2 c2, v = .slice A2 L'.length c2 → Nums .u8 x x.heap.size A2 L') (f := 13) (args := #[.pointer (some ⟨w.heap.size, 0, none⟩)]) rfl rfl rfl (fun _ _ h => ⟨h.1, trivial⟩) (fun x => by first | rfl | (simp [go_sem]; done)) (fun x hC => ?_) ?_
            · exact (Bytes_any _ _ _ _ _ x hC.1.pen (by omega)).mono fun e y ⟨v, he, hm⟩ => bytes_fam hC.1 he hm
            rintro v ⟨A2, c2, rfl⟩
            simp only [Act.put, List.setIfInBounds_toArray, List.set_cons_succ, List.set_cons_zero]
            refine wpO3_callL (fun v => v = .bool true) (fun _ x => WS w mb g5 A' c' room L' false x ∧ ∀ A3 c3, Value.slice A2 L'.length c2 = .slice A3 L'.length c3 → Nums .u8 x x.heap.size A3 L') (f := 12) (args := #[.slice A2 L'.length c2, .slice A' L'.length c']) rfl rfl rfl (fun _ _ h => h) (fun x => by first | rfl | (simp [go_sem]; done)) (fun x hC => ?_) ?_
            · exact (same_len _ _ _ _ _ _ _ L' L' x rfl rfl rfl (by omega) (hC.2 _ _ rfl) hC.1.row).mono fun e y ⟨he, n, hy⟩ => ⟨_, he, rfl, hy ▸ ⟨hC.1.later (below_drewN (Below.refl _ _) n), fun A3 c3 h => ((hC.2 A3 c3 h).below (below_drewN (Below.refl _ _) n))⟩⟩
            rintro v rfl
            simp only [Act.put, List.setIfInBounds_toArray, List.set_cons_succ, List.set_cons_zero]
            repeat (refine wpO3_pureL rfl rfl ?_; go_big_quiet_step (fail); refine wpQuiet_nil ?_)
            refine wpO3_loadL (.slice A' L'.length c') rfl rfl rfl (ad := ⟨mb, 0, none⟩) ?_ ?_ ?_
            · rfl
            · intro x hC
              obtain ⟨e0, e1, e2, _, _, _⟩ := WS.cells hC.1
              simp [Instr.loadAt, go_sem, e0]
            simp only [Act.put, List.setIfInBounds_toArray, List.set_cons_succ, List.set_cons_zero]
            repeat (refine wpO3_pureL rfl rfl ?_; go_big_quiet_step (fail); refine wpQuiet_nil ?_)
            refine wpO3_callL (fun v => v = .int .i64 L'.length) (fun _ x => WS w mb g5 A' c' room L' false x ∧ ∀ A3 c3, Value.slice A2 L'.length c2 = .slice A3 L'.length c3 → Nums .u8 x x.heap.size A3 L') (f := 14) (args := #[.pointer (some ⟨w.heap.size, 0, none⟩)]) rfl rfl rfl (fun _ _ h => h) (fun x => by first | rfl | (simp [go_sem]; done)) (fun x hC => ?_) ?_
            · exact (len_any _ _ _ _ _ x hC.1.pen).mono fun e y ⟨he, hy⟩ => ⟨_, he, rfl, hy ▸ hC⟩
            rintro v rfl
            simp only [Act.put, List.setIfInBounds_toArray, List.set_cons_succ, List.set_cons_zero]
            repeat (refine wpO3_pureL rfl rfl ?_; go_big_quiet_step (fail); refine wpQuiet_nil ?_)
            refine wpO3_callL (fun v => v = .int .i64 (room - L'.length)) (fun _ x => WS w mb g5 A' c' room L' false x ∧ ∀ A3 c3, Value.slice A2 L'.length c2 = .slice A3 L'.length c3 → Nums .u8 x x.heap.size A3 L') (f := 15) (args := #[.pointer (some ⟨w.heap.size, 0, none⟩)]) rfl rfl rfl (fun _ _ h => h) (fun x => by first | rfl | (simp [go_sem]; done)) (fun x hC => ?_) ?_
            · exact (Left_any _ _ _ _ x hC.1.pen hr0 hr1 (by omega)).mono fun e y ⟨he, n, hy⟩ => ⟨_, he, rfl, hy ▸ ⟨hC.1.later (below_drewN (Below.refl _ _) n), fun A3 c3 h => ((hC.2 A3 c3 h).below (below_drewN (Below.refl _ _) n))⟩⟩
            rintro v rfl
            simp only [Act.put, List.setIfInBounds_toArray, List.set_cons_succ, List.set_cons_zero]
            repeat (refine wpO3_pureL rfl rfl ?_; go_big_quiet_step (fail); refine wpQuiet_nil ?_)
            refine wpO3_loadL (.bool false) rfl rfl rfl (ad := ⟨mb, 2, none⟩) ?_ ?_ ?_
            · rfl
            · intro x hC
              obtain ⟨e0, e1, e2, _, _, _⟩ := WS.cells hC.1
              simp [Instr.loadAt, go_sem, e2]
            simp only [Act.put, List.setIfInBounds_toArray, List.set_cons_succ, List.set_cons_zero]
            repeat (refine wpO3_pureL rfl rfl ?_; go_big_quiet_step (fail); refine wpQuiet_nil ?_)
            refine wpO3_callL (fun v => v = .int .i64 0) (fun _ x => WS w mb g5 A' c' room L' false x ∧ ∀ A3 c3, Value.slice A2 L'.length c2 = .slice A3 L'.length c3 → Nums .u8 x x.heap.size A3 L') (f := 16) (args := #[.pointer (some ⟨w.heap.size, 0, none⟩)]) rfl rfl rfl (fun _ _ h => h) (fun x => by first | rfl | (simp [go_sem]; done)) (fun x hC => ?_) ?_
            · exact (err_any _ _ _ _ _ x hC.1.pen).mono fun e y ⟨he, hy⟩ => ⟨_, he, rfl, hy ▸ hC⟩
            rintro v rfl
            simp only [Act.put, List.setIfInBounds_toArray, List.set_cons_succ, List.set_cons_zero]
            repeat (refine wpO3_pureL rfl rfl ?_; go_big_quiet_step (fail); refine wpQuiet_nil ?_)
            refine wpO3_loadL (.bool false) rfl rfl rfl (ad := ⟨mb, 2, none⟩) ?_ ?_ ?_
            · rfl
            · intro x hC
              obtain ⟨e0, e1, e2, _, _, _⟩ := WS.cells hC.1
              simp [Instr.loadAt, go_sem, e2]
            simp only [Act.put, List.setIfInBounds_toArray, List.set_cons_succ, List.set_cons_zero]
            repeat (refine wpO3_pureL rfl rfl ?_; go_big_quiet_step (fail); refine wpQuiet_nil ?_)
            refine wpO3_callL (fun v => v = .int .i64 0) (fun _ x => WS w mb g5 A' c' room L' false x ∧ ∀ A3 c3, Value.slice A2 L'.length c2 = .slice A3 L'.length c3 → Nums .u8 x x.heap.size A3 L') (f := 16) (args := #[.pointer (some ⟨w.heap.size, 0, none⟩)]) rfl rfl rfl (fun _ _ h => h) (fun x => by first | rfl | (simp [go_sem]; done)) (fun x hC => ?_) ?_
            · exact (err_any _ _ _ _ _ x hC.1.pen).mono fun e y ⟨he, hy⟩ => ⟨_, he, rfl, hy ▸ hC⟩
            rintro v rfl
            simp only [Act.put, List.setIfInBounds_toArray, List.set_cons_succ, List.set_cons_zero]
            repeat (refine wpO3_pureL rfl rfl ?_; go_big_quiet_step (fail); refine wpQuiet_nil ?_)
            by_cases hne : L' = []
            · subst hne
              rintro x6 ⟨hws6, _⟩
              have HWS6 := Lib.hid hws6
              clear hws6
              go_wp2_with (first
                | (go_at_call 13; refine (Bytes_any _ _ _ _ _ x6 HWS6.out.pen (by simp)).mono ?_; rintro e x7 ⟨v, rfl, hm⟩; obtain ⟨A3, c3, rfl, _, _⟩ := hm.slice; have HWS7 := Lib.hid (HWS6.out.later hm.2); clear hm))
              go_roundw
              case rel => exact ⟨k + 1, [], false, by omega, by omega, by go_num, by simp, ⟨_, _, _, HWS7.out⟩⟩
              case measure => simp [intOf]; omega
            · skip
              rintro x6 ⟨hws6, _⟩
              have HWS6 := Lib.hid hws6
              clear hws6
              have hpos : 0 < L'.length := List.length_pos_iff.2 hne
              go_upto_region 20 with (first
                | (go_at_call 13; refine (Bytes_any _ _ _ _ _ x6 HWS6.out.pen (by omega)).mono ?_; rintro e x7 ⟨v, rfl, hm⟩; obtain ⟨gb, c3, z0, rfl, hz0, hfz, hwb⟩ := bump HWS6.out hm hne; have HWB := Lib.hid hwb; clear hm hwb))
              refine wp_region_order (0 :: 2 :: 3 :: 1 :: 4 :: 5 :: []) (C := fun x => WS w mb g5 A' c' room L' false x ∧ True) (by kernel_rfl) (by kernel_rfl) ⟨(HWB.out _).later (Below.refl _ _).drew, trivial⟩ ?_
              repeat (refine wpO3_pureL rfl rfl ?_; go_big_quiet_step (fail); refine wpQuiet_nil ?_)
              refine wpO3_loadL (.slice A' L'.length c') rfl rfl rfl (ad := ⟨mb, 0, none⟩) ?_ ?_ ?_
              · rfl
              · intro x hC
                obtain ⟨e0, e1, e2, _, _, _⟩ := WS.cells hC.1
                simp [Instr.loadAt, go_sem, e0]
              simp only [Act.put, List.setIfInBounds_toArray, List.set_cons_succ, List.set_cons_zero]
              repeat (refine wpO3_pureL rfl rfl ?_; go_big_quiet_step (fail); refine wpQuiet_nil ?_)
              refine wpO3_callL (fun v => ∃ A2 c2, v = .slice A2 L'.length c2) (fun v x => WS w mb g5 A' c' room L' false x ∧ ∀ A2 c2, v = .slice A2 L'.length c2 → Nums .u8 x x.heap.size A2 L') (f := 13) (args := #[.pointer (some ⟨w.heap.size, 0, none⟩)]) rfl rfl rfl (fun _ _ h => ⟨h.1, trivial⟩) (fun x => by first | rfl | (simp [go_sem]; done)) (fun x hC => ?_) ?_
              · exact (Bytes_any _ _ _ _ _ x hC.1.pen (by omega)).mono fun e y ⟨v, he, hm⟩ => bytes_fam hC.1 he hm
              rintro v ⟨A2, c2, rfl⟩
              simp only [Act.put, List.setIfInBounds_toArray, List.set_cons_succ, List.set_cons_zero]
              refine wpO3_callL (fun v => v = .bool true) (fun _ x => WS w mb g5 A' c' room L' false x ∧ ∀ A3 c3, Value.slice A2 L'.length c2 = .slice A3 L'.length c3 → Nums .u8 x x.heap.size A3 L') (f := 12) (args := #[.slice A2 L'.length c2, .slice A' L'.length c']) rfl rfl rfl (fun _ _ h => h) (fun x => by first | rfl | (simp [go_sem]; done)) (fun x hC => ?_) ?_
              · exact (same_len _ _ _ _ _ _ _ L' L' x rfl rfl rfl (by omega) (hC.2 _ _ rfl) hC.1.row).mono fun e y ⟨he, n, hy⟩ => ⟨_, he, rfl, hy ▸ ⟨hC.1.later (below_drewN (Below.refl _ _) n), fun A3 c3 h => ((hC.2 A3 c3 h).below (below_drewN (Below.refl _ _) n))⟩⟩
              rintro v rfl
              simp only [Act.put, List.setIfInBounds_toArray, List.set_cons_succ, List.set_cons_zero]
              repeat (refine wpO3_pureL rfl rfl ?_; go_big_quiet_step (fail); refine wpQuiet_nil ?_)
              rintro x8 ⟨hws8, _⟩
              have HWS8 := Lib.hid hws8
              clear hws8
              go_wp2
              go_roundw
              case rel => exact ⟨k + 1, L', false, by omega, by omega, by go_num, by omega, ⟨_, _, _, HWS8.out⟩⟩
              case measure => simp [intOf]; omega
      · go_wp2_with (go_at_call 17; refine (known_any _).mono ?_; rintro e w2 ⟨rfl, hb⟩; have HB := Lib.hid hb; clear hb)
        go_ret
        exact ⟨rfl, HBW.out.trans (HB.out.mono HBW.out.size)⟩
    · go_wp2_with (go_at_call 17; refine (known_any _).mono ?_; rintro e w2 ⟨rfl, hb⟩; have HB := Lib.hid hb; clear hb)
      go_ret
      exact ⟨rfl, HBW.out.trans (HB.out.mono HBW.out.size)⟩
end Go.Proofs.Ytajeefnogdledaa
