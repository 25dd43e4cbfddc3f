/-
  The walk of PenJoins.
-/
import Derived.Test.YtajeefnogdledaaJoins
namespace Go.Proofs.Ytajeefnogdledaa
open Go.RowKit
set_option maxRecDepth 100000

/-- both are as w below B: the later as the former -/
theorem Below.since {B : Nat} {w x y : World} (h1 : Below B w x) (h2 : Below B w y) (hs : x.heap.size ≤ y.heap.size) : Below B x y :=
  ⟨h2.os.trans h1.os.symm, h2.tape.trans h1.tape.symm, h2.output.trans h1.output.symm, hs, fun k hk => (h2.block k hk).trans (h1.block k hk).symm⟩

set_option maxHeartbeats 8000000 in
theorem joins_go (A1 A2 : Option Addr) (len1 cap1 len2 cap2 : Nat) (ds1 ds2 : List ActD) (w : World) (hlen1 : ds1.length = len1) (hlc1 : len1 ≤ 9223372036854775807) (hr1 : ActRow w A1 ds1) (hlen2 : ds2.length = len2) (hlc2 : len2 ≤ 9223372036854775807) (hr2 : ActRow w A2 ds2) :
    Calls Try.prog 6 #[.slice A1 len1 cap1, .slice A2 len2 cap2] w fun e w' => e = .returned (.bool true) ∧ Below w.heap.size w w' := by
  obtain ⟨i0, hi, hz0, hz1, hz2⟩ := info_parts byteInfo
  have HR1 := Lib.hid hr1
  have HD1 := Lib.hid hlen1
  have HR2 := Lib.hid hr2
  have HD2 := Lib.hid hlen2
  clear hr1 hlen1 hr2 hlen2
  have HN2 : ∀ x, Calls Try.prog 7 #[.int .i64 20000] x fun e y => e = .returned (.pointer (some ⟨x.heap.size, 0, none⟩)) ∧ PenAt y x.heap.size x.heap.size 20000 [] false ∧ Below x.heap.size x y := fun x => new_any 20000 x (by decide) (by decide)
  have HN4 : ∀ x, Calls Try.prog 7 #[.int .i64 40000] x fun e y => e = .returned (.pointer (some ⟨x.heap.size, 0, none⟩)) ∧ PenAt y x.heap.size x.heap.size 40000 [] false ∧ Below x.heap.size x y := fun x => new_any 40000 x (by decide) (by decide)
  go_enter Try.func6, Try.ntmps6
  go_wp2_with (first
    | (go_at_call 7; refine (HN4 _).mono ?_; rintro e w3 ⟨rfl, hz3, hb3⟩; have HI0 : Hid (J3 w w.heap.size w1.heap.size w2.heap.size [] [] [] w3) := J3.start HX1.out HB1.out HX2.out HB2.out hz3 hb3; clear hz3 hb3)
    | (go_at_call 7; have := HX1.out; refine (HN2 _).mono ?_; rintro e w2 ⟨rfl, hx2, hb2⟩; have HX2 := Lib.hid hx2; have HB2 := Lib.hid hb2; clear hx2 hb2)
    | (go_at_call 7; refine (HN2 _).mono ?_; rintro e w1 ⟨rfl, hx1, hb1⟩; have HX1 := Lib.hid hx1; have HB1 := Lib.hid hb1; clear hx1 hb1))
  go_loopw [8] (fun i wr => ∃ (k : Nat) (LX : List Int), k ≤ len1 ∧ k ≤ 20 ∧ i = .int .i64 k ∧ LX.length ≤ 410 * k ∧ Hid (J3 w w.heap.size w1.heap.size w2.heap.size LX [] LX wr)) (fun i _ => len1 - (intOf i).toNat)
  case atStart => exact ⟨0, [], by omega, by omega, rfl, by simp, HI0⟩
  case round =>
    obtain ⟨k, LX, hk, hk20, rfl, hLl, HI⟩ := hrel
    have HBR := Lib.hid HI.out.base
    by_cases hlt : k < len1
    · by_cases hl20 : k < 20
      · skip
        obtain ⟨d, hd⟩ : ∃ d, ds1[k]? = some d := ⟨_, List.getElem?_eq_getElem (by rw [HD1.out]; exact hlt)⟩
        obtain ⟨hok, b1, o1, AL, AS, AB, nL, cL, nS, cS, nB, cB, hA, hb1, HCELL, HACT⟩ := HR1.out.get hd HI.out.base
        rw [hA]
        obtain ⟨q0, q1, q2, q3, q4⟩ := HCELL.out
        have HOK := Lib.hid hok.cut
        have HSH := Lib.hid d.cut_short
        have hnb := actBytes_length hok.cut d.cut_short
        have hsz := HI.out.base.size
        obtain ⟨nb, hnbe⟩ : ∃ nb, actBytes d.cut = nb := ⟨_, rfl⟩
        have HE := Lib.hid hnbe
        rw [hnbe] at hnb
        have hlti : (k : Int) < (len1 : Int) := by omega
        clear hd hok hnbe hA
        go_wp2_with (first
          | (go_at_call 8; refine (cut_any w2 w.heap.size d _ HACT2.out hsz2).mono ?_; rintro e w3 ⟨v3, rfl, ha3, hb3⟩; have HACT3 := Lib.hid ha3; have HJ3 := Lib.hid (HJ2.out.later hb3); clear ha3 hb3)
          | (go_at_call 8; refine (cut_any wr w.heap.size d _ HACT.out hsz).mono ?_; rintro e w1 ⟨v1, rfl, ha1, hb1x⟩; have HACT1 := Lib.hid ha1; have HJ1 := Lib.hid (HI.out.later hb1x); have hs1 := hb1x.size; clear ha1 hb1x)
          | (go_at_call 11; refine (HJ3.out.doz HACT3.out HOK.out HSH.out (by omega)).mono ?_; rintro e w4 ⟨rfl, hj4, _⟩; have HJ4 := Lib.hid hj4; clear hj4)
          | (go_at_call 11; refine (HJ1.out.dox HACT1.out HOK.out HSH.out (by omega)).mono ?_; rintro e w2 ⟨rfl, hj2, hs2⟩; have HJ2 := Lib.hid hj2; have hw12 := hj2.base; have hsz2 := hw12.size; have HCELL2 := Lib.hid (HCELL.out.below (Below.since HBR.out hw12 (Nat.le_trans hs1 hs2)) hb1); obtain ⟨p0, p1, p2, p3, p4⟩ := HCELL2.out; have HACT2 := Lib.hid (HACT.out.kept (Below.since HBR.out hw12 (Nat.le_trans hs1 hs2))); clear hj2 hw12))
        rw [HE.out] at HJ4
        go_roundw
        case rel => exact ⟨k + 1, LX ++ nb, by omega, by omega, by go_num, by rw [List.length_append]; omega, HJ4⟩
        case measure => simp [intOf]; omega
      · go_wp2
        go_loopw [9] (fun i wr => ∃ (k : Nat) (LY : List Int), k ≤ len2 ∧ k ≤ 20 ∧ i = .int .i64 k ∧ LY.length ≤ 410 * k ∧ Hid (J3 w w.heap.size w1.heap.size w2.heap.size LX LY (LX ++ LY) wr)) (fun i _ => len2 - (intOf i).toNat)
        case atStart => exact ⟨0, [], by omega, by omega, rfl, by simp, by rw [List.append_nil]; exact HI⟩
        case round =>
          have hlx82 : LX.length ≤ 8200 := by omega
          clear HI hk hk20 hLl
          obtain ⟨k, LY, hk, hk20, rfl, hLl, HI⟩ := hrel
          have HBR := Lib.hid HI.out.base
          by_cases hlt : k < len2
          · by_cases hl20 : k < 20
            · skip
              obtain ⟨d, hd⟩ : ∃ d, ds2[k]? = some d := ⟨_, List.getElem?_eq_getElem (by rw [HD2.out]; exact hlt)⟩
              obtain ⟨hok, b1, o1, AL, AS, AB, nL, cL, nS, cS, nB, cB, hA, hb1, HCELL, HACT⟩ := HR2.out.get hd HI.out.base
              rw [hA]
              obtain ⟨q0, q1, q2, q3, q4⟩ := HCELL.out
              have HOK := Lib.hid hok.cut
              have HSH := Lib.hid d.cut_short
              have hnb := actBytes_length hok.cut d.cut_short
              have hsz := HI.out.base.size
              obtain ⟨nb, hnbe⟩ : ∃ nb, actBytes d.cut = nb := ⟨_, rfl⟩
              have HE := Lib.hid hnbe
              rw [hnbe] at hnb
              have hlti : (k : Int) < (len2 : Int) := by omega
              clear hd hok hnbe hA
              go_wp2_with (first
                | (go_at_call 8; refine (cut_any w2 w.heap.size d _ HACT2.out hsz2).mono ?_; rintro e w3 ⟨v3, rfl, ha3, hb3⟩; have HACT3 := Lib.hid ha3; have HJ3 := Lib.hid (HJ2.out.later hb3); clear ha3 hb3)
                | (go_at_call 8; refine (cut_any wr w.heap.size d _ HACT.out hsz).mono ?_; rintro e w1 ⟨v1, rfl, ha1, hb1x⟩; have HACT1 := Lib.hid ha1; have HJ1 := Lib.hid (HI.out.later hb1x); have hs1 := hb1x.size; clear ha1 hb1x)
                | (go_at_call 11; refine (HJ3.out.doz HACT3.out HOK.out HSH.out (by simp only [List.length_append]; omega)).mono ?_; rintro e w4 ⟨rfl, hj4, _⟩; have HJ4 := Lib.hid hj4; clear hj4)
                | (go_at_call 11; refine (HJ1.out.doy HACT1.out HOK.out HSH.out (by omega)).mono ?_; rintro e w2 ⟨rfl, hj2, hs2⟩; have HJ2 := Lib.hid hj2; have hw12 := hj2.base; have hsz2 := hw12.size; have HCELL2 := Lib.hid (HCELL.out.below (Below.since HBR.out hw12 (Nat.le_trans hs1 hs2)) hb1); obtain ⟨p0, p1, p2, p3, p4⟩ := HCELL2.out; have HACT2 := Lib.hid (HACT.out.kept (Below.since HBR.out hw12 (Nat.le_trans hs1 hs2))); clear hj2 hw12))
              rw [HE.out] at HJ4
              go_roundw
              case rel => exact ⟨k + 1, LY ++ nb, by omega, by omega, by go_num, by rw [List.length_append]; omega, by rw [← List.append_assoc]; exact HJ4⟩
              case measure => simp [intOf]; omega
            · skip
              have HJ := HI
              have hlx : LX.length ≤ 100000 := by omega
              have hly : LY.length ≤ 100000 := by omega
              have hlz : (LX ++ LY).length ≤ 100000 := by rw [List.length_append]; omega
              have hll : (LX ++ LY).length = LX.length + LY.length := List.length_append
              have hll63 : LX.length + LY.length ≤ 9223372036854775807 := by omega
              go_wp2_with (first
                | (go_at_call 17; refine (known_any _).mono ?_; rintro e y0 ⟨rfl, hb⟩; replace HJ := Lib.hid (HJ.out.later hb); clear hb)
                | (go_at_call 16; have := FY; refine HJ.out.errs.2.2.mono ?_; rintro e y ⟨rfl, rfl⟩)
                | (go_at_call 16; have := FX; refine HJ.out.errs.2.1.mono ?_; rintro e y ⟨rfl, rfl⟩; have FY : Hid True := trivial)
                | (go_at_call 16; refine HJ.out.errs.1.mono ?_; rintro e y ⟨rfl, rfl⟩; have FX : Hid True := trivial)
                | (go_at_call 13; have hmx := HMX.out; refine (HJ.out.bytes hlx hly hlz).2.1.mono ?_; rintro e y3 ⟨vy, rfl, hm⟩; obtain ⟨AY, cy, rfl, _, hny⟩ := hm.slice; have HNY := Lib.hid hny; have HMX3 := Lib.hid (hmx.after hm.2); have HJ3 := Lib.hid (HJ.out.later hm.2); have hs3 := (hmx.after hm.2).2.size; clear hm hny hmx)
                | (go_at_call 13; have hnz1 := HNZ.out; refine (HJ.out.bytes hlx hly hlz).1.mono ?_; rintro e y2 ⟨vx, rfl, hm⟩; have HMX : Hid (MadeK 5 .u8 y1 y2 LX vx) := hm; replace HJ := Lib.hid (HJ.out.later hm.2); clear hm hnz1)
                | (go_at_call 13; refine (HJ.out.bytes hlx hly hlz).2.2.mono ?_; rintro e y1 ⟨v, rfl, hm⟩; obtain ⟨AZ, cz, rfl, _, hnz⟩ := hm.slice; have HNZ := Lib.hid hnz; replace HJ := Lib.hid (HJ.out.later hm.2); have HJ1 := HJ; clear hm hnz)
                | (at_builtin; refine wpList_append_any rfl (.tmp 91) (.tmp 93) 25 rfl y1.heap.size 5 i0 (.int .u8 0) 1 Try.underlying25 hi hz0 hz1 hz2 rfl .u8 LX LY _ rfl HMX3.out.1 AY _ cy y3.heap.size rfl rfl HNY.out ?c1a ?c1b hs3 ?_; rotate_left 2; intro v4 y4 hown hg; have hm4 := HMX3.out.more hown hg; obtain ⟨A4, c4, rfl, _, hn4⟩ := hm4.slice; have HN4 := Lib.hid hn4; have HNZ4 := Lib.hid ((HNZ.out.below hm4.2).mono hm4.2.size); have HJ4 := Lib.hid (HJ1.out.later hm4.2); clear hown hg hm4 hn4)
                | (go_at_call 12; refine (same_len _ _ _ _ _ _ _ (LX ++ LY) (LX ++ LY) _ rfl hll hll hll63 HNZ4.out HN4.out).mono ?_; rintro e y5 ⟨rfl, n1, rfl⟩; have HJ5 := Lib.hid (HJ4.out.later (below_drewN (Below.refl _ _) n1)))
                | (go_at_call 15; refine (HJ5.out.left hlz).mono ?_; rintro e y ⟨rfl, n2, rfl⟩; have HJ6 := Lib.hid (HJ4.out.later (below_drewN (Below.refl _ _) (n1 + n2))))
                | (go_at_call 14; have := FL; refine HJ6.out.lens.2.mono ?_; rintro e y ⟨rfl, rfl⟩)
                | (go_at_call 14; refine HJ6.out.lens.1.mono ?_; rintro e y ⟨rfl, rfl⟩; have FL : Hid True := trivial))
              · have hq : ((40000 : Int) - ((LX.length : Int) + (LY.length : Int)) == 40000 - (LX.length : Int) - (LY.length : Int)) = true := by rw [beq_iff_eq]; omega
                go_ret
                exact ⟨congrArg (fun b => Ending.returned (Value.bool b)) hq, HJ6.out.base⟩
              · unfold maxLen; omega
              · omega
          · skip
            have HJ := HI
            have hlx : LX.length ≤ 100000 := by omega
            have hly : LY.length ≤ 100000 := by omega
            have hlz : (LX ++ LY).length ≤ 100000 := by rw [List.length_append]; omega
            have hll : (LX ++ LY).length = LX.length + LY.length := List.length_append
            have hll63 : LX.length + LY.length ≤ 9223372036854775807 := by omega
            go_wp2_with (first
              | (go_at_call 17; refine (known_any _).mono ?_; rintro e y0 ⟨rfl, hb⟩; replace HJ := Lib.hid (HJ.out.later hb); clear hb)
              | (go_at_call 16; have := FY; refine HJ.out.errs.2.2.mono ?_; rintro e y ⟨rfl, rfl⟩)
              | (go_at_call 16; have := FX; refine HJ.out.errs.2.1.mono ?_; rintro e y ⟨rfl, rfl⟩; have FY : Hid True := trivial)
              | (go_at_call 16; refine HJ.out.errs.1.mono ?_; rintro e y ⟨rfl, rfl⟩; have FX : Hid True := trivial)
              | (go_at_call 13; have hmx := HMX.out; refine (HJ.out.bytes hlx hly hlz).2.1.mono ?_; rintro e y3 ⟨vy, rfl, hm⟩; obtain ⟨AY, cy, rfl, _, hny⟩ := hm.slice; have HNY := Lib.hid hny; have HMX3 := Lib.hid (hmx.after hm.2); have HJ3 := Lib.hid (HJ.out.later hm.2); have hs3 := (hmx.after hm.2).2.size; clear hm hny hmx)
              | (go_at_call 13; have hnz1 := HNZ.out; refine (HJ.out.bytes hlx hly hlz).1.mono ?_; rintro e y2 ⟨vx, rfl, hm⟩; have HMX : Hid (MadeK 5 .u8 y1 y2 LX vx) := hm; replace HJ := Lib.hid (HJ.out.later hm.2); clear hm hnz1)
              | (go_at_call 13; refine (HJ.out.bytes hlx hly hlz).2.2.mono ?_; rintro e y1 ⟨v, rfl, hm⟩; obtain ⟨AZ, cz, rfl, _, hnz⟩ := hm.slice; have HNZ := Lib.hid hnz; replace HJ := Lib.hid (HJ.out.later hm.2); have HJ1 := HJ; clear hm hnz)
              | (at_builtin; refine wpList_append_any rfl (.tmp 91) (.tmp 93) 25 rfl y1.heap.size 5 i0 (.int .u8 0) 1 Try.underlying25 hi hz0 hz1 hz2 rfl .u8 LX LY _ rfl HMX3.out.1 AY _ cy y3.heap.size rfl rfl HNY.out ?c2a ?c2b hs3 ?_; rotate_left 2; intro v4 y4 hown hg; have hm4 := HMX3.out.more hown hg; obtain ⟨A4, c4, rfl, _, hn4⟩ := hm4.slice; have HN4 := Lib.hid hn4; have HNZ4 := Lib.hid ((HNZ.out.below hm4.2).mono hm4.2.size); have HJ4 := Lib.hid (HJ1.out.later hm4.2); clear hown hg hm4 hn4)
              | (go_at_call 12; refine (same_len _ _ _ _ _ _ _ (LX ++ LY) (LX ++ LY) _ rfl hll hll hll63 HNZ4.out HN4.out).mono ?_; rintro e y5 ⟨rfl, n1, rfl⟩; have HJ5 := Lib.hid (HJ4.out.later (below_drewN (Below.refl _ _) n1)))
              | (go_at_call 15; refine (HJ5.out.left hlz).mono ?_; rintro e y ⟨rfl, n2, rfl⟩; have HJ6 := Lib.hid (HJ4.out.later (below_drewN (Below.refl _ _) (n1 + n2))))
              | (go_at_call 14; have := FL; refine HJ6.out.lens.2.mono ?_; rintro e y ⟨rfl, rfl⟩)
              | (go_at_call 14; refine HJ6.out.lens.1.mono ?_; rintro e y ⟨rfl, rfl⟩; have FL : Hid True := trivial))
            · have hq : ((40000 : Int) - ((LX.length : Int) + (LY.length : Int)) == 40000 - (LX.length : Int) - (LY.length : Int)) = true := by rw [beq_iff_eq]; omega
              go_ret
              exact ⟨congrArg (fun b => Ending.returned (Value.bool b)) hq, HJ6.out.base⟩
            · unfold maxLen; omega
            · omega
    · go_wp2
      go_loopw [9] (fun i wr => ∃ (k : Nat) (LY : List Int), k ≤ len2 ∧ k ≤ 20 ∧ i = .int .i64 k ∧ LY.length ≤ 410 * k ∧ Hid (J3 w w.heap.size w1.heap.size w2.heap.size LX LY (LX ++ LY) wr)) (fun i _ => len2 - (intOf i).toNat)
      case atStart => exact ⟨0, [], by omega, by omega, rfl, by simp, by rw [List.append_nil]; exact HI⟩
      case round =>
        have hlx82 : LX.length ≤ 8200 := by omega
        clear HI hk hk20 hLl
        obtain ⟨k, LY, hk, hk20, rfl, hLl, HI⟩ := hrel
        have HBR := Lib.hid HI.out.base
        by_cases hlt : k < len2
        · by_cases hl20 : k < 20
          · skip
            obtain ⟨d, hd⟩ : ∃ d, ds2[k]? = some d := ⟨_, List.getElem?_eq_getElem (by rw [HD2.out]; exact hlt)⟩
            obtain ⟨hok, b1, o1, AL, AS, AB, nL, cL, nS, cS, nB, cB, hA, hb1, HCELL, HACT⟩ := HR2.out.get hd HI.out.base
            rw [hA]
            obtain ⟨q0, q1, q2, q3, q4⟩ := HCELL.out
            have HOK := Lib.hid hok.cut
            have HSH := Lib.hid d.cut_short
            have hnb := actBytes_length hok.cut d.cut_short
            have hsz := HI.out.base.size
            obtain ⟨nb, hnbe⟩ : ∃ nb, actBytes d.cut = nb := ⟨_, rfl⟩
            have HE := Lib.hid hnbe
            rw [hnbe] at hnb
            have hlti : (k : Int) < (len2 : Int) := by omega
            clear hd hok hnbe hA
            go_wp2_with (first
              | (go_at_call 8; refine (cut_any w2 w.heap.size d _ HACT2.out hsz2).mono ?_; rintro e w3 ⟨v3, rfl, ha3, hb3⟩; have HACT3 := Lib.hid ha3; have HJ3 := Lib.hid (HJ2.out.later hb3); clear ha3 hb3)
              | (go_at_call 8; refine (cut_any wr w.heap.size d _ HACT.out hsz).mono ?_; rintro e w1 ⟨v1, rfl, ha1, hb1x⟩; have HACT1 := Lib.hid ha1; have HJ1 := Lib.hid (HI.out.later hb1x); have hs1 := hb1x.size; clear ha1 hb1x)
              | (go_at_call 11; refine (HJ3.out.doz HACT3.out HOK.out HSH.out (by simp only [List.length_append]; omega)).mono ?_; rintro e w4 ⟨rfl, hj4, _⟩; have HJ4 := Lib.hid hj4; clear hj4)
              | (go_at_call 11; refine (HJ1.out.doy HACT1.out HOK.out HSH.out (by omega)).mono ?_; rintro e w2 ⟨rfl, hj2, hs2⟩; have HJ2 := Lib.hid hj2; have hw12 := hj2.base; have hsz2 := hw12.size; have HCELL2 := Lib.hid (HCELL.out.below (Below.since HBR.out hw12 (Nat.le_trans hs1 hs2)) hb1); obtain ⟨p0, p1, p2, p3, p4⟩ := HCELL2.out; have HACT2 := Lib.hid (HACT.out.kept (Below.since HBR.out hw12 (Nat.le_trans hs1 hs2))); clear hj2 hw12))
            rw [HE.out] at HJ4
            go_roundw
            case rel => exact ⟨k + 1, LY ++ nb, by omega, by omega, by go_num, by rw [List.length_append]; omega, by rw [← List.append_assoc]; exact HJ4⟩
            case measure => simp [intOf]; omega
          · skip
            have HJ := HI
            have hlx : LX.length ≤ 100000 := by omega
            have hly : LY.length ≤ 100000 := by omega
            have hlz : (LX ++ LY).length ≤ 100000 := by rw [List.length_append]; omega
            have hll : (LX ++ LY).length = LX.length + LY.length := List.length_append
            have hll63 : LX.length + LY.length ≤ 9223372036854775807 := by omega
            go_wp2_with (first
              | (go_at_call 17; refine (known_any _).mono ?_; rintro e y0 ⟨rfl, hb⟩; replace HJ := Lib.hid (HJ.out.later hb); clear hb)
              | (go_at_call 16; have := FY; refine HJ.out.errs.2.2.mono ?_; rintro e y ⟨rfl, rfl⟩)
              | (go_at_call 16; have := FX; refine HJ.out.errs.2.1.mono ?_; rintro e y ⟨rfl, rfl⟩; have FY : Hid True := trivial)
              | (go_at_call 16; refine HJ.out.errs.1.mono ?_; rintro e y ⟨rfl, rfl⟩; have FX : Hid True := trivial)
              | (go_at_call 13; have hmx := HMX.out; refine (HJ.out.bytes hlx hly hlz).2.1.mono ?_; rintro e y3 ⟨vy, rfl, hm⟩; obtain ⟨AY, cy, rfl, _, hny⟩ := hm.slice; have HNY := Lib.hid hny; have HMX3 := Lib.hid (hmx.after hm.2); have HJ3 := Lib.hid (HJ.out.later hm.2); have hs3 := (hmx.after hm.2).2.size; clear hm hny hmx)
              | (go_at_call 13; have hnz1 := HNZ.out; refine (HJ.out.bytes hlx hly hlz).1.mono ?_; rintro e y2 ⟨vx, rfl, hm⟩; have HMX : Hid (MadeK 5 .u8 y1 y2 LX vx) := hm; replace HJ := Lib.hid (HJ.out.later hm.2); clear hm hnz1)
              | (go_at_call 13; refine (HJ.out.bytes hlx hly hlz).2.2.mono ?_; rintro e y1 ⟨v, rfl, hm⟩; obtain ⟨AZ, cz, rfl, _, hnz⟩ := hm.slice; have HNZ := Lib.hid hnz; replace HJ := Lib.hid (HJ.out.later hm.2); have HJ1 := HJ; clear hm hnz)
              | (at_builtin; refine wpList_append_any rfl (.tmp 91) (.tmp 93) 25 rfl y1.heap.size 5 i0 (.int .u8 0) 1 Try.underlying25 hi hz0 hz1 hz2 rfl .u8 LX LY _ rfl HMX3.out.1 AY _ cy y3.heap.size rfl rfl HNY.out ?c3a ?c3b hs3 ?_; rotate_left 2; intro v4 y4 hown hg; have hm4 := HMX3.out.more hown hg; obtain ⟨A4, c4, rfl, _, hn4⟩ := hm4.slice; have HN4 := Lib.hid hn4; have HNZ4 := Lib.hid ((HNZ.out.below hm4.2).mono hm4.2.size); have HJ4 := Lib.hid (HJ1.out.later hm4.2); clear hown hg hm4 hn4)
              | (go_at_call 12; refine (same_len _ _ _ _ _ _ _ (LX ++ LY) (LX ++ LY) _ rfl hll hll hll63 HNZ4.out HN4.out).mono ?_; rintro e y5 ⟨rfl, n1, rfl⟩; have HJ5 := Lib.hid (HJ4.out.later (below_drewN (Below.refl _ _) n1)))
              | (go_at_call 15; refine (HJ5.out.left hlz).mono ?_; rintro e y ⟨rfl, n2, rfl⟩; have HJ6 := Lib.hid (HJ4.out.later (below_drewN (Below.refl _ _) (n1 + n2))))
              | (go_at_call 14; have := FL; refine HJ6.out.lens.2.mono ?_; rintro e y ⟨rfl, rfl⟩)
              | (go_at_call 14; refine HJ6.out.lens.1.mono ?_; rintro e y ⟨rfl, rfl⟩; have FL : Hid True := trivial))
            · have hq : ((40000 : Int) - ((LX.length : Int) + (LY.length : Int)) == 40000 - (LX.length : Int) - (LY.length : Int)) = true := by rw [beq_iff_eq]; omega
              go_ret
              exact ⟨congrArg (fun b => Ending.returned (Value.bool b)) hq, HJ6.out.base⟩
            · unfold maxLen; omega
            · omega
        · skip
          have HJ := HI
          have hlx : LX.length ≤ 100000 := by omega
          have hly : LY.length ≤ 100000 := by omega
          have hlz : (LX ++ LY).length ≤ 100000 := by rw [List.length_append]; omega
          have hll : (LX ++ LY).length = LX.length + LY.length := List.length_append
          have hll63 : LX.length + LY.length ≤ 9223372036854775807 := by omega
          go_wp2_with (first
            | (go_at_call 17; refine (known_any _).mono ?_; rintro e y0 ⟨rfl, hb⟩; replace HJ := Lib.hid (HJ.out.later hb); clear hb)
            | (go_at_call 16; have := FY; refine HJ.out.errs.2.2.mono ?_; rintro e y ⟨rfl, rfl⟩)
            | (go_at_call 16; have := FX; refine HJ.out.errs.2.1.mono ?_; rintro e y ⟨rfl, rfl⟩; have FY : Hid True := trivial)
            | (go_at_call 16; refine HJ.out.errs.1.mono ?_; rintro e y ⟨rfl, rfl⟩; have FX : Hid True := trivial)
            | (go_at_call 13; have hmx := HMX.out; refine (HJ.out.bytes hlx hly hlz).2.1.mono ?_; rintro e y3 ⟨vy, rfl, hm⟩; obtain ⟨AY, cy, rfl, _, hny⟩ := hm.slice; have HNY := Lib.hid hny; have HMX3 := Lib.hid (hmx.after hm.2); have HJ3 := Lib.hid (HJ.out.later hm.2); have hs3 := (hmx.after hm.2).2.size; clear hm hny hmx)
            | (go_at_call 13; have hnz1 := HNZ.out; refine (HJ.out.bytes hlx hly hlz).1.mono ?_; rintro e y2 ⟨vx, rfl, hm⟩; have HMX : Hid (MadeK 5 .u8 y1 y2 LX vx) := hm; replace HJ := Lib.hid (HJ.out.later hm.2); clear hm hnz1)
            | (go_at_call 13; refine (HJ.out.bytes hlx hly hlz).2.2.mono ?_; rintro e y1 ⟨v, rfl, hm⟩; obtain ⟨AZ, cz, rfl, _, hnz⟩ := hm.slice; have HNZ := Lib.hid hnz; replace HJ := Lib.hid (HJ.out.later hm.2); have HJ1 := HJ; clear hm hnz)
            | (at_builtin; refine wpList_append_any rfl (.tmp 91) (.tmp 93) 25 rfl y1.heap.size 5 i0 (.int .u8 0) 1 Try.underlying25 hi hz0 hz1 hz2 rfl .u8 LX LY _ rfl HMX3.out.1 AY _ cy y3.heap.size rfl rfl HNY.out ?c4a ?c4b hs3 ?_; rotate_left 2; intro v4 y4 hown hg; have hm4 := HMX3.out.more hown hg; obtain ⟨A4, c4, rfl, _, hn4⟩ := hm4.slice; have HN4 := Lib.hid hn4; have HNZ4 := Lib.hid ((HNZ.out.below hm4.2).mono hm4.2.size); have HJ4 := Lib.hid (HJ1.out.later hm4.2); clear hown hg hm4 hn4)
            | (go_at_call 12; refine (same_len _ _ _ _ _ _ _ (LX ++ LY) (LX ++ LY) _ rfl hll hll hll63 HNZ4.out HN4.out).mono ?_; rintro e y5 ⟨rfl, n1, rfl⟩; have HJ5 := Lib.hid (HJ4.out.later (below_drewN (Below.refl _ _) n1)))
            | (go_at_call 15; refine (HJ5.out.left hlz).mono ?_; rintro e y ⟨rfl, n2, rfl⟩; have HJ6 := Lib.hid (HJ4.out.later (below_drewN (Below.refl _ _) (n1 + n2))))
            | (go_at_call 14; have := FL; refine HJ6.out.lens.2.mono ?_; rintro e y ⟨rfl, rfl⟩)
            | (go_at_call 14; refine HJ6.out.lens.1.mono ?_; rintro e y ⟨rfl, rfl⟩; have FL : Hid True := trivial))
          · have hq : ((40000 : Int) - ((LX.length : Int) + (LY.length : Int)) == 40000 - (LX.length : Int) - (LY.length : Int)) = true := by rw [beq_iff_eq]; omega
            go_ret
            exact ⟨congrArg (fun b => Ending.returned (Value.bool b)) hq, HJ6.out.base⟩
          · unfold maxLen; omega
          · omega
end Go.Proofs.Ytajeefnogdledaa
