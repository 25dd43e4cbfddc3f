/-
  The walk of the law WindowOrder: it returns true.
-/
import Derived.Test.YtklkfajbfpihfaaWinP
import Derived.Test.YtklkfajbfpihfaaWinS
namespace Go.Proofs.Ytklkfajbfpihfaa
open Go.RowKit
set_option maxRecDepth 100000

set_option maxHeartbeats 4000000 in
theorem order_pos (s z : Int) (hs : 0 ≤ s ∧ s < 4294967296) (a : Option Addr) (n m c : Nat) (es : List Int) (w : World) (hn : es.length = m) (_hc : m ≤ c) (hl : m ≤ 9223372036854775807) (hz : ∀ z ∈ es, 0 ≤ z ∧ z < 256) (h1 : Nums .u8 w w.heap.size a es)
    (hm : wrap64 ((IntKind.u64.wrap z).tmod 300) = (n : Int)) (hn0 : 0 < n) (hn3 : n < 300) :
    Calls Try.prog 5 #[.int .u32 s, .int .i64 z, .slice a m c] w fun e w' => e = .returned (.bool true) ∧ Below w.heap.size w w' := by
  obtain ⟨j0, hj, hj0, hj1, hj2⟩ := info_parts wu32Info
  have HN := Lib.hid hn
  have HZ := Lib.hid hz
  have HM := Lib.hid hm
  clear hn hz hm
  obtain ⟨r, hr⟩ : ∃ r : Nat → Nat, r = fun i => ((es[i]?).getD 0).toNat % 32 := ⟨_, rfl⟩
  have HR := Lib.hid hr
  clear hr
  go_enter Try.func5, Try.ntmps5
  go_wp2
  rw [HM.out]
  go_loopw [7, 8] (fun v i wr => ∃ k : Nat, k ≤ n ∧ i = .int .i64 (k : Int) ∧ MadeK 22 .u32 w wr (Wn.lo r s k 0) v) (fun _ i _ => n - (intOf i).toNat)
  case atStart => exact ⟨0, by omega, rfl, MadeK.nil _ _ (Below.refl _ _)⟩
  case round =>
    obtain ⟨k, hkn, rfl, hmk⟩ := hrel
    rcases Nat.lt_or_ge k n with h4 | h4
    · have h5 : (k : Int) < (n : Int) := by omega
      have hsz := hmk.2.size
      have hkl : (Wn.lo r s k 0).length = k := Wn.lo_len
      have HT : Hid (Wn.lo r s (k + 1) 0 = Wn.lo r s k 0 ++ [Sr.add s (k : Int)]) := Wn.lo_grow k
      obtain ⟨L, hL⟩ : ∃ L, Wn.lo r s k 0 = L := ⟨_, rfl⟩
      rw [hL] at hmk HT hkl
      have hL6 : L.length ≤ 300 := by omega
      clear hkl hL
      go_wp2_with (at_builtin; refine wpList_append_own _ rfl (.tmp 23) (.tmp 28) 23 rfl w.heap.size 22 j0 (.int .u32 0) 1 4 Try.underlying23 hj hj0 hj1 hj2 rfl (by decide) _ _ _ rfl (hmk.1.alloc _) ⟨wr.heap.size, 0, none⟩ 1 1 [_] rfl rfl (cell_one_new _ _ _) ?_ ?_ ?_ ?_ ?_; (intro u hu; simp at hu; subst hu; rfl); (unfold maxLen; omega); omega; (simp; omega); intro v' w1 hown1 hgrow1 _)
      have h1' := hmk.app (y := Sr.add s (k : Int)) hown1 hgrow1 (by unfold Sr.add; omega)
      go_roundw
      case rel => exact ⟨k + 1, by omega, by go_num, by rw [HT.out]; exact h1'⟩
      case measure => simp [intOf]; omega
    · obtain rfl : n = k := by omega
      obtain ⟨A0, cL, rfl, hcL, _⟩ := own_len hmk.1
      obtain ⟨g, rfl, hg, _, hrow⟩ := RowU.of_own hmk.1 (by rw [Wn.lo_len]; exact hn0)
      rw [Wn.lo_len] at hcL ⊢
      have hbA := hmk.2
      have hgA : g < wr.heap.size := by obtain ⟨cs, hh, _⟩ := hrow.row; exact (Array.getElem?_eq_some_iff.1 hh).1
      have h1A := h1.below hbA
      have hsA := hbA.size
      have HBA := Lib.hid hbA
      rename World => wA
      clear hmk hbA h1
      go_wp2
      go_loopw [9] (fun iv wr => ∃ i : Nat, i ≤ m ∧ 32 * i ≤ n ∧ iv = .int .i64 (i : Int) ∧ RowU wA g (Wn.lo r s n (32 * i)) wr) (fun iv _ => n - 32 * (intOf iv).toNat)
      case atStart => exact ⟨0, by omega, by omega, rfl, hrow⟩
      case round =>
        obtain ⟨i, him, hin, rfl, hro⟩ := hrel
        by_cases hgo : i < m ∧ 32 * i + 32 ≤ n
        · obtain ⟨h4, h5⟩ := hgo
          have h6 : (i : Int) < (m : Int) := by omega
          have h7 : 32 * (i : Int) + 32 ≤ (n : Int) := by omega
          have h8 : 32 * (i : Int) + 32 ≤ (cL : Int) := by omega
          obtain ⟨tv, htv⟩ : ∃ tv, es[i]? = some tv := ⟨_, List.getElem?_eq_getElem (by rw [HN.out]; exact h4)⟩
          have htU := HZ.out tv (List.mem_of_getElem? htv)
          have hri : Hid (r i = tv.toNat % 32) := by show _ = _; rw [HR.out]; show (es[i]?.getD 0).toNat % 32 = _; rw [htv]; rfl
          obtain ⟨b1, o1, rfl, hb1, hc1⟩ := (nums_off h1A hro.off hg hsA).open htv
          clear htv
          obtain ⟨BK, hBK⟩ : ∃ BK : List Int, BK = (List.range 32).map (fun j => Sr.add s ((32 * i + j : Nat) : Int)) := ⟨_, rfl⟩
          have hBl : BK.length = 32 := by rw [hBK]; simp
          have hBat : ∀ j, j < 32 → BK[j]? = some (Sr.add s ((32 * i + j : Nat) : Int)) := fun j hj => by rw [hBK, List.getElem?_map, List.getElem?_range hj]; rfl
          have hBn : Nums .u32 (wr.alloc (.cells #[] 22)) (wr.alloc (.cells #[] 22)).heap.size (some ⟨g, 32 * i, none⟩) BK := fun _ => by
            have hb := hro.below ((Below.refl _ wr).alloc (Nat.le_refl _) (.cells #[] 22))
            obtain ⟨cs, hh, _⟩ := hb.row
            refine ⟨g, 32 * i, rfl, (Array.getElem?_eq_some_iff.1 hh).1, fun j x hx => ?_⟩
            have hj32 : j < 32 := by
              rcases Nat.lt_or_ge j 32 with h | h
              · exact h
              · rw [List.getElem?_eq_none (by omega)] at hx; cases hx
            rw [hBat j hj32] at hx
            injection hx with hx
            subst hx
            refine hb.cell ?_
            rw [Wn.lo_at (by omega), Wn.pl, if_neg (by omega)]
          have HBn := Lib.hid hBn
          have HBat := Lib.hid hBat
          have hRO := Lib.hid hro
          have hsr := hro.off.size
          clear hBK hBat hBn hro
          go_wp2_with (at_builtin; refine wpList_append_any rfl (.tmp 43) (.tmp 50) 23 rfl wr.heap.size 22 j0 (.int .u32 0) 4 Try.underlying23 hj hj0 hj1 hj2 rfl .u32 [] BK _ rfl (World.ownsRow_made wr #[] 0 (Nat.le_refl _) (by decide) rfl) _ _ _ _ rfl (hBl.trans ?_) HBn.out ?_ ?_ ?_ ?_; (first | omega | skip); (unfold maxLen; simp only [List.length_nil]; omega); (simp only [List.length_nil]; omega); (simp only [World.size_alloc]; omega); intro v' w5 hown5 hg5)
          have hg5' : (wr.alloc (.cells #[] 22)).grownBy w5 (some wr.heap.size) := hg5
          have hb5 : Below wr.heap.size wr w5 := ((Below.refl _ wr).alloc (Nat.le_refl _) _).grown hg5' (by simp) (fun g hg => by injection hg with hg; omega)
          rw [List.map_nil, List.nil_append, List.length_nil, Nat.zero_add] at hown5
          obtain ⟨A5, c5, rfl, hc5, _⟩ := own_len hown5
          obtain ⟨g5, rfl, hg5g, _, hrow5⟩ := RowU.of_own hown5 (by omega)
          rw [hBl] at hc5 ⊢
          have hR5 := hRO.out.below hb5
          have hs5 := hb5.size
          have hgg : g < wr.heap.size := by obtain ⟨cs, hh, _⟩ := hRO.out.row; exact (Array.getElem?_eq_some_iff.1 hh).1
          have HR5 := Lib.hid hrow5
          have HT5 : Hid (w5.cell? ⟨b1, o1 + i, none⟩ = some (.int .u8 tv)) := (hb5.cell (p := ⟨b1, o1 + i, none⟩) (by have := block_of_cell hc1; exact this)).trans hc1
          clear hown5 hg5 hg5' hb5 hrow5 hBl HBn hRO
          go_loopw [11] (fun kv wx => ∃ k : Nat, k ≤ 32 ∧ kv = .int .i64 (k : Int) ∧ RowU wA g (Wn.lo r s n (32 * i + k)) wx ∧ Off (fun b => b = g) w5 wx) (fun kv _ => 32 - (intOf kv).toNat)
          case atStart => exact ⟨0, by omega, rfl, hR5, Off.refl _ _⟩
          case round =>
            obtain ⟨k, hk, rfl, hrk, hok⟩ := hrel
            rename World => wx
            rcases Nat.lt_or_ge k 32 with h9 | h9
            · have h9' : (k : Int) < 32 := by omega
              obtain ⟨J, hJ⟩ : ∃ J : Nat, ((k : Int) + tv % 32) % 32 = (J : Int) := ⟨((k + tv.toNat % 32) % 32), by omega⟩
              have hJ32 : J < 32 := by omega
              have hx := HR5.out.cell (HBat.out J hJ32)
              have hx' := hok.cell hx (show ¬ g5 = g by omega)
              have ht' := hok.cell HT5.out (show ¬ b1 = g by omega)
              have hfz := hrk.frozen (32 * i + k)
              obtain ⟨x0, hx0⟩ : ∃ x0, (Wn.lo r s n (32 * i + k))[32 * i + k]? = some x0 := ⟨_, List.getElem?_eq_getElem (by rw [Wn.lo_len]; omega)⟩
              have hxc := hrk.cell hx0
              have hrot : Sr.add s ((32 * i + J : Nat) : Int) = Sr.add s (Wn.rot r (32 * i + k)) := by
                congr 1
                unfold Wn.rot
                rw [show (32 * i + k) / 32 = i by omega, hri.out]
                omega
              have HS : Hid (RowU wA g (Wn.lo r s n (32 * i + (k + 1))) (wx.setCell ⟨g, 32 * i + k, none⟩ (.int .u32 (Sr.add s ((32 * i + J : Nat) : Int))))) := by
                have := hrk.set (32 * i + k) (Sr.add s ((32 * i + J : Nat) : Int))
                rw [hrot, Wn.lo_set (by omega)] at this
                rw [hrot]
                exact this
              have HO : Hid (Off (fun b => b = g) w5 (wx.setCell ⟨g, 32 * i + k, none⟩ (.int .u32 (Sr.add s ((32 * i + J : Nat) : Int))))) := hok.setCell (p := ⟨g, 32 * i + k, none⟩) rfl _
              have h10 : (32 * (i : Int) + (k : Int)) < (n : Int) := by omega
              have hJ5 : (J : Int) < 32 := by omega
              clear hx hx0 hrk hok hrot
              generalize Sr.add s ((32 * i + J : Nat) : Int) = X at *
              go_wp2
              go_roundw
              case rel => exact ⟨k + 1, by omega, by go_num, HS.out, HO.out⟩
              case measure => simp [intOf]; omega
            · obtain rfl : 32 = k := by omega
              have hnx : 32 * i + 32 = 32 * (i + 1) := by omega
              rw [hnx] at hrk
              clear hnx
              go_wp2
              go_roundw
              case rel => exact ⟨i + 1, by omega, by omega, by go_num, hrk⟩
              case measure => simp [intOf]; omega
        · have hB : Below w.heap.size w wr := HBA.out.trans (hro.off.below (fun k hk => by omega) hsA)
          have hc0 : 32 * i % 32 = 0 := by omega
          have HB := Lib.hid hB
          have hrow := Lib.hid hro
          have hgw : g < wr.heap.size := by obtain ⟨cs, hh, _⟩ := hro.row; exact (Array.getElem?_eq_some_iff.1 hh).1
          clear hro hB h1A
          obtain ⟨c0, hcc⟩ : ∃ c0, 32 * i = c0 := ⟨_, rfl⟩
          rw [hcc] at hrow hc0 hin
          rcases Nat.lt_or_ge i m with h4 | h4
          case' inl =>
            have h6 : (i : Int) < (m : Int) := by omega
            have h7 : ¬ 32 * (i : Int) + 32 ≤ (n : Int) := by omega
            go_wp2_with fail
          case' inr =>
            have h6 : ¬ (i : Int) < (m : Int) := by omega
            go_wp2_with fail
          all_goals (
            clear h6 hcc hgo HN HZ HM HR hj hj0 hj1 hj2 h4
            refine (wnew_any s hs wr).mono ?_
            rintro e w7 ⟨rfl, hA7, hb7, hs7⟩
            obtain ⟨B, hBe⟩ : ∃ B, wr.heap.size = B := ⟨_, rfl⟩
            rw [hBe] at hA7 hgw hs7 ⊢
            have hrow7 := Lib.hid (hrow.out.below hb7)
            have HB7 := Lib.hid (HB.out.trans (hb7.mono HB.out.size))
            have HBw : Hid (w.heap.size ≤ B) := by show _ ≤ _; rw [← hBe]; exact HB.out.size
            clear hb7 hBe HB hrow HBA
            go_wp2
            go_loopw [13] (fun jv wx => ∃ (j : Nat) (t : Int) (q : Nat), j ≤ n ∧ jv = .int .i64 (j : Int) ∧ Wn.Ord s r c0 j t q ∧ WinAt wx B t q ∧ Off (fun b => b = B) w7 wx) (fun jv _ => n - (intOf jv).toNat)
            case atStart => exact ⟨0, _, _, by omega, rfl, Wn.Ord.start s r c0, hA7, Off.refl _ _⟩
            case round =>
              obtain ⟨j, t, q, hjn, rfl, hord, hwin, hoff⟩ := hrel
              rename World => wx
              have ht := hord.top
              have hq := hord.lt
              rcases Nat.lt_or_ge j n with h8 | h8
              · have h9 : (j : Int) < (n : Int) := by omega
                have h10 : (j : Int) < (cL : Int) := by omega
                obtain ⟨hnew, hord2⟩ := hord.new hc0 (by omega)
                have hcell := hoff.cell (hrow7.out.cell (Wn.lo_at (r := r) (s := s) (c := c0) h8)) (show ¬ g = B by omega)
                have hyU : 0 ≤ Sr.add s (Wn.pl r c0 j) ∧ Sr.add s (Wn.pl r c0 j) < 4294967296 := Sr.add_lt _ _
                generalize Sr.add s (Wn.pl r c0 j) = y at *
                have hag := Wn.look_again hnew
                have htU := Wn.nt_lt ht hyU
                have hqU := Wn.nq_lt hq hnew
                have K1 := wLook_any hwin y ht hyU hq
                have K2 := Lib.hid (fun (V : World) (hV : WinAt V B t q) => wMark_any hV y ht hyU hq)
                have K3 := Lib.hid (fun (V : World) (hV : WinAt V B (Wn.nt t y) (Wn.nq t q y)) => wMark_any hV y htU hyU hqU)
                rw [hnew] at K1 K2
                rw [if_pos rfl, if_pos rfl] at K2
                rw [hag] at K3
                rw [if_neg (by decide), if_neg (by decide)] at K3
                generalize Wn.nt t y = t2 at *
                generalize Wn.nq t q y = q2 at *
                have HO2 := Lib.hid hord2
                have HOF := Lib.hid hoff
                have HWI := Lib.hid hwin
                have HCE := Lib.hid hcell
                clear hnew hag hord2 hord hoff hwin
                go_wp2_with fail
                refine K1.mono ?_
                rintro e V1 ⟨rfl, hb1⟩
                have hwin1 := HWI.out.below hb1
                have hoff1 := HOF.out.trans (S' := fun _ => False) (Off.of_below hb1) (fun _ _ h => h.elim)
                have hcell1 := (hb1.cell (p := ⟨g, j, none⟩) (block_of_cell HCE.out)).trans HCE.out
                have HCE1 := Lib.hid hcell1
                have HOF1 := Lib.hid hoff1
                have K2' := K2.out V1 hwin1
                clear hb1 hoff1 hwin1 K1 K2 hcell
                go_wp2_with fail
                refine K2'.mono ?_
                rintro e V2 ⟨rfl, hwin2, hf2⟩
                have hoff2 := Lib.hid (HOF1.out.trans hf2 (fun _ _ h => h))
                have hcell2 := hf2.cell HCE1.out (show ¬ g = B by omega)
                have K3' := K3.out V2 hwin2
                clear hf2 hwin2 K2' K3 hcell1
                go_wp2_with fail
                refine K3'.mono ?_
                rintro e V3 ⟨rfl, hwin3, hf3⟩
                have hoff3 := hoff2.out.trans hf3 (fun _ _ h => h)
                clear hf3 K3' hcell2
                go_wp2
                go_roundw
                case rel => exact ⟨j + 1, t2, q2, by omega, by go_num, HO2.out, hwin3, hoff3⟩
                case measure => simp [intOf]; omega
              · obtain rfl : n = j := by omega
                obtain ⟨ht2, hc2⟩ := hord.all hc0 hin hn0
                have K1 := wtop_any hwin
                have K2 := Lib.hid (fun (V : World) (hV : WinAt V B t q) => wmissing_any hV ht hq)
                have hlen : (Wn.gv t q false 64).length = 0 := by rw [Wn.gv_len]; exact hc2
                rw [hlen] at K2
                have HOF := Lib.hid hoff
                have HWI := Lib.hid hwin
                have h9 : (0 : Int) < (n : Int) := by omega
                have he : (t != (s + ((n : Int) - 1)) % 4294967296) = false := by rw [ht2]; simp [Sr.add]
                clear hord hoff hwin hlen hc2 ht2
                go_wp2_with fail
                refine K1.mono ?_
                rintro e V ⟨rfl, hV⟩
                rw [hV]
                clear hV K1
                go_wp2_with fail
                refine (K2.out _ HWI.out).mono ?_
                rintro e V ⟨A9, c9, rfl, _, _, hb9⟩
                have hB9 : Below w.heap.size w V := by
                  have h1 : Below w.heap.size w wx := HB7.out.trans (HOF.out.below (fun k hk => by rw [hk]; exact HBw.out) (by have := HBw.out; omega))
                  exact h1.trans (hb9.mono h1.size)
                have HB9 := Lib.hid hB9
                have K := wiknown_any V
                clear K2 hb9 hB9 he HOF HWI
                go_wp2_with fail
                refine K.mono ?_
                rintro e V9 ⟨rfl, hb⟩
                go_wp2
                go_ret
                exact ⟨rfl, HB9.out.trans (hb.mono HB9.out.size)⟩
            )
set_option maxHeartbeats 4000000 in
theorem order_zero (s z : Int) (hs : 0 ≤ s ∧ s < 4294967296) (a : Option Addr) (m c : Nat) (w : World) (hm : wrap64 ((IntKind.u64.wrap z).tmod 300) = 0) :
    Calls Try.prog 5 #[.int .u32 s, .int .i64 z, .slice a m c] w fun e w' => e = .returned (.bool true) ∧ Below w.heap.size w w' := by
  have HM := Lib.hid hm
  clear hm
  go_enter Try.func5, Try.ntmps5
  go_wp2
  rw [HM.out]
  go_loopw [7, 8] (fun v i wr => i = .int .i64 0 ∧ v = .slice none 0 0 ∧ wr = w) (fun _ _ _ => 0)
  case atStart => exact ⟨rfl, rfl, rfl⟩
  case round =>
    obtain ⟨rfl, rfl, rfl⟩ := hrel
    rename World => w
    go_wp2
    go_loopw [9] (fun iv wr => iv = .int .i64 0 ∧ wr = w) (fun _ _ => 0)
    case atStart => exact ⟨rfl, rfl⟩
    case round =>
      obtain ⟨rfl, rfl⟩ := hrel
      rename World => w
      rcases Nat.eq_zero_or_pos m with h0 | h0
      case' inl =>
        subst h0
        go_wp2_with fail
      case' inr =>
        have h6 : (0 : Int) < (m : Int) := by omega
        go_wp2_with fail
      all_goals (
        refine (wnew_any s hs w).mono ?_
        rintro e w7 ⟨rfl, hA7, hb7, hs7⟩
        go_wp2
        go_loopw [13] (fun jv wx => jv = .int .i64 0 ∧ wx = w7) (fun _ _ => 0)
        case atStart => exact ⟨rfl, rfl⟩
        case round =>
          obtain ⟨rfl, rfl⟩ := hrel
          rename World => w7
          go_wp2_with fail
          refine (wiknown_any _).mono ?_
          rintro e V9 ⟨rfl, hb⟩
          go_wp2
          go_ret
          exact ⟨rfl, hb7.trans (hb.mono hb7.size)⟩)
theorem walk_worder (a0 a1 : Int) (a2 : Option Addr) (len2 cap2 : Nat) (z2 : List Int) (w : World) (w0 : (Lit.int .u32 a0).wf = true) (_w1 : (Lit.int .i64 a1).wf = true) (w2 : IsRow .u8 w a2 len2 cap2 z2) :
    Calls Try.prog 5 #[.int .u32 a0, .int .i64 a1, .slice a2 len2 cap2] w fun e w' => e = .returned (.bool true) ∧ Below w.heap.size w w' := by
  obtain ⟨e0, l0, q0, m0, k0, r0⟩ := w2.elems
  have hb := bounds_u32 w0
  unfold maxLen at m0
  have hu : 0 ≤ IntKind.u64.wrap a1 := by rw [IntKind.wrap_u64]; omega
  have hz : (IntKind.u64.wrap a1).tmod 300 = IntKind.u64.wrap a1 % 300 := Int.tmod_eq_emod_of_nonneg hu
  obtain ⟨n, hn⟩ : ∃ n : Nat, IntKind.u64.wrap a1 % 300 = (n : Int) := ⟨(IntKind.u64.wrap a1 % 300).toNat, by omega⟩
  have hn3 : n < 300 := by omega
  have hm : wrap64 ((IntKind.u64.wrap a1).tmod 300) = (n : Int) := by rw [hz, hn]; unfold wrap64; omega
  rcases Nat.eq_zero_or_pos n with h0 | h0
  · subst h0
    exact order_zero a0 a1 (by omega) a2 len2 cap2 w hm
  · exact order_pos a0 a1 (by omega) a2 n len2 cap2 e0 w l0 q0 (by omega) (fun z hz => by have := bounds_u8 (r0 z hz); omega) k0 hm h0 hn3
end Go.Proofs.Ytklkfajbfpihfaa
