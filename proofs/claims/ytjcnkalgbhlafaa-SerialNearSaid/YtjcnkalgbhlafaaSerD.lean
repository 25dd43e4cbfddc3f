/-
  The walk of the law SerialNear: it returns true.
-/
import Derived.Test.YtjcnkalgbhlafaaSerK
import Derived.Test.YtjcnkalgbhlafaaSerM
import Derived.Test.YtjcnkalgbhlafaaSerB
namespace Go.Proofs.Ytjcnkalgbhlafaa
open Go.RowKit
set_option maxRecDepth 100000

theorem u32Info : (Try.prog.info? 22).map (fun i => (i.zero, i.size, i.bytes)) = some (some (.int .u32 0), 1, 4) := by kernel_rfl

set_option maxHeartbeats 4000000 in
theorem snear_go (s : Int) (_hs : 0 ≤ s ∧ s < 4294967296) (a : Option Addr) (n m c : Nat) (es : List Int) (w : World) (hn : es.length = n) (_hc : n ≤ c) (hl : n ≤ 9223372036854775807) (hz : Sr.U es) (h1 : Nums .u32 w w.heap.size a es)
    (hm : m = min n 60) :
    Calls Try.prog 6 #[.int .u32 s, .slice a n c] w fun e w' => e = .returned (.bool true) ∧ Below w.heap.size w w' := by
  obtain ⟨j0, hj, hj0, hj1, hj2⟩ := info_parts u32Info
  obtain ⟨vs, hvs⟩ : ∃ vs, vs = (es.take m).map (fun z => Sr.add s (z % 2147483648)) := ⟨_, rfl⟩
  have hvl : vs.length = m := by rw [hvs, List.length_map, List.length_take]; omega
  have HV := Lib.hid hvl
  have HN := Lib.hid hn
  have HZ := Lib.hid hz
  have hat : ∀ k z, k < m → es[k]? = some z → vs.take (k + 1) = vs.take k ++ [Sr.add s (z % 2147483648)] := fun k z hk he => by
    rw [List.take_add_one]
    congr 1
    rw [hvs, List.getElem?_map, List.getElem?_take, if_pos hk, he]
    rfl
  have HA := Lib.hid hat
  have HVS := Lib.hid hvs
  clear hvl hn hz hat hvs
  have hmn : m ≤ n := by omega
  have hm6 : m ≤ 60 := by omega
  have HM := Lib.hid hm
  clear hm
  go_enter Try.func6, Try.ntmps6
  go_wp2
  go_loopw [5, 7] (fun v i wr => ∃ k : Nat, k ≤ m ∧ i = .int .i64 (k : Int) ∧ MadeK 22 .u32 w wr (vs.take k) v) (fun _ i _ => m - (intOf i).toNat)
  case atStart => exact ⟨0, by omega, rfl, MadeK.nil _ _ (Below.refl _ _)⟩
  case round =>
    obtain ⟨k, hkm, rfl, hmk⟩ := hrel
    rcases Nat.lt_or_ge k m with h4 | h4
    · obtain ⟨z, hg⟩ : ∃ z, es[k]? = some z := ⟨_, List.getElem?_eq_getElem (by rw [HN.out]; omega)⟩
      have hzU := HZ.out z (List.mem_of_getElem? hg)
      obtain ⟨b1, o1, rfl, hb1, hc1⟩ := (h1.below hmk.2).open hg
      have ht := HA.out k z h4 hg
      have h5 : (k : Int) < (n : Int) := by omega
      have h6 : (k : Int) < 60 := by omega
      have hsz := hmk.2.size
      have hkl : (vs.take k).length = k := by rw [List.length_take, HV.out]; omega
      have hL6 : (vs.take k).length ≤ 60 := by omega
      obtain ⟨L, hL⟩ : ∃ L, vs.take k = L := ⟨_, rfl⟩
      have HT : Hid (vs.take (k + 1) = L ++ [Sr.add s (z % 2147483648)]) := by rw [← hL]; exact ht
      rw [hL] at hmk hL6
      clear hg ht hkl hL
      go_wp2_with (at_builtin; refine wpList_append_own _ rfl (.tmp 28) (.tmp 36) 29 rfl w.heap.size 22 j0 (.int .u32 0) 1 4 Try.underlying29 hj hj0 hj1 hj2 rfl (by decide) _ _ _ rfl (hmk.1.alloc _) ⟨wr.heap.size, 0, none⟩ 1 1 [_] rfl rfl (cell_one_new _ _ _) ?_ ?_ ?_ ?_ ?_; (intro u hu; simp at hu; subst hu; rfl); (unfold maxLen; omega); omega; (simp; omega); intro v' w1 hown1 hgrow1 _)
      have h1' := hmk.app (y := Sr.add s (z % 2147483648)) hown1 hgrow1 rfl
      go_roundw
      case rel => exact ⟨k + 1, by omega, by go_num, by rw [HT.out]; exact h1'⟩
      case measure => simp [intOf]; omega
    · have hkm' : k = m := by omega
      subst hkm'
      rw [List.take_of_length_le (Nat.le_of_eq HV.out)] at hmk
      obtain ⟨A1, c1, rfl, hc1, hn1⟩ := hmk.slice
      have hb1 := hmk.2
      rw [HV.out] at hc1 ⊢
      have hU : Sr.U vs := by
        rw [HVS.out]
        intro z hz
        obtain ⟨o, _, rfl⟩ := List.mem_map.1 hz
        exact Sr.add_lt _ _
      have HU := Lib.hid hU
      obtain ⟨os, hos⟩ : ∃ os, os = (es.take k).map (fun z => z % 2147483648) := ⟨_, rfl⟩
      have hH : Sr.H os := by
        rw [hos]
        intro o ho
        obtain ⟨z, _, rfl⟩ := List.mem_map.1 ho
        omega
      have hvo : vs = os.map (Sr.add s) := by rw [HVS.out, hos, List.map_map]; rfl
      have hbN := Sr.bst_back s true hH
      have hbO := Sr.bst_back s false hH
      have hnN := fun x => @Sr.near_new s os hH x
      have hnO := fun x => @Sr.near_old s os hH x
      rw [← hvo] at hbN hbO
      simp only [← hvo] at hnN hnO
      have hUN : 0 ≤ Sr.bst true vs ∧ Sr.bst true vs < 4294967296 := Sr.bst_U hU
      have hUO : 0 ≤ Sr.bst false vs ∧ Sr.bst false vs < 4294967296 := Sr.bst_U hU
      have HbN := Lib.hid hbN
      have HbO := Lib.hid hbO
      have HnN := Lib.hid hnN
      have HnO := Lib.hid hnO
      clear hU h1 hos hH hvo hbN hbO hnN hnO
      rename World => w1
      rcases Nat.lt_or_ge k n with h5 | h5
      case' inl =>
        have h6 : ¬ (k : Int) < 60 := by have := HM.out; omega
        have h7 : (k : Int) < (n : Int) := by omega
        go_wp2
        clear h6 h7
      case' inr =>
        have h6 : ¬ (k : Int) < (n : Int) := by omega
        go_wp2
        clear h6
      all_goals (
        clear h5 HM hmn hkm h4 hl _hc HZ HN HA
        go_loopw [6, 8] (fun v i wr => ∃ j : Nat, j ≤ k ∧ i = .int .i64 ((j : Int) - 1) ∧ MadeK 22 .u32 w1 wr (vs.drop j).reverse v) (fun _ i _ => (intOf i + 1).toNat)
        case atStart => exact ⟨k, by omega, rfl, by rw [List.drop_eq_nil_of_le (Nat.le_of_eq HV.out)]; exact MadeK.nil _ _ (Below.refl _ _)⟩
        case round =>
          obtain ⟨j, hjk, rfl, hmj⟩ := hrel
          cases j with
          | succ i =>
            obtain ⟨z, hg⟩ : ∃ z, vs[i]? = some z := ⟨_, List.getElem?_eq_getElem (by rw [HV.out]; omega)⟩
            have HT : Hid ((vs.drop i).reverse = (vs.drop (i + 1)).reverse ++ [z]) := by
              show _ = _
              have hd : vs.drop i = z :: vs.drop (i + 1) := by
                rw [List.getElem?_eq_getElem (by rw [HV.out]; omega)] at hg
                injection hg with hg
                rw [← hg, List.getElem_cons_drop]
              rw [hd, List.reverse_cons]
            obtain ⟨b1, o1, rfl, hb1', hc1'⟩ := (hn1.below hmj.2).open hg
            have h2 : ((i + 1 : Nat) : Int) - 1 = (i : Int) := by omega
            have hlt : (i : Int) < (k : Int) := by omega
            have hL6 : ((vs.drop (i + 1)).reverse).length ≤ 60 := by rw [List.length_reverse, List.length_drop, HV.out]; omega
            have hsz := hmj.2.size
            obtain ⟨L, hL⟩ : ∃ L, (vs.drop (i + 1)).reverse = L := ⟨_, rfl⟩
            rw [hL] at hmj hL6 HT
            rw [h2]
            clear hg hL h2
            go_wp2_with (at_builtin; refine wpList_append_own _ rfl (.tmp 45) (.tmp 50) 29 rfl w1.heap.size 22 j0 (.int .u32 0) 1 4 Try.underlying29 hj hj0 hj1 hj2 rfl (by decide) _ _ _ rfl (hmj.1.alloc _) ⟨wr.heap.size, 0, none⟩ 1 1 [_] rfl rfl (cell_one_new _ _ _) ?_ ?_ ?_ ?_ ?_; (intro u hu; simp at hu; subst hu; rfl); (unfold maxLen; omega); omega; (simp; omega); intro v' w1 hown1 hgrow1 _)
            have h1' := hmj.app (y := z) hown1 hgrow1 rfl
            go_roundw
            case rel => exact ⟨i, by omega, by go_num, by rw [HT.out]; exact h1'⟩
            case measure => simp [intOf]
          | zero =>
            have h2 : ((0 : Nat) : Int) - 1 = -1 := by omega
            rw [List.drop_zero] at hmj
            obtain ⟨A2, c2, rfl, hc2, hn2⟩ := hmj.slice
            have hb2 := hmj.2
            rw [List.length_reverse, HV.out] at hc2 ⊢
            rw [h2]
            have hkk : k ≤ 1000000 := by omega
            clear h2 hj hj0 hj1 hj2 hmk hmj HVS hm6 hjk
            have hb12 : Below w.heap.size w wr := hb1.trans (hb2.mono hb1.size)
            have hS := hn1.below hb2
            have hUr : Sr.U vs.reverse := fun z hz => HU.out z (List.mem_reverse.1 hz)
            have hlr : vs.reverse.length = k := by rw [List.length_reverse, HV.out]
            have K1 := newest_any k c1 A1 vs wr HV.out hkk HU.out hc1 (hS.mono hb2.size)
            have K2 := Lib.hid (fun (V : World) (hV : Below wr.heap.size wr V) => oldest_any k c1 A1 vs V HV.out hkk HU.out hc1 ((((hS.mono hb2.size).below hV)).mono hV.size))
            have K3 := Lib.hid (fun (V : World) (hV : Below wr.heap.size wr V) => newest_any k c2 A2 vs.reverse V hlr hkk hUr hc2 ((hn2.below hV).mono hV.size))
            have K4 := Lib.hid (fun (V : World) (hV : Below wr.heap.size wr V) => oldest_any k c2 A2 vs.reverse V hlr hkk hUr hc2 ((hn2.below hV).mono hV.size))
            rw [HbN.out] at K3
            rw [HbO.out] at K4
            have HS := Lib.hid (fun (V : World) (hV : Below wr.heap.size wr V) => (hS.mono hb2.size).below hV)
            have HB := Lib.hid hb12
            clear hUr hlr hS hn1 hn2 hb1 hb2 hb12 HbN HbO
            generalize Sr.bst true vs = X at *
            generalize Sr.bst false vs = Y at *
            go_wp2_with fail
            refine K1.mono ?_
            rintro e w3 ⟨rfl, hb3⟩
            have K2' := K2.out w3 hb3
            clear K1 K2
            go_wp2_with fail
            refine K2'.mono ?_
            rintro e w4 ⟨rfl, hb4⟩
            have hb4' := hb3.trans (hb4.mono hb3.size)
            have K3' := K3.out w4 hb4'
            clear K2' K3 hb3 hb4
            go_wp2_with fail
            refine K3'.mono ?_
            rintro e w5 ⟨rfl, hb5⟩
            have hb5' := hb4'.trans (hb5.mono hb4'.size)
            have K4' := K4.out w5 hb5'
            clear K3' K4 hb5
            go_wp2_with fail
            refine K4'.mono ?_
            rintro e w6 ⟨rfl, hb6⟩
            have hb6' := hb5'.trans (hb6.mono hb5'.size)
            have HS6 := HS.out w6 hb6'
            have HB6 := Lib.hid (HB.out.trans (hb6'.mono HB.out.size))
            clear K4' hb4' hb5' hb6 HS HB
            rcases Nat.eq_zero_or_pos k with hk0 | hk0
            · subst hk0
              clear HS6
              go_wp2
              go_loopw [17] (fun i V => i = .int .i64 0 ∧ V = w6) (fun _ _ => 0)
              case atStart => exact ⟨rfl, rfl⟩
              case round =>
                obtain ⟨rfl, rfl⟩ := hrel
                rename World => w6
                go_wp2_with fail
                refine (sknown_any _).mono ?_
                rintro e V1 ⟨rfl, hb7⟩
                go_wp2
                go_ret
                exact ⟨rfl, HB6.out.trans (hb7.mono HB6.out.size)⟩
            · have hd : decide (0 < k) = true := decide_eq_true hk0
              have hd2 : (0 : Int) < (k : Int) := by omega
              rw [hd]
              go_wp2
              clear hd hd2 hk0
              go_loopw [17] (fun i V => ∃ j : Nat, j ≤ k ∧ i = .int .i64 (j : Int) ∧ V = w6) (fun i _ => k - (intOf i).toNat)
              case atStart => exact ⟨0, by omega, rfl, rfl⟩
              case round =>
                obtain ⟨j, hjk, rfl, rfl⟩ := hrel
                rename World => w6
                rcases Nat.lt_or_ge j k with h4 | h4
                · obtain ⟨x, hg⟩ : ∃ x, vs[j]? = some x := ⟨_, List.getElem?_eq_getElem (by rw [HV.out]; omega)⟩
                  have hxm := List.mem_of_getElem? hg
                  have hxU := HU.out x hxm
                  obtain ⟨b1, o1, rfl, hbx, hcx⟩ := HS6.open hg
                  have hlt : (j : Int) < (k : Int) := by omega
                  clear hg
                  by_cases h7 : x = X <;> by_cases h8 : x = Y
                  · have f1 : (x != X) = false := by simp [h7]
                    have f2 : (x != Y) = false := by simp [h8]
                    clear h7 h8 hxm
                    go_wp2
                    go_roundw
                    case rel => exact ⟨j + 1, by omega, by go_num, trivial⟩
                    case measure => simp [intOf]; omega
                  · have f1 : (x != X) = false := by simp [h7]
                    have f2 : (x != Y) = true := by simp [h8]
                    have kb := after_any x Y w6 hxU hUO
                    rw [HnO.out x hxm h8] at kb
                    clear h7 h8 hxm
                    go_wp2_with fail
                    refine kb.mono ?_
                    rintro e V2 ⟨rfl, rfl⟩
                    go_wp2
                    go_roundw
                    case rel => exact ⟨j + 1, by omega, by go_num, trivial⟩
                    case measure => simp [intOf]; omega
                  · have f1 : (x != X) = true := by simp [h7]
                    have f2 : (x != Y) = false := by simp [h8]
                    have ka := after_any X x w6 hUN hxU
                    rw [HnN.out x hxm h7] at ka
                    clear h7 h8 hxm
                    go_wp2_with fail
                    refine ka.mono ?_
                    rintro e V1 ⟨rfl, rfl⟩
                    go_wp2
                    go_roundw
                    case rel => exact ⟨j + 1, by omega, by go_num, trivial⟩
                    case measure => simp [intOf]; omega
                  · have f1 : (x != X) = true := by simp [h7]
                    have f2 : (x != Y) = true := by simp [h8]
                    have ka := after_any X x w6 hUN hxU
                    rw [HnN.out x hxm h7] at ka
                    have kb := after_any x Y w6 hxU hUO
                    rw [HnO.out x hxm h8] at kb
                    clear h7 h8 hxm
                    go_wp2_with fail
                    refine ka.mono ?_
                    rintro e V1 ⟨rfl, rfl⟩
                    go_wp2_with fail
                    refine kb.mono ?_
                    rintro e V2 ⟨rfl, rfl⟩
                    go_wp2
                    go_roundw
                    case rel => exact ⟨j + 1, by omega, by go_num, trivial⟩
                    case measure => simp [intOf]; omega
                · have hjk' : j = k := by omega
                  have hlt : ¬ (j : Int) < (k : Int) := by omega
                  clear HS6
                  go_wp2_with fail
                  refine (sknown_any _).mono ?_
                  rintro e V1 ⟨rfl, hb7⟩
                  go_wp2
                  go_ret
                  exact ⟨rfl, HB6.out.trans (hb7.mono HB6.out.size)⟩
        )
theorem walk_snear (a0 : Int) (a1 : Option Addr) (len1 cap1 : Nat) (z1 : List Int) (w : World) (w0 : (Lit.int .u32 a0).wf = true) (w1 : IsRow .u32 w a1 len1 cap1 z1) :
    Calls Try.prog 6 #[.int .u32 a0, .slice a1 len1 cap1] w fun e w' => e = .returned (.bool true) ∧ Below w.heap.size w w' := by
  obtain ⟨e0, l0, q0, m0, k0, r0⟩ := w1.elems
  have hb := bounds_u32 w0
  unfold maxLen at m0
  exact snear_go a0 (by omega) a1 len1 (min len1 60) cap1 e0 w l0 q0 (by omega) (u32_of r0) k0 rfl
end Go.Proofs.Ytjcnkalgbhlafaa
