/-
  Contract of layer 6's Wrap.
-/
import Derived.Test.YtemafhaeppifoaaFenS
import Derived.Test.YtemafhaeppifoaaLs1
namespace Go.Proofs.Ytemafhaeppifoaa
open Go.RowKit Go.Shelf
set_option maxRecDepth 100000
attribute [local go_sem] Oper.semAt_some

theorem wrap_take (bl : List (List Int)) (k : Nat) {b : List Int} (hb : bl[k]? = some b) : Fc.wrap (bl.take (k + 1)) = Fc.wrap (bl.take k) ++ [0] ++ b ++ [0] := by
  rw [List.take_add_one, hb, Fc.wrap_append]
  simp [Fc.wrap]
theorem wrap_take_le (bl : List (List Int)) (k : Nat) : (Fc.wrap (bl.take k)).length ≤ (Fc.wrap bl).length := by
  conv => rhs; rw [← List.take_append_drop k bl, Fc.wrap_append, List.length_append]
  omega

set_option maxHeartbeats 2000000 in
theorem wrap_any (A : Option Addr) (n c : Nat) (bl : List (List Int)) (w : World) (hn : bl.length = n) (hc : n ≤ c) (hl : n ≤ 1000000) (hW : (Fc.wrap bl).length ≤ 1000000) (h1 : ListAt .u8 w w.heap.size A bl) :
    Calls Try.prog 14 #[.slice A n c] w fun e w' => ∃ v, e = .returned v ∧ MadeK 5 .u8 w w' (Fc.wrap bl) v := by
  obtain ⟨i0, hi, hz0, hzz1, hzz2⟩ := info_parts byteInfo
  have HL := Lib.hid hn
  have HW := Lib.hid hW
  clear hn hW
  go_enter Try.func14, Try.ntmps14
  go_wp2
  go_loopw [3, 5, 8] (fun v _ i wr => ∃ (k : Nat) (v' : Value), k ≤ n ∧ i = .int .i64 k ∧ v = v' ∧ Hid (MadeK 5 .u8 w wr (Fc.wrap (bl.take k)) v')) (fun _ _ i _ => n - (intOf i).toNat)
  case atStart => exact ⟨0, _, by omega, rfl, rfl, MadeK.nil _ _ (Below.refl _ _)⟩
  case round =>
    obtain ⟨k, vv, hk, rfl, hvv, HM⟩ := hrel
    subst hvv
    by_cases hlt : k < n
    · obtain ⟨b, hb⟩ : ∃ b, bl[k]? = some b := ⟨_, List.getElem?_eq_getElem (by rw [HL.out]; exact hlt)⟩
      have hwt := wrap_take bl k hb
      have hwl := wrap_take_le bl (k + 1)
      rw [hwt] at hwl
      simp only [List.length_append, List.length_singleton] at hwl
      have hW2 := HW.out
      obtain ⟨g, Ai, ci, rfl, hg, hcell0, hbl, hnb⟩ := h1 k b hb
      have hcell : wr.cell? ⟨g, k, none⟩ = some (.slice Ai b.length ci) := (HM.out.2.cell (p := ⟨g, k, none⟩) hg).trans hcell0
      have HO1 := Lib.hid (HM.out.later (.cells #[.int .u8 0] 5))
      have HA1 := Lib.hid ((Nums.new .u8 wr 5 [0] #[.int .u8 0] rfl))
      have HWT := Lib.hid hwt
      have HNB := Lib.hid hnb
      obtain ⟨P, hP⟩ : ∃ P, (Fc.wrap (bl.take k)).length = P := ⟨_, rfl⟩
      obtain ⟨q, hq⟩ : ∃ q, b.length = q := ⟨_, rfl⟩
      rw [hP, hq] at hwl
      rw [hq] at hcell hbl
      have HP := Lib.hid hP
      have HQ := Lib.hid hq
      have HX1 : Hid ((Fc.wrap (bl.take k)).length + 1 ≤ maxLen) := by show _ ≤ _; unfold maxLen; omega
      have HX2 : Hid (((Fc.wrap (bl.take k)).length + 1) * 1 ≤ 140737488355328) := by show _ ≤ _; omega
      have HX3 : Hid ((Fc.wrap (bl.take k) ++ [0]).length + q ≤ maxLen) := by show _ ≤ _; unfold maxLen; rw [List.length_append, List.length_singleton]; omega
      have HX4 : Hid (((Fc.wrap (bl.take k) ++ [0]).length + q) * 1 ≤ 140737488355328) := by show _ ≤ _; rw [List.length_append, List.length_singleton]; omega
      have HX5 : Hid ((Fc.wrap (bl.take k) ++ [0] ++ b).length + 1 ≤ maxLen) := by show _ ≤ _; unfold maxLen; rw [List.length_append, List.length_append, List.length_singleton]; omega
      have HX6 : Hid (((Fc.wrap (bl.take k) ++ [0] ++ b).length + 1) * 1 ≤ 140737488355328) := by show _ ≤ _; rw [List.length_append, List.length_append, List.length_singleton]; omega
      have hlt' : (k : Int) < (n : Int) := by omega
      have hnc : (n : Int) ≤ (c : Int) := by omega
      clear hb hwt hnb hP hq hcell0
      go_wp2_with (at_builtin; refine wpList_append_any rfl (.tmp 12) (.tmp 13) 22 rfl _ 5 i0 (.int .u8 0) 1 Try.underlying22 hi hz0 hzz1 hzz2 rfl .u8 _ [0] _ rfl HO1.out.1 _ 1 1 _ rfl rfl HA1.out HX1.out HX2.out HO1.out.2.size ?_)
      intro v1 w1 hown hgr
      have HM1 := Lib.hid (HO1.out.more (zs := [0]) (v' := v1) hown hgr)
      clear hown hgr HO1 HA1 HX1 HX2
      have HN1 := Lib.hid (HNB.out.below HM1.out.2)
      go_wp2_with (at_builtin; refine wpList_append_any rfl (.tmp 15) (.tmp 16) 22 rfl _ 5 i0 (.int .u8 0) 1 Try.underlying22 hi hz0 hzz1 hzz2 rfl .u8 _ b _ rfl HM1.out.1 _ _ _ _ rfl HQ.out HN1.out HX3.out HX4.out HM1.out.2.size ?_)
      intro v2 w2 hown hgr
      have HM2 := Lib.hid (HM1.out.more (zs := b) (v' := v2) (by simpa using hown) hgr)
      clear hown hgr HN1 HX3 HX4
      have HO2 := Lib.hid (HM2.out.later (.cells #[.int .u8 0] 5))
      have HA2 := Lib.hid ((Nums.new .u8 w2 5 [0] #[.int .u8 0] rfl))
      go_wp2_with (at_builtin; refine wpList_append_any rfl (.tmp 18) (.tmp 19) 22 rfl _ 5 i0 (.int .u8 0) 1 Try.underlying22 hi hz0 hzz1 hzz2 rfl .u8 _ [0] _ rfl HO2.out.1 _ 1 1 _ rfl rfl HA2.out HX5.out HX6.out HO2.out.2.size ?_)
      intro v3 w3 hown hgr
      have HM3 := Lib.hid (HO2.out.more (zs := [0]) (v' := v3) (by simpa using hown) hgr)
      clear hown hgr HO2 HA2 HX5 HX6
      have HF : Hid (MadeK 5 .u8 w w3 (Fc.wrap (bl.take (k + 1))) v3) := by show MadeK _ _ _ _ _ _; rw [HWT.out]; exact HM3.out
      go_wp2
      go_roundw
      case rel => exact ⟨k + 1, _, by omega, by go_num, rfl, HF⟩
      case measure => simp [intOf]; omega
    · have hkn : k = n := by omega
      have HF : Hid (MadeK 5 .u8 w wr (Fc.wrap bl) u3) := by
        have := HM.out
        rw [List.take_of_length_le (by rw [HL.out]; omega)] at this
        exact this
      go_wp2
      go_ret
      exact ⟨_, rfl, HF.out⟩
end Go.Proofs.Ytemafhaeppifoaa
