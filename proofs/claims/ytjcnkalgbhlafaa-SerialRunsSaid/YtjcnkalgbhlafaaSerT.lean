/-
  Contracts of layer 10: taken and its closure.
-/
import Derived.Test.YtjcnkalgbhlafaaSerA
import Derived.Test.YtjcnkalgbhlafaaStops
import Derived.Test.YtjcnkalgbhlafaaKpC
import Derived.WalkSpells
import Derived.RangeFuncBound
import Derived.RangeFuncCalls
import Derived.RangeFuncLeaves
import Derived.Shelf.Abstract
import Derived.Shelf.RegionOpen
import Derived.OwnWalkIn
import Derived.TacticsInMore
import Derived.LoopNIn
import Derived.LoopIn
import Derived.OpenShut
namespace Go.Proofs.Ytjcnkalgbhlafaa
open Go.RowKit Go.Shelf
set_option maxRecDepth 100000
attribute [local go_sem] Oper.semAt_some

/-- the function that is handed to taken: by Newest (true), by Oldest (false) -/
abbrev stead : Bool → Value
  | true => .func (.func 13) #[] #[]
  | false => .func (.func 23) #[] #[]

theorem taken_any (a : Option Addr) (n c : Nat) (f : Bool) (w : World) :
    Calls Try.prog 22 #[.slice a n c, stead f] w fun e w' => e = .returned (.func (.func 25) #[] #[.pointer (some ⟨w.heap.size, 0, none⟩), .pointer (some ⟨w.heap.size + 1, 0, none⟩)]) ∧ w' = (w.alloc (.cells #[.slice a n c] 29)).alloc (.cells #[stead f] 26) := by
  cases f <;>
  · go_enter Try.func22, Try.ntmps22
    go_wp2
    go_ret
    exact ⟨by simp, rfl⟩

set_option maxHeartbeats 2000000 in
/-- the closure: it hands the first number, and each that is to be taken in the stead of the one that was taken ahead of it, to the loop's body, till the body says no more, or there is none left -/
theorem takenN_in (n : Nat) (hn : 1 ≤ n) (m' l Bs Bf m c : Nat) (S : Nat → Prop) (w : World) (hS : ∀ k, S k → k < w.heap.size) (A : Option Addr) (zs : List Int) (hm : zs.length = m) (hl : m ≤ 1000000) (hz : Sr.U zs) (hc : m ≤ c) (J : Nat → World → Prop) (Jx : World → Prop)
    (hY : ∀ (j : Nat) (x : Int) (W : World), J j W → KeepS S w W → (Sr.tk true true 0 zs)[j]? = some x →
      YieldAt Fence.wide m' Try.prog l #[.int .u32 x] W fun e W' => (e = .returned (.bool true) ∧ J (j + 1) W' ∧ KeepS S W W') ∨ (e = .returned (.bool false) ∧ Jx W'))
    (W : World) (hSB : S Bs) (hSF : S Bf) (hBs : w.cell? ⟨Bs, 0, none⟩ = some (.slice A m c)) (hBf : w.cell? ⟨Bf, 0, none⟩ = some (.func (.func 13) #[] #[])) (hK : KeepS S w W) (hN : NumsS .u32 w S A zs) (h0 : J 0 W) :
    CallsIn Fence.wide n Try.prog 25 #[.func (.yield l) #[] #[], .pointer (some ⟨Bs, 0, none⟩), .pointer (some ⟨Bf, 0, none⟩)] W fun e W' => (∃ v, e = .returned v) ∧ ((J (Sr.tk true true 0 zs).length W' ∧ KeepS S w W') ∨ Jx W') := by
  have HM := Lib.hid hm
  clear hm
  have HZ := Lib.hid hz
  clear hz
  have bs0 : W.cell? ⟨Bs, 0, none⟩ = some (.slice A m c) := (hK.cell (p := ⟨Bs, 0, none⟩) hSB).trans hBs
  refine callsIn_of_wp Try.func25 rfl trivial ?_ rfl
  simp only [Try.ntmps25, List.size_toArray, List.length_cons, List.length_nil, Nat.reduceAdd, Nat.reduceSub, Array.replicate_succ, Array.replicate_zero, List.push_toArray, List.append_toArray, List.nil_append, List.cons_append]
  gi_wp2
  refine wpIn_wide.2 (wp_scope_straight ((wpIn_wide (n := n)).1 ?_))
  gi_wp2
  apply wpIn_label
  gi_wp2
  clear bs0
  gi_loopw [4, 9] (fun u v wr => ∃ (k : Nat) (now : Int) (pre : List Int), k ≤ m ∧ (0 ≤ now ∧ now < 4294967296) ∧ u = .int .u32 now ∧ v = .int .i64 (k : Int) ∧ Hid (Sr.tk true true 0 zs = pre ++ Sr.tk true (decide (k = 0)) now (zs.drop k)) ∧ J pre.length wr ∧ KeepS S w wr)
    (fun _ v _ => m - (intOf v).toNat)
  case atStart => exact ⟨0, 0, [], by omega, by omega, rfl, rfl, rfl, h0, hK⟩
  case round =>
    obtain ⟨k, now, pre, hkm, hnow, rfl, rfl, HP, hJ, hk⟩ := hrel
    have hbx : wr.cell? ⟨Bs, 0, none⟩ = some (.slice A m c) := (hk.cell (p := ⟨Bs, 0, none⟩) hSB).trans hBs
    have hbf : wr.cell? ⟨Bf, 0, none⟩ = some (.func (.func 13) #[] #[]) := (hk.cell (p := ⟨Bf, 0, none⟩) hSF).trans hBf
    have hmc : (m : Int) ≤ (c : Int) := by omega
    rcases Nat.lt_or_ge k m with h4 | h4
    · obtain ⟨z, hget⟩ : ∃ z, zs[k]? = some z := ⟨_, List.getElem?_eq_getElem (by rw [HM.out]; exact h4)⟩
      have hzU : 0 ≤ z ∧ z < 4294967296 := HZ.out z (List.mem_of_getElem? hget)
      obtain ⟨b1, o1, rfl, hb1, hc1⟩ := ((hN.keeps hk).nums hS).open hget
      have h4' : (k : Int) < (m : Int) := by omega
      by_cases hk0 : k = 0
      · subst hk0
        have HS : Hid (Sr.tk true true 0 zs = (pre ++ [z]) ++ Sr.tk true (decide (0 + 1 = 0)) z (zs.drop (0 + 1))) := by
          show _ = _
          rw [HP.out, Sr.tk_step _ _ _ hget, if_pos (by simp), List.append_assoc, List.singleton_append, decide_eq_false (Nat.succ_ne_zero 0)]
        have hge : (Sr.tk true true 0 zs)[pre.length]? = some z := by
          rw [HS.out, List.append_assoc, List.getElem?_append_right (Nat.le_refl _), Nat.sub_self]; rfl
        have HYr := Lib.hid (hY pre.length z wr hJ hk hge)
        clear hge
        rw [Nat.add_zero] at hc1
        have he0 : ((0 : Nat) : Int) = 0 := rfl
        clear hget
        rw [he0]
        obtain ⟨fn, tmps, assign, body, hy, hR⟩ := yield_any (n - 1) HYr.out
        have HR := Lib.hid hR
        clear hR HYr
        gi_wp2_with fail
        refine ⟨fun f hf => (by cases hf), ?_⟩
        gi_wp2_with fail
        refine HR.out.mono ?_
        rintro e W3 (⟨rfl, hJ3, hk3⟩ | ⟨rfl, hJx3⟩)
        · gi_wp2
          go_roundw
          case rel => exact ⟨0 + 1, z, pre ++ [z], by omega, hzU, rfl, by go_num, HS, by rw [List.length_append, List.length_singleton]; exact hJ3, hk.trans hk3⟩
          case measure => simp [intOf]; omega
        · gi_wp2
          first | go_end0 | (rw [Exit.noGoto_normal]; go_end0)
          exact ⟨⟨_, rfl⟩, .inr hJx3⟩
      · have hk1 : (0 : Int) < (k : Int) := by omega
        have K := after_any z now wr hzU hnow
        have HC : Hid (Sr.st true z now = Sr.after z now) := rfl
        generalize Sr.after z now = r at *
        have hd0 : decide (k = 0) = false := decide_eq_false hk0
        cases r with
        | true =>
          have HS : Hid (Sr.tk true true 0 zs = (pre ++ [z]) ++ Sr.tk true (decide (k + 1 = 0)) z (zs.drop (k + 1))) := by
            show _ = _
            rw [HP.out, Sr.tk_step _ _ _ hget, if_pos (by rw [HC.out, Bool.or_true]), List.append_assoc, List.singleton_append, decide_eq_false (Nat.succ_ne_zero k)]
          have hge : (Sr.tk true true 0 zs)[pre.length]? = some z := by
            rw [HS.out, List.append_assoc, List.getElem?_append_right (Nat.le_refl _), Nat.sub_self]; rfl
          have HYr := Lib.hid (hY pre.length z wr hJ hk hge)
          clear hge
          clear hget hd0 hk0
          gi_wp2_with fail
          refine ⟨trivial, ?_⟩
          refine (callsIn_wide.2 K).mono ?_
          rintro e w1 ⟨rfl, rfl⟩
          clear K
          obtain ⟨fn, tmps, assign, body, hy, hR⟩ := yield_any (n - 1) HYr.out
          have HR := Lib.hid hR
          clear hR HYr
          gi_wp2_with fail
          refine HR.out.mono ?_
          rintro e W3 (⟨rfl, hJ3, hk3⟩ | ⟨rfl, hJx3⟩)
          · gi_wp2
            go_roundw
            case rel => exact ⟨k + 1, z, pre ++ [z], by omega, hzU, rfl, by go_num, HS, by rw [List.length_append, List.length_singleton]; exact hJ3, hk.trans hk3⟩
            case measure => simp [intOf]; omega
          · gi_wp2
            first | go_end0 | (rw [Exit.noGoto_normal]; go_end0)
            exact ⟨⟨_, rfl⟩, .inr hJx3⟩
        | false =>
          have HS : Hid (Sr.tk true true 0 zs = pre ++ Sr.tk true (decide (k + 1 = 0)) now (zs.drop (k + 1))) := by
            show _ = _
            rw [HP.out, Sr.tk_step _ _ _ hget, if_neg (by rw [HC.out, hd0]; simp), decide_eq_false (Nat.succ_ne_zero k)]
          clear hget hd0 hk0
          gi_wp2_with fail
          refine ⟨trivial, ?_⟩
          refine (callsIn_wide.2 K).mono ?_
          rintro e w1 ⟨rfl, rfl⟩
          clear K
          gi_wp2
          go_roundw
          case rel => exact ⟨k + 1, now, pre, by omega, hnow, rfl, by go_num, HS, hJ, hk⟩
          case measure => simp [intOf]; omega
    · have hkm' : k = m := by omega
      have HS : Hid (Sr.tk true true 0 zs = pre) := by
        show _ = _
        rw [HP.out, List.drop_eq_nil_of_le (by rw [HM.out]; exact h4)]
        exact List.append_nil _
      subst hkm'
      gi_wp2
      first | go_end0 | (rw [Exit.noGoto_normal]; go_end0)
      rw [HS.out]
      exact ⟨⟨_, rfl⟩, .inl ⟨hJ, hk⟩⟩

set_option maxHeartbeats 2000000 in
/-- the closure: it hands the first number, and each that is to be taken in the stead of the one that was taken ahead of it, to the loop's body, till the body says no more, or there is none left -/
theorem takenO_in (n : Nat) (hn : 1 ≤ n) (m' l Bs Bf m c : Nat) (S : Nat → Prop) (w : World) (hS : ∀ k, S k → k < w.heap.size) (A : Option Addr) (zs : List Int) (hm : zs.length = m) (hl : m ≤ 1000000) (hz : Sr.U zs) (hc : m ≤ c) (J : Nat → World → Prop) (Jx : World → Prop)
    (hY : ∀ (j : Nat) (x : Int) (W : World), J j W → KeepS S w W → (Sr.tk false true 0 zs)[j]? = some x →
      YieldAt Fence.wide m' Try.prog l #[.int .u32 x] W fun e W' => (e = .returned (.bool true) ∧ J (j + 1) W' ∧ KeepS S W W') ∨ (e = .returned (.bool false) ∧ Jx W'))
    (W : World) (hSB : S Bs) (hSF : S Bf) (hBs : w.cell? ⟨Bs, 0, none⟩ = some (.slice A m c)) (hBf : w.cell? ⟨Bf, 0, none⟩ = some (.func (.func 23) #[] #[])) (hK : KeepS S w W) (hN : NumsS .u32 w S A zs) (h0 : J 0 W) :
    CallsIn Fence.wide n Try.prog 25 #[.func (.yield l) #[] #[], .pointer (some ⟨Bs, 0, none⟩), .pointer (some ⟨Bf, 0, none⟩)] W fun e W' => (∃ v, e = .returned v) ∧ ((J (Sr.tk false true 0 zs).length W' ∧ KeepS S w W') ∨ Jx W') := by
  have HM := Lib.hid hm
  clear hm
  have HZ := Lib.hid hz
  clear hz
  have bs0 : W.cell? ⟨Bs, 0, none⟩ = some (.slice A m c) := (hK.cell (p := ⟨Bs, 0, none⟩) hSB).trans hBs
  refine callsIn_of_wp Try.func25 rfl trivial ?_ rfl
  simp only [Try.ntmps25, List.size_toArray, List.length_cons, List.length_nil, Nat.reduceAdd, Nat.reduceSub, Array.replicate_succ, Array.replicate_zero, List.push_toArray, List.append_toArray, List.nil_append, List.cons_append]
  gi_wp2
  refine wpIn_wide.2 (wp_scope_straight ((wpIn_wide (n := n)).1 ?_))
  gi_wp2
  apply wpIn_label
  gi_wp2
  clear bs0
  gi_loopw [4, 9] (fun u v wr => ∃ (k : Nat) (now : Int) (pre : List Int), k ≤ m ∧ (0 ≤ now ∧ now < 4294967296) ∧ u = .int .u32 now ∧ v = .int .i64 (k : Int) ∧ Hid (Sr.tk false true 0 zs = pre ++ Sr.tk false (decide (k = 0)) now (zs.drop k)) ∧ J pre.length wr ∧ KeepS S w wr)
    (fun _ v _ => m - (intOf v).toNat)
  case atStart => exact ⟨0, 0, [], by omega, by omega, rfl, rfl, rfl, h0, hK⟩
  case round =>
    obtain ⟨k, now, pre, hkm, hnow, rfl, rfl, HP, hJ, hk⟩ := hrel
    have hbx : wr.cell? ⟨Bs, 0, none⟩ = some (.slice A m c) := (hk.cell (p := ⟨Bs, 0, none⟩) hSB).trans hBs
    have hbf : wr.cell? ⟨Bf, 0, none⟩ = some (.func (.func 23) #[] #[]) := (hk.cell (p := ⟨Bf, 0, none⟩) hSF).trans hBf
    have hmc : (m : Int) ≤ (c : Int) := by omega
    rcases Nat.lt_or_ge k m with h4 | h4
    · obtain ⟨z, hget⟩ : ∃ z, zs[k]? = some z := ⟨_, List.getElem?_eq_getElem (by rw [HM.out]; exact h4)⟩
      have hzU : 0 ≤ z ∧ z < 4294967296 := HZ.out z (List.mem_of_getElem? hget)
      obtain ⟨b1, o1, rfl, hb1, hc1⟩ := ((hN.keeps hk).nums hS).open hget
      have h4' : (k : Int) < (m : Int) := by omega
      by_cases hk0 : k = 0
      · subst hk0
        have HS : Hid (Sr.tk false true 0 zs = (pre ++ [z]) ++ Sr.tk false (decide (0 + 1 = 0)) z (zs.drop (0 + 1))) := by
          show _ = _
          rw [HP.out, Sr.tk_step _ _ _ hget, if_pos (by simp), List.append_assoc, List.singleton_append, decide_eq_false (Nat.succ_ne_zero 0)]
        have hge : (Sr.tk false true 0 zs)[pre.length]? = some z := by
          rw [HS.out, List.append_assoc, List.getElem?_append_right (Nat.le_refl _), Nat.sub_self]; rfl
        have HYr := Lib.hid (hY pre.length z wr hJ hk hge)
        clear hge
        rw [Nat.add_zero] at hc1
        have he0 : ((0 : Nat) : Int) = 0 := rfl
        clear hget
        rw [he0]
        obtain ⟨fn, tmps, assign, body, hy, hR⟩ := yield_any (n - 1) HYr.out
        have HR := Lib.hid hR
        clear hR HYr
        gi_wp2_with fail
        refine ⟨fun f hf => (by cases hf), ?_⟩
        gi_wp2_with fail
        refine HR.out.mono ?_
        rintro e W3 (⟨rfl, hJ3, hk3⟩ | ⟨rfl, hJx3⟩)
        · gi_wp2
          go_roundw
          case rel => exact ⟨0 + 1, z, pre ++ [z], by omega, hzU, rfl, by go_num, HS, by rw [List.length_append, List.length_singleton]; exact hJ3, hk.trans hk3⟩
          case measure => simp [intOf]; omega
        · gi_wp2
          first | go_end0 | (rw [Exit.noGoto_normal]; go_end0)
          exact ⟨⟨_, rfl⟩, .inr hJx3⟩
      · have hk1 : (0 : Int) < (k : Int) := by omega
        have K := ahead_any z now wr hzU hnow
        have HC : Hid (Sr.st false z now = Sr.after now z) := rfl
        generalize Sr.after now z = r at *
        have hd0 : decide (k = 0) = false := decide_eq_false hk0
        cases r with
        | true =>
          have HS : Hid (Sr.tk false true 0 zs = (pre ++ [z]) ++ Sr.tk false (decide (k + 1 = 0)) z (zs.drop (k + 1))) := by
            show _ = _
            rw [HP.out, Sr.tk_step _ _ _ hget, if_pos (by rw [HC.out, Bool.or_true]), List.append_assoc, List.singleton_append, decide_eq_false (Nat.succ_ne_zero k)]
          have hge : (Sr.tk false true 0 zs)[pre.length]? = some z := by
            rw [HS.out, List.append_assoc, List.getElem?_append_right (Nat.le_refl _), Nat.sub_self]; rfl
          have HYr := Lib.hid (hY pre.length z wr hJ hk hge)
          clear hge
          clear hget hd0 hk0
          gi_wp2_with fail
          refine ⟨trivial, ?_⟩
          refine (callsIn_wide.2 K).mono ?_
          rintro e w1 ⟨rfl, rfl⟩
          clear K
          obtain ⟨fn, tmps, assign, body, hy, hR⟩ := yield_any (n - 1) HYr.out
          have HR := Lib.hid hR
          clear hR HYr
          gi_wp2_with fail
          refine HR.out.mono ?_
          rintro e W3 (⟨rfl, hJ3, hk3⟩ | ⟨rfl, hJx3⟩)
          · gi_wp2
            go_roundw
            case rel => exact ⟨k + 1, z, pre ++ [z], by omega, hzU, rfl, by go_num, HS, by rw [List.length_append, List.length_singleton]; exact hJ3, hk.trans hk3⟩
            case measure => simp [intOf]; omega
          · gi_wp2
            first | go_end0 | (rw [Exit.noGoto_normal]; go_end0)
            exact ⟨⟨_, rfl⟩, .inr hJx3⟩
        | false =>
          have HS : Hid (Sr.tk false true 0 zs = pre ++ Sr.tk false (decide (k + 1 = 0)) now (zs.drop (k + 1))) := by
            show _ = _
            rw [HP.out, Sr.tk_step _ _ _ hget, if_neg (by rw [HC.out, hd0]; simp), decide_eq_false (Nat.succ_ne_zero k)]
          clear hget hd0 hk0
          gi_wp2_with fail
          refine ⟨trivial, ?_⟩
          refine (callsIn_wide.2 K).mono ?_
          rintro e w1 ⟨rfl, rfl⟩
          clear K
          gi_wp2
          go_roundw
          case rel => exact ⟨k + 1, now, pre, by omega, hnow, rfl, by go_num, HS, hJ, hk⟩
          case measure => simp [intOf]; omega
    · have hkm' : k = m := by omega
      have HS : Hid (Sr.tk false true 0 zs = pre) := by
        show _ = _
        rw [HP.out, List.drop_eq_nil_of_le (by rw [HM.out]; exact h4)]
        exact List.append_nil _
      subst hkm'
      gi_wp2
      first | go_end0 | (rw [Exit.noGoto_normal]; go_end0)
      rw [HS.out]
      exact ⟨⟨_, rfl⟩, .inl ⟨hJ, hk⟩⟩
end Go.Proofs.Ytjcnkalgbhlafaa
