/-
  A part of the texts of one proof, put together: SerT, SerL, ResR, TabA, SloB, TabK, SloP, TabO, TabP, SamA, SloK, TabJ, TabOw, FrV, SloQ, SloG, SloA, TabH, SloC.
-/
import Derived.WalkSpells
import Derived.RangeFuncBound
import Derived.RangeFuncCalls
import Derived.RangeFuncLeaves
import Derived.Shelf.Abstract
import Derived.Shelf.RegionOpen
import Derived.OwnWalkIn
import Derived.TacticsInMore
import Derived.LoopNIn
import Derived.LoopIn
import Derived.OpenShut
import Derived.BigQuiet
import Derived.Laws.Rows
import Derived.WalkKit
import Derived.ProofKit
import Derived.Maps.AppendAt
import Derived.Test.YtfdbcfkjablnkaaMB3
namespace Go.Proofs.Ytfdbcfkjablnkaa
open Go.RowKit Go.Shelf
set_option maxRecDepth 100000
attribute [local go_sem] Oper.semAt_some

/-- the function that is handed to taken: by Newest (true), by Oldest (false) -/
abbrev stead : Bool → Value
  | true => .func (.func 52) #[] #[]
  | false => .func (.func 64) #[] #[]

theorem taken_any (a : Option Addr) (n c : Nat) (f : Bool) (w : World) :
    Calls Try.prog 63 #[.slice a n c, stead f] w fun e w' => e = .returned (.func (.func 68) #[] #[.pointer (some ⟨w.heap.size, 0, none⟩), .pointer (some ⟨w.heap.size + 1, 0, none⟩)]) ∧ w' = (w.alloc (.cells #[.slice a n c] 30)).alloc (.cells #[stead f] 102) := by
  cases f <;>
  · go_enter Try.func63, Try.ntmps63
    go_wp2
    go_ret
    exact ⟨by simp, rfl⟩

set_option maxHeartbeats 2000000 in
/-- the closure: it hands the first number, and each that is to be taken in the stead of the one that was taken ahead of it, to the loop's body, till the body says no more, or there is none left -/
theorem takenN_in (n : Nat) (hn : 1 ≤ n) (m' l Bs Bf m c : Nat) (S : Nat → Prop) (w : World) (hS : ∀ k, S k → k < w.heap.size) (A : Option Addr) (zs : List Int) (hm : zs.length = m) (hl : m ≤ 1000000) (hz : Sr.U zs) (hc : m ≤ c) (J : Nat → World → Prop) (Jx : World → Prop)
    (hY : ∀ (j : Nat) (x : Int) (W : World), J j W → KeepS S w W → (Sr.tk true true 0 zs)[j]? = some x →
      YieldAt Fence.wide m' Try.prog l #[.int .u32 x] W fun e W' => (e = .returned (.bool true) ∧ J (j + 1) W' ∧ KeepS S W W') ∨ (e = .returned (.bool false) ∧ Jx W'))
    (W : World) (hSB : S Bs) (hSF : S Bf) (hBs : w.cell? ⟨Bs, 0, none⟩ = some (.slice A m c)) (hBf : w.cell? ⟨Bf, 0, none⟩ = some (.func (.func 52) #[] #[])) (hK : KeepS S w W) (hN : NumsS .u32 w S A zs) (h0 : J 0 W) :
    CallsIn Fence.wide n Try.prog 68 #[.func (.yield l) #[] #[], .pointer (some ⟨Bs, 0, none⟩), .pointer (some ⟨Bf, 0, none⟩)] W fun e W' => (∃ v, e = .returned v) ∧ ((J (Sr.tk true true 0 zs).length W' ∧ KeepS S w W') ∨ Jx W') := by
  have HM := Lib.hid hm
  clear hm
  have HZ := Lib.hid hz
  clear hz
  have bs0 : W.cell? ⟨Bs, 0, none⟩ = some (.slice A m c) := (hK.cell (p := ⟨Bs, 0, none⟩) hSB).trans hBs
  refine callsIn_of_wp Try.func68 rfl trivial ?_ rfl
  simp only [Try.ntmps68, List.size_toArray, List.length_cons, List.length_nil, Nat.reduceAdd, Nat.reduceSub, Array.replicate_succ, Array.replicate_zero, List.push_toArray, List.append_toArray, List.nil_append, List.cons_append]
  gi_wp2
  refine wpIn_wide.2 (wp_scope_straight ((wpIn_wide (n := n)).1 ?_))
  gi_wp2
  apply wpIn_label
  gi_wp2
  clear bs0
  gi_loopw [4, 9] (fun u v wr => ∃ (k : Nat) (now : Int) (pre : List Int), k ≤ m ∧ (0 ≤ now ∧ now < 4294967296) ∧ u = .int .u32 now ∧ v = .int .i64 (k : Int) ∧ Hid (Sr.tk true true 0 zs = pre ++ Sr.tk true (decide (k = 0)) now (zs.drop k)) ∧ J pre.length wr ∧ KeepS S w wr)
    (fun _ v _ => m - (intOf v).toNat)
  case atStart => exact ⟨0, 0, [], by omega, by omega, rfl, rfl, rfl, h0, hK⟩
  case round =>
    obtain ⟨k, now, pre, hkm, hnow, rfl, rfl, HP, hJ, hk⟩ := hrel
    have hbx : wr.cell? ⟨Bs, 0, none⟩ = some (.slice A m c) := (hk.cell (p := ⟨Bs, 0, none⟩) hSB).trans hBs
    have hbf : wr.cell? ⟨Bf, 0, none⟩ = some (.func (.func 52) #[] #[]) := (hk.cell (p := ⟨Bf, 0, none⟩) hSF).trans hBf
    have hmc : (m : Int) ≤ (c : Int) := by omega
    rcases Nat.lt_or_ge k m with h4 | h4
    · obtain ⟨z, hget⟩ : ∃ z, zs[k]? = some z := ⟨_, List.getElem?_eq_getElem (by rw [HM.out]; exact h4)⟩
      have hzU : 0 ≤ z ∧ z < 4294967296 := HZ.out z (List.mem_of_getElem? hget)
      obtain ⟨b1, o1, rfl, hb1, hc1⟩ := ((hN.keeps hk).nums hS).open hget
      have h4' : (k : Int) < (m : Int) := by omega
      by_cases hk0 : k = 0
      · subst hk0
        have HS : Hid (Sr.tk true true 0 zs = (pre ++ [z]) ++ Sr.tk true (decide (0 + 1 = 0)) z (zs.drop (0 + 1))) := by
          show _ = _
          rw [HP.out, Sr.tk_step _ _ _ hget, if_pos (by simp), List.append_assoc, List.singleton_append, decide_eq_false (Nat.succ_ne_zero 0)]
        have hge : (Sr.tk true true 0 zs)[pre.length]? = some z := by
          rw [HS.out, List.append_assoc, List.getElem?_append_right (Nat.le_refl _), Nat.sub_self]; rfl
        have HYr := Lib.hid (hY pre.length z wr hJ hk hge)
        clear hge
        rw [Nat.add_zero] at hc1
        have he0 : ((0 : Nat) : Int) = 0 := rfl
        clear hget
        rw [he0]
        obtain ⟨fn, tmps, assign, body, hy, hR⟩ := yield_any (n - 1) HYr.out
        have HR := Lib.hid hR
        clear hR HYr
        gi_wp2_with fail
        refine ⟨fun f hf => (by cases hf), ?_⟩
        gi_wp2_with fail
        refine HR.out.mono ?_
        rintro e W3 (⟨rfl, hJ3, hk3⟩ | ⟨rfl, hJx3⟩)
        · gi_wp2
          go_roundw
          case rel => exact ⟨0 + 1, z, pre ++ [z], by omega, hzU, rfl, by go_num, HS, by rw [List.length_append, List.length_singleton]; exact hJ3, hk.trans hk3⟩
          case measure => simp [intOf]; omega
        · gi_wp2
          first | go_end0 | (rw [Exit.noGoto_normal]; go_end0)
          exact ⟨⟨_, rfl⟩, .inr hJx3⟩
      · have hk1 : (0 : Int) < (k : Int) := by omega
        have K := after_any z now wr hzU hnow
        have HC : Hid (Sr.st true z now = Sr.after z now) := rfl
        generalize Sr.after z now = r at *
        have hd0 : decide (k = 0) = false := decide_eq_false hk0
        cases r with
        | true =>
          have HS : Hid (Sr.tk true true 0 zs = (pre ++ [z]) ++ Sr.tk true (decide (k + 1 = 0)) z (zs.drop (k + 1))) := by
            show _ = _
            rw [HP.out, Sr.tk_step _ _ _ hget, if_pos (by rw [HC.out, Bool.or_true]), List.append_assoc, List.singleton_append, decide_eq_false (Nat.succ_ne_zero k)]
          have hge : (Sr.tk true true 0 zs)[pre.length]? = some z := by
            rw [HS.out, List.append_assoc, List.getElem?_append_right (Nat.le_refl _), Nat.sub_self]; rfl
          have HYr := Lib.hid (hY pre.length z wr hJ hk hge)
          clear hge
          clear hget hd0 hk0
          gi_wp2_with fail
          refine ⟨trivial, ?_⟩
          refine (callsIn_wide.2 K).mono ?_
          rintro e w1 ⟨rfl, rfl⟩
          clear K
          obtain ⟨fn, tmps, assign, body, hy, hR⟩ := yield_any (n - 1) HYr.out
          have HR := Lib.hid hR
          clear hR HYr
          gi_wp2_with fail
          refine HR.out.mono ?_
          rintro e W3 (⟨rfl, hJ3, hk3⟩ | ⟨rfl, hJx3⟩)
          · gi_wp2
            go_roundw
            case rel => exact ⟨k + 1, z, pre ++ [z], by omega, hzU, rfl, by go_num, HS, by rw [List.length_append, List.length_singleton]; exact hJ3, hk.trans hk3⟩
            case measure => simp [intOf]; omega
          · gi_wp2
            first | go_end0 | (rw [Exit.noGoto_normal]; go_end0)
            exact ⟨⟨_, rfl⟩, .inr hJx3⟩
        | false =>
          have HS : Hid (Sr.tk true true 0 zs = pre ++ Sr.tk true (decide (k + 1 = 0)) now (zs.drop (k + 1))) := by
            show _ = _
            rw [HP.out, Sr.tk_step _ _ _ hget, if_neg (by rw [HC.out, hd0]; simp), decide_eq_false (Nat.succ_ne_zero k)]
          clear hget hd0 hk0
          gi_wp2_with fail
          refine ⟨trivial, ?_⟩
          refine (callsIn_wide.2 K).mono ?_
          rintro e w1 ⟨rfl, rfl⟩
          clear K
          gi_wp2
          go_roundw
          case rel => exact ⟨k + 1, now, pre, by omega, hnow, rfl, by go_num, HS, hJ, hk⟩
          case measure => simp [intOf]; omega
    · have hkm' : k = m := by omega
      have HS : Hid (Sr.tk true true 0 zs = pre) := by
        show _ = _
        rw [HP.out, List.drop_eq_nil_of_le (by rw [HM.out]; exact h4)]
        exact List.append_nil _
      subst hkm'
      gi_wp2
      first | go_end0 | (rw [Exit.noGoto_normal]; go_end0)
      rw [HS.out]
      exact ⟨⟨_, rfl⟩, .inl ⟨hJ, hk⟩⟩

set_option maxHeartbeats 2000000 in
/-- the closure: it hands the first number, and each that is to be taken in the stead of the one that was taken ahead of it, to the loop's body, till the body says no more, or there is none left -/
theorem takenO_in (n : Nat) (hn : 1 ≤ n) (m' l Bs Bf m c : Nat) (S : Nat → Prop) (w : World) (hS : ∀ k, S k → k < w.heap.size) (A : Option Addr) (zs : List Int) (hm : zs.length = m) (hl : m ≤ 1000000) (hz : Sr.U zs) (hc : m ≤ c) (J : Nat → World → Prop) (Jx : World → Prop)
    (hY : ∀ (j : Nat) (x : Int) (W : World), J j W → KeepS S w W → (Sr.tk false true 0 zs)[j]? = some x →
      YieldAt Fence.wide m' Try.prog l #[.int .u32 x] W fun e W' => (e = .returned (.bool true) ∧ J (j + 1) W' ∧ KeepS S W W') ∨ (e = .returned (.bool false) ∧ Jx W'))
    (W : World) (hSB : S Bs) (hSF : S Bf) (hBs : w.cell? ⟨Bs, 0, none⟩ = some (.slice A m c)) (hBf : w.cell? ⟨Bf, 0, none⟩ = some (.func (.func 64) #[] #[])) (hK : KeepS S w W) (hN : NumsS .u32 w S A zs) (h0 : J 0 W) :
    CallsIn Fence.wide n Try.prog 68 #[.func (.yield l) #[] #[], .pointer (some ⟨Bs, 0, none⟩), .pointer (some ⟨Bf, 0, none⟩)] W fun e W' => (∃ v, e = .returned v) ∧ ((J (Sr.tk false true 0 zs).length W' ∧ KeepS S w W') ∨ Jx W') := by
  have HM := Lib.hid hm
  clear hm
  have HZ := Lib.hid hz
  clear hz
  have bs0 : W.cell? ⟨Bs, 0, none⟩ = some (.slice A m c) := (hK.cell (p := ⟨Bs, 0, none⟩) hSB).trans hBs
  refine callsIn_of_wp Try.func68 rfl trivial ?_ rfl
  simp only [Try.ntmps68, List.size_toArray, List.length_cons, List.length_nil, Nat.reduceAdd, Nat.reduceSub, Array.replicate_succ, Array.replicate_zero, List.push_toArray, List.append_toArray, List.nil_append, List.cons_append]
  gi_wp2
  refine wpIn_wide.2 (wp_scope_straight ((wpIn_wide (n := n)).1 ?_))
  gi_wp2
  apply wpIn_label
  gi_wp2
  clear bs0
  gi_loopw [4, 9] (fun u v wr => ∃ (k : Nat) (now : Int) (pre : List Int), k ≤ m ∧ (0 ≤ now ∧ now < 4294967296) ∧ u = .int .u32 now ∧ v = .int .i64 (k : Int) ∧ Hid (Sr.tk false true 0 zs = pre ++ Sr.tk false (decide (k = 0)) now (zs.drop k)) ∧ J pre.length wr ∧ KeepS S w wr)
    (fun _ v _ => m - (intOf v).toNat)
  case atStart => exact ⟨0, 0, [], by omega, by omega, rfl, rfl, rfl, h0, hK⟩
  case round =>
    obtain ⟨k, now, pre, hkm, hnow, rfl, rfl, HP, hJ, hk⟩ := hrel
    have hbx : wr.cell? ⟨Bs, 0, none⟩ = some (.slice A m c) := (hk.cell (p := ⟨Bs, 0, none⟩) hSB).trans hBs
    have hbf : wr.cell? ⟨Bf, 0, none⟩ = some (.func (.func 64) #[] #[]) := (hk.cell (p := ⟨Bf, 0, none⟩) hSF).trans hBf
    have hmc : (m : Int) ≤ (c : Int) := by omega
    rcases Nat.lt_or_ge k m with h4 | h4
    · obtain ⟨z, hget⟩ : ∃ z, zs[k]? = some z := ⟨_, List.getElem?_eq_getElem (by rw [HM.out]; exact h4)⟩
      have hzU : 0 ≤ z ∧ z < 4294967296 := HZ.out z (List.mem_of_getElem? hget)
      obtain ⟨b1, o1, rfl, hb1, hc1⟩ := ((hN.keeps hk).nums hS).open hget
      have h4' : (k : Int) < (m : Int) := by omega
      by_cases hk0 : k = 0
      · subst hk0
        have HS : Hid (Sr.tk false true 0 zs = (pre ++ [z]) ++ Sr.tk false (decide (0 + 1 = 0)) z (zs.drop (0 + 1))) := by
          show _ = _
          rw [HP.out, Sr.tk_step _ _ _ hget, if_pos (by simp), List.append_assoc, List.singleton_append, decide_eq_false (Nat.succ_ne_zero 0)]
        have hge : (Sr.tk false true 0 zs)[pre.length]? = some z := by
          rw [HS.out, List.append_assoc, List.getElem?_append_right (Nat.le_refl _), Nat.sub_self]; rfl
        have HYr := Lib.hid (hY pre.length z wr hJ hk hge)
        clear hge
        rw [Nat.add_zero] at hc1
        have he0 : ((0 : Nat) : Int) = 0 := rfl
        clear hget
        rw [he0]
        obtain ⟨fn, tmps, assign, body, hy, hR⟩ := yield_any (n - 1) HYr.out
        have HR := Lib.hid hR
        clear hR HYr
        gi_wp2_with fail
        refine ⟨fun f hf => (by cases hf), ?_⟩
        gi_wp2_with fail
        refine HR.out.mono ?_
        rintro e W3 (⟨rfl, hJ3, hk3⟩ | ⟨rfl, hJx3⟩)
        · gi_wp2
          go_roundw
          case rel => exact ⟨0 + 1, z, pre ++ [z], by omega, hzU, rfl, by go_num, HS, by rw [List.length_append, List.length_singleton]; exact hJ3, hk.trans hk3⟩
          case measure => simp [intOf]; omega
        · gi_wp2
          first | go_end0 | (rw [Exit.noGoto_normal]; go_end0)
          exact ⟨⟨_, rfl⟩, .inr hJx3⟩
      · have hk1 : (0 : Int) < (k : Int) := by omega
        have K := ahead_any z now wr hzU hnow
        have HC : Hid (Sr.st false z now = Sr.after now z) := rfl
        generalize Sr.after now z = r at *
        have hd0 : decide (k = 0) = false := decide_eq_false hk0
        cases r with
        | true =>
          have HS : Hid (Sr.tk false true 0 zs = (pre ++ [z]) ++ Sr.tk false (decide (k + 1 = 0)) z (zs.drop (k + 1))) := by
            show _ = _
            rw [HP.out, Sr.tk_step _ _ _ hget, if_pos (by rw [HC.out, Bool.or_true]), List.append_assoc, List.singleton_append, decide_eq_false (Nat.succ_ne_zero k)]
          have hge : (Sr.tk false true 0 zs)[pre.length]? = some z := by
            rw [HS.out, List.append_assoc, List.getElem?_append_right (Nat.le_refl _), Nat.sub_self]; rfl
          have HYr := Lib.hid (hY pre.length z wr hJ hk hge)
          clear hge
          clear hget hd0 hk0
          gi_wp2_with fail
          refine ⟨trivial, ?_⟩
          refine (callsIn_wide.2 K).mono ?_
          rintro e w1 ⟨rfl, rfl⟩
          clear K
          obtain ⟨fn, tmps, assign, body, hy, hR⟩ := yield_any (n - 1) HYr.out
          have HR := Lib.hid hR
          clear hR HYr
          gi_wp2_with fail
          refine HR.out.mono ?_
          rintro e W3 (⟨rfl, hJ3, hk3⟩ | ⟨rfl, hJx3⟩)
          · gi_wp2
            go_roundw
            case rel => exact ⟨k + 1, z, pre ++ [z], by omega, hzU, rfl, by go_num, HS, by rw [List.length_append, List.length_singleton]; exact hJ3, hk.trans hk3⟩
            case measure => simp [intOf]; omega
          · gi_wp2
            first | go_end0 | (rw [Exit.noGoto_normal]; go_end0)
            exact ⟨⟨_, rfl⟩, .inr hJx3⟩
        | false =>
          have HS : Hid (Sr.tk false true 0 zs = pre ++ Sr.tk false (decide (k + 1 = 0)) now (zs.drop (k + 1))) := by
            show _ = _
            rw [HP.out, Sr.tk_step _ _ _ hget, if_neg (by rw [HC.out, hd0]; simp), decide_eq_false (Nat.succ_ne_zero k)]
          clear hget hd0 hk0
          gi_wp2_with fail
          refine ⟨trivial, ?_⟩
          refine (callsIn_wide.2 K).mono ?_
          rintro e w1 ⟨rfl, rfl⟩
          clear K
          gi_wp2
          go_roundw
          case rel => exact ⟨k + 1, now, pre, by omega, hnow, rfl, by go_num, HS, hJ, hk⟩
          case measure => simp [intOf]; omega
    · have hkm' : k = m := by omega
      have HS : Hid (Sr.tk false true 0 zs = pre) := by
        show _ = _
        rw [HP.out, List.drop_eq_nil_of_le (by rw [HM.out]; exact h4)]
        exact List.append_nil _
      subst hkm'
      gi_wp2
      first | go_end0 | (rw [Exit.noGoto_normal]; go_end0)
      rw [HS.out]
      exact ⟨⟨_, rfl⟩, .inl ⟨hJ, hk⟩⟩
end Go.Proofs.Ytfdbcfkjablnkaa

namespace Go.Proofs.Ytfdbcfkjablnkaa
open Go.RowKit Go.Shelf
set_option maxRecDepth 100000
attribute [local go_sem] Oper.semAt_some

/-- either closure, in one -/
theorem taken_in (f : Bool) (n : Nat) (hn : 1 ≤ n) (m' l Bs Bf m c : Nat) (S : Nat → Prop) (w : World) (hS : ∀ k, S k → k < w.heap.size) (A : Option Addr) (zs : List Int) (hm : zs.length = m) (hl : m ≤ 1000000) (hz : Sr.U zs) (hc : m ≤ c) (J : Nat → World → Prop) (Jx : World → Prop)
    (hY : ∀ (j : Nat) (x : Int) (W : World), J j W → KeepS S w W → (Sr.tk f true 0 zs)[j]? = some x →
      YieldAt Fence.wide m' Try.prog l #[.int .u32 x] W fun e W' => (e = .returned (.bool true) ∧ J (j + 1) W' ∧ KeepS S W W') ∨ (e = .returned (.bool false) ∧ Jx W'))
    (W : World) (hSB : S Bs) (hSF : S Bf) (hBs : w.cell? ⟨Bs, 0, none⟩ = some (.slice A m c)) (hBf : w.cell? ⟨Bf, 0, none⟩ = some (stead f)) (hK : KeepS S w W) (hN : NumsS .u32 w S A zs) (h0 : J 0 W) :
    CallsIn Fence.wide n Try.prog 68 #[.func (.yield l) #[] #[], .pointer (some ⟨Bs, 0, none⟩), .pointer (some ⟨Bf, 0, none⟩)] W fun e W' => (∃ v, e = .returned v) ∧ ((J (Sr.tk f true 0 zs).length W' ∧ KeepS S w W') ∨ Jx W') := by
  cases f
  · exact takenO_in n hn m' l Bs Bf m c S w hS A zs hm hl hz hc J Jx hY W hSB hSF hBs hBf hK hN h0
  · exact takenN_in n hn m' l Bs Bf m c S w hS A zs hm hl hz hc J Jx hY W hSB hSF hBs hBf hK hN h0

/-- behind j numbers that were given: the boxes s and s + 1 hold the last one and whether there is one; all else is as it was -/
def Lst (w : World) (s : Nat) (j : Nat) (x : Int) (b : Bool) (V : World) : Prop :=
  Boxed V s 22 (.int .u32 x) ∧ Boxed V (s + 1) 4 (.bool b) ∧ Off (fun k => k = s ∨ k = s + 1) w V ∧ (0 < j → b = true) ∧ (j = 0 → b = false)
theorem Lst.below {w V V' : World} {s j : Nat} {x : Int} {b : Bool} (h : Lst w s j x b V) (hs : s + 1 < w.heap.size) (hB : Below w.heap.size V V') : Lst w s j x b V' :=
  ⟨(hB.block s (by omega)).trans h.1, (hB.block (s + 1) hs).trans h.2.1, off_below h.2.2.1 hB, h.2.2.2⟩
theorem Lst.put {w V : World} {s j : Nat} {y : Int} {b : Bool} (x : Int) (h : Lst w s j y b V) : Lst w s j x b (V.setCell ⟨s, 0, none⟩ (.int .u32 x)) :=
  ⟨Boxed.set _ h.1, (Below.heap_setCell V ⟨s, 0, none⟩ _ (s + 1) (by simp)).trans h.2.1, h.2.2.1.setCell (p := ⟨s, 0, none⟩) (.inl rfl) _, h.2.2.2⟩
theorem Lst.flag {w V : World} {s j : Nat} {x : Int} {b : Bool} (h : Lst w s j x b V) : Lst w s (j + 1) x true (V.setCell ⟨s + 1, 0, none⟩ (.bool true)) :=
  ⟨(Below.heap_setCell V ⟨s + 1, 0, none⟩ _ s (by simp)).trans h.1, Boxed.set _ h.2.1, h.2.2.1.setCell (p := ⟨s + 1, 0, none⟩) (.inr rfl) _, fun _ => rfl, fun h => absurd h (Nat.succ_ne_zero j)⟩

set_option maxHeartbeats 4000000 in
theorem slast_any (f : Bool) (Bs Bf m c : Nat) (A : Option Addr) (zs : List Int) (w : World) (hm : zs.length = m) (hl : m ≤ 1000000) (hz : Sr.U zs) (hc : m ≤ c)
    (hBsl : Bs < w.heap.size) (hBfl : Bf < w.heap.size) (hBs : w.cell? ⟨Bs, 0, none⟩ = some (.slice A m c)) (hBf : w.cell? ⟨Bf, 0, none⟩ = some (stead f)) (hN : Nums .u32 w w.heap.size A zs) :
    Calls Try.prog 62 #[.func (.func 68) #[] #[.pointer (some ⟨Bs, 0, none⟩), .pointer (some ⟨Bf, 0, none⟩)]] w fun e w' =>
      e = .returned (.tuple #[.int .u32 (Sr.bst f zs), .bool (decide (0 < m))]) ∧ Below w.heap.size w w' := by
  refine (callsIn_wide (n := 3)).1 ?_
  refine callsIn_of_wp_marks Try.func62 rfl trivial ?_ rfl
  simp only [Try.ntmps62, List.size_toArray, List.length_cons, List.length_nil, Nat.reduceAdd, Nat.reduceSub, Array.replicate_succ, Array.replicate_zero, List.push_toArray, List.append_toArray, List.nil_append, List.cons_append]
  obtain ⟨w2, hw2⟩ : ∃ w2, w2 = (w.alloc (Obj.cells #[Value.int IntKind.u32 0] 22)).alloc (Obj.cells #[Value.bool false] 4) := ⟨_, rfl⟩
  have hs2 : w2.heap.size = w.heap.size + 2 := by rw [hw2]; simp
  have bN : Boxed w2 w.heap.size 22 (.int .u32 0) := by rw [hw2]; exact (Boxed.new w _ _).alloc _
  have bS : Boxed w2 (w.heap.size + 1) 4 (.bool false) := by
    rw [hw2]
    have := Boxed.new (w.alloc (.cells #[Value.int IntKind.u32 0] 22)) 4 (.bool false)
    rwa [World.size_alloc] at this
  have hb2 : Below w.heap.size w w2 := by rw [hw2]; exact ((Below.refl _ w).alloc (Nat.le_refl _) _).alloc (by simp) _
  obtain ⟨S, hSd⟩ : ∃ S : Nat → Prop, S = fun k => k < w.heap.size := ⟨_, rfl⟩
  have hSlt : ∀ k, S k → k < w2.heap.size := fun k hk => by rw [hSd] at hk; omega
  have hSN : ¬ S w.heap.size := fun hk => by rw [hSd] at hk; omega
  have hSS : ¬ S (w.heap.size + 1) := fun hk => by rw [hSd] at hk; omega
  have hSs : S Bs := by rw [hSd]; exact hBsl
  have hSf : S Bf := by rw [hSd]; exact hBfl
  have hk2 : KeepS S w w2 := KeepS.of_below hb2 (fun k hk => by rw [hSd] at hk; exact hk)
  have hBs2 : w2.cell? ⟨Bs, 0, none⟩ = some (.slice A m c) := (hk2.cell (p := ⟨Bs, 0, none⟩) hSs).trans hBs
  have hBf2 : w2.cell? ⟨Bf, 0, none⟩ = some (stead f) := (hk2.cell (p := ⟨Bf, 0, none⟩) hSf).trans hBf
  have hN2 : NumsS .u32 w2 S A zs := (hN.below hb2).numsS (fun k hk => by rw [hSd]; exact hk)
  have hbl : w.heap.size + 1 < w2.heap.size := by omega
  have hKo : ∀ (V : World) (l' : Nat) (o' : Obj), w2.heap.size ≤ l' → KeepS S V (V.putObj l' o') := fun V l' o' hl' => ⟨by simp [World.putObj], fun k hk => World.putObj_heap_other (by have := hSlt k hk; omega)⟩
  clear hSd hN hBs hBf hk2
  have HW2 := Lib.hid hw2
  clear hw2
  have HP := Lib.hid (Sr.tk_pos f zs)
  have HB := Lib.hid (Sr.tk_bst f zs)
  obtain ⟨L, hL⟩ : ∃ L, Sr.tk f true 0 zs = L := ⟨_, rfl⟩
  rw [hL] at HP HB
  gi_wp2_with fail
  rw [← HW2.out]
  refine range_stopb rfl (by omega) (gf := 68) (lb := #[.pointer (some ⟨Bs, 0, none⟩), .pointer (some ⟨Bf, 0, none⟩)]) rfl trivial (enters_of Try.func68 (by kernel_rfl) rfl)
    (fun x : Int => #[Value.int .u32 x]) (fun _ => rfl)
    (fun j x V => Lst w2 w.heap.size j ((L.take j).getLastD 0) (decide (0 < j)) V ∧ L[j]? = some x)
    (fun j x _ V => Lst w2 w.heap.size j x (decide (0 < j)) V ∧ L[j]? = some x)
    (fun j V => Lst w2 w.heap.size j ((L.take j).getLastD 0) (decide (0 < j)) V) (fun _ _ => False) (KeepS S) L.length
    (fun j x q V l o o' h hl ho hc' => ⟨h.1.below hbl (below_put V o' hl), h.2⟩)
    (fun j V l o o' h hl ho hc' => h.below hbl (below_put V o' hl))
    (fun _ _ _ _ _ h _ _ _ => h)
    (fun _ _ _ h k => h.trans k) (fun V l o o' hl ho hc' => hKo V l o' hl)
    (fun o => Lst.below ⟨bN, bS, Off.refl _ _, fun h => absurd h (Nat.lt_irrefl 0), fun _ => rfl⟩ hbl (((Below.refl w2.heap.size w2).alloc (Nat.le_refl _) _).alloc (by simp) _)) ?round ?iter ?done ?stop
  case round =>
    rintro l j x V K ⟨hLst, hx⟩ hj hK
    have fN := hLst.1.frozen
    have kN := hLst.1.cell
    have hK' := Lib.hid hK
    clear hK
    gi_wp2_with fail
    refine hK'.out _ 0 _ ⟨hLst.put x, hx⟩ ((KeepsOthers.setCell V ⟨w.heap.size, 0, none⟩ (.int .u32 x)).from w2.heap.size) ((KeepS.refl S V).set hSN _) ?_
    clear hK' hLst kN fN
    rintro l V hl ⟨hLst, _⟩
    have fS := hLst.2.1.frozen
    have kS := hLst.2.1.cell
    have hfl := Lib.hid hLst.flag
    clear hLst
    gi_wp2
    refine ⟨(KeepsOthers.setCell V ⟨w.heap.size + 1, 0, none⟩ (.bool true)).from w2.heap.size, ?_, (KeepS.refl S V).set hSS _⟩
    rw [Sr.last_next hx, decide_eq_true (Nat.succ_pos j)]
    exact hfl.out
  case iter =>
    intro Bk X l V hBk hBlt hX hlw hD hB hY
    have hKV : KeepS S w2 V := ⟨hD.2.2.1.size, fun k hk => hD.2.2.1.block k (hSlt k hk) (fun e => by rcases e with e | e <;> subst e; exact hSN hk; exact hSS hk)⟩
    refine (taken_in f 2 (by omega) 1 l Bs Bf m c S w2 hSlt A zs hm hl hz hc (fun j V => Lst w2 w.heap.size j ((L.take j).getLastD 0) (decide (0 < j)) V ∧ Bk V) X ?_ V hSs hSf hBs2 hBf2 hKV hN2 ⟨hD, hB⟩).mono ?_
    · rintro j x V1 ⟨h1, h2⟩ hk hx
      rw [hL] at hx
      refine (hY j x V1 ⟨h1, hx⟩ h2 (by
        rcases Nat.lt_or_ge j L.length with h | h
        · exact h
        · rw [List.getElem?_eq_none h] at hx; cases hx)).mono ?_
      rintro e V2 (⟨rfl, hd, hkk, _⟩ | ⟨rfl, hx, _⟩)
      · exact .inl ⟨rfl, hd, hkk⟩
      · exact .inr ⟨rfl, hx⟩
    · rw [hL]
      rintro e V2 ⟨hv, ⟨h1, _⟩ | h⟩
      · exact ⟨hv, .inl h1⟩
      · exact ⟨hv, .inr h⟩
  case done =>
    rintro D V hD hLst hK
    rw [List.take_length, HB.out, HP.out, hm] at hLst
    have kN := hLst.1.cell
    have kS := hLst.2.1.cell
    have hbV : Below w.heap.size w V := hb2.trans (hLst.2.2.1.below (fun k hk => by rcases hk with h | h <;> omega) (by omega))
    have hfin := Lib.hid (fun q => (below_drewN hbV q).trans (below_put (B := w.heap.size) (V.drewN q) (.deferred none) (by omega : w.heap.size ≤ D)))
    have hKq : ∀ q, (V.drewN q).heap[D]? = some (.deferred (some [])) := fun _ => hK
    clear bN bS hb2 hLst hbV
    gi_wp2
    refine wpIn_wide.2 ?_
    go_quiet (fail)
    gi_wp2
    refine ⟨by simp, .inl ⟨_, _, rfl, run_takeDeferred (hKq nq), ?_⟩⟩
    exact ⟨_, results_tmp2 rfl _ _ _, rfl, hfin.out nq⟩
  case stop =>
    rintro D cd W' _ h _
    exact h.elim
theorem oldest_any (m c : Nat) (A : Option Addr) (zs : List Int) (w : World) (hm : zs.length = m) (hl : m ≤ 1000000) (hz : Sr.U zs) (hc : m ≤ c) (hN : Nums .u32 w w.heap.size A zs) :
    Calls Try.prog 51 #[.slice A m c] w fun e w' => e = .returned (.tuple #[.int .u32 (Sr.bst false zs), .bool (decide (0 < m))]) ∧ Below w.heap.size w w' := by
  have K := taken_any A m c false w
  obtain ⟨w1, hw1⟩ : ∃ w1, w1 = (w.alloc (.cells #[.slice A m c] 30)).alloc (.cells #[stead false] 102) := ⟨_, rfl⟩
  rw [← hw1] at K
  have hs1 : w.heap.size + 1 < w1.heap.size := by rw [hw1]; simp
  have b0 : w1.cell? ⟨w.heap.size, 0, none⟩ = some (.slice A m c) := by rw [hw1]; exact ((Boxed.new w _ _).alloc _).cell
  have b1 : w1.cell? ⟨w.heap.size + 1, 0, none⟩ = some (stead false) := by
    rw [hw1]
    have := (Boxed.new (w.alloc (.cells #[.slice A m c] 30)) 102 (stead false)).cell
    rwa [World.size_alloc] at this
  have hb : Below w.heap.size w w1 := by rw [hw1]; exact ((Below.refl _ w).alloc (Nat.le_refl _) _).alloc (by simp) _
  have KL := Lib.hid (slast_any false w.heap.size (w.heap.size + 1) m c A zs w1 hm hl hz hc (by omega) hs1 b0 b1 ((hN.below hb).mono hb.size))
  clear hw1 b0 b1 hN
  go_enter Try.func51, Try.ntmps51
  go_wp2_with fail
  refine K.mono ?_
  rintro e w' ⟨rfl, rfl⟩
  go_wp2_with fail
  refine KL.out.mono ?_
  rintro e w' ⟨rfl, hb2⟩
  go_wp2
  go_ret2
  exact ⟨rfl, hb.trans (hb2.mono (by omega))⟩
end Go.Proofs.Ytfdbcfkjablnkaa

namespace Go.Proofs.Ytfdbcfkjablnkaa
open Go.RowKit

/-- a row and a number as the results -/
theorem results_row_tmp {P : Program} {fn : Func} {p s : Tmp} {ty : TypeId} (h : fn.results = #[.cell p ty, .tmp s]) (tmps : Array Value) (w : World) (g : Nat) (t : TypeId) (cs : Array Value) (d : TypeDesc)
    (hp : tmps.getD p undef = .pointer (some ⟨g, 0, none⟩)) (hg : w.heap[g]? = some (.cells cs t (0, 0)))
    (hu : P.underlying ty = some d) (hd : (match d with | .struct _ | .array _ _ => true | _ => false) = true) (hi : (P.info? ty).map (·.size) = some cs.size) :
    (results fn tmps).run P w = .ok (.tuple #[.agg cs, tmps.getD s undef]) w := by
  have hp' : tmps[p]?.getD undef = .pointer (some ⟨g, 0, none⟩) := by simpa using hp
  simp [results, h, hp', asAddr, run_loadVar_row w g t ty cs (0, 0) d hg hu hd hi]
end Go.Proofs.Ytfdbcfkjablnkaa

namespace Go.Proofs.Ytfdbcfkjablnkaa
open Go.RowKit Go.Shelf
set_option maxRecDepth 100000

/-- what is told of a frame, as a value -/
def outC (A : Option Addr) (n cp : Nat) (wh ev : Bool) (old : Int) : Array Value := #[.slice A n cp, .bool wh, .bool ev, .int .u32 old]
def outV (A : Option Addr) (n cp : Nat) (wh ev : Bool) (old : Int) : Value := .agg (outC A n cp wh ev old)
theorem outInfo : (Try.prog.info? 39).map (·.size) = some 4 := by kernel_rfl
theorem out_one (A : Option Addr) (n cp : Nat) (wh ev : Bool) (old : Int) : (outC A n cp wh ev old).all (·.oneCell') = true := by simp [outC, Value.oneCell']
theorem out_block {W : World} {g : Nat} {A : Option Addr} {n cp : Nat} {wh ev : Bool} {old : Int} {t : TypeId} (h : W.heap[g]? = some (.cells (outC A n cp wh ev old) t (0, 0))) :
    W.cell? ⟨g, 0, none⟩ = some (.slice A n cp) ∧ W.cell? ⟨g, 1, none⟩ = some (.bool wh) ∧ W.cell? ⟨g, 2, none⟩ = some (.bool ev) ∧ W.cell? ⟨g, 3, none⟩ = some (.int .u32 old) := by
  refine ⟨?_, ?_, ?_, ?_⟩ <;> simp [World.cell?, h, outC]
section
variable {w w' : World} {S S' : Nat → Prop} {b r m n cp : Nat} {A : Option Addr} {X : List Sx}
/-- the table behind a new slot's coming -/
theorem TblAt.added {w1 w3 w5 : World} {y : Sx} {A' : Option Addr} {cp' : Nat} (h : TblAt w1 S b r m A n cp X) (hn : n < r) (hy : y.At w1) (hk : ∀ x ∈ X, x.s ≠ y.s) (hSy : S y.m) (hym : y.m ≠ m) (hyX : ∀ x ∈ X, x.m ≠ y.m)
    (hown : w3.ownsRow 0 22 1 (.slice A' (n + 1) cp') (n + 1) ((X.map Sx.s).map (Value.int .u32) ++ [.int .u32 y.s])) (hg : (w1.alloc (.cells #[.int .u32 y.s] 22)).grownBy w3 (Value.slice A n cp).ownBlock)
    (hat : (Value.slice A' (n + 1) cp').ownBlock = (Value.slice A n cp).ownBlock ∨ (Value.slice A' (n + 1) cp').ownBlock = some (w1.heap.size + 1))
    (hmap : TMapAt w5 m (X.map Sx.key ++ [y.key])) (ho5 : Off (fun q => q = m) (w3.setCell ⟨b, 1, none⟩ (.slice A' (n + 1) cp')) w5) :
    TOff S w1 w5 ∧ TblAt w5 (fun q => S q ∨ w1.heap.size ≤ q) b r m A' (n + 1) cp' (X ++ [y]) := by
  obtain ⟨hbm, hgn, hxs⟩ := h.apart
  have hpl := h.plain
  have hlt := h.lt
  have hgb : ∀ g, (Value.slice A n cp).ownBlock = some g → g ≠ b := fun g hg => (hgn g hg).1
  have hal := (Below.refl w1.heap.size w1).alloc (Nat.le_refl _) (.cells #[.int .u32 y.s] 22)
  have ho3 : Off (fun q => (Value.slice A n cp).ownBlock = some q) w1 w3 := by
    refine (Off.of_below hal).trans (S' := fun q => (Value.slice A n cp).ownBlock = some q) ⟨hg.os, hg.tape, hg.output, hg.size, fun k hk hn => hg.block k hk fun e => hn e.symm⟩ fun _ _ e => e
  have hr3 : w3.heap[b]? = some (.cells #[.int .i64 (r : Int), .slice A n cp, .map (some m)] 75 (0, 0)) := (ho3.block b hlt fun e => hgb b e rfl).trans h.row
  have hlt3 : b < w3.heap.size := (Array.getElem?_eq_some_iff.1 hr3).1
  have ho15 : Off (fun q => q = b ∨ q = m ∨ (Value.slice A n cp).ownBlock = some q) w1 w5 :=
    ((ho3.mono fun q _ e => .inr (.inr e)).setCell (p := ⟨b, 1, none⟩) (.inl rfl) _).trans ho5 fun q _ e => .inr (.inl e)
  have htoff : TOff (fun q => q = b ∨ q = m ∨ (Value.slice A n cp).ownBlock = some q) w1 w5 := Off.mono ho15 fun q _ hq => ⟨hq, hpl q hq⟩
  have ho35 : Off (fun q => q = b ∨ q = m) w3 w5 := ((Off.refl _ w3).setCell (p := ⟨b, 1, none⟩) (.inl rfl) _).trans ho5 fun q _ e => .inr e
  have hs3 : w1.heap.size < w3.heap.size := by have := hg.size; rw [World.size_alloc] at this; omega
  have hyb : y.m ≠ b := fun e => (SlotAt.map hy).not_cells _ _ _ (by rw [e]; exact h.row)
  have hyg : ∀ g, (Value.slice A n cp).ownBlock = some g → y.m ≠ g := fun g hg e => by
    obtain ⟨cs, hc⟩ := tord_row h.ord hg
    exact (SlotAt.map hy).not_cells _ _ _ (by rw [e]; exact hc)
  refine ⟨htoff.mono fun q _ hq => ?_, ?_, by simp [h.len], ?_, ?_, fun x hx => ?_, ?_, h.room, by omega, .inl h.inS.1, .inl h.inS.2.1, fun g hg' => ?_, fun x hx => .inl ?_⟩
  · rcases hq with e | e | e
    · rw [e]; exact h.inS.1
    · rw [e]; exact h.inS.2.1
    · exact h.inS.2.2.1 q e
  · refine (ho5.block b (by simpa [World.setCell] using hlt3) hbm).trans ?_
    rw [setCell_at hr3]
    rfl
  · rw [List.map_append, List.map_append]
    refine tord_off hown ho35 fun q hq e => ?_
    rcases hat with ha | ha
    · rw [ha] at hq
      obtain ⟨n1, n2⟩ := hgn q hq
      exact e.elim n1 n2
    · rw [ha] at hq
      have hq' : w1.heap.size + 1 = q := by simpa using hq
      have := h.map.lt
      rcases e with e | e <;> omega
  · rw [List.map_append]
    exact hmap
  · rcases List.mem_append.1 hx with hx | hx
    · obtain ⟨n1, n2, n3⟩ := hxs x hx
      refine (h.slots x hx).toff htoff fun e => ?_
      rcases e with e | e | e
      · exact n1 e
      · exact n2 e
      · exact n3 _ e rfl
    · obtain rfl := List.mem_singleton.1 hx
      refine hy.toff htoff fun e => ?_
      rcases e with e | e | e
      · exact hyb e
      · exact hym e
      · exact hyg _ e rfl
  · rw [List.map_append, ← List.cons_append, List.nodup_append]
    refine ⟨h.maps, by simp, fun a ha c hc => ?_⟩
    have hc' : c = y.m := by simpa using hc
    subst hc'
    rcases List.mem_cons.1 ha with rfl | ha
    · exact Ne.symm hym
    · obtain ⟨x, hx, rfl⟩ := List.mem_map.1 ha
      exact hyX x hx
  · rcases hat with ha | ha
    · rw [ha] at hg'
      exact .inl (h.inS.2.2.1 g hg')
    · rw [ha] at hg'
      have hq' : w1.heap.size + 1 = g := by simpa using hg'
      exact .inr (by omega)
  · rcases List.mem_append.1 hx with hx | hx
    · exact h.inS.2.2.2 x hx
    · obtain rfl := List.mem_singleton.1 hx
      exact hSy
/-- a block of another kind is turned -/
theorem TblAt.other {q : Nat} {cs : Array Value} {t : TypeId} (h : TblAt w S b r m A n cp X) (hq : w.heap[q]? = some (.cells cs t (0, 0))) (ht : t ≠ 75 ∧ t ≠ 22 ∧ t ≠ 5 ∧ t ≠ 98) (hf : Off (fun p => p = q) w w') : TblAt w' S b r m A n cp X := by
  have key : ∀ (p : Nat) (cs' : Array Value) (t' : TypeId), w.heap[p]? = some (.cells cs' t' (0, 0)) → t ≠ t' → ¬ p = q := fun p cs' t' h1 h2 e => by
    rw [e, hq] at h1
    injection h1 with h1
    injection h1 with _ h1
    exact h2 h1
  refine ⟨(hf.block b h.lt (key _ _ _ h.row ht.1)).trans h.row, h.len, tord_off h.ord hf fun g hg => ?_, h.map.off hf fun e => h.map.not_cells _ _ _ (by rw [e]; exact hq), fun x hx => (h.slots x hx).off hf (fun cs hc => key _ _ _ hc ht.2.2.2) (fun e => (SlotAt.map (h.slots x hx)).not_cells _ _ _ (by rw [e]; exact hq)) (fun g cs hc => key _ _ _ hc ht.2.2.1), h.maps, h.room, h.few, h.inS⟩
  obtain ⟨cs', hc⟩ := tord_row h.ord hg
  exact key _ _ _ hc ht.2.1
theorem grown_off3 {w1 w3 : World} {o : Obj} {row : Option Nat} (hg : (w1.alloc o).grownBy w3 row) : Off (fun q => row = some q) w1 w3 :=
  (Off.of_below ((Below.refl w1.heap.size w1).alloc (Nat.le_refl _) o)).trans (S' := fun q => row = some q) ⟨hg.os, hg.tape, hg.output, hg.size, fun k hk hn => hg.block k hk fun e => hn e.symm⟩ fun _ _ e => e
theorem out_stays {w1 w3 w5 : World} {q : Nat} {cs : Array Value} {v : Value} (h : TblAt w1 S b r m A n cp X) (hq : w1.heap[q]? = some (.cells cs 39 (0, 0))) (ho3 : Off (fun q => (Value.slice A n cp).ownBlock = some q) w1 w3) (ho5 : Off (fun q => q = m) (w3.setCell ⟨b, 1, none⟩ v) w5) :
    w5.heap[q]? = some (.cells cs 39 (0, 0)) := by
  have hlt := (Array.getElem?_eq_some_iff.1 hq).1
  have h15 : Off (fun q => q = b ∨ q = m ∨ (Value.slice A n cp).ownBlock = some q) w1 w5 :=
    ((ho3.mono fun q _ e => .inr (.inr e)).setCell (p := ⟨b, 1, none⟩) (.inl rfl) _).trans ho5 fun q _ e => .inr (.inl e)
  refine (h15.block q hlt fun e => ?_).trans hq
  rcases e with e | e | e
  · have := h.row
    rw [← e, hq] at this
    injection this with this
    injection this with _ this
    exact absurd this (by decide)
  · exact h.map.not_cells _ _ _ (by rw [← e]; exact hq)
  · obtain ⟨cs', hc⟩ := tord_row h.ord e
    rw [hq] at hc
    injection hc with hc
    injection hc with _ hc
    exact absurd hc (by decide)
theorem setRow_new {B g : Nat} (h : Below B w w') (hg : B ≤ g) (cs : Array Value) : Below B w (w'.setRow g cs) :=
  ⟨h.os, h.tape, h.output, by simpa [World.setRow] using h.size, fun k hk => (setRow_other _ _ _ _ (by omega)).trans (h.block k hk)⟩
theorem tset_new {g : Nat} (h : TOff S w w') (hg : w.heap.size ≤ g) (cs : Array Value) : TOff S w (w'.setRow g cs) :=
  ⟨h.os, h.tape, h.output, by simpa [World.setRow] using Off.size h, fun k hk hn => (setRow_other _ _ _ _ (by omega)).trans (Off.block h k hk hn)⟩
/-- what add leaves -/
def TAddR (w : World) (S : Nat → Prop) (b r m : Nat) (X : List Sx) (y : Sx) (e : Ending) (w' : World) : Prop :=
  (X.length = r ∧ Sr.after y.s (Sr.bst false (X.map Sx.s)) = false ∧ e = .returned (.tuple #[outV none 0 0 false false 0, .int .i64 18]) ∧ Below w.heap.size w w') ∨
  (∃ X' ev old, ((X.length ≠ r ∧ ev = false ∧ old = 0 ∧ X' = X ++ [y]) ∨ (X.length = r ∧ Sr.after y.s (Sr.bst false (X.map Sx.s)) = true ∧ ev = true ∧ old = Sr.bst false (X.map Sx.s) ∧ X' = (X.filter fun x => x.s != Sr.bst false (X.map Sx.s)) ++ [y])) ∧
    e = .returned (.tuple #[outV none 0 0 false ev old, .int .i64 0]) ∧ TOff S w w' ∧ ∃ A' cp', TblAt w' (fun q => S q ∨ w.heap.size ≤ q) b r m A' X'.length cp' X')
set_option maxHeartbeats 8000000 in
theorem tadd_any (h : TblAt w S b r m A n cp X) {y : Sx} (hy : y.At w) (hk : ∀ x ∈ X, x.s ≠ y.s) (hSy : S y.m) (hym : y.m ≠ m) (hyX : ∀ x ∈ X, x.m ≠ y.m) :
    Calls Try.prog 35 #[.pointer (some ⟨b, 0, none⟩), .int .u32 y.s, .pointer (some ⟨y.b, 0, none⟩)] w (TAddR w S b r m X y) := by
  obtain ⟨i0, hi0, hz0, hz1, hz2⟩ := info_parts wu32Info
  have hyw : 0 ≤ y.s ∧ y.s ≤ 4294967295 := SlotAt.word hy
  have hlen := h.len
  have hlt := h.lt
  obtain ⟨w0, hw0⟩ : ∃ w0, (w.alloc (.cells (outC none 0 0 false false 0) 39)).alloc (.cells (outC none 0 0 false false 0) 39) = w0 := ⟨_, rfl⟩
  have hs0 : w0.heap.size = w.heap.size + 2 := by rw [← hw0]; simp
  have hb0 : Below w.heap.size w w0 := by rw [← hw0]; exact ((Below.refl _ w).alloc (Nat.le_refl _) _).alloc (by simp) _
  have hR0 : w0.heap[w.heap.size]? = some (.cells (outC none 0 0 false false 0) 39 (0, 0)) := by rw [← hw0]; exact (Below.heap_alloc _ _ _ (by simp)).trans (World.alloc_heap_new _ _)
  have hO0 : w0.heap[w.heap.size + 1]? = some (.cells (outC none 0 0 false false 0) 39 (0, 0)) := by
    have := World.alloc_heap_new (w.alloc (.cells (outC none 0 0 false false 0) 39)) (.cells (outC none 0 0 false false 0) 39)
    rw [World.size_alloc, hw0] at this
    exact this
  have KL := fun d => tlen_any (h.below (below_drewN hb0 d))
  have c0 := (h.below hb0).cells.1
  have HT := Lib.hid h
  have HW0 := Lib.hid hw0
  have HKL := Lib.hid KL
  clear KL hw0 h
  generalize hG : TAddR w S b r m X y = G
  have HG := Lib.hid hG
  clear hG
  unfold outC at HW0
  go_enter Try.func35, Try.ntmps35
  go_wp2_with fail
  rw [HW0.out]
  have hR1 : ∀ nq, (w0.drewN nq).heap[w.heap.size]? = some (.cells (outC none 0 0 false false 0) 39 (0, 0)) := fun _ => hR0
  have hO1 : ∀ nq, (w0.drewN nq).heap[w.heap.size + 1]? = some (.cells (outC none 0 0 false false 0) 39 (0, 0)) := fun _ => hO0
  have hs1 : ∀ nq, w.heap.size + 2 ≤ (w0.drewN nq).heap.size := fun _ => Nat.le_of_eq hs0.symm
  have hb1 : ∀ nq, Below w.heap.size w (w0.drewN nq) := fun nq => below_drewN hb0 nq
  clear hR0 hO0 hs0 hb0
  have hn16 : n ≤ 16 := by have := HT.out.few; have := HT.out.room; omega
  by_cases hfull : n = r
  · have hnr : ((n : Int) == (r : Int)) = true := by rw [beq_iff_eq]; omega
    have HF := Lib.hid hfull
    have hrn : r ≤ n := by omega
    clear hfull
    go_quiet ((go_at_call 50; exact squiet_of (HKL.out _)))
    replace hR1 := hR1 nq
    replace hO1 := hO1 nq
    replace hs1 := hs1 nq
    replace hb1 := hb1 nq
    generalize w0.drewN nq = W1 at hR1 hO1 hs1 hb1 ⊢
    have hT1 := HT.out.below hb1
    obtain ⟨c0, c1, c2⟩ := hT1.cells
    have hU : Sr.U (X.map Sx.s) := fun z hz => by
      obtain ⟨x, hx, rfl⟩ := List.mem_map.1 hz
      have := HT.out.keys.2 x hx
      omega
    have KO := oldest_any n cp A (X.map Sx.s) W1 (by rw [List.length_map]; exact hlen) (by omega) hU hT1.room_ge hT1.nums
    have hold := Sr.bst_U (nw := false) hU
    have hn0 : decide (0 < n) = true := by rw [decide_eq_true_eq]; have := HT.out.room; omega
    rw [hn0] at KO
    obtain ⟨old, hold'⟩ : ∃ old, Sr.bst false (X.map Sx.s) = old := ⟨_, rfl⟩
    rw [hold'] at KO hold
    have HOLD := Lib.hid hold'
    have HT1 := Lib.hid hT1
    have HKO := Lib.hid KO
    have HU := Lib.hid hU
    clear KO hT1 hold' hU
    go_wp2_with fail
    refine HKO.out.mono ?_
    rintro e W2 ⟨rfl, hb2⟩
    have hb02 := hb1.trans (hb2.mono (by omega))
    have hR2 : W2.heap[w.heap.size]? = some (.cells (outC none 0 0 false false 0) 39 (0, 0)) := (hb2.block _ (by omega)).trans hR1
    have hO2 : W2.heap[w.heap.size + 1]? = some (.cells (outC none 0 0 false false 0) 39 (0, 0)) := (hb2.block _ (by omega)).trans hO1
    have KA := after_any y.s old W2 (by omega) (by omega)
    have hs2 : w.heap.size + 2 ≤ W2.heap.size := by have := hb2.size; omega
    have HB2 := Lib.hid hb02
    have HR2 := Lib.hid hR2
    have HO2 := Lib.hid hO2
    clear hb1 hb2 hb02 hR1 hO1 hR2 hO2 HT1 HKO c0 c1 c2
    cases haf : Sr.after y.s old with
    | false =>
      rw [haf] at KA
      have HFIN : Hid (G (.returned (.tuple #[.agg (outC none 0 0 false false 0), .int .i64 18])) (W2.setRow w.heap.size (outC none 0 0 false false 0))) := by
        rw [← HG.out]
        refine .inl ⟨by rw [hlen]; exact HF.out, by rw [HOLD.out]; exact haf, rfl, ?_⟩
        exact setRow_new HB2.out (Nat.le_refl _) _
      clear HB2 haf
      go_wp2_with fail
      refine KA.mono ?_
      rintro e W3 ⟨rfl, rfl⟩
      rename World => W3
      go_wp2_with (refine wpList_store_row rfl 39 (.tmp 6) (.tmp 30) rfl w.heap.size (outC none 0 0 false false 0) rfl rfl 39 _ HR2.out outInfo rfl (out_one ..) ?_)
      refine bodyPost_ret (results_row_tmp (P := Try.prog) (fn := Try.f35) rfl _ _ w.heap.size 39 (outC none 0 0 false false 0) _ (by rfl) (setRow_heap _ _ _ _ _ _ HR2.out) Try.underlying39 (by rfl) outInfo) rfl ?_
      exact HFIN.out
    | true =>
      rw [haf] at KA
      have hT2 := HT.out.below HB2.out
      have KD := tdrop_any hT2 (z := old) (by omega)
      have HKD := Lib.hid KD
      have HT2 := Lib.hid hT2
      clear KD hT2
      go_wp2_with fail
      refine KA.mono ?_
      rintro e W3 ⟨rfl, rfl⟩
      rename World => W3
      go_wp2_with fail
      refine HKD.out.mono ?_
      rintro e W4 (⟨hno, _, _⟩ | ⟨_, rfl, hoff4, hT4⟩)
      · exfalso
        have hne : (X.map Sx.ms) ≠ [] := by
          intro e
          have h1 := congrArg List.length e
          rw [List.length_map, hlen, List.length_nil] at h1
          have := HT.out.room
          omega
        obtain ⟨y', hy', hs'⟩ := Tb.old_mem hne
        obtain ⟨x, hx, rfl⟩ := List.mem_map.1 hy'
        refine hno x hx (hs'.trans ?_)
        unfold Tb.old
        rw [nums_ms]
        exact HOLD.out
      have hmem : ∀ q, (q = b ∨ q = m ∨ (Value.slice A n cp).ownBlock = some q) → q < w.heap.size := fun q hq => by
        rcases hq with e | e | e
        · rw [e]; exact hlt
        · rw [e]; exact HT.out.map.lt
        · exact (HT.out.ord.lt q e).2
      have hR4 : W4.heap[w.heap.size]? = some (.cells (outC none 0 0 false false 0) 39 (0, 0)) := (Off.block hoff4 _ (by omega) fun hq => by have := hmem _ hq.1; omega).trans HR2.out
      have hO4 : W4.heap[w.heap.size + 1]? = some (.cells (outC none 0 0 false false 0) 39 (0, 0)) := (Off.block hoff4 _ (by omega) fun hq => by have := hmem _ hq.1; omega).trans HO2.out
      obtain ⟨W5, hW5⟩ : ∃ W5, W4.setRow (w.heap.size + 1) (outC none 0 0 false true old) = W5 := ⟨_, rfl⟩
      have hof5 : Off (fun p => p = w.heap.size + 1) W4 W5 := by rw [← hW5]; exact (Off.refl (fun p => p = w.heap.size + 1) W4).setRow rfl _
      have hT5 : TblAt W5 S b r m A (n - 1) cp (X.filter fun x => x.s != old) := hT4.other hO4 ⟨by decide, by decide, by decide, by decide⟩ hof5
      have hR5' : W5.heap[w.heap.size]? = some (.cells (outC none 0 0 false false 0) 39 (0, 0)) := (hof5.block _ (Array.getElem?_eq_some_iff.1 hR4).1 (by omega)).trans hR4
      have hO5' : W5.heap[w.heap.size + 1]? = some (.cells (outC none 0 0 false true old) 39 (0, 0)) := by rw [← hW5]; exact setRow_heap _ _ _ _ _ _ hO4
      have hSo : ∀ q, q < w.heap.size → (q = b ∨ q = m ∨ (Value.slice A n cp).ownBlock = some q) → S q := fun q _ hq => by
        rcases hq with e | e | e
        · rw [e]; exact HT.out.inS.1
        · rw [e]; exact HT.out.inS.2.1
        · exact HT.out.inS.2.2.1 q e
      have hoff05 : TOff S w W5 := by
        have h4 : TOff S w W4 := (TOff.of_below HB2.out).trans hoff4 hSo
        rw [← hW5]
        exact tset_new h4 (by omega) _
      have hy4 : y.At W4 := by
        refine (hy.below HB2.out).toff hoff4 fun e => ?_
        have hym' := (SlotAt.map hy)
        rcases e with e | e | e
        · exact hym'.not_cells _ _ _ (by rw [e]; exact HT.out.row)
        · exact hym e
        · obtain ⟨cs, hc⟩ := tord_row HT.out.ord e
          exact hym'.not_cells _ _ _ hc
      have hy5 : y.At W5 := by
        refine SlotAt.off hy4 hof5 (fun e => ?_) (fun e => ?_) (fun g cs hg e => ?_)
        · have := SlotAt.row hy4
          rw [e, hO4] at this
          injection this with this
          injection this with _ this
          exact absurd this (by decide)
        · exact (SlotAt.map hy4).not_cells _ _ _ (by rw [e]; exact hO4)
        · rw [e, hO4] at hg
          injection hg with hg
          injection hg with _ hg
          exact absurd hg (by decide)
      have hk5 : ∀ x ∈ (X.filter fun x => x.s != old), x.s ≠ y.s := fun x hx => hk x (List.mem_filter.1 hx).1
      have hyX5 : ∀ x ∈ (X.filter fun x => x.s != old), x.m ≠ y.m := fun x hx => hyX x (List.mem_filter.1 hx).1
      have hlen5 := hT5.len
      have hszW5 : w.heap.size + 2 ≤ W5.heap.size := by have := (Array.getElem?_eq_some_iff.1 hO5').1; omega
      have HOF := Lib.hid hoff05
      have HAF := Lib.hid haf
      have HW5 := Lib.hid hW5
      have HO4 := Lib.hid hO4
      obtain ⟨X5, hX5⟩ : ∃ X5, (X.filter fun x => x.s != old) = X5 := ⟨_, rfl⟩
      rw [hX5] at hT5 hk5 hyX5 hlen5
      have HX5 := Lib.hid hX5
      obtain ⟨n5, hn5⟩ : ∃ n5, n - 1 = n5 := ⟨_, rfl⟩
      rw [hn5] at hT5 hlen5
      have hn5r : n5 < r := by have := HT.out.room; have := HF.out; omega
      have hn516 : n5 ≤ 16 := by omega
      clear hoff4 hy4 hT4 hR4 hO4 hW5 hof5 hoff05 haf hX5 hn5 hmem hSo HKD HT2 HR2 HO2 HB2
      have HW5S := Lib.hid (show (W4.setRow (w.heap.size + 1) (outC none 0 0 false true old)).heap.size = W4.heap.size by simp [World.setRow])
      have e5 := HW5.out
      subst e5
      clear HW5
      obtain ⟨c0, c1, c2⟩ := hT5.cells
      have f1 := hT5.thaw 1
      have HOW := Lib.hid (hT5.ord.alloc (.cells #[.int .u32 y.s] 22))
      have HX1 : Hid (n5 + 1 ≤ maxLen) := by show _ ≤ _; unfold maxLen; omega
      have HX2 : Hid ((n5 + 1) * 4 ≤ 140737488355328) := by show _ ≤ _; omega
      have HX3 : Hid (0 ≤ ((W4.setRow (w.heap.size + 1) (outC none 0 0 false true old)).alloc (.cells #[.int .u32 y.s] 22)).heap.size) := Nat.zero_le _
      have HNW : Hid (∀ (j : Nat) (u : Value), [Value.int .u32 y.s][j]? = some u → ((W4.setRow (w.heap.size + 1) (outC none 0 0 false true old)).alloc (.cells #[.int .u32 y.s] 22)).cell? ((⟨W4.heap.size, 0, none⟩ : Addr).add j) = some u) := by
        rw [← HW5S.out]
        exact cell_one_new _ _ _
      have HTT := Lib.hid hT5
      have HR1 := Lib.hid hR5'
      have HO1 := Lib.hid hO5'
      have HYY := Lib.hid hy5
      clear hT5 hR5' hO5' hy5
      go_wp2_with (first | (refine wpList_store_row rfl 39 (.tmp 8) (.tmp 35) rfl (w.heap.size + 1) (outC none 0 0 false true old) rfl rfl 39 _ HO4.out outInfo rfl (out_one ..) ?_) | (at_builtin; refine wpList_append_own_at _ rfl (.tmp 40) (.tmp 42) 30 rfl 0 22 i0 (.int .u32 0) 1 4 Try.underlying30 hi0 hz0 hz1 hz2 rfl (by decide) _ _ _ rfl HOW.out ⟨W4.heap.size, 0, none⟩ 1 1 [.int .u32 y.s] rfl rfl HNW.out (by simp [Value.oneCell']) HX1.out HX2.out HX3.out ?_))
      intro v3 w3 hown hg hnil hat
      obtain ⟨g3, cp3, rfl⟩ := ownsRow_succ hown
      have ho3 := grown_off3 hg
      have hapart := HTT.out.apart
      have hr3 : w3.heap[b]? = some (.cells #[.int .i64 (r : Int), .slice A n5 cp, .map (some m)] 75 (0, 0)) := (ho3.block b HTT.out.lt fun e => (hapart.2.1 b e).1 rfl).trans HTT.out.row
      have d1 : w3.cell? ⟨b, 1, none⟩ = some (.slice A n5 cp) := by simp [World.cell?, hr3]
      have d2 : w3.cell? ⟨b, 2, none⟩ = some (.map (some m)) := by simp [World.cell?, hr3]
      have f3 : w3.frozen? ⟨b, 1, none⟩ = false := by simp [World.frozen?, hr3]
      have hm3 : TMapAt (w3.setCell ⟨b, 1, none⟩ (.slice (some ⟨g3, 0, none⟩) (n5 + 1) cp3)) m (X5.map Sx.key) := (HTT.out.map.off ho3 fun e => (hapart.2.1 m e).2 rfl).off ((Off.refl (fun q => q = b) w3).setCell (p := ⟨b, 1, none⟩) rfl _) (Ne.symm hapart.1)
      obtain ⟨w5, hupd, hmap5, ho5, hs5⟩ := hm3.run_upd Try.underlying73 Try.underlying22 hyw y.b (te_none hk5)
      obtain ⟨hoff5, hT5⟩ := HTT.out.added (by omega) HYY.out hk5 hSy hym hyX5 (by rw [List.map_map]; exact hown) hg (by rw [HW5S.out]; exact hat) hmap5 ho5
      have hR5 : w5.heap[w.heap.size]? = some (.cells (outC none 0 0 false false 0) 39 (0, 0)) := out_stays HTT.out HR1.out ho3 ho5
      have hO5 : w5.heap[w.heap.size + 1]? = some (.cells (outC none 0 0 false true old) 39 (0, 0)) := out_stays HTT.out HO1.out ho3 ho5
      have HFIN : Hid (G (.returned (.tuple #[.agg (outC none 0 0 false true old), .int .i64 0])) (w5.setRow w.heap.size (outC none 0 0 false true old))) := by
        rw [← HG.out]
        refine .inr ⟨X5 ++ [y], true, old, .inr ⟨by rw [hlen]; exact HF.out, by rw [HOLD.out]; exact HAF.out, rfl, HOLD.out.symm, by rw [HOLD.out, HX5.out]⟩, rfl, ?_, some ⟨g3, 0, none⟩, cp3, ?_⟩
        · exact tset_new (TOff.trans HOF.out hoff5 fun _ _ h => h) (Nat.le_refl _) _
        · rw [List.length_append, hlen5]
          refine (hT5.other hR5 ⟨by decide, by decide, by decide, by decide⟩ ((Off.refl (fun p => p = w.heap.size) w5).setRow rfl _)).mono fun q hq => ?_
          exact hq.imp id fun h => by omega
      have HR5 := Lib.hid hR5
      have HO5 := Lib.hid hO5
      clear hown hg hnil hat ho3 hapart hr3 hm3 hmap5 ho5 hs5 hoff5 hT5 hR5 hO5 HTT HYY HR1 HO1 HOW c0 c1 c2 f1
      go_wp2_with (first
        | (refine wpList_load_row rfl 39 (.tmp 8) rfl (w.heap.size + 1) rfl 39 (outC none 0 0 false true old) (0, 0) _ HO5.out Try.underlying39 rfl outInfo ?_)
        | (refine wpList_store_row rfl 39 (.tmp 6) (.tmp 52) rfl w.heap.size (outC none 0 0 false true old) rfl rfl 39 _ HR5.out outInfo rfl (out_one ..) ?_))
      refine bodyPost_ret (results_row_tmp (P := Try.prog) (fn := Try.f35) rfl _ _ w.heap.size 39 (outC none 0 0 false true old) _ (by rfl) (setRow_heap _ _ _ _ _ _ HR5.out) Try.underlying39 (by rfl) outInfo) rfl ?_
      exact HFIN.out
  · have hnr : ((n : Int) == (r : Int)) = false := by rw [beq_eq_false_iff_ne]; omega
    go_quiet ((go_at_call 50; exact squiet_of (HKL.out _)))
    replace hR1 := hR1 nq
    replace hO1 := hO1 nq
    replace hs1 := hs1 nq
    replace hb1 := hb1 nq
    generalize w0.drewN nq = W1 at hR1 hO1 hs1 hb1 ⊢
    have hT1 := HT.out.below hb1
    have hy1 := hy.below hb1
    have hnlt : n < r := by have := HT.out.few; omega
    have HB1 := Lib.hid hb1
    clear hb1
    obtain ⟨c0, c1, c2⟩ := hT1.cells
    have f1 := hT1.thaw 1
    have HOW := Lib.hid (hT1.ord.alloc (.cells #[.int .u32 y.s] 22))
    have HX1 : Hid (n + 1 ≤ maxLen) := by show _ ≤ _; unfold maxLen; omega
    have HX2 : Hid ((n + 1) * 4 ≤ 140737488355328) := by show _ ≤ _; omega
    have HX3 : Hid (0 ≤ (W1.alloc (.cells #[.int .u32 y.s] 22)).heap.size) := Nat.zero_le _
    have HNW : Hid (∀ (j : Nat) (u : Value), [Value.int .u32 y.s][j]? = some u → (W1.alloc (.cells #[.int .u32 y.s] 22)).cell? ((⟨W1.heap.size, 0, none⟩ : Addr).add j) = some u) := by
      exact cell_one_new _ _ _
    have HTT := Lib.hid hT1
    have HR1 := Lib.hid hR1
    have HO1 := Lib.hid hO1
    have HYY := Lib.hid hy1
    clear hT1 hR1 hO1 hy1
    go_wp2_with (first | (at_builtin; refine wpList_append_own_at _ rfl (.tmp 40) (.tmp 42) 30 rfl 0 22 i0 (.int .u32 0) 1 4 Try.underlying30 hi0 hz0 hz1 hz2 rfl (by decide) _ _ _ rfl HOW.out ⟨W1.heap.size, 0, none⟩ 1 1 [.int .u32 y.s] rfl rfl HNW.out (by simp [Value.oneCell']) HX1.out HX2.out HX3.out ?_))
    intro v3 w3 hown hg hnil hat
    obtain ⟨g3, cp3, rfl⟩ := ownsRow_succ hown
    have ho3 := grown_off3 hg
    have hapart := HTT.out.apart
    have hr3 : w3.heap[b]? = some (.cells #[.int .i64 (r : Int), .slice A n cp, .map (some m)] 75 (0, 0)) := (ho3.block b HTT.out.lt fun e => (hapart.2.1 b e).1 rfl).trans HTT.out.row
    have d1 : w3.cell? ⟨b, 1, none⟩ = some (.slice A n cp) := by simp [World.cell?, hr3]
    have d2 : w3.cell? ⟨b, 2, none⟩ = some (.map (some m)) := by simp [World.cell?, hr3]
    have f3 : w3.frozen? ⟨b, 1, none⟩ = false := by simp [World.frozen?, hr3]
    have hm3 : TMapAt (w3.setCell ⟨b, 1, none⟩ (.slice (some ⟨g3, 0, none⟩) (n + 1) cp3)) m (X.map Sx.key) := (HTT.out.map.off ho3 fun e => (hapart.2.1 m e).2 rfl).off ((Off.refl (fun q => q = b) w3).setCell (p := ⟨b, 1, none⟩) rfl _) (Ne.symm hapart.1)
    obtain ⟨w5, hupd, hmap5, ho5, hs5⟩ := hm3.run_upd Try.underlying73 Try.underlying22 hyw y.b (te_none hk)
    obtain ⟨hoff5, hT5⟩ := HTT.out.added (by omega) HYY.out hk hSy hym hyX (by rw [List.map_map]; exact hown) hg (hat) hmap5 ho5
    have hR5 : w5.heap[w.heap.size]? = some (.cells (outC none 0 0 false false 0) 39 (0, 0)) := out_stays HTT.out HR1.out ho3 ho5
    have hO5 : w5.heap[w.heap.size + 1]? = some (.cells (outC none 0 0 false false 0) 39 (0, 0)) := out_stays HTT.out HO1.out ho3 ho5
    have HFIN : Hid (G (.returned (.tuple #[.agg (outC none 0 0 false false 0), .int .i64 0])) (w5.setRow w.heap.size (outC none 0 0 false false 0))) := by
      rw [← HG.out]
      refine .inr ⟨X ++ [y], false, 0, .inl ⟨by rw [hlen]; exact hfull, rfl, rfl, rfl⟩, rfl, ?_, some ⟨g3, 0, none⟩, cp3, ?_⟩
      · exact tset_new (TOff.trans (TOff.of_below HB1.out) hoff5 fun _ _ h => h) (Nat.le_refl _) _
      · rw [List.length_append, hlen]
        refine (hT5.other hR5 ⟨by decide, by decide, by decide, by decide⟩ ((Off.refl (fun p => p = w.heap.size) w5).setRow rfl _)).mono fun q hq => ?_
        exact hq.imp id fun h => by omega
    have HR5 := Lib.hid hR5
    have HO5 := Lib.hid hO5
    clear hown hg hnil hat ho3 hapart hr3 hm3 hmap5 ho5 hs5 hoff5 hT5 hR5 hO5 HTT HYY HR1 HO1 HOW c0 c1 c2 f1
    go_wp2_with (first
      | (refine wpList_load_row rfl 39 (.tmp 8) rfl (w.heap.size + 1) rfl 39 (outC none 0 0 false false 0) (0, 0) _ HO5.out Try.underlying39 rfl outInfo ?_)
      | (refine wpList_store_row rfl 39 (.tmp 6) (.tmp 52) rfl w.heap.size (outC none 0 0 false false 0) rfl rfl 39 _ HR5.out outInfo rfl (out_one ..) ?_))
    refine bodyPost_ret (results_row_tmp (P := Try.prog) (fn := Try.f35) rfl _ _ w.heap.size 39 (outC none 0 0 false false 0) _ (by rfl) (setRow_heap _ _ _ _ _ _ HR5.out) Try.underlying39 (by rfl) outInfo) rfl ?_
    exact HFIN.out
end
end Go.Proofs.Ytfdbcfkjablnkaa

namespace Go.Proofs.Ytfdbcfkjablnkaa
open Go.RowKit
set_option maxRecDepth 100000

theorem slot_look {w : World} {b m : Nat} {v k s c : Int} {E : List Pl} (h : SlotAt w b m v k s c E) (i : Nat) (hi : i ≤ 255) :
    ∃ A n cp, (Instr.lookup 96 (.map (some m)) (.int .i64 (i : Int)) false).run Try.prog w = .ok (.slice A n cp) w ∧ (Sl.at' (E.map Pl.ct) i).length = n ∧ Nums .u8 w w.heap.size A (Sl.at' (E.map Pl.ct) i) := by
  have hz : (zeroValue 33).run Try.prog w = .ok (.slice none 0 0) w := by kernel_rfl
  have hlook := h.map.run_look (P := Try.prog) (t := 96) false Try.underlying96 Try.underlying3 hz (i := i) (by omega)
  have hct := Pl.at_ct h.map.keys.1 i
  cases hp : Pl.at E i with
  | none =>
    rw [hp] at hlook hct
    exact ⟨none, 0, 0, hlook, by rw [hct]; rfl, by rw [hct]; exact Nums.nil⟩
  | some p =>
    rw [hp] at hlook hct
    have hm := (Pl.at_mem hp).1
    exact ⟨p.a, p.zs.length, p.cp, hlook, by rw [hct]; rfl, by rw [hct]; exact (h.pays p hm).nums⟩
/-- what Bytes answers -/
def BytesR (w : World) (c : Int) (E : List Pl) (e : Ending) (w' : World) : Prop :=
  Below w.heap.size w w' ∧ (((E.length : Int) ≠ c ∧ e = .returned (.tuple #[.slice none 0 0, .bool false])) ∨
    ((E.length : Int) = c ∧ ∃ A cp, e = .returned (.tuple #[.slice A (Sl.cat (E.map Pl.ct) E.length).length cp, .bool true]) ∧ (Sl.cat (E.map Pl.ct) E.length).length ≤ cp ∧ Nums .u8 w' w'.heap.size A (Sl.cat (E.map Pl.ct) E.length)))
/-- .. in memory of its own -/
def BytesM (w : World) (c : Int) (E : List Pl) (e : Ending) (w' : World) : Prop :=
  Below w.heap.size w w' ∧ (((E.length : Int) ≠ c ∧ e = .returned (.tuple #[.slice none 0 0, .bool false])) ∨
    ((E.length : Int) = c ∧ ∃ A cp, e = .returned (.tuple #[.slice A (Sl.cat (E.map Pl.ct) E.length).length cp, .bool true]) ∧ (Sl.cat (E.map Pl.ct) E.length).length ≤ cp ∧ MadeK 5 .u8 w w' (Sl.cat (E.map Pl.ct) E.length) (.slice A (Sl.cat (E.map Pl.ct) E.length).length cp)))
set_option maxHeartbeats 8000000 in
theorem sbytes_new {w : World} {b m : Nat} {v k s c : Int} {E : List Pl} (h : SlotAt w b m v k s c E) :
    Calls Try.prog 53 #[.pointer (some ⟨b, 0, none⟩)] w (BytesM w c E) := by
  obtain ⟨i0, hi, hz0, hz1, hz2⟩ := info_parts byteInfo
  have K := sfull_any h
  obtain ⟨n, rfl, n1, n2, hEn, _⟩ := h.count
  have hmost := h.most
  have HS := Lib.hid h
  clear h
  generalize hG : BytesM w (n : Int) E = G
  have HG := Lib.hid hG
  clear hG
  by_cases hf : E.length = n
  · have e1 : ((E.length : Int) == (n : Int)) = true := by rw [hf]; simp
    rw [e1] at K
    have HF := Lib.hid hf
    clear hf e1 hEn
    go_enter Try.func53, Try.ntmps53
    go_wp2_with fail
    refine K.mono ?_
    rintro e w1 ⟨rfl, d, rfl⟩
    have hb1 : Below w.heap.size w (w.drewN d) := below_drewN (Below.refl _ _) d
    have HB1 := Lib.hid hb1
    obtain ⟨c0, c1, c2, c3, c4, c5⟩ := (HS.out.below hb1).cells
    generalize w.drewN d = w1 at *
    clear K hb1
    go_wp2
    go_loopw [4, 14] (fun u i wr => ∃ j : Nat, j ≤ n ∧ i = .int .i64 (j : Int) ∧ Hid (MadeK 5 .u8 w wr (Sl.cat (E.map Pl.ct) j) u)) (fun _ i _ => n - (intOf i).toNat)
    case atStart => exact ⟨0, by omega, rfl, MadeK.nil _ _ HB1.out⟩
    case round =>
      obtain ⟨j, hj, rfl, HM⟩ := hrel
      have hsl := HS.out.below HM.out.2
      obtain ⟨d0, d1, d2, d3, d4, d5⟩ := hsl.cells
      by_cases hjn : j < n
      · obtain ⟨A, q, cp, hlook, hq, hnum⟩ := slot_look hsl j (by omega)
        have hql := Sl.at_len (E.map Pl.ct) j
        have hcl := Sl.cat_len (E.map Pl.ct) j
        have hcb : (Sl.cat (E.map Pl.ct) j).length ≤ 48960 := by
          have : j * Sl.tot (E.map Pl.ct) ≤ 255 * 192 := Nat.mul_le_mul (by omega) hmost
          omega
        have HQ := Lib.hid hq
        have HNM := Lib.hid hnum
        have hX1 : (Sl.cat (E.map Pl.ct) j).length + q ≤ maxLen := by unfold maxLen; omega
        have hX2 : ((Sl.cat (E.map Pl.ct) j).length + q) * 1 ≤ 140737488355328 := by omega
        have HX1 := Lib.hid hX1
        have HX2 := Lib.hid hX2
        have hbs := HM.out.2.size
        clear hsl hq hnum hX1 hX2 hql hcl hcb
        go_wp2_with (at_builtin; refine wpList_append_any rfl (.tmp 17) (.tmp 23) 33 rfl w.heap.size 5 i0 (.int .u8 0) 1 Try.underlying33 hi hz0 hz1 hz2 rfl .u8 (Sl.cat (E.map Pl.ct) j) (Sl.at' (E.map Pl.ct) j) _ rfl HM.out.1 A q cp _ rfl HQ.out HNM.out HX1.out HX2.out hbs ?_)
        intro v2 w2 hown hg
        have HM2 : Hid (MadeK 5 .u8 w w2 (Sl.cat (E.map Pl.ct) (j + 1)) v2) := by rw [Sl.cat_succ]; exact HM.out.more hown hg
        clear hown hg
        go_wp2
        go_roundw
        case rel => exact ⟨j + 1, by omega, by go_num, HM2⟩
        case measure => simp [intOf]; omega
      · have hjn' : j = n := by omega
        subst hjn'
        have hbs := HM.out.2
        obtain ⟨A, cp, hv, hcp, _⟩ := HM.out.slice
        subst hv
        have HFIN : Hid (G (.returned (.tuple #[.slice A (Sl.cat (E.map Pl.ct) E.length).length cp, .bool true])) wr) := by
          rw [← HG.out]
          exact ⟨hbs, .inr ⟨by rw [HF.out], A, cp, rfl, by rw [HF.out]; exact hcp, by rw [HF.out]; exact HM.out⟩⟩
        rw [HF.out] at HFIN
        clear hsl hbs hcp HM
        go_wp2
        exact HFIN.out
  · have e1 : ((E.length : Int) == (n : Int)) = false := by simp; omega
    rw [e1] at K
    have HF := Lib.hid hf
    clear hf e1 hEn
    go_enter Try.func53, Try.ntmps53
    go_wp2_with fail
    refine K.mono ?_
    rintro e w1 ⟨rfl, d, rfl⟩
    have HFIN : Hid (G (.returned (.tuple #[.slice none 0 0, .bool false])) (w.drewN d)) := by
      rw [← HG.out]
      exact ⟨below_drewN (Below.refl _ _) d, .inl ⟨by have := HF.out; omega, rfl⟩⟩
    clear K
    go_wp2
    exact HFIN.out
theorem sbytes_any {w : World} {b m : Nat} {v k s c : Int} {E : List Pl} (h : SlotAt w b m v k s c E) :
    Calls Try.prog 53 #[.pointer (some ⟨b, 0, none⟩)] w (BytesR w c E) :=
  (sbytes_new h).mono fun e w' ⟨hb, hor⟩ => ⟨hb, hor.imp (fun h => h) fun ⟨h1, A, cp, h2, h3, h4⟩ => ⟨h1, A, cp, h2, h3, by
    obtain ⟨A', cp', e', _, hn⟩ := h4.slice
    injection e' with e'
    rw [e']
    exact hn⟩⟩
end Go.Proofs.Ytfdbcfkjablnkaa

namespace Go.Proofs.Ytfdbcfkjablnkaa
open Go.RowKit Go.Shelf
set_option maxRecDepth 100000

section
variable {w w' : World} {S S' : Nat → Prop} {b r m n cp : Nat} {A : Option Addr} {X : List Sx}
/-- what came leaves -/
def TCameR (w : World) (S : Nat → Prop) (b r m : Nat) (A : Option Addr) (n cp : Nat) (X : List Sx) (x : Sx) (ev : Bool) (old : Int) (e : Ending) (w' : World) : Prop :=
  ((x.E.length : Int) ≠ x.c ∧ e = .returned (outV none 0 0 false ev old) ∧ Below w.heap.size w w') ∨
  ((x.E.length : Int) = x.c ∧ ∃ A2 c2, e = .returned (outV A2 (Sl.cat (x.E.map Pl.ct) x.E.length).length c2 true ev old) ∧ (Sl.cat (x.E.map Pl.ct) x.E.length).length ≤ c2 ∧
    NumsS .u8 w' (fun g => w.heap.size ≤ g ∧ g < w'.heap.size) A2 (Sl.cat (x.E.map Pl.ct) x.E.length) ∧ TOff S w w' ∧ TblAt w' S b r m A (n - 1) cp (X.filter fun y => y.s != x.s))
theorem two_boxes48 {w w1 : World} {c1 c2 : Array Value} {t : TypeId} (hw : (w.alloc (.cells c1 t)).alloc (.cells c2 t) = w1) :
    Below w.heap.size w w1 ∧ w.heap.size + 2 ≤ w1.heap.size ∧ w1.heap[w.heap.size]? = some (.cells c1 t (0, 0)) ∧ w1.heap[w.heap.size + 1]? = some (.cells c2 t (0, 0)) := by
  subst hw
  refine ⟨((Below.refl _ w).alloc (Nat.le_refl _) _).alloc (by simp) _, by simp, (Below.heap_alloc _ _ _ (by simp)).trans (World.alloc_heap_new _ _), ?_⟩
  have := World.alloc_heap_new (w.alloc (.cells c1 t)) (.cells c2 t)
  rw [World.size_alloc] at this
  exact this
set_option maxHeartbeats 8000000 in
theorem tcame_any (h : TblAt w S b r m A n cp X) {x : Sx} (hx : x ∈ X) (ev : Bool) (old : Int) :
    Calls Try.prog 36 #[.pointer (some ⟨b, 0, none⟩), .int .u32 x.s, outV none 0 0 false ev old] w (TCameR w S b r m A n cp X x ev old) := by
  have hxw := h.keys.2 x hx
  have hlt := h.lt
  obtain ⟨w0, hw0⟩ : ∃ w0, (w.alloc (.cells (outC none 0 0 false ev old) 39)).alloc (.cells (outC none 0 0 false false 0) 39) = w0 := ⟨_, rfl⟩
  obtain ⟨hb0, hs0, hO0, hR0⟩ := two_boxes48 hw0
  have hT0 := h.below hb0
  obtain ⟨c0, c1, c2⟩ := hT0.cells
  have hlook := hT0.look false hxw
  rw [te_of hT0 hx] at hlook
  simp only [teVal] at hlook
  have KB := sbytes_new (hT0.slots x hx)
  have HX := Lib.hid hx
  have HT0 := Lib.hid hT0
  have HB0 := Lib.hid hb0
  have HKB := Lib.hid KB
  have HXW := Lib.hid hxw
  have HM := Lib.hid h
  have hmem : ∀ q, (q = b ∨ q = m ∨ (Value.slice A n cp).ownBlock = some q) → q < w.heap.size := fun q hq => by
    rcases hq with e | e | e
    · rw [e]; exact hlt
    · rw [e]; exact h.map.lt
    · exact (h.ord.lt q e).2
  have HMEM := Lib.hid hmem
  clear hmem
  clear h hT0 KB hx hxw hb0
  subst hw0
  generalize hG : TCameR w S b r m A n cp X x ev old = G
  have HG := Lib.hid hG
  clear hG
  unfold outV
  unfold outC at c0 c1 c2 hlook HKB hs0 ⊢
  go_enter Try.func36, Try.ntmps36
  go_wp2_with fail
  refine HKB.out.mono ?_
  rintro e w2 ⟨hb2, hor⟩
  have hb02 : Below w.heap.size w w2 := HB0.out.trans (hb2.mono HB0.out.size)
  have hO2 : w2.heap[w.heap.size]? = some (.cells (outC none 0 0 false ev old) 39 (0, 0)) := (hb2.block _ (by omega)).trans hO0
  have hR2 : w2.heap[w.heap.size + 1]? = some (.cells (outC none 0 0 false false 0) 39 (0, 0)) := (hb2.block _ (by omega)).trans hR0
  have hT2 := HT0.out.below hb2
  have hs2 : w.heap.size + 2 ≤ w2.heap.size := Nat.le_trans hs0 hb2.size
  obtain ⟨e0, e1, _, _⟩ := out_block hO2
  have f0 : w2.frozen? ⟨w.heap.size, 0, none⟩ = false := by simp [World.frozen?, hO2]
  have f1 : w2.frozen? ⟨w.heap.size, 1, none⟩ = false := by simp [World.frozen?, hO2]
  have key : ∀ (u v : Value), ((w2.setCell ⟨w.heap.size, 0, none⟩ u).setCell ⟨w.heap.size, 1, none⟩ v).heap[w.heap.size]? = some (.cells #[u, v, .bool ev, .int .u32 old] 39 (0, 0)) ∧ ((w2.setCell ⟨w.heap.size, 0, none⟩ u).setCell ⟨w.heap.size, 1, none⟩ v).heap[w.heap.size + 1]? = some (.cells (outC none 0 0 false false 0) 39 (0, 0)) ∧ Off (fun q => q = w.heap.size) w2 ((w2.setCell ⟨w.heap.size, 0, none⟩ u).setCell ⟨w.heap.size, 1, none⟩ v) := fun u v => by
    have hoff : Off (fun q => q = w.heap.size) w2 ((w2.setCell ⟨w.heap.size, 0, none⟩ u).setCell ⟨w.heap.size, 1, none⟩ v) := ((Off.refl (fun q => q = w.heap.size) w2).setCell (p := ⟨w.heap.size, 0, none⟩) rfl u).setCell (p := ⟨w.heap.size, 1, none⟩) rfl v
    refine ⟨?_, (hoff.block _ (by omega) (by omega)).trans hR2, hoff⟩
    rw [setCell_at (setCell_at hO2)]
    rfl
  have HKEY := Lib.hid key
  have HO2 := Lib.hid hO2
  have HT2 := Lib.hid hT2
  have HB02 := Lib.hid hb02
  clear hb2 hb02 hO2 hR2 hT2 key hO0 hR0 hs0 HT0 HB0 HKB c0 c1 c2 hlook
  rcases hor with ⟨hne, rfl⟩ | ⟨heq, A2, cp2, rfl, hcp2, hmk⟩
  · obtain ⟨k1, k2, k3⟩ := HKEY.out (.slice none 0 0) (.bool false)
    have d1 : ((w2.setCell ⟨w.heap.size, 0, none⟩ (.slice none 0 0)).setCell ⟨w.heap.size, 1, none⟩ (.bool false)).cell? ⟨w.heap.size, 1, none⟩ = some (.bool false) := by simp only [World.cell?, k1]; rfl
    have HFIN : Hid (G (.returned (.agg (outC none 0 0 false ev old))) (((w2.setCell ⟨w.heap.size, 0, none⟩ (.slice none 0 0)).setCell ⟨w.heap.size, 1, none⟩ (.bool false)).setRow (w.heap.size + 1) (outC none 0 0 false ev old))) := by
      rw [← HG.out]
      exact .inl ⟨hne, rfl, setRow_new (HB02.out.trans (k3.below (fun q hq => by omega) (by omega))) (by omega) _⟩
    have H1 := Lib.hid k1
    have H2 := Lib.hid k2
    clear k1 k2 k3 hne HKEY HB02
    go_wp2_with (first
      | (refine wpList_load_row rfl 39 (.tmp 5) rfl w.heap.size rfl 39 (outC none 0 0 false ev old) (0, 0) _ H1.out Try.underlying39 rfl outInfo ?_)
      | (refine wpList_store_row rfl 39 (.tmp 6) (.tmp 24) rfl (w.heap.size + 1) (outC none 0 0 false ev old) rfl rfl 39 _ H2.out outInfo rfl (out_one ..) ?_))
    refine bodyPost_ret (results_cell_row (P := Try.prog) (fn := Try.f36) rfl _ _ (w.heap.size + 1) 39 (outC none 0 0 false ev old) (0, 0) _ (by rfl) (setRow_heap _ _ _ _ _ _ H2.out) Try.underlying39 (by rfl) outInfo) rfl ?_
    exact HFIN.out
  · have hnum : NumsS .u8 w2 (fun g => w.heap.size + 2 ≤ g ∧ g < w2.heap.size) A2 (Sl.cat (x.E.map Pl.ct) x.E.length) := by
      obtain ⟨A', c', e', _, hn⟩ := hmk.slice
      have hge := fun g (hg : (Value.slice A2 (Sl.cat (x.E.map Pl.ct) x.E.length).length cp2).ownBlock = some g) => (hmk.1.lt g hg)
      intro h0
      injection e' with e'
      subst e'
      obtain ⟨g, off, rfl, hlt2, hc⟩ := hn h0
      have := hge g rfl
      simp only [World.size_alloc] at this
      exact ⟨g, off, rfl, ⟨by omega, hlt2⟩, hc⟩
    obtain ⟨zs, hzs⟩ : ∃ zs, Sl.cat (x.E.map Pl.ct) x.E.length = zs := ⟨_, rfl⟩
    rw [hzs] at hnum hcp2 ⊢
    obtain ⟨q, hq⟩ : ∃ q, zs.length = q := ⟨_, rfl⟩
    rw [hq] at hcp2 ⊢
    have HQ := Lib.hid hq
    have HZ := Lib.hid hzs
    obtain ⟨k1, k2, k3⟩ := HKEY.out (.slice A2 q cp2) (.bool true)
    have d1 : ((w2.setCell ⟨w.heap.size, 0, none⟩ (.slice A2 q cp2)).setCell ⟨w.heap.size, 1, none⟩ (.bool true)).cell? ⟨w.heap.size, 1, none⟩ = some (.bool true) := by simp only [World.cell?, k1]; rfl
    have hT3 := HT2.out.other (cs := outC none 0 0 false ev old) (q := w.heap.size) (t := 39) (w' := (w2.setCell ⟨w.heap.size, 0, none⟩ (.slice A2 q cp2)).setCell ⟨w.heap.size, 1, none⟩ (.bool true)) HO2.out ⟨by decide, by decide, by decide, by decide⟩ k3
    have KD := tdrop_any hT3 HXW.out
    have HKD := Lib.hid KD
    have HN := Lib.hid hnum
    have H1 := Lib.hid k1
    have H2 := Lib.hid k2
    have H3 := Lib.hid k3
    have HEQ := Lib.hid heq
    clear KD hnum k1 k2 k3 heq hmk hT3 hq hzs
    go_wp2_with fail
    refine HKD.out.mono ?_
    rintro e w4 (⟨hno, _, _⟩ | ⟨_, rfl, hoff4, hT4⟩)
    · exact absurd rfl (hno x HX.out)
    have hO4 : w4.heap[w.heap.size]? = some (.cells (outC A2 q cp2 true ev old) 39 (0, 0)) := (Off.block hoff4 _ (by simp [World.setCell]; omega) fun hq => by have := HMEM.out _ hq.1; omega).trans H1.out
    have hR4 : w4.heap[w.heap.size + 1]? = some (.cells (outC none 0 0 false false 0) 39 (0, 0)) := (Off.block hoff4 _ (by simp [World.setCell]; omega) fun hq => by have := HMEM.out _ hq.1; omega).trans H2.out
    have HFIN : Hid (G (.returned (.agg (outC A2 q cp2 true ev old))) (w4.setRow (w.heap.size + 1) (outC A2 q cp2 true ev old))) := by
      rw [← HG.out]
      have hTO : TOff (fun q => q = b ∨ q = m ∨ (Value.slice A n cp).ownBlock = some q) w w4 := by
        refine TOff.trans (S' := fun q => q = b ∨ q = m ∨ (Value.slice A n cp).ownBlock = some q) (TOff.of_below ?_) hoff4 fun _ _ h => h
        exact HB02.out.trans (H3.out.below (fun q hq => by omega) (by omega))
      have hsz4 : w2.heap.size ≤ w4.heap.size := Nat.le_trans H3.out.size (TOff.size hoff4)
      refine .inr ⟨HEQ.out, A2, cp2, by rw [HZ.out, HQ.out]; rfl, by rw [HZ.out, HQ.out]; exact hcp2, ?_, ?_, ?_⟩
      · rw [HZ.out]
        have h24 : Off (fun q => q < w.heap.size + 2) w2 (w4.setRow (w.heap.size + 1) (outC A2 q cp2 true ev old)) := by
          have h23 : Off (fun q => q < w.heap.size + 2) w2 ((w2.setCell ⟨w.heap.size, 0, none⟩ (.slice A2 q cp2)).setCell ⟨w.heap.size, 1, none⟩ (.bool true)) := H3.out.mono fun q _ e => by omega
          exact Off.setRow (h23.trans hoff4 fun q _ hq => by have := HMEM.out _ hq.1; omega) (by omega) _
        intro h0
        obtain ⟨g, off, e, ⟨hg1, hg2⟩, hc⟩ := HN.out h0
        exact ⟨g, off, e, ⟨by omega, by simp [World.setRow]; omega⟩, fun j c hj => h24.cell (hc j c hj) (by show ¬ g < _; omega)⟩
      · refine tset_new (hTO.mono fun q _ hq => ?_) (by omega) _
        rcases hq with e | e | e
        · rw [e]; exact HM.out.inS.1
        · rw [e]; exact HM.out.inS.2.1
        · exact HM.out.inS.2.2.1 q e
      · exact hT4.other hR4 ⟨by decide, by decide, by decide, by decide⟩ ((Off.refl (fun p => p = w.heap.size + 1) w4).setRow rfl _)
    have HO4 := Lib.hid hO4
    have HR4 := Lib.hid hR4
    clear hoff4 hT4 hO4 hR4 HKD HN H1 H2 H3 HKEY HT2 HM HB02 HMEM HX HXW d1
    go_wp2_with (first
      | (refine wpList_load_row rfl 39 (.tmp 5) rfl w.heap.size rfl 39 (outC A2 q cp2 true ev old) (0, 0) _ HO4.out Try.underlying39 rfl outInfo ?_)
      | (refine wpList_store_row rfl 39 (.tmp 6) (.tmp 24) rfl (w.heap.size + 1) (outC A2 q cp2 true ev old) rfl rfl 39 _ HR4.out outInfo rfl (out_one ..) ?_))
    refine bodyPost_ret (results_cell_row (P := Try.prog) (fn := Try.f36) rfl _ _ (w.heap.size + 1) 39 (outC A2 q cp2 true ev old) (0, 0) _ (by rfl) (setRow_heap _ _ _ _ _ _ HR4.out) Try.underlying39 (by rfl) outInfo) rfl ?_
    exact HFIN.out
end
end Go.Proofs.Ytfdbcfkjablnkaa

namespace Go.Proofs.Ytfdbcfkjablnkaa
open Go.RowKit
set_option maxRecDepth 100000

section
variable {P : Program} {l : List Oper} {fs : List Tmp} {FS : Tmp → Value → World → Prop} {I : World → Prop} {E : Act → Prop} {o : Oper} {rest : List Oper} {a : Act}
/-- XQ7's last operation may be a store into a map -/
theorem wpFS_upd {St : (Tmp → Value) → World → World → Prop} {t : TypeId} {x y z : Operand} (ho : o.op = .mapUpdate t x y z) (hd : o.dst = none) (hg : o.guard = none)
    (hrun : ∀ xs w, I w → (∀ s ∈ fs, FS s (xs s) w) → ∃ w', (Instr.mapUpdate t ((fill fs xs a).eval x) ((fill fs xs a).eval y) ((fill fs xs a).eval z)).run P w = .ok () w' ∧ St xs w w') (h : wpFS P l.toArray I fs FS St E none rest a) : wpFS P l.toArray I fs FS St E (some 0) (o :: rest) a := by
  refine ⟨⟨hd, fun xs w hI hs => ⟨by simp [Region.wanted, hg], ?_⟩⟩, h⟩
  obtain ⟨w', hr, hst⟩ := hrun xs w hI hs
  unfold execOp
  simp only [ho]
  rw [Sem.run_bind, hr]
  exact hst
end
theorem MadeK.pay {w w1 : World} {zs : List Int} {v : Value} (h : MadeK 5 .u8 w w1 zs v) (hz : zs ≠ []) (hb : Bytes zs) (i : Nat) : ∃ A c, v = .slice A zs.length c ∧ PayAt w1 ⟨i, A, c, zs⟩ := by
  have h1 := h.1
  obtain ⟨hl, h2⟩ := h1
  rcases h2 with ⟨rfl, h0⟩ | ⟨g, cap, cur, rfl, hg, hh, hn, _, hs, ht⟩
  · exact absurd (List.eq_nil_of_length_eq_zero h0) hz
  · refine ⟨_, cap, rfl, hn, hz, hb, g, cur, rfl, hh, fun j c hj => ?_⟩
    have h3 : (zs.map (Value.int .u8))[j]? = some (.int .u8 c) := by
      have hj' : zs[j]? = some c := hj
      rw [List.getElem?_map, hj']
      rfl
    rw [← ht, List.getElem?_take] at h3
    split at h3
    · simpa using h3
    · cases h3
/-- what Put leaves -/
def PutR (w : World) (b m : Nat) (v k s c : Int) (E : List Pl) (i : Nat) (zs : List Int) (er : Int) (e : Ending) (w' : World) : Prop :=
  e = .returned (.int .i64 er) ∧ Off (fun q => q = m) w w' ∧ ((er ≠ 0 ∧ SlotAt w' b m v k s c E) ∨ (er = 0 ∧ ∃ p : Pl, p.i = i ∧ p.zs = zs ∧ SlotAt w' b m v k s c (E ++ [p])))
set_option maxHeartbeats 8000000 in
theorem sput_any {w : World} {b m : Nat} {v k s c : Int} {E : List Pl} (h : SlotAt w b m v k s c E) (v' k' s' i' c' : Int) (a : Option Addr) (n cp : Nat) (zs : List Int) (hn : zs.length = n) (hz : Bytes zs) (h1 : Nums .u8 w w.heap.size a zs) :
    Calls Try.prog 34 #[.pointer (some ⟨b, 0, none⟩), frV v' k' s' i' c' (.slice a n cp)] w (PutR w b m v k s c E i'.toNat zs (sErr v k s c v' k' s' i' c' (E.map Pl.ct) zs)) := by
  obtain ⟨w1, hw1⟩ : ∃ w1, w.alloc (.cells (frC v' k' s' i' c' (.slice a n cp)) 35) = w1 := ⟨_, rfl⟩
  have hlt := h.size
  have hbm : b ≠ m := fun e => h.map.not_cells _ _ _ (by rw [← e]; exact h.row)
  have hb1 : Below w.heap.size w w1 := by rw [← hw1]; exact (Below.refl _ w).alloc (Nat.le_refl _) _
  have hs1 : w1.heap.size = w.heap.size + 1 := by rw [← hw1]; simp
  have hbx : w1.heap[w.heap.size]? = some (.cells (frC v' k' s' i' c' (.slice a n cp)) 35 (0, 0)) := by rw [← hw1]; exact World.alloc_heap_new _ _
  obtain ⟨d0, d1, d2, d3, d4, d5⟩ := fr_block hbx
  have K1 := scheck_any (h.below hb1) v' k' s' i' c' a n cp zs hn
  have HS0 := Lib.hid h
  have HN := Lib.hid h1
  have HW1 : Hid (w.alloc (.cells #[.int .i64 v', .int .i64 k', .int .u32 s', .int .i64 i', .int .i64 c', .slice a n cp] 35) = w1) := Lib.hid hw1
  have HB1 := Lib.hid hb1
  have HZ : Hid (sErr v k s c v' k' s' i' c' (E.map Pl.ct) zs = 0 → _) := Lib.hid (sErr_zero (v := v) (k := k) (s := s) (c := c) (v' := v') (k' := k') (s' := s') (i' := i') (c' := c') (C := E.map Pl.ct) (zs := zs))
  have HNL := Lib.hid hn
  have HBY := Lib.hid hz
  have HBX := Lib.hid hbx
  generalize sErr v k s c v' k' s' i' c' (E.map Pl.ct) zs = SE at *
  clear h h1 hb1 hz hn hw1 hbx
  unfold frV frC at K1 ⊢
  have HG : Hid (∀ e w', _ → PutR w b m v k s c E i'.toNat zs SE e w') := Lib.hid (fun e w' (h : e = .returned (.int .i64 SE) ∧ Off (fun q => q = m) w w' ∧ ((SE ≠ 0 ∧ SlotAt w' b m v k s c E) ∨ (SE = 0 ∧ ∃ p : Pl, p.i = i'.toNat ∧ p.zs = zs ∧ SlotAt w' b m v k s c (E ++ [p])))) => h)
  generalize PutR w b m v k s c E i'.toNat zs SE = G at *
  go_enter Try.func34, Try.ntmps34
  go_wp2_with fail
  rw [HW1.out]
  go_wp2_with fail
  refine K1.mono ?_
  rintro e w2 ⟨rfl, hb2⟩
  have hb2w := HB1.out.trans (hb2.mono HB1.out.size)
  by_cases h0 : SE = 0
  · subst h0
    obtain ⟨⟨rfl, rfl, rfl, rfl⟩, hi0, hi1, hzs, hhas, htot⟩ := HZ.out rfl
    obtain ⟨j, rfl⟩ := Int.eq_ofNat_of_zero_le (a := i') hi0
    rw [Int.toNat_natCast] at hhas HG
    have hS2 := HS0.out.below hb2w
    have hnone : Pl.at E j = none := by
      have := Pl.has_ct E j
      rw [hhas] at this
      cases h9 : Pl.at E j with
      | none => rfl
      | some p => rw [h9] at this; cases this
    obtain ⟨nc, hnc, nc1, nc2, hEl, _⟩ := hS2.count
    have hjb : j ≤ 9223372036854775807 := by omega
    have hbx2 := (hb2.block _ (by omega)).trans HBX.out
    have SL : ∀ V, Below w2.heap.size w2 V → SlotAt V b m v k s c E := fun V hV => hS2.below hV
    have L1 : ∀ V, Below w2.heap.size w2 V → (Instr.loadAt 96 (.pointer (some ⟨b, 5, none⟩))).run Try.prog V = .ok (.map (some m)) V := fun V hV => by
      obtain ⟨d0, d1, d2, d3, d4, d5⟩ := (SL V hV).cells
      simp [Instr.loadAt, go_sem, d5]
    have BX : ∀ V, Below w2.heap.size w2 V → V.cell? ⟨w.heap.size, 3, none⟩ = some (.int .i64 (j : Int)) ∧ V.cell? ⟨w.heap.size, 5, none⟩ = some (.slice a n cp) := fun V hV => by
      obtain ⟨_, _, _, d3, _, d5⟩ := fr_block ((hV.block w.heap.size (by have := hb2.size; omega)).trans hbx2)
      exact ⟨d3, d5⟩
    have L2 : ∀ V, Below w2.heap.size w2 V → (Instr.loadAt 3 (.pointer (some ⟨w.heap.size, 3, none⟩))).run Try.prog V = .ok (.int .i64 (j : Int)) V := fun V hV => by
      have d3 := (BX V hV).1
      simp [Instr.loadAt, go_sem, d3]
    have L3 : ∀ V, Below w2.heap.size w2 V → (Instr.loadAt 33 (.pointer (some ⟨w.heap.size, 5, none⟩))).run Try.prog V = .ok (.slice a n cp) V := fun V hV => by
      have d5 := (BX V hV).2
      simp [Instr.loadAt, go_sem, d5]
    have HB2 := Lib.hid hb2w
    have HSL := Lib.hid SL
    have HHAS := Lib.hid (And.intro hi1 (And.intro hzs htot))
    have hn192 : n ≤ 192 := by have := HNL.out; omega
    have HNO := Lib.hid hnone
    clear K1 d0 d1 d2 d3 d4 d5 hb2 hb2w hS2 hbx2 BX SL hhas hzs htot hnone hi0 hi1 hEl hnc nc1 nc2
    go_wp2_with fail
    refine wp_region_FS 22 10 4 [21] (fun _ x V => ∃ A c2, x = .slice A n c2 ∧ PayAt V ⟨j, A, c2, zs⟩) (fun V => Below w2.heap.size w2 V) (fun xs V V' => ∃ A c2, xs 21 = .slice A n c2 ∧ PayAt V ⟨j, A, c2, zs⟩ ∧ MapAt V' m (E ++ [⟨j, A, c2, zs⟩]) ∧ Off (fun q => q = m) V V') (by kernel_rfl) (by kernel_rfl) (by rfl) (by kernel_rfl) (by rfl) (by simp) (fun W W' h hb => h.trans (hb.mono h.size)) (fun q x W W' ⟨A, c2, h1, h2⟩ hb => ⟨A, c2, h1, h2.below hb⟩) (Below.refl _ _).drew ?_
    repeat (first | (refine wpFS_step (wpF_nil rfl rfl rfl rfl ?_); simp only [wpF, Act.put, List.setIfInBounds_toArray, List.set_cons_succ, List.set_cons_zero]) | (refine wpFS_step (wpF_pure rfl rfl ?_); go_big_quiet_step (fail); refine wpQuiet_nil ?_; simp only [wpF]))
    refine wpFS_step (wpF_load _ rfl (by rfl) (by rfl) (by rfl) L1 ?_)
    simp only [wpF, Act.put, List.setIfInBounds_toArray, List.set_cons_succ, List.set_cons_zero]
    repeat (refine wpFS_step (wpF_pure rfl rfl ?_); go_big_quiet_step (fail); refine wpQuiet_nil ?_; simp only [wpF])
    refine wpFS_step (wpF_load _ rfl (by rfl) (by rfl) (by rfl) L2 ?_)
    simp only [wpF, Act.put, List.setIfInBounds_toArray, List.set_cons_succ, List.set_cons_zero]
    repeat (refine wpFS_step (wpF_pure rfl rfl ?_); go_big_quiet_step (fail); refine wpQuiet_nil ?_; simp only [wpF])
    refine wpFS_step (wpF_load _ rfl (by rfl) (by rfl) (by rfl) L3 ?_)
    simp only [wpF, Act.put, List.setIfInBounds_toArray, List.set_cons_succ, List.set_cons_zero]
    refine wpFS_step (wpF_callsrc 21 (f := 49) (args := #[.slice a n cp]) (by simp) rfl rfl rfl (fun x => by first | rfl | (simp [go_sem]; done)) (fun V hV => (clone_any a n cp zs V HNL.out (by omega) ((HN.out.below (HB2.out.trans (hV.mono HB2.out.size))).mono (HB2.out.trans (hV.mono HB2.out.size)).size)).mono fun e V' ⟨x, he, hm⟩ => ?_) ?_)
    · obtain ⟨A, c2, rfl, hp⟩ := hm.pay HHAS.out.2.1 HBY.out j
      exact ⟨_, he, ⟨A, c2, by rw [HNL.out], hp⟩, hm.2⟩
    simp only [wpF, Act.put, List.setIfInBounds_toArray, List.set_cons_succ, List.set_cons_zero]
    refine wpFS_upd rfl rfl rfl (fun xs V hV hx => ?_) ?_
    · obtain ⟨A, c2, e21, hp⟩ := hx 21 (by simp)
      obtain ⟨V', hrun, hmap, hoff, _⟩ := (HSL.out V hV).map.run_upd (P := Try.prog) (t := 96) Try.underlying96 Try.underlying3 ⟨j, A, c2, zs⟩ hjb HNO.out
      refine ⟨V', ?_, A, c2, e21, hp, hmap, hoff⟩
      simp only [Pl.val, HNL.out] at hrun
      simp only [fill, Act.put, Act.eval, e21]
      exact hrun
    simp only [wpFS]
    rintro xs V V' hV hx ⟨A, c2, e21, hp, hmap, hoff⟩
    have hSV := HSL.out V hV
    have hbV := HB2.out.trans (hV.mono HB2.out.size)
    have hncell : ∀ g cs, V.heap[g]? = some (.cells cs 5 (0, 0)) → ¬ (g = m) := fun g cs hg e => hSV.map.not_cells _ _ _ (by rw [← e]; exact hg)
    have hfin : SlotAt V' b m v k s c (E ++ [⟨j, A, c2, zs⟩]) := by
      refine ⟨(hoff.block b hSV.size hbm).trans hSV.row, hmap, fun q hq => ?_, fun q hq => ?_, hSV.good, ?_, hSV.word⟩
      · rcases List.mem_append.1 hq with hq | hq
        · exact (hSV.pays q hq).off hoff hncell
        · obtain rfl := List.mem_singleton.1 hq
          exact hp.off hoff hncell
      · rcases List.mem_append.1 hq with hq | hq
        · exact hSV.few q hq
        · obtain rfl := List.mem_singleton.1 hq
          exact HHAS.out.1
      · rw [List.map_append, List.map_singleton, Sl.tot_push]
        exact HHAS.out.2.2
    have HFIN := Lib.hid (HG.out (.returned (.int .i64 0)) V' ⟨rfl, (Off.of_below hbV).trans hoff (fun q _ hq => hq), .inr ⟨trivial, _, rfl, rfl, hfin⟩⟩)
    clear hp hmap hoff hSV hbV hncell hfin hV hx
    simp only [fill]
    generalize xs 21 = x21
    go_wp2
    exact HFIN.out
  · have hS2 := HS0.out.below hb2w
    have HFIN := Lib.hid (HG.out (.returned (.int .i64 SE)) w2 ⟨rfl, Off.of_below hb2w, .inl ⟨h0, hS2⟩⟩)
    clear K1 hS2 d0 d1 d2 d3 d4 d5 hb2 hb2w
    go_wp2
    exact HFIN.out
end Go.Proofs.Ytfdbcfkjablnkaa

namespace Go.Proofs.Ytfdbcfkjablnkaa
open Go.RowKit
set_option maxRecDepth 100000
namespace Tb
section
variable {T : List Ms} {n : Int} {x y : Ms} {f : Fr} {r : Nat}
theorem find_put1 (h : find T f.s = some x) : find (put1 T f) f.s = some (x.push f) := by
  unfold find put1
  rw [List.find?_map]
  have : ((fun y : Ms => y.s == f.s) ∘ fun x => if x.s = f.s then x.push f else x) = fun x => x.s == f.s := by
    funext x
    simp only [Function.comp]
    split <;> rfl
  rw [this]
  unfold find at h
  rw [h, Option.map_some, if_pos (find_mem h).2]
theorem find_app (h : find T n = none) (hy : y.s = n) : find (T ++ [y]) n = some y := by
  unfold find at h ⊢
  rw [List.find?_append, h]
  simp [hy]
theorem find_drop {k : Int} (h : find T n = none) : find (drop T k) n = none := by
  rw [find_none] at h ⊢
  exact fun x hx => h x (List.mem_filter.1 hx).1
theorem came_full {ev : Bool} {old : Int} (h : find T n = some x) (hf : (x.C.length : Int) = x.c) : came T n ev old = (drop T n, ⟨Sl.cat x.C x.C.length, true, ev, old⟩) := by
  unfold came
  rw [h]
  exact if_pos (by simp [Ms.full, hf])
theorem came_part {ev : Bool} {old : Int} (h : find T n = some x) (hf : (x.C.length : Int) ≠ x.c) : came T n ev old = (T, ⟨[], false, ev, old⟩) := by
  unfold came
  rw [h]
  exact if_neg (by simp [Ms.full, hf])
theorem put_head (h : chk f.v f.k f.i f.c ≠ 0) : put r T f = ⟨chk f.v f.k f.i f.c, T, .no⟩ := if_pos h
theorem put_short (h : chk f.v f.k f.i f.c = 0) (hz : f.zs = []) : put r T f = ⟨13, T, .no⟩ := by
  unfold put
  rw [if_neg (by simpa using h), if_pos hz]
theorem put_there (h : chk f.v f.k f.i f.c = 0) (hz : f.zs ≠ []) (hx : find T f.s = some x) : put r T f = if x.err f ≠ 0 then ⟨x.err f, T, .no⟩ else .ok (came (put1 T f) f.s false 0) := by
  unfold put
  rw [if_neg (by simpa using h), if_neg hz, hx]
theorem put_new (h : chk f.v f.k f.i f.c = 0) (hz : f.zs ≠ []) (hx : find T f.s = none) : put r T f = if (Ms.new f).err f ≠ 0 then ⟨(Ms.new f).err f, T, .no⟩
    else if T.length = r then (if Sr.after f.s (old T) = true then .ok (came (drop T (old T) ++ [(Ms.new f).push f]) f.s true (old T)) else ⟨18, T, .no⟩)
    else .ok (came (T ++ [(Ms.new f).push f]) f.s false 0) := by
  unfold put
  rw [if_neg (by simpa using h), if_neg hz, hx]
end
end Tb
theorem nodup_same {α β : Type} {g : α → β} : ∀ {l : List α} {x y : α}, (l.map g).Nodup → x ∈ l → y ∈ l → g x = g y → x = y
  | [], x, y, _, hx, _, _ => by cases hx
  | z :: r, x, y, hn, hx, hy, e => by
    rw [List.map_cons, List.nodup_cons] at hn
    rcases List.mem_cons.1 hx with rfl | hx2
    · rcases List.mem_cons.1 hy with rfl | hy2
      · rfl
      · exact absurd (List.mem_map.2 ⟨y, hy2, e.symm⟩) hn.1
    · rcases List.mem_cons.1 hy with rfl | hy2
      · exact absurd (List.mem_map.2 ⟨x, hx2, e⟩) hn.1
      · exact nodup_same hn.2 hx2 hy2 e
/-- a table of these messages -/
def TblOf (w : World) (S : Nat → Prop) (b r : Nat) (T : List Tb.Ms) : Prop := ∃ m A n cp X, TblAt w S b r m A n cp X ∧ X.map Sx.ms = T
/-- what Put leaves -/
def TPutR (w : World) (S : Nat → Prop) (b r : Nat) (T : List Tb.Ms) (f : Fr) (e : Ending) (w' : World) : Prop :=
  ∃ A2 c2, e = .returned (.tuple #[outV A2 (Tb.put r T f).o.zs.length c2 (Tb.put r T f).o.wh (Tb.put r T f).o.ev (Tb.put r T f).o.old, .int .i64 (Tb.put r T f).e]) ∧ (Tb.put r T f).o.zs.length ≤ c2 ∧
    NumsS .u8 w' (fun g => w.heap.size ≤ g ∧ g < w'.heap.size) A2 (Tb.put r T f).o.zs ∧ TOff S w w' ∧ TblOf w' (fun q => S q ∨ w.heap.size ≤ q) b r (Tb.put r T f).T
section
variable {w w' : World} {S S' : Nat → Prop} {b r m n cp : Nat} {A : Option Addr} {X : List Sx}
/-- a refused frame -/
theorem TPutR.no {f : Fr} {er : Int} (h : TblAt w' S b r m A n cp X) (ho : TOff S w w') (hp : Tb.put r (X.map Sx.ms) f = ⟨er, X.map Sx.ms, .no⟩) : TPutR w S b r (X.map Sx.ms) f (.returned (.tuple #[outV none 0 0 false false 0, .int .i64 er])) w' := by
  unfold TPutR
  rw [hp]
  exact ⟨none, 0, rfl, Nat.le_refl _, NumsS.nil, ho, m, A, n, cp, X, h.mono fun _ h => .inl h, rfl⟩
/-- the table behind a slot's Put -/
theorem TblAt.put1 {x x' : Sx} (h : TblAt w S b r m A n cp X) (hx : x ∈ X) (hx' : x'.b = x.b ∧ x'.m = x.m ∧ x'.s = x.s) (hat : x'.At w') (ho : Off (fun q => q = x.m) w w') :
    TOff S w w' ∧ TblAt w' S b r m A n cp (X.map fun y => if y.s = x.s then x' else y) := by
  obtain ⟨hbm, hgn, hxs⟩ := h.apart
  obtain ⟨n1, n2, n3⟩ := hxs x hx
  have hxm := SlotAt.map (h.slots x hx)
  have hto : TOff (fun q => q = x.m) w w' := TOff.one ho rfl (fun cs => hxm.not_cells _ _ _) (fun cs => hxm.not_cells _ _ _)
  have huniq : ∀ y ∈ X, y.s = x.s → y = x := fun y hy e => nodup_same h.keys.1 hy hx e
  have hs : ((X.map fun y => if y.s = x.s then x' else y).map Sx.s) = X.map Sx.s := by
    rw [List.map_map]
    refine List.map_congr_left fun y hy => ?_
    simp only [Function.comp]
    split
    · rename_i e; rw [hx'.2.2, e]
    · rfl
  have hkey : ((X.map fun y => if y.s = x.s then x' else y).map Sx.key) = X.map Sx.key := by
    rw [List.map_map]
    refine List.map_congr_left fun y hy => ?_
    simp only [Function.comp]
    split
    · rename_i e
      have := huniq y hy e
      subst this
      simp [Sx.key, hx']
    · rfl
  have hm : ((X.map fun y => if y.s = x.s then x' else y).map Sx.m) = X.map Sx.m := by
    rw [List.map_map]
    refine List.map_congr_left fun y hy => ?_
    simp only [Function.comp]
    split
    · rename_i e
      have := huniq y hy e
      subst this
      exact hx'.2.1
    · rfl
  refine ⟨hto.mono fun q _ e => by rw [e]; exact h.inS.2.2.2 x hx, (ho.block b h.lt (Ne.symm n1)).trans h.row, by rw [List.length_map]; exact h.len, ?_, ?_, fun y hy => ?_, by rw [hm]; exact h.maps, h.room, h.few, h.inS.1, h.inS.2.1, h.inS.2.2.1, fun y hy => ?_⟩
  · rw [hs]
    exact tord_off h.ord ho fun g hg e => n3 g hg e.symm
  · rw [hkey]
    exact h.map.off ho (Ne.symm n2)
  · obtain ⟨z, hz, e⟩ := List.mem_map.1 hy
    split at e
    · subst e
      exact hat
    · rename_i hne
      subst e
      refine (h.slots z hz).toff hto fun e => hne ?_
      rw [nodup_same (List.nodup_cons.1 h.maps).2 hz hx e]
  · obtain ⟨z, hz, e⟩ := List.mem_map.1 hy
    split at e
    · subst e
      rw [hx'.2.1]
      exact h.inS.2.2.2 x hx
    · subst e
      exact h.inS.2.2.2 z hz
/-- a map that is none of the table's is turned -/
theorem TblAt.strange {q : Nat} (h : TblAt w S b r m A n cp X) (hq : ∀ cs t x, w.heap[q]? ≠ some (.cells cs t x)) (hm : m ≠ q) (hX : ∀ x ∈ X, x.m ≠ q) (hf : Off (fun p => p = q) w w') : TblAt w' S b r m A n cp X := by
  refine ⟨(hf.block b h.lt fun e => hq _ _ _ (by rw [← e]; exact h.row)).trans h.row, h.len, tord_off h.ord hf fun g hg e => ?_, h.map.off hf hm, fun x hx => (h.slots x hx).off hf (fun cs hc e => hq _ _ _ (by rw [← e]; exact hc)) (hX x hx) (fun g cs hc e => hq _ _ _ (by rw [← e]; exact hc)), h.maps, h.room, h.few, h.inS⟩
  obtain ⟨cs', hc⟩ := tord_row h.ord hg
  exact hq _ _ _ (by rw [← e]; exact hc)
theorem TOff.keep {q : Nat} (h : TOff S w w') (hq : q < w.heap.size) (hn : ¬ S q) : w'.heap[q]? = w.heap[q]? := Off.block h q hq fun e => hn e.1
theorem TblAt.small (h : TblAt w S b r m A n cp X) : TblAt w (fun q => S q ∧ q < w.heap.size) b r m A n cp X :=
  ⟨h.row, h.len, h.ord, h.map, h.slots, h.maps, h.room, h.few, ⟨h.inS.1, h.lt⟩, ⟨h.inS.2.1, h.map.lt⟩, fun g hg => ⟨h.inS.2.2.1 g hg, (h.ord.lt g hg).2⟩, fun x hx => ⟨h.inS.2.2.2 x hx, (SlotAt.map (h.slots x hx)).lt⟩⟩
theorem TblAt.kept1 {x : Sx} (h : TblAt w S b r m A n cp X) (hx : x ∈ X) (hat : x.At w') (ho : Off (fun q => q = x.m) w w') : TOff S w w' ∧ TblAt w' S b r m A n cp X := by
  obtain ⟨h1, h2⟩ := h.put1 hx (x' := x) ⟨rfl, rfl, rfl⟩ hat ho
  have : (X.map fun y => if y.s = x.s then x else y) = X := by
    conv => rhs; rw [← List.map_id X]
    refine List.map_congr_left fun y hy => ?_
    split
    · rename_i e
      exact (nodup_same h.keys.1 hy hx e).symm
    · rfl
  rw [this] at h2
  exact ⟨h1, h2⟩
theorem ms_put1 {x x' : Sx} {f : Fr} (hk : (X.map Sx.s).Nodup) (hx : x ∈ X) (hs : x.s = f.s) (hm : x'.ms = x.ms.push f) : (X.map fun y => if y.s = x.s then x' else y).map Sx.ms = Tb.put1 (X.map Sx.ms) f := by
  unfold Tb.put1
  rw [List.map_map, List.map_map]
  refine List.map_congr_left fun y hy => ?_
  simp only [Function.comp]
  by_cases e : y.s = x.s
  · rw [if_pos e, hm, nodup_same hk hy hx e, if_pos (show x.ms.s = f.s from hs)]
  · rw [if_neg e, if_neg (show ¬ y.ms.s = f.s from fun e2 => e (e2.trans hs.symm))]
/-- the end of each way on which the frame came -/
theorem tput_end {W4 W5 : World} {S4 : Nat → Prop} {X' : List Sx} {x' : Sx} {ev : Bool} {old : Int} {T : List Tb.Ms} {f : Fr} {q0 : Nat} {e : Ending} (hp : Tb.put r T f = .ok (Tb.came (X'.map Sx.ms) x'.s ev old)) (hT4 : TblAt W4 S4 b r m A n cp X') (hx' : x' ∈ X')
    (h04 : TOff S w W4) (hS4 : ∀ q, S4 q → S q ∨ w.heap.size ≤ q) (hR : W4.heap[q0]? = some (.cells (outC none 0 0 false false 0) 39 (0, 0))) (hq0 : w.heap.size ≤ q0) (hq1 : ¬ S4 q0) (hcame : TCameR W4 S4 b r m A n cp X' x' ev old e W5) :
    ∃ A2 q cp2 wh, e = .returned (.agg (outC A2 q cp2 wh ev old)) ∧ W5.heap[q0]? = some (.cells (outC none 0 0 false false 0) 39 (0, 0)) ∧ TPutR w S b r T f (.returned (.tuple #[.agg (outC A2 q cp2 wh ev old), .int .i64 0])) (W5.setRow q0 (outC A2 q cp2 wh ev old)) := by
  have hlt := (Array.getElem?_eq_some_iff.1 hR).1
  have hsz := TOff.size h04
  have hfind := hT4.find hx'
  rcases hcame with ⟨hne, rfl, hb⟩ | ⟨heq, A2, c2, rfl, hc2, hnum, hto, hT5⟩
  · have hR5 := (hb.block _ hlt).trans hR
    refine ⟨none, 0, 0, false, rfl, hR5, ?_⟩
    have hc := Tb.came_part (ev := ev) (old := old) hfind (by show ((x'.E.map Pl.ct).length : Int) ≠ x'.c; rw [List.length_map]; exact hne)
    rw [hc] at hp
    unfold TPutR
    rw [hp]
    refine ⟨none, 0, rfl, Nat.le_refl _, NumsS.nil, tset_new (TOff.trans (S' := S) h04 (TOff.of_below hb) fun _ _ h => h) hq0 _, m, A, n, cp, X', ?_, rfl⟩
    exact ((hT4.below hb).other hR5 ⟨by decide, by decide, by decide, by decide⟩ ((Off.refl (fun p => p = q0) W5).setRow rfl _)).mono hS4
  · have hR5 := (TOff.keep hto hlt hq1).trans hR
    refine ⟨A2, _, c2, true, rfl, hR5, ?_⟩
    have hc := Tb.came_full (ev := ev) (old := old) hfind (by show ((x'.E.map Pl.ct).length : Int) = x'.c; rw [List.length_map]; exact heq)
    rw [hc] at hp
    have hlen : (Sx.ms x').C.length = x'.E.length := by show (x'.E.map Pl.ct).length = _; rw [List.length_map]
    unfold TPutR
    rw [hp]
    have hsz5 := TOff.size hto
    refine ⟨A2, c2, ?_, ?_, ?_, tset_new (TOff.trans (S' := S4) h04 hto fun q hq h => (hS4 q h).resolve_right (by omega)) hq0 _, m, A, n - 1, cp, X'.filter fun y => y.s != x'.s, ?_, (filter_ms _ _).symm⟩
    · simp only [Tb.Res.ok, hlen]
      rfl
    · simp only [Tb.Res.ok, hlen]
      exact hc2
    · simp only [Tb.Res.ok, hlen]
      intro h0
      obtain ⟨g, off, e, ⟨hg1, hg2⟩, hcl⟩ := hnum h0
      refine ⟨g, off, e, ⟨by omega, by simp [World.setRow]; omega⟩, fun j c hj => ?_⟩
      exact (World.cell?_of_block (setRow_other _ _ _ _ (by show g ≠ q0; omega))).trans (hcl j c hj)
    · exact (hT5.other hR5 ⟨by decide, by decide, by decide, by decide⟩ ((Off.refl (fun p => p = q0) W5).setRow rfl _)).mono hS4
end
end Go.Proofs.Ytfdbcfkjablnkaa

namespace Go.Proofs.Ytfdbcfkjablnkaa
open Go.RowKit Go.Shelf
set_option maxRecDepth 100000

/-- a frame and an answer in new blocks -/
theorem put_boxes {w w0 : World} {f : Fr} (hw : (w.alloc (.cells f.cs 35)).alloc (.cells (outC none 0 0 false false 0) 39) = w0) :
    Below w.heap.size w w0 ∧ w.heap.size + 2 ≤ w0.heap.size ∧ w0.heap[w.heap.size]? = some (.cells f.cs 35 (0, 0)) ∧ w0.heap[w.heap.size + 1]? = some (.cells (outC none 0 0 false false 0) 39 (0, 0)) := by
  subst hw
  refine ⟨((Below.refl _ w).alloc (Nat.le_refl _) _).alloc (by simp) _, by simp, (Below.heap_alloc _ _ _ (by simp)).trans (World.alloc_heap_new _ _), ?_⟩
  have := World.alloc_heap_new (w.alloc (.cells f.cs 35)) (.cells (outC none 0 0 false false 0) 39)
  rw [World.size_alloc] at this
  exact this
section
variable {w w' : World} {S S' : Nat → Prop} {b r m n cp : Nat} {A : Option Addr} {X : List Sx}
set_option maxHeartbeats 8000000 in
theorem tput_any (h : TblAt w S b r m A n cp X) (f : Fr) (hf : f.At w w.heap.size) :
    Calls Try.prog 20 #[.pointer (some ⟨b, 0, none⟩), frV f.v f.k f.s f.i f.c (.slice f.a f.zs.length f.cp)] w (TPutR w S b r (X.map Sx.ms) f) := by
  obtain ⟨w0, hw0⟩ : ∃ w0, (w.alloc (.cells f.cs 35)).alloc (.cells (outC none 0 0 false false 0) 39) = w0 := ⟨_, rfl⟩
  obtain ⟨hb0, hs0, hF0, hR0⟩ := put_boxes hw0
  obtain ⟨d0, d1, d2, d3, d4, d5⟩ := fr_block (v := f.v) (k := f.k) (s := f.s) (i := f.i) (c := f.c) hF0
  have KN := snew_any13 f.v f.k f.s f.i f.c ⟨hf.s0, hf.s1⟩ w0
  have HB0 := Lib.hid hb0
  have HF0 := Lib.hid hF0
  have HR0 := Lib.hid hR0
  have HS0 := Lib.hid hs0
  have HKN := Lib.hid KN
  have HT := Lib.hid h
  have HF := Lib.hid hf
  clear KN h hb0 hF0 hR0 hf hs0
  generalize hG : TPutR w S b r (X.map Sx.ms) f = G
  have HG := Lib.hid hG
  clear hG
  subst hw0
  unfold frV
  simp only [outC, Fr.cs, frC, hdV] at HKN d0 d1 d2 d3 d4 d5 ⊢
  go_enter Try.func20, Try.ntmps20
  go_wp2_with fail
  refine HKN.out.mono ?_
  rintro e W1 hor
  have hb01 : Below w.heap.size w W1 := by
    rcases hor with ⟨_, _, hb1⟩ | ⟨_, yb, ym, _, _, hb1, _⟩
    · exact HB0.out.trans (hb1.mono HB0.out.size)
    · exact HB0.out.trans (hb1.mono HB0.out.size)
  have hb1' : Below ((w.alloc (.cells f.cs 35)).alloc (.cells (outC none 0 0 false false 0) 39)).heap.size ((w.alloc (.cells f.cs 35)).alloc (.cells (outC none 0 0 false false 0) 39)) W1 := by
    rcases hor with ⟨_, _, hb1⟩ | ⟨_, yb, ym, _, _, hb1, _⟩
    · exact hb1
    · exact hb1
  have hR1 : W1.heap[w.heap.size + 1]? = some (.cells (outC none 0 0 false false 0) 39 (0, 0)) := (hb1'.block _ (by have := HS0.out; omega)).trans HR0.out
  have hF1 : W1.heap[w.heap.size]? = some (.cells f.cs 35 (0, 0)) := (hb1'.block _ (by have := HS0.out; omega)).trans HF0.out
  have hs1 : w.heap.size + 2 ≤ W1.heap.size := Nat.le_trans HS0.out hb1'.size
  have hT1 := HT.out.small.below hb01
  have HB01 := Lib.hid hb01
  have HR1 := Lib.hid hR1
  have HF1 := Lib.hid hF1
  have HT1 := Lib.hid hT1
  clear hb01 hb1' hR1 hF1 hT1 HB0 HR0 HF0 HKN d0 d1 d2 d3 d4 d5
  rcases hor with ⟨hne, rfl, _⟩ | ⟨hok, yb, ym, rfl, hy, hby, hyb, hym, hybm⟩
  · have HFIN : Hid (G (.returned (.tuple #[.agg (outC none 0 0 false false 0), .int .i64 (chk f.v f.k f.i f.c)])) (W1.setRow (w.heap.size + 1) (outC none 0 0 false false 0))) := by
      rw [← HG.out]
      exact TPutR.no ((HT1.out.mono fun _ h => h.1).other HR1.out ⟨by decide, by decide, by decide, by decide⟩ ((Off.refl (fun p => p = w.heap.size + 1) W1).setRow rfl _)) (tset_new (TOff.of_below HB01.out) (by omega) _) (Tb.put_head hne)
    generalize chk f.v f.k f.i f.c = er at *
    clear HT1
    go_wp2_with (refine wpList_store_row rfl 39 (.tmp 4) (.tmp 23) rfl (w.heap.size + 1) (outC none 0 0 false false 0) rfl rfl 39 _ HR1.out outInfo rfl (out_one ..) ?_)
    refine bodyPost_ret (results_row_tmp (P := Try.prog) (fn := Try.f20) rfl _ _ (w.heap.size + 1) 39 (outC none 0 0 false false 0) _ (by rfl) (setRow_heap _ _ _ _ _ _ HR1.out) Try.underlying39 (by rfl) outInfo) rfl ?_
    exact HFIN.out
  · have hym2 : w.heap.size + 2 ≤ ym := Nat.le_trans HS0.out hym
    have hymlt := (SlotAt.map hy).lt
    have HY := Lib.hid hy
    have HOK := Lib.hid hok
    clear hy hok hby hyb hym hybm
    obtain ⟨d0, d1, d2, d3, d4, d5⟩ := fr_block (v := f.v) (k := f.k) (s := f.s) (i := f.i) (c := f.c) HF1.out
    by_cases hz : f.zs = []
    · have hl : (f.zs.length : Int) = 0 := by rw [hz]; rfl
      have HFIN : Hid (G (.returned (.tuple #[.agg (outC none 0 0 false false 0), .int .i64 (13)])) (W1.setRow (w.heap.size + 1) (outC none 0 0 false false 0))) := by
        rw [← HG.out]
        exact TPutR.no ((HT1.out.mono fun _ h => h.1).other HR1.out ⟨by decide, by decide, by decide, by decide⟩ ((Off.refl (fun p => p = w.heap.size + 1) W1).setRow rfl _)) (tset_new (TOff.of_below HB01.out) (by omega) _) (Tb.put_short HOK.out hz)
      clear HT1 hz
      generalize f.zs.length = q at *
      go_wp2_with (refine wpList_store_row rfl 39 (.tmp 4) (.tmp 30) rfl (w.heap.size + 1) (outC none 0 0 false false 0) rfl rfl 39 _ HR1.out outInfo rfl (out_one ..) ?_)
      refine bodyPost_ret (results_row_tmp (P := Try.prog) (fn := Try.f20) rfl _ _ (w.heap.size + 1) 39 (outC none 0 0 false false 0) _ (by rfl) (setRow_heap _ _ _ _ _ _ HR1.out) Try.underlying39 (by rfl) outInfo) rfl ?_
      exact HFIN.out
    · have hl : (1 : Int) ≤ (f.zs.length : Int) := by have := List.length_pos_iff.2 hz; omega
      obtain ⟨W2, hW2⟩ : ∃ W2, W1.alloc (.cells (outC none 0 0 false false 0) 39) = W2 := ⟨_, rfl⟩
      have hb2 : Below W1.heap.size W1 W2 := by rw [← hW2]; exact (Below.refl _ W1).alloc (Nat.le_refl _) _
      have hs2 : W1.heap.size < W2.heap.size := by rw [← hW2]; simp
      have hO2 : W2.heap[W1.heap.size]? = some (.cells (outC none 0 0 false false 0) 39 (0, 0)) := by rw [← hW2]; exact World.alloc_heap_new _ _
      have hT2 := HT1.out.below hb2
      have hlook : ∀ d, (Instr.lookup 73 (.map (some m)) (.int .u32 f.s) true).run Try.prog (W2.drewN d) = .ok (teVal (teAt (X.map Sx.key) f.s) true) (W2.drewN d) := fun d => (hT2.below (below_drewN (Below.refl _ _) d)).look true ⟨HF.out.s0, HF.out.s1⟩
      obtain ⟨c0, c1, c2⟩ := hT2.cells
      have hR2 := (hb2.block _ (by omega)).trans HR1.out
      have hF2 := (hb2.block _ (by omega)).trans HF1.out
      have hy2 := SlotAt.below HY.out hb2
      have hb02 := HB01.out.trans (hb2.mono (by omega))
      obtain ⟨e0, e1, e2, e3, e4, e5⟩ := fr_block (v := f.v) (k := f.k) (s := f.s) (i := f.i) (c := f.c) hF2
      have HT2 := Lib.hid hT2
      have HO2 := Lib.hid hO2
      have HR2 := Lib.hid hR2
      have HF2 := Lib.hid hF2
      have HY2 := Lib.hid hy2
      have HB02 := Lib.hid hb02
      have HZ := Lib.hid hz
      clear hT2 hO2 hR2 hF2 hy2 hb02 hb2 HT1 HR1 HF1 HY HB01 hz
      subst hW2
      simp only [outC] at hlook c0 c1 c2 e0 e1 e2 e3 e4 e5
      by_cases hin : ∃ x ∈ X, x.s = f.s
      · obtain ⟨x, hx, hxs⟩ := hin
        have hte := te_of HT.out hx
        rw [hxs] at hte
        rw [hte] at hlook
        simp only [teVal, if_true] at hlook
        go_wp2_with fail
        go_quiet ((fail))
        have hbd : Below (W1.alloc (.cells (outC none 0 0 false false 0) 39)).heap.size (W1.alloc (.cells (outC none 0 0 false false 0) 39)) ((W1.alloc (.cells #[.slice none 0 0, .bool false, .bool false, .int .u32 0] 39)).drewN nq) := below_drewN (Below.refl _ _) nq
        have hT3 : TblAt ((W1.alloc (.cells #[.slice none 0 0, .bool false, .bool false, .int .u32 0] 39)).drewN nq) (fun q => S q ∧ q < w.heap.size) b r m A n cp X := HT2.out.below hbd
        have hO3 : ((W1.alloc (.cells #[.slice none 0 0, .bool false, .bool false, .int .u32 0] 39)).drewN nq).heap[W1.heap.size]? = some (.cells (outC none 0 0 false false 0) 39 (0, 0)) := HO2.out
        have hR3 : ((W1.alloc (.cells #[.slice none 0 0, .bool false, .bool false, .int .u32 0] 39)).drewN nq).heap[w.heap.size + 1]? = some (.cells (outC none 0 0 false false 0) 39 (0, 0)) := HR2.out
        have hF3 : ((W1.alloc (.cells #[.slice none 0 0, .bool false, .bool false, .int .u32 0] 39)).drewN nq).heap[w.heap.size]? = some (.cells f.cs 35 (0, 0)) := HF2.out
        have hy3 : SlotAt ((W1.alloc (.cells #[.slice none 0 0, .bool false, .bool false, .int .u32 0] 39)).drewN nq) yb ym f.v f.k f.s f.c [] := SlotAt.below HY2.out hbd
        have hb03 : Below w.heap.size w ((W1.alloc (.cells #[.slice none 0 0, .bool false, .bool false, .int .u32 0] 39)).drewN nq) := below_drewN HB02.out nq
        have hs3 : W1.heap.size < ((W1.alloc (.cells #[.slice none 0 0, .bool false, .bool false, .int .u32 0] 39)).drewN nq).heap.size := hs2
        clear hbd hlook c0 c1 c2 d0 d1 d2 d3 d4 d5 e0 e1 e2 e3 e4 e5 HT2 HO2 HR2 HF2 HY2 HB02 hs2
        generalize ((W1.alloc (.cells #[.slice none 0 0, .bool false, .bool false, .int .u32 0] 39)).drewN nq) = W3 at hT3 hO3 hR3 hF3 hy3 hb03 hs3 ⊢
        obtain ⟨e0, e1, e2, e3, e4, e5⟩ := fr_block (v := f.v) (k := f.k) (s := f.s) (i := f.i) (c := f.c) hF3
        have hf3 : f.At W3 W3.heap.size := (HF.out.below hb03).mono hb03.size
        have hxm : ∀ x ∈ X, x.m < w.heap.size := fun x hx => (SlotAt.map (HT.out.slots x hx)).lt
        have hmlt : m < w.heap.size := HT.out.map.lt
        have hxmx := hxm x hx
        have KP := sput_any (hT3.slots x hx) f.v f.k f.s f.i f.c f.a f.zs.length f.cp f.zs rfl hf3.byte hf3.nums
        have hfind : Tb.find (X.map Sx.ms) f.s = some x.ms := by rw [← hxs]; exact HT.out.find hx
        obtain ⟨er, hEr⟩ : ∃ er, x.ms.err f = er := ⟨_, rfl⟩
        have hEr' : sErr x.v x.k x.s x.c f.v f.k f.s f.i f.c (x.E.map Pl.ct) f.zs = er := hEr
        rw [hEr'] at KP
        unfold frV frC at KP
        have HKP := Lib.hid KP
        have HT3 := Lib.hid hT3
        have HO3 := Lib.hid hO3
        have HR3 := Lib.hid hR3
        have HF3 := Lib.hid hF3
        have HB03 := Lib.hid hb03
        have HX := Lib.hid hx
        have HXS := Lib.hid hxs
        have HFIND := Lib.hid hfind
        have HER := Lib.hid hEr
        have hs3' : w.heap.size + 2 < W3.heap.size := by omega
        clear KP hT3 hO3 hR3 hF3 hb03 hx hxs hfind hEr hEr' hy3 hf3 hte hxm
        by_cases er0 : er = 0
        · subst er0
          go_wp2_with fail
          refine HKP.out.mono ?_
          rintro e W4 ⟨rfl, ho4, hor4⟩
          obtain ⟨_, p, hpi, hpz, hsl4⟩ := hor4.resolve_left fun h => h.1 rfl
          obtain ⟨x', hx'⟩ : ∃ x' : Sx, x' = ⟨x.b, x.m, x.v, x.k, x.s, x.c, x.E ++ [p]⟩ := ⟨_, rfl⟩
          have hat' : x'.At W4 := by rw [hx']; exact hsl4
          have hxs' : x'.s = x.s := by rw [hx']
          have hms : x'.ms = x.ms.push f := by rw [hx']; simp [Sx.ms, Tb.Ms.push, Pl.ct, Fr.ct, hpi, hpz]
          obtain ⟨hto4, hT4⟩ := HT3.out.put1 HX.out (x' := x') (by rw [hx']; exact ⟨rfl, rfl, rfl⟩) hat' ho4
          have hx4 : x' ∈ X.map fun y => if y.s = x.s then x' else y := List.mem_map.2 ⟨x, HX.out, if_pos rfl⟩
          have hmx := ms_put1 HT.out.keys.1 HX.out HXS.out hms
          have hR4 := (ho4.block (w.heap.size + 1) (by omega) (by omega)).trans HR3.out
          have hO4 := (ho4.block W1.heap.size hs3 (by omega)).trans HO3.out
          have hF4 := (ho4.block w.heap.size (by omega) (by omega)).trans HF3.out
          obtain ⟨X4, hX4⟩ : ∃ X4, (X.map fun y => if y.s = x.s then x' else y) = X4 := ⟨_, rfl⟩
          rw [hX4] at hT4 hx4 hmx
          have KC := tcame_any hT4 hx4 false 0
          rw [hxs', HXS.out] at KC
          have hput : Tb.put r (X.map Sx.ms) f = .ok (Tb.came (X4.map Sx.ms) x'.s false 0) := by
            rw [Tb.put_there HOK.out HZ.out HFIND.out, if_neg (by rw [HER.out]; simp), hmx, hxs', HXS.out]
          have h04 : TOff S w W4 := (TOff.of_below HB03.out).trans hto4 fun q _ h => h.1
          have hend := fun (e : Ending) (W9 : World) hc => tput_end (w := w) (S := S) (e := e) (W5 := W9) hput hT4 hx4 h04 (fun q h => .inl h.1) hR4 (by omega) (fun h => by have := h.2; omega) hc
          obtain ⟨g0, g1, g2, g3, g4, g5⟩ := fr_block (v := f.v) (k := f.k) (s := f.s) (i := f.i) (c := f.c) hF4
          have HKC := Lib.hid KC
          have HEND := Lib.hid hend
          have HO4 := Lib.hid hO4
          clear KC hend hO4 hF4 hR4 hput h04 hT4 hto4 hx4 hmx hms hat' hsl4 hor4 ho4 e0 e1 e2 e3 e4 e5
          clear hX4
          unfold outV at HKC
          go_wp2_with (refine wpList_load_row rfl 39 (.tmp 8) rfl W1.heap.size rfl 39 (outC none 0 0 false false 0) (0, 0) _ HO4.out Try.underlying39 rfl outInfo ?_)
          refine HKC.out.mono ?_
          rintro e W9 hcame
          obtain ⟨A2, q, cp2, wh, rfl, hR9, hfin⟩ := HEND.out _ _ hcame
          rw [HG.out] at hfin
          have HFIN := Lib.hid hfin
          have HR9 := Lib.hid hR9
          clear hcame hR9 hfin HKC HEND
          go_wp2_with (refine wpList_store_row rfl 39 (.tmp 4) (.tmp 72) rfl (w.heap.size + 1) (outC A2 q cp2 wh false 0) rfl rfl 39 _ HR9.out outInfo rfl (out_one ..) ?_)
          refine bodyPost_ret (results_row_tmp (P := Try.prog) (fn := Try.f20) rfl _ _ (w.heap.size + 1) 39 (outC A2 q cp2 wh false 0) _ (by rfl) (setRow_heap _ _ _ _ _ _ HR9.out) Try.underlying39 (by rfl) outInfo) rfl ?_
          exact HFIN.out
        · go_wp2_with fail
          refine HKP.out.mono ?_
          rintro e W4 ⟨rfl, ho4, hor4⟩
          obtain ⟨hto4, hT4⟩ := HT3.out.kept1 HX.out (hor4.resolve_right fun h => er0 h.1).2 ho4
          have HR4 := Lib.hid ((ho4.block (w.heap.size + 1) (by omega) (by omega)).trans HR3.out)
          have HFIN : Hid (G (.returned (.tuple #[.agg (outC none 0 0 false false 0), .int .i64 (er)])) (W4.setRow (w.heap.size + 1) (outC none 0 0 false false 0))) := by
            rw [← HG.out]
            exact TPutR.no ((hT4.mono fun _ h => h.1).other HR4.out ⟨by decide, by decide, by decide, by decide⟩ ((Off.refl (fun p => p = w.heap.size + 1) W4).setRow rfl _)) (tset_new ((TOff.of_below HB03.out).trans hto4 fun q _ h => h.1) (by omega) _) (by rw [Tb.put_there HOK.out HZ.out HFIND.out, if_pos (by rw [HER.out]; exact er0), HER.out])
          clear hto4 hT4 ho4 hor4 HT3 HKP e0 e1 e2 e3 e4 e5
          go_wp2_with (refine wpList_store_row rfl 39 (.tmp 4) (.tmp 65) rfl (w.heap.size + 1) (outC none 0 0 false false 0) rfl rfl 39 _ HR4.out outInfo rfl (out_one ..) ?_)
          refine bodyPost_ret (results_row_tmp (P := Try.prog) (fn := Try.f20) rfl _ _ (w.heap.size + 1) 39 (outC none 0 0 false false 0) _ (by rfl) (setRow_heap _ _ _ _ _ _ HR4.out) Try.underlying39 (by rfl) outInfo) rfl ?_
          exact HFIN.out
      · have hno : ∀ x ∈ X, x.s ≠ f.s := fun x hx e => hin ⟨x, hx, e⟩
        rw [te_none hno] at hlook
        simp only [teVal, if_true] at hlook
        clear hin
        go_wp2_with fail
        go_quiet ((fail))
        have hbd : Below (W1.alloc (.cells (outC none 0 0 false false 0) 39)).heap.size (W1.alloc (.cells (outC none 0 0 false false 0) 39)) ((W1.alloc (.cells #[.slice none 0 0, .bool false, .bool false, .int .u32 0] 39)).drewN nq) := below_drewN (Below.refl _ _) nq
        have hT3 : TblAt ((W1.alloc (.cells #[.slice none 0 0, .bool false, .bool false, .int .u32 0] 39)).drewN nq) (fun q => S q ∧ q < w.heap.size) b r m A n cp X := HT2.out.below hbd
        have hO3 : ((W1.alloc (.cells #[.slice none 0 0, .bool false, .bool false, .int .u32 0] 39)).drewN nq).heap[W1.heap.size]? = some (.cells (outC none 0 0 false false 0) 39 (0, 0)) := HO2.out
        have hR3 : ((W1.alloc (.cells #[.slice none 0 0, .bool false, .bool false, .int .u32 0] 39)).drewN nq).heap[w.heap.size + 1]? = some (.cells (outC none 0 0 false false 0) 39 (0, 0)) := HR2.out
        have hF3 : ((W1.alloc (.cells #[.slice none 0 0, .bool false, .bool false, .int .u32 0] 39)).drewN nq).heap[w.heap.size]? = some (.cells f.cs 35 (0, 0)) := HF2.out
        have hy3 : SlotAt ((W1.alloc (.cells #[.slice none 0 0, .bool false, .bool false, .int .u32 0] 39)).drewN nq) yb ym f.v f.k f.s f.c [] := SlotAt.below HY2.out hbd
        have hb03 : Below w.heap.size w ((W1.alloc (.cells #[.slice none 0 0, .bool false, .bool false, .int .u32 0] 39)).drewN nq) := below_drewN HB02.out nq
        have hs3 : W1.heap.size < ((W1.alloc (.cells #[.slice none 0 0, .bool false, .bool false, .int .u32 0] 39)).drewN nq).heap.size := hs2
        clear hbd hlook c0 c1 c2 d0 d1 d2 d3 d4 d5 e0 e1 e2 e3 e4 e5 HT2 HO2 HR2 HF2 HY2 HB02 hs2
        generalize ((W1.alloc (.cells #[.slice none 0 0, .bool false, .bool false, .int .u32 0] 39)).drewN nq) = W3 at hT3 hO3 hR3 hF3 hy3 hb03 hs3 ⊢
        obtain ⟨e0, e1, e2, e3, e4, e5⟩ := fr_block (v := f.v) (k := f.k) (s := f.s) (i := f.i) (c := f.c) hF3
        have hf3 : f.At W3 W3.heap.size := (HF.out.below hb03).mono hb03.size
        have hxm : ∀ x ∈ X, x.m < w.heap.size := fun x hx => (SlotAt.map (HT.out.slots x hx)).lt
        have hmlt : m < w.heap.size := HT.out.map.lt
        have KP := sput_any hy3 f.v f.k f.s f.i f.c f.a f.zs.length f.cp f.zs rfl hf3.byte hf3.nums
        have hfind : Tb.find (X.map Sx.ms) f.s = none := find_none_ms.2 hno
        obtain ⟨er, hEr⟩ : ∃ er, (Tb.Ms.new f).err f = er := ⟨_, rfl⟩
        have hEr' : sErr f.v f.k f.s f.c f.v f.k f.s f.i f.c (([] : List Pl).map Pl.ct) f.zs = er := hEr
        rw [hEr'] at KP
        unfold frV frC at KP
        have HKP := Lib.hid KP
        have HT3 := Lib.hid hT3
        have HO3 := Lib.hid hO3
        have HR3 := Lib.hid hR3
        have HF3 := Lib.hid hF3
        have HB03 := Lib.hid hb03
        have HY3 := Lib.hid hy3
        have HNO := Lib.hid hno
        have HXM := Lib.hid hxm
        have HFIND := Lib.hid hfind
        have HER := Lib.hid hEr
        have hs3' : w.heap.size + 2 < W3.heap.size := by omega
        clear KP hT3 hO3 hR3 hF3 hb03 hno hfind hEr hEr' hy3 hf3 hxm
        by_cases er0 : er = 0
        · subst er0
          go_wp2_with fail
          refine HKP.out.mono ?_
          rintro e W4 ⟨rfl, ho4, hor4⟩
          obtain ⟨_, p, hpi, hpz, hsl4⟩ := hor4.resolve_left fun h => h.1 rfl
          obtain ⟨y, hy'⟩ : ∃ y : Sx, y = ⟨yb, ym, f.v, f.k, f.s, f.c, [] ++ [p]⟩ := ⟨_, rfl⟩
          have hat' : y.At W4 := by rw [hy']; exact hsl4
          have hys : y.s = f.s := by rw [hy']
          have hyb : y.b = yb := by rw [hy']
          have hymy : y.m = ym := by rw [hy']
          have hms : y.ms = (Tb.Ms.new f).push f := by rw [hy']; simp [Sx.ms, Tb.Ms.push, Tb.Ms.new, Pl.ct, Fr.ct, hpi, hpz]
          have hT4 := (HT3.out.strange (q := ym) (fun cs t x => (SlotAt.map HY3.out).not_cells cs t x) (by omega) (fun x hx => by have := HXM.out x hx; omega) ho4)
          have hT4' := hT4.mono (S' := fun q => (S q ∧ q < w.heap.size) ∨ q = ym) fun _ h => .inl h
          have h04 : TOff S w W4 := Off.trans (Off.of_below HB03.out) ho4 fun j hj e => by omega
          have KA := tadd_any hT4' hat' (fun x hx => by rw [hys]; exact HNO.out x hx) (.inr hymy) (by rw [hymy]; omega) (fun x hx => by have := HXM.out x hx; omega)
          rw [hys, hyb] at KA
          have hR4 := (ho4.block (w.heap.size + 1) (by omega) (by omega)).trans HR3.out
          have hO4 := (ho4.block W1.heap.size hs3 (by omega)).trans HO3.out
          have hF4 := (ho4.block w.heap.size (by omega) (by omega)).trans HF3.out
          have hs4 := ho4.size
          obtain ⟨g0, g1, g2, g3, g4, g5⟩ := fr_block (v := f.v) (k := f.k) (s := f.s) (i := f.i) (c := f.c) hF4
          have HKA := Lib.hid KA
          have HT4 := Lib.hid hT4
          have H04 := Lib.hid h04
          have HR4 := Lib.hid hR4
          have HO4 := Lib.hid hO4
          have HF4 := Lib.hid hF4
          have HMS := Lib.hid hms
          have HYS := Lib.hid hys
          clear KA hT4 hT4' h04 hR4 hO4 hF4 hms hys hyb hsl4 hor4 ho4 hat' HKP HT3 e0 e1 e2 e3 e4 e5
          go_wp2_with fail
          refine HKA.out.mono ?_
          rintro e W5 (⟨hlr, haf, rfl, hb5⟩ | ⟨X5, ev, old, hcase, rfl, hto5, A5, cp5, hT5⟩)
          · have hR5 := (hb5.block (w.heap.size + 1) (by omega)).trans HR4.out
            have hO5 := (hb5.block W1.heap.size (by omega)).trans HO4.out
            obtain ⟨W6, hW6⟩ : ∃ W6, W5.setRow W1.heap.size (outC none 0 0 false false 0) = W6 := ⟨_, rfl⟩
            have hof6 : Off (fun p => p = W1.heap.size) W5 W6 := by rw [← hW6]; exact (Off.refl (fun p => p = W1.heap.size) W5).setRow rfl _
            have hT6 := (HT4.out.below hb5).other hO5 ⟨by decide, by decide, by decide, by decide⟩ hof6
            have h06 : TOff S w W6 := by rw [← hW6]; exact tset_new (TOff.trans (S' := S) H04.out (TOff.of_below hb5) fun _ _ h => h) (by omega) _
            have HO5 := Lib.hid hO5
            have HR6 := Lib.hid ((hof6.block _ (Array.getElem?_eq_some_iff.1 hR5).1 (by omega)).trans hR5)
            have hput : Tb.put r (X.map Sx.ms) f = ⟨18, X.map Sx.ms, .no⟩ := by
              rw [Tb.put_new HOK.out HZ.out HFIND.out, if_neg (by rw [HER.out]; simp), if_pos (by rw [List.length_map]; exact hlr)]
              unfold Tb.old
              rw [nums_ms, ← HYS.out, haf]
              rfl
            have HFIN : Hid (G (.returned (.tuple #[.agg (outC none 0 0 false false 0), .int .i64 (18)])) (W6.setRow (w.heap.size + 1) (outC none 0 0 false false 0))) := by
              rw [← HG.out]
              exact TPutR.no ((hT6.mono fun _ h => h.1).other HR6.out ⟨by decide, by decide, by decide, by decide⟩ ((Off.refl (fun p => p = w.heap.size + 1) W6).setRow rfl _)) (tset_new (h06) (by omega) _) (hput)
            clear hput h06 hT6 hof6 hR5 hO5 hb5 haf hlr HKA
            subst hW6
            unfold outV
            go_wp2_with (first | (refine wpList_store_row rfl 39 (.tmp 8) (.tmp 61) rfl W1.heap.size (outC none 0 0 false false 0) rfl rfl 39 _ HO5.out outInfo rfl (out_one ..) ?_) | (refine wpList_store_row rfl 39 (.tmp 4) (.tmp 65) rfl (w.heap.size + 1) (outC none 0 0 false false 0) rfl rfl 39 _ HR6.out outInfo rfl (out_one ..) ?_))
            refine bodyPost_ret (results_row_tmp (P := Try.prog) (fn := Try.f20) rfl _ _ (w.heap.size + 1) 39 (outC none 0 0 false false 0) _ (by rfl) (setRow_heap _ _ _ _ _ _ HR6.out) Try.underlying39 (by rfl) outInfo) rfl ?_
            exact HFIN.out
          · have hR5 := (TOff.keep hto5 (q := w.heap.size + 1) (by omega) (fun h => by rcases h with h | h <;> omega)).trans HR4.out
            have hO5 := (TOff.keep hto5 (q := W1.heap.size) (by omega) (fun h => by rcases h with h | h <;> omega)).trans HO4.out
            have hF5 := (TOff.keep hto5 (q := w.heap.size) (by omega) (fun h => by rcases h with h | h <;> omega)).trans HF4.out
            have hs5 := TOff.size hto5
            obtain ⟨W6, hW6⟩ : ∃ W6, W5.setRow W1.heap.size (outC none 0 0 false ev old) = W6 := ⟨_, rfl⟩
            have hof6 : Off (fun p => p = W1.heap.size) W5 W6 := by rw [← hW6]; exact (Off.refl (fun p => p = W1.heap.size) W5).setRow rfl _
            have hT6 := hT5.other hO5 ⟨by decide, by decide, by decide, by decide⟩ hof6
            have h05 : TOff S w W5 := TOff.trans H04.out hto5 fun q hq h => by
              rcases h with h | h
              · exact h.1
              · omega
            have h06 : TOff S w W6 := by rw [← hW6]; exact tset_new h05 (by omega) _
            have hR6 := (hof6.block _ (Array.getElem?_eq_some_iff.1 hR5).1 (by omega)).trans hR5
            have hF6 := (hof6.block _ (Array.getElem?_eq_some_iff.1 hF5).1 (by omega)).trans hF5
            have hO6 : W6.heap[W1.heap.size]? = some (.cells (outC none 0 0 false ev old) 39 (0, 0)) := by rw [← hW6]; exact setRow_heap _ _ _ _ _ _ hO5
            have hyX : y ∈ X5 := by
              rcases hcase with ⟨_, _, _, h⟩ | ⟨_, _, _, _, h⟩ <;> rw [h] <;> simp
            have hput : Tb.put r (X.map Sx.ms) f = .ok (Tb.came (X5.map Sx.ms) y.s ev old) := by
              rw [Tb.put_new HOK.out HZ.out HFIND.out, if_neg (by rw [HER.out]; simp), List.length_map]
              rcases hcase with ⟨h1, h2, h3, h4⟩ | ⟨h1, h2, h3, h4, h5⟩
              · rw [if_neg h1, h2, h3, h4, List.map_append, List.map_singleton, HMS.out, HYS.out]
              · have hold : Tb.old (X.map Sx.ms) = old := by unfold Tb.old; rw [nums_ms, h4]
                rw [if_pos h1, hold, ← HYS.out]
                rw [← h4] at h2 h5
                rw [if_pos h2, h3, h5, List.map_append, List.map_singleton, HMS.out, filter_ms]
            have KC := tcame_any hT6 hyX ev old
            rw [HYS.out] at KC
            have hend := fun (e : Ending) (W9 : World) hc => tput_end (w := w) (S := S) (e := e) (W5 := W9) hput hT6 hyX h06 (fun q h => by
              rcases h with (h | h) | h
              · exact .inl h.1
              · exact .inr (by omega)
              · exact .inr (by omega)) hR6 (by omega) (fun h => by rcases h with (h | h) | h <;> omega) hc
            obtain ⟨k0, k1, k2, k3, k4, k5⟩ := fr_block (v := f.v) (k := f.k) (s := f.s) (i := f.i) (c := f.c) hF6
            have HKC := Lib.hid KC
            have HEND := Lib.hid hend
            have HO5 := Lib.hid hO5
            have HO6 := Lib.hid hO6
            clear KC hend hO5 hO6 hF5 hF6 hR5 hR6 hput h05 h06 hT5 hT6 hof6 hto5 hyX hcase HKA g0 g1 g2 g3 g4 g5
            subst hW6
            unfold outV at HKC ⊢
            go_wp2_with (first | (refine wpList_store_row rfl 39 (.tmp 8) (.tmp 61) rfl W1.heap.size (outC none 0 0 false ev old) rfl rfl 39 _ HO5.out outInfo rfl (out_one ..) ?_) | (refine wpList_load_row rfl 39 (.tmp 8) rfl W1.heap.size rfl 39 (outC none 0 0 false ev old) (0, 0) _ HO6.out Try.underlying39 rfl outInfo ?_))
            refine HKC.out.mono ?_
            rintro e W9 hcame
            obtain ⟨A2, q, cp2, wh, rfl, hR9, hfin⟩ := HEND.out _ _ hcame
            rw [HG.out] at hfin
            have HFIN := Lib.hid hfin
            have HR9 := Lib.hid hR9
            clear hcame hR9 hfin HKC HEND
            go_wp2_with (refine wpList_store_row rfl 39 (.tmp 4) (.tmp 72) rfl (w.heap.size + 1) (outC A2 q cp2 wh ev old) rfl rfl 39 _ HR9.out outInfo rfl (out_one ..) ?_)
            refine bodyPost_ret (results_row_tmp (P := Try.prog) (fn := Try.f20) rfl _ _ (w.heap.size + 1) 39 (outC A2 q cp2 wh ev old) _ (by rfl) (setRow_heap _ _ _ _ _ _ HR9.out) Try.underlying39 (by rfl) outInfo) rfl ?_
            exact HFIN.out
        · go_wp2_with fail
          refine HKP.out.mono ?_
          rintro e W4 ⟨rfl, ho4, hor4⟩
          have hT4 := (HT3.out.strange (q := ym) (fun cs t x => (SlotAt.map HY3.out).not_cells cs t x) (by omega) (fun x hx => by have := HXM.out x hx; omega) ho4)
          have h04 : TOff S w W4 := Off.trans (Off.of_below HB03.out) ho4 fun j hj e => by omega
          have HR4 := Lib.hid ((ho4.block (w.heap.size + 1) (by omega) (by omega)).trans HR3.out)
          have hs4 := ho4.size
          have HFIN : Hid (G (.returned (.tuple #[.agg (outC none 0 0 false false 0), .int .i64 (er)])) (W4.setRow (w.heap.size + 1) (outC none 0 0 false false 0))) := by
            rw [← HG.out]
            exact TPutR.no ((hT4.mono fun _ h => h.1).other HR4.out ⟨by decide, by decide, by decide, by decide⟩ ((Off.refl (fun p => p = w.heap.size + 1) W4).setRow rfl _)) (tset_new (h04) (by omega) _) (by rw [Tb.put_new HOK.out HZ.out HFIND.out, if_pos (by rw [HER.out]; exact er0), HER.out])
          clear h04 hT4 ho4 hor4 HT3 HKP e0 e1 e2 e3 e4 e5
          go_wp2_with (refine wpList_store_row rfl 39 (.tmp 4) (.tmp 65) rfl (w.heap.size + 1) (outC none 0 0 false false 0) rfl rfl 39 _ HR4.out outInfo rfl (out_one ..) ?_)
          refine bodyPost_ret (results_row_tmp (P := Try.prog) (fn := Try.f20) rfl _ _ (w.heap.size + 1) 39 (outC none 0 0 false false 0) _ (by rfl) (setRow_heap _ _ _ _ _ _ HR4.out) Try.underlying39 (by rfl) outInfo) rfl ?_
          exact HFIN.out
end
end Go.Proofs.Ytfdbcfkjablnkaa

namespace Go.Proofs.Ytfdbcfkjablnkaa
open Go.RowKit
set_option maxRecDepth 100000

theorem same_lens (a1 a2 : Option Addr) (n1 n2 c1 c2 : Nat) (w : World) (h : n1 ≠ n2) :
    Calls Try.prog 26 #[.slice a1 n1 c1, .slice a2 n2 c2] w fun e w' => e = .returned (.bool false) ∧ ∃ n, w' = w.drewN n := by
  have h2 : ((n1 : Int) != (n2 : Int)) = true := by simp; omega
  have h3 : ¬ (n1 : Int) = (n2 : Int) := by omega
  go_enter Try.func26, Try.ntmps26
  go_wp2
  go_ret
  exact ⟨rfl, 0, rfl⟩

/-- Same of any two lists -/
theorem same_any (B : Nat) (a1 a2 : Option Addr) (n1 n2 c1 c2 : Nat) (xs ys : List Int) (w : World) (e1 : xs.length = n1) (e2 : ys.length = n2) (l1 : n1 ≤ 9223372036854775807) (h1 : Nums .u8 w B a1 xs) (h2 : Nums .u8 w B a2 ys) :
    Calls Try.prog 26 #[.slice a1 n1 c1, .slice a2 n2 c2] w fun e w' => e = .returned (.bool (decide (xs = ys))) ∧ ∃ n, w' = w.drewN n := by
  by_cases hl : n1 = n2
  · subst hl
    have HE1 := Lib.hid e1
    have HE2 := Lib.hid e2
    clear e1 e2
    go_enter Try.func26, Try.ntmps26
    go_wp2
    go_loopw [5] (fun i wr => ∃ k : Nat, k ≤ n1 ∧ i = .int .i64 k ∧ Hid (xs.take k = ys.take k) ∧ ∃ n, wr = w.drewN n) (fun i _ => n1 - (intOf i).toNat)
    case atStart => exact ⟨0, by omega, rfl, rfl, 0, rfl⟩
    case round =>
      obtain ⟨k, hk, rfl, HT, n, rfl⟩ := hrel
      by_cases hlt : k < n1
      · obtain ⟨x, hx⟩ : ∃ x, xs[k]? = some x := ⟨_, List.getElem?_eq_getElem (by rw [HE1.out]; exact hlt)⟩
        obtain ⟨y, hy⟩ : ∃ y, ys[k]? = some y := ⟨_, List.getElem?_eq_getElem (by rw [HE2.out]; exact hlt)⟩
        obtain ⟨b1, o1, rfl, hb1, hc1⟩ := h1.open hx
        obtain ⟨b2, o2, rfl, hb2, hc2⟩ := h2.open hy
        have HX := Lib.hid hx
        have HY := Lib.hid hy
        clear h1 h2 hx hy
        have hlt' : (k : Int) < (n1 : Int) := by omega
        by_cases hxy : x = y
        · have hq : (x != y) = false := by simp [hxy]
          have HQ : Hid (xs.take (k + 1) = ys.take (k + 1)) := by
            show _ = _
            rw [List.take_add_one, List.take_add_one, HT.out, HX.out, HY.out, hxy]
          subst hxy
          go_wp2
          go_quiet (fail)
          go_wp2
          go_roundw
          case rel => exact ⟨k + 1, by omega, by go_num, HQ, _, rfl⟩
          case measure => simp [intOf]; omega
        · have hq : (x != y) = true := by simp [hxy]
          have HQ : Hid (¬ xs = ys) := fun e => hxy (by
            have h3 := HX.out
            rw [e, HY.out] at h3
            exact (Option.some.inj h3).symm)
          have HN := Lib.hid hxy
          clear hxy
          go_wp2
          go_quiet (fail)
          go_wp2
          go_ret
          exact ⟨by rw [decide_eq_false HQ.out]; rfl, n + nq, by simp [World.drewN, Nat.add_assoc]⟩
      · have hk' : k = n1 := by omega
        have HQ : Hid (xs = ys) := by
          have h3 := HT.out
          rw [List.take_of_length_le (by rw [HE1.out]; omega), List.take_of_length_le (by rw [HE2.out]; omega)] at h3
          exact h3
        go_wp2
        go_ret
        exact ⟨by rw [decide_eq_true HQ.out]; rfl, n, rfl⟩
  · refine (same_lens a1 a2 n1 n2 c1 c2 w hl).mono ?_
    rintro e w' ⟨rfl, hd⟩
    exact ⟨by rw [decide_eq_false (fun e => hl (by rw [← e1, ← e2, e]))], hd⟩
end Go.Proofs.Ytfdbcfkjablnkaa

namespace Go.Proofs.Ytfdbcfkjablnkaa
open Go.RowKit
set_option maxRecDepth 100000

theorem put_ok {w w' : World} {b m : Nat} {v k s c : Int} {E : List Pl} {i : Nat} {zs : List Int} {e : Ending} (h : PutR w b m v k s c E i zs 0 e w') :
    e = .returned (.int .i64 0) ∧ Off (fun q => q = m) w w' ∧ ∃ p : Pl, p.i = i ∧ p.zs = zs ∧ SlotAt w' b m v k s c (E ++ [p]) := by
  obtain ⟨h1, h2, ⟨h3, _⟩ | ⟨_, h3⟩⟩ := h
  · exact absurd rfl h3
  · exact ⟨h1, h2, h3⟩
theorem two_heads {w W3 : World} {t : TypeId} (hw : (w.alloc (.cells #[.int .i64 1, .int .i64 1, .int .u32 0, .int .i64 0, .int .i64 2] t)).alloc (.cells #[.int .i64 1, .int .i64 1, .int .u32 0, .int .i64 1, .int .i64 2] t) = W3) :
    Below w.heap.size w W3 ∧ W3.heap.size = w.heap.size + 2 ∧ ∀ W, Below W3.heap.size W3 W →
      (W.cell? ⟨w.heap.size, 0, none⟩ = some (.int .i64 1) ∧ W.cell? ⟨w.heap.size, 1, none⟩ = some (.int .i64 1) ∧ W.cell? ⟨w.heap.size, 2, none⟩ = some (.int .u32 0) ∧ W.cell? ⟨w.heap.size, 3, none⟩ = some (.int .i64 0) ∧ W.cell? ⟨w.heap.size, 4, none⟩ = some (.int .i64 2)) ∧
      (W.cell? ⟨w.heap.size + 1, 0, none⟩ = some (.int .i64 1) ∧ W.cell? ⟨w.heap.size + 1, 1, none⟩ = some (.int .i64 1) ∧ W.cell? ⟨w.heap.size + 1, 2, none⟩ = some (.int .u32 0) ∧ W.cell? ⟨w.heap.size + 1, 3, none⟩ = some (.int .i64 1) ∧ W.cell? ⟨w.heap.size + 1, 4, none⟩ = some (.int .i64 2)) := by
  have hs : W3.heap.size = w.heap.size + 2 := by rw [← hw]; simp
  have h0 : W3.heap[w.heap.size]? = some (.cells #[.int .i64 1, .int .i64 1, .int .u32 0, .int .i64 0, .int .i64 2] t (0, 0)) := by rw [← hw]; exact (Below.heap_alloc _ _ _ (by simp)).trans (World.alloc_heap_new _ _)
  have h1 : W3.heap[w.heap.size + 1]? = some (.cells #[.int .i64 1, .int .i64 1, .int .u32 0, .int .i64 1, .int .i64 2] t (0, 0)) := by
    have := World.alloc_heap_new (w.alloc (.cells #[.int .i64 1, .int .i64 1, .int .u32 0, .int .i64 0, .int .i64 2] t)) (.cells #[.int .i64 1, .int .i64 1, .int .u32 0, .int .i64 1, .int .i64 2] t)
    rw [World.size_alloc] at this
    rw [← hw]; exact this
  exact ⟨by rw [← hw]; exact ((Below.refl _ w).alloc (Nat.le_refl _) _).alloc (by simp) _, hs, fun W hW => ⟨hd_block ((hW.block _ (by omega)).trans h0), hd_block ((hW.block _ (by omega)).trans h1)⟩⟩
/-- a row of bytes that is written out, in a world that goes on -/
theorem new_row (W : World) (zs : List Int) (cs : Array Value) (h : cs = (zs.map (Value.int .u8)).toArray) : Nums .u8 (W.alloc (.cells cs 5)) (W.alloc (.cells cs 5)).heap.size (some ⟨W.heap.size, 0, none⟩) zs := by
  have := Nums.new .u8 W 5 zs cs h
  rwa [World.size_alloc]
end Go.Proofs.Ytfdbcfkjablnkaa

namespace Go.Proofs.Ytfdbcfkjablnkaa
open Go.RowKit Go.Shelf
set_option maxRecDepth 100000

theorem tput_nil (f : Fr) (w : World) : Calls Try.prog 20 #[.pointer none, frV f.v f.k f.s f.i f.c (.slice f.a f.zs.length f.cp)] w fun e w' => e = .returned (.tuple #[outV none 0 0 false false 0, .int .i64 1]) ∧ Below w.heap.size w w' := by
  obtain ⟨w0, hw0⟩ : ∃ w0, (w.alloc (.cells f.cs 35)).alloc (.cells (outC none 0 0 false false 0) 39) = w0 := ⟨_, rfl⟩
  obtain ⟨hb0, hs0, hF0, hR0⟩ := put_boxes hw0
  have HFIN := Lib.hid (setRow_new hb0 (by omega : w.heap.size ≤ w.heap.size + 1) (outC none 0 0 false false 0))
  have HR0 := Lib.hid hR0
  clear hb0 hF0 hR0
  subst hw0
  unfold frV
  simp only [Fr.cs, frC, outC] at HFIN HR0 ⊢
  go_enter Try.func20, Try.ntmps20
  go_wp2_with (refine wpList_store_row rfl 39 (.tmp 4) (.tmp 13) rfl (w.heap.size + 1) (outC none 0 0 false false 0) rfl rfl 39 _ HR0.out outInfo rfl (out_one ..) ?_)
  refine bodyPost_ret (results_row_tmp (P := Try.prog) (fn := Try.f20) rfl _ _ (w.heap.size + 1) 39 (outC none 0 0 false false 0) _ (by rfl) (setRow_heap _ _ _ _ _ _ HR0.out) Try.underlying39 (by rfl) outInfo) rfl ?_
  exact ⟨rfl, HFIN.out⟩
section
variable {w w' : World} {S : Nat → Prop} {b r : Nat} {T : List Tb.Ms} {f : Fr} {e : Ending}
theorem TPutR.of {R : Tb.Res} (h : TPutR w S b r T f e w') (hp : Tb.put r T f = R) : ∃ A2 c2, e = .returned (.tuple #[outV A2 R.o.zs.length c2 R.o.wh R.o.ev R.o.old, .int .i64 R.e]) ∧ R.o.zs.length ≤ c2 ∧ NumsS .u8 w' (fun g => w.heap.size ≤ g ∧ g < w'.heap.size) A2 R.o.zs ∧ TOff S w w' ∧ TblOf w' (fun q => S q ∨ w.heap.size ≤ q) b r R.T := by
  subst hp
  exact h
theorem TPutR.nothing {er : Int} {T' : List Tb.Ms} {ev : Bool} {old : Int} (h : TPutR w S b r T f e w') (hp : Tb.put r T f = ⟨er, T', ⟨[], false, ev, old⟩⟩) : ∃ A2 c2, e = .returned (.tuple #[outV A2 0 c2 false ev old, .int .i64 er]) ∧ TOff S w w' ∧ TblOf w' (fun q => (S q ∨ w.heap.size ≤ q) ∧ q < w'.heap.size) b r T' := by
  obtain ⟨A2, c2, h1, _, _, h2, m, A, n, cp, X, h3, h4⟩ := h.of hp
  exact ⟨A2, c2, h1, h2, m, A, n, cp, X, h3.small, h4⟩
theorem TblOf.small (h : TblOf w S b r T) : TblOf w (fun q => S q ∧ q < w.heap.size) b r T := by
  obtain ⟨m, A, n, cp, X, h1, h2⟩ := h
  exact ⟨m, A, n, cp, X, h1.small, h2⟩
theorem TblOf.below (h : TblOf w S b r T) (hb : Below w.heap.size w w') : TblOf w' S b r T := by
  obtain ⟨m, A, n, cp, X, h1, h2⟩ := h
  exact ⟨m, A, n, cp, X, h1.below hb, h2⟩
theorem TblOf.mono {S' : Nat → Prop} (h : TblOf w S b r T) (hS : ∀ q, S q → S' q) : TblOf w S' b r T := by
  obtain ⟨m, A, n, cp, X, h1, h2⟩ := h
  exact ⟨m, A, n, cp, X, h1.mono hS, h2⟩
theorem tput_of (h : TblOf w S b r T) (f : Fr) (hf : f.At w w.heap.size) :
    Calls Try.prog 20 #[.pointer (some ⟨b, 0, none⟩), frV f.v f.k f.s f.i f.c (.slice f.a f.zs.length f.cp)] w (TPutR w S b r T f) := by
  obtain ⟨m, A, n, cp, X, h1, rfl⟩ := h
  exact tput_any h1 f hf
end
/-- the two frames of the example -/
def knF (p : Nat) (s : Int) : Fr := ⟨1, 1, s, 0, 2, some ⟨p, 0, none⟩, 1, [1]⟩
def knM (s : Int) : Tb.Ms := ⟨1, 1, s, 2, [(0, [1])]⟩
theorem kn1 (p : Nat) : Tb.put 1 [] (knF p 5) = ⟨0, [knM 5], ⟨[], false, false, 0⟩⟩ := by rfl
theorem kn2 (p : Nat) : Tb.put 1 [knM 5] (knF p 6) = ⟨0, [knM 6], ⟨[], false, true, 5⟩⟩ := by rfl
theorem kn3 (p : Nat) : Tb.put 1 [knM 6] (knF p 5) = ⟨18, [knM 6], .no⟩ := by rfl
theorem row_stays {w w' : World} {q : Nat} {o : Obj} (h : w.heap[q]? = some o) (hb : Below w.heap.size w w') : w'.heap[q]? = some o := (hb.block q (Array.getElem?_eq_some_iff.1 h).1).trans h
/-- the example's memory: a payload, and the frames' boxes behind it -/
structure KnAt (p : Nat) (V : World) : Prop where
  pay : V.heap[p]? = some (.cells #[.int .u8 1] 5 (0, 0))
  f : V.heap[p + 1]? = some (.cells (knF p 5).cs 35 (0, 0))
  g : V.heap[p + 1 + 1]? = some (.cells (knF p 6).cs 35 (0, 0))
section
variable {p : Nat} {V V' : World}
theorem KnAt.lt (h : KnAt p V) : p + 2 < V.heap.size := (Array.getElem?_eq_some_iff.1 h.g).1
theorem KnAt.toff {S : Nat → Prop} (h : KnAt p V) (ho : TOff S V V') (hS : ∀ q, p ≤ q → q ≤ p + 2 → ¬ S q) : KnAt p V' := by
  have := h.lt
  exact ⟨(TOff.keep ho (by omega) (hS _ (by omega) (by omega))).trans h.pay, (TOff.keep ho (by omega) (hS _ (by omega) (by omega))).trans h.f, (TOff.keep ho (by omega) (hS _ (by omega) (by omega))).trans h.g⟩
theorem KnAt.below (h : KnAt p V) (hb : Below V.heap.size V V') : KnAt p V' := ⟨row_stays h.pay hb, row_stays h.f hb, row_stays h.g hb⟩
theorem KnAt.at (h : KnAt p V) (s : Int) (hs : 0 ≤ s ∧ s ≤ 4294967295) : (knF p s).At V V.heap.size :=
  ⟨hs.1, hs.2, Nat.le_refl _, by simp [knF], fun z hz => by simp [knF] at hz; omega, fun _ => ⟨p, 0, rfl, by have := h.lt; omega, fun j c hj => by
    cases j with
    | zero => simp [knF] at hj; subst hj; simp [World.cell?, h.pay]
    | succ j => simp [knF] at hj⟩⟩
end
theorem kn_boxes {W1 W2 : World} (hw : ((W1.alloc (.cells #[.int .u8 1] 5)).alloc (.cells (knF W1.heap.size 5).cs 35)).alloc (.cells (knF W1.heap.size 6).cs 35) = W2) : KnAt W1.heap.size W2 ∧ Below W1.heap.size W1 W2 := by
  obtain ⟨V1, hV1⟩ : ∃ V1, W1.alloc (.cells #[.int .u8 1] 5) = V1 := ⟨_, rfl⟩
  rw [hV1] at hw
  obtain ⟨V2, hV2⟩ : ∃ V2, V1.alloc (.cells (knF W1.heap.size 5).cs 35) = V2 := ⟨_, rfl⟩
  rw [hV2] at hw
  have s1 : V1.heap.size = W1.heap.size + 1 := by rw [← hV1]; simp
  have s2 : V2.heap.size = W1.heap.size + 1 + 1 := by rw [← hV2]; simp [s1]
  have b1 : Below W1.heap.size W1 V1 := by rw [← hV1]; exact (Below.refl _ _).alloc (Nat.le_refl _) _
  have b2 : Below V1.heap.size V1 V2 := by rw [← hV2]; exact (Below.refl _ _).alloc (Nat.le_refl _) _
  have b3 : Below V2.heap.size V2 W2 := by rw [← hw]; exact (Below.refl _ _).alloc (Nat.le_refl _) _
  have h1 : V1.heap[W1.heap.size]? = some (.cells #[.int .u8 1] 5 (0, 0)) := by rw [← hV1]; exact World.alloc_heap_new _ _
  have h2 : V2.heap[W1.heap.size + 1]? = some (.cells (knF W1.heap.size 5).cs 35 (0, 0)) := by rw [← s1, ← hV2]; exact World.alloc_heap_new _ _
  have h3 : W2.heap[W1.heap.size + 1 + 1]? = some (.cells (knF W1.heap.size 6).cs 35 (0, 0)) := by rw [← s2, ← hw]; exact World.alloc_heap_new _ _
  exact ⟨⟨row_stays (row_stays h1 b2) b3, row_stays h2 b3, h3⟩, b1.trans ((b2.trans (b3.mono b2.size)).mono b1.size)⟩
end Go.Proofs.Ytfdbcfkjablnkaa

namespace Go.Proofs.Ytfdbcfkjablnkaa
open Go.RowKit
set_option maxRecDepth 100000

/-- the blocks that a table owns -/
def Own (b m : Nat) (A : Option Addr) (n cp : Nat) (X : List Sx) (q : Nat) : Prop := q = b ∨ q = m ∨ (Value.slice A n cp).ownBlock = some q ∨ ∃ x ∈ X, q = x.m
/-- blocks with cells are a table's box or a row of numbers -/
def Tys (w : World) (S : Nat → Prop) : Prop := ∀ g cs t fz, w.heap[g]? = some (.cells cs t fz) → S g → fz = (0, 0) → t = 75 ∨ t = 22
section
variable {w w' : World} {S : Nat → Prop} {b r m n cp : Nat} {A : Option Addr} {X : List Sx}
theorem TblAt.exact (h : TblAt w S b r m A n cp X) : TblAt w (Own b m A n cp X) b r m A n cp X :=
  ⟨h.row, h.len, h.ord, h.map, h.slots, h.maps, h.room, h.few, .inl rfl, .inr (.inl rfl), fun _ hg => .inr (.inr (.inl hg)), fun x hx => .inr (.inr (.inr ⟨x, hx, rfl⟩))⟩
theorem TblAt.own_sub (h : TblAt w S b r m A n cp X) : ∀ q, Own b m A n cp X q → S q := by
  rintro q (rfl | rfl | hq | ⟨x, hx, rfl⟩)
  · exact h.inS.1
  · exact h.inS.2.1
  · exact h.inS.2.2.1 q hq
  · exact h.inS.2.2.2 x hx
theorem TblAt.own_lt (h : TblAt w S b r m A n cp X) : ∀ q, Own b m A n cp X q → q < w.heap.size := by
  rintro q (rfl | rfl | hq | ⟨x, hx, rfl⟩)
  · exact h.lt
  · exact h.map.lt
  · exact (h.ord.lt q hq).2
  · exact (SlotAt.map (h.slots x hx)).lt
theorem TblAt.tys (h : TblAt w S b r m A n cp X) : Tys w (Own b m A n cp X) := by
  rintro g cs t fz hg (rfl | rfl | hq | ⟨x, hx, rfl⟩) rfl
  · have := hg.symm.trans h.row
    injection this with this
    injection this with _ this _
    exact .inl this
  · exact absurd hg (h.map.not_cells _ _ _)
  · obtain ⟨cs', h1⟩ := tord_row h.ord hq
    have := hg.symm.trans h1
    injection this with this
    injection this with _ this _
    exact .inr this
  · exact absurd hg ((SlotAt.map (h.slots x hx)).not_cells _ _ _)
theorem Tys.not {q : Nat} {cs : Array Value} {t : TypeId} (h : Tys w S) (hq : w.heap[q]? = some (.cells cs t (0, 0))) (h1 : t ≠ 75) (h2 : t ≠ 22) : ¬ S q := fun hs => (h q cs t _ hq hs rfl).elim h1 h2
theorem TblOf.exact {T : List Tb.Ms} (h : TblOf w S b r T) : ∃ m A n cp X, TblAt w (Own b m A n cp X) b r m A n cp X ∧ X.map Sx.ms = T ∧ ∀ q, Own b m A n cp X q → S q := by
  obtain ⟨m, A, n, cp, X, h, e⟩ := h
  exact ⟨m, A, n, cp, X, h.exact, e, h.own_sub⟩
end
theorem tys_sub {w : World} {S S' : Nat → Prop} (h : Tys w S) (hs : ∀ q, S' q → S q) : Tys w S' := fun g cs t fz hg hq hf => h g cs t fz hg (hs g hq) hf
theorem tys_below {w w' : World} {S : Nat → Prop} (h : Tys w S) (hb : Below w.heap.size w w') (hl : ∀ q, S q → q < w.heap.size) : Tys w' S := fun g cs t fz hg hq hf => h g cs t fz ((hb.block g (hl g hq)).symm.trans hg) hq hf
end Go.Proofs.Ytfdbcfkjablnkaa

namespace Go.Proofs.Ytfdbcfkjablnkaa
open Go.RowKit Go.Shelf
set_option maxRecDepth 100000

/-- the cells of frames, one behind the other -/
def flatF (fs : List Fr) : List Value := fs.flatMap fun f => f.cs.toList
theorem flatF_len (fs : List Fr) : (flatF fs).length = fs.length * 6 := by
  induction fs with
  | nil => rfl
  | cons f r ih => unfold flatF at *; rw [List.flatMap_cons, List.length_append, ih, List.length_cons]; have : f.cs.toList.length = 6 := rfl; omega
theorem flatF_push (fs : List Fr) (f : Fr) : flatF (fs ++ [f]) = flatF fs ++ f.cs.toList := by unfold flatF; simp
theorem flatF_at : ∀ {fs : List Fr} {j q : Nat} {f : Fr} {u : Value}, fs[j]? = some f → f.cs[q]? = some u → (flatF fs)[j * 6 + q]? = some u
  | [], _, _, _, _, h, _ => by simp at h
  | g :: r, 0, q, f, u, h, hq => by
    simp only [List.getElem?_cons_zero, Option.some.injEq] at h
    subst h
    have hlt : q < 6 := (Array.getElem?_eq_some_iff.1 hq).1
    unfold flatF
    rw [List.flatMap_cons, List.getElem?_append_left (by show 0 * 6 + q < 6; omega), Nat.zero_mul, Nat.zero_add, Array.getElem?_toList]
    exact hq
  | g :: r, j + 1, q, f, u, h, hq => by
    have ih := flatF_at (fs := r) (j := j) (q := q) (f := f) (u := u) (by simpa using h) hq
    unfold flatF at *
    have h6 : g.cs.toList.length = 6 := rfl
    rw [List.flatMap_cons, List.getElem?_append_right (by rw [h6]; omega), h6, show (j + 1) * 6 + q - 6 = j * 6 + q by omega]
    exact ih
/-- two rows of unlike types lie apart -/
theorem own_apart {W : World} {base e e2 size size2 n m : Nat} {v u : Value} {xs ys : List Value} (h : W.ownsRow base e size v n xs) (h2 : W.ownsRow base e2 size2 u m ys) (hne : e ≠ e2) : v.ownBlock = none ∨ v.ownBlock ≠ u.ownBlock := by
  rcases h.2 with ⟨rfl, _⟩ | ⟨g, cap, cur, rfl, _, hh, _⟩
  · exact .inl rfl
  · right
    rcases h2.2 with ⟨rfl, _⟩ | ⟨g2, cap2, cur2, rfl, _, hh2, _⟩
    · simp [Value.ownBlock]
    · intro e3
      simp only [Value.ownBlock, Option.some.injEq] at e3
      subst e3
      rw [hh] at hh2
      injection hh2 with hh2
      injection hh2 with _ ht
      exact hne ht
theorem own_below6 {W W' : World} {base e size n : Nat} {v : Value} {xs : List Value} (h : W.ownsRow base e size v n xs) (hb : Below W.heap.size W W') : W'.ownsRow base e size v n xs := by
  refine ⟨h.1, ?_⟩
  rcases h.2 with h | ⟨g, cap, cur, hv, hg, hh, r⟩
  · exact .inl h
  · exact .inr ⟨g, cap, cur, hv, hg, (hb.block g (Array.getElem?_eq_some_iff.1 hh).1).trans hh, r⟩
/-- frames that lie there, their payloads with them -/
def FrsIn (w : World) (B : Nat) (A : Option Addr) (fs : List Fr) : Prop :=
  ∀ (j : Nat) (f : Fr), fs[j]? = some f → ∃ b, A = some ⟨b, 0, none⟩ ∧ b < B ∧ (∀ (q : Nat) (u : Value), f.cs[q]? = some u → w.cell? ⟨b, j * 6 + q, none⟩ = some u) ∧ f.zs.length ≤ f.cp ∧ Nums .u8 w B f.a f.zs
theorem FrsIn.below {w w' : World} {B : Nat} {A : Option Addr} {fs : List Fr} (h : FrsIn w B A fs) (hb : Below B w w') : FrsIn w' B A fs := fun j f hj => by
  obtain ⟨b, e, hB, hc, hl, hn⟩ := h j f hj
  exact ⟨b, e, hB, fun q u hq => (hb.cell (p := ⟨b, j * 6 + q, none⟩) hB).trans (hc q u hq), hl, hn.below hb⟩
theorem FrsIn.mono {w : World} {B B' : Nat} {A : Option Addr} {fs : List Fr} (h : FrsIn w B A fs) (hB : B ≤ B') : FrsIn w B' A fs := fun j f hj => by
  obtain ⟨b, e, hb, hc, hl, hn⟩ := h j f hj
  exact ⟨b, e, by omega, hc, hl, hn.mono hB⟩

/-- a row of frames, a row of numbers; the payloads in neither -/
structure FL (tf ti : TypeId) (base : Nat) (W : World) (v u : Value) (fs : List Fr) (es : List Int) : Prop where
  out : W.ownsRow base tf 6 v fs.length (flatF fs)
  err : W.ownsRow base ti 1 u es.length (es.map (Value.int .i64))
  pay : ∀ f ∈ fs, f.zs.length ≤ f.cp ∧ NumsS .u8 W (fun b => b < W.heap.size ∧ v.ownBlock ≠ some b ∧ u.ownBlock ≠ some b) f.a f.zs
section
variable {tf ti : TypeId} {base : Nat} {W W3 W4 W6 : World} {v v' u u' : Value} {fs : List Fr} {es : List Int}
theorem FL.start (tf ti : TypeId) (base : Nat) (W : World) : FL tf ti base W (.slice none 0 0) (.slice none 0 0) [] [] := ⟨World.ownsRow_nil _ _ _ _, World.ownsRow_nil _ _ _ _, fun f hf => by cases hf⟩
theorem FL.below {W' : World} (h : FL tf ti base W v u fs es) (hb : Below W.heap.size W W') : FL tf ti base W' v u fs es :=
  ⟨own_below6 h.out hb, own_below6 h.err hb, fun f hf => ⟨(h.pay f hf).1, ((h.pay f hf).2.keeps (KeepS.of_below hb fun _ hk => hk.1)).more fun _ hk => ⟨Nat.lt_of_lt_of_le hk.1 hb.size, hk.2⟩⟩⟩
theorem FL.err4 (h : FL tf ti base W v u fs es) (hne : tf ≠ ti) (hg : W.grownBy W4 v.ownBlock) : W4.ownsRow base ti 1 u es.length (es.map (Value.int .i64)) := h.err.kept hg (own_apart h.err h.out (Ne.symm hne))
/-- a frame and a number more -/
theorem FL.push {f : Fr} {e : Int} {o : Obj} (h : FL tf ti base W v u fs es) (hne : tf ≠ ti) (hb : Below W.heap.size W W3) (hf : f.zs.length ≤ f.cp) (hn : NumsS .u8 W3 (fun b => W.heap.size ≤ b ∧ b < W3.heap.size) f.a f.zs)
    (hown : W4.ownsRow base tf 6 v' (fs.length + 1) (flatF fs ++ f.cs.toList)) (hg : W3.grownBy W4 v.ownBlock) (hat : v'.ownBlock = v.ownBlock ∨ v'.ownBlock = some W3.heap.size)
    (hown2 : W6.ownsRow base ti 1 u' (es.length + 1) (es.map (Value.int .i64) ++ [.int .i64 e])) (hg2 : (W4.alloc o).grownBy W6 u.ownBlock) (hat2 : u'.ownBlock = u.ownBlock ∨ u'.ownBlock = some (W4.alloc o).heap.size) :
    FL tf ti base W6 v' u' (fs ++ [f]) (es ++ [e]) := by
  have hs3 := hb.size
  have hs4 := hg.size
  have hs6 := hg2.size
  rw [World.size_alloc] at hs6 hat2
  have he4 := (h.below hb).err4 hne hg
  -- what lies below W3's end, in neither row
  have key : ∀ a zs, NumsS .u8 W3 (fun b => b < W3.heap.size ∧ v.ownBlock ≠ some b ∧ u.ownBlock ≠ some b) a zs → NumsS .u8 W6 (fun b => b < W6.heap.size ∧ v'.ownBlock ≠ some b ∧ u'.ownBlock ≠ some b) a zs := fun a zs hz => by
    have h4 : KeepS (fun b => b < W3.heap.size ∧ v.ownBlock ≠ some b ∧ u.ownBlock ≠ some b) W3 W6 :=
      ⟨by omega, fun k hk => (hg2.block k (by rw [World.size_alloc]; omega) (fun e => hk.2.2 e.symm)).trans ((Below.heap_alloc W4 o k (by omega)).trans (hg.block k hk.1 (fun e => hk.2.1 e.symm)))⟩
    refine (hz.keeps h4).more fun k hk => ⟨by omega, fun e3 => ?_, fun e3 => ?_⟩
    · rcases hat with h5 | h5
      · exact hk.2.1 (h5.symm.trans e3)
      · rw [h5] at e3; injection e3 with e3; omega
    · rcases hat2 with h5 | h5
      · exact hk.2.2 (h5.symm.trans e3)
      · rw [h5] at e3; injection e3 with e3; omega
  refine ⟨?_, ?_, fun g hg' => ?_⟩
  · rw [flatF_push, List.length_append, List.length_singleton]
    refine (hown.alloc o).kept hg2 ?_
    rcases own_apart hown he4 hne with h5 | h5
    · exact .inl h5
    · exact .inr h5
  · rw [List.length_append, List.length_singleton, List.map_append]
    exact hown2
  · rcases List.mem_append.1 hg' with hg' | hg'
    · have h5 := (h.below hb).pay g hg'
      exact ⟨h5.1, key _ _ h5.2⟩
    · obtain rfl : g = f := by simpa using hg'
      refine ⟨hf, key _ _ (hn.more fun k hk => ⟨hk.2, fun e => ?_, fun e => ?_⟩)⟩
      · have := (h.out.lt k e).2; omega
      · have := (h.err.lt k e).2; omega
theorem FL.lies (h : FL tf ti base W v u fs es) : ∃ A c, v = .slice A fs.length c ∧ fs.length ≤ c ∧ FrsIn W W.heap.size A fs := by
  rcases h.out.2 with ⟨rfl, h0⟩ | ⟨g, cap, cur, rfl, hbg, hh, hle, _⟩
  · rw [List.eq_nil_of_length_eq_zero h0]
    exact ⟨none, 0, rfl, Nat.le_refl _, fun i f hi => by simp at hi⟩
  · refine ⟨_, cap, rfl, hle, fun j f hj => ⟨g, rfl, (Array.getElem?_eq_some_iff.1 hh).1, fun q u hq => ?_, (h.pay f (List.mem_of_getElem? hj)).1, (h.pay f (List.mem_of_getElem? hj)).2.nums fun _ hk => hk.1⟩⟩
    have h1 := h.out.cells (g := g) rfl (j * 6 + q) u (flatF_at hj hq)
    rw [Addr.add_lit, Nat.zero_add] at h1
    exact h1
end
end Go.Proofs.Ytfdbcfkjablnkaa

namespace Go.Proofs.Ytfdbcfkjablnkaa
open Go.RowKit
set_option maxRecDepth 100000

theorem made_below {e : TypeId} {k : IntKind} {w w1 w2 : World} {L : List Int} {v : Value} (h : MadeK e k w w1 L v) (hb : Below w1.heap.size w1 w2) : MadeK e k w w2 L v := ⟨own_below6 h.1 hb, h.2.trans (hb.mono h.2.size)⟩
theorem tot_app (C D : Sl.Ct) : Sl.tot (C ++ D) = Sl.tot C + Sl.tot D := by simp [Sl.tot]
theorem tot_take (fs : List Fr) (j : Nat) : Sl.tot ((fs.take j).map Fr.ct) ≤ Sl.tot (fs.map Fr.ct) := by
  have e : fs.map Fr.ct = (fs.take j).map Fr.ct ++ (fs.drop j).map Fr.ct := by rw [← List.map_append, List.take_append_drop]
  rw [e, tot_app]
  omega
end Go.Proofs.Ytfdbcfkjablnkaa

namespace Go.Proofs.Ytfdbcfkjablnkaa
open Go.RowKit Go.Shelf
set_option maxRecDepth 100000
attribute [local go_sem] Oper.semAt_some

theorem NumsS.putObj {k : IntKind} {V : World} {S : Nat → Prop} {l : Nat} {a : Option Addr} {zs : List Int} {o : Obj} (h : NumsS k V S a zs) (ho : V.heap[l]? = some o) (hc : o.isCells = false) (o' : Obj) : NumsS k (V.putObj l o') S a zs := fun hn => by
  obtain ⟨b, off, e, hb, hcl⟩ := h hn
  refine ⟨b, off, e, hb, fun j c hj => ?_⟩
  have h1 := hcl j c hj
  obtain ⟨o2, h2, h3⟩ := cells_of_cell h1
  refine (World.cell?_of_block (World.putObj_heap_other (fun e => ?_))).trans h1
  simp only at h2 e
  subst e
  rw [ho] at h2
  injection h2 with h2
  subst h2
  rw [hc] at h3; cases h3
/-- what Missing answers: a function over a slice of new memory -/
def MissR (w : World) (L : List Int) (e : Ending) (w' : World) : Prop :=
  ∃ Bv A cp, e = .returned (.func (.func 59) #[] #[.pointer (some ⟨Bv, 0, none⟩)]) ∧ Below w.heap.size w w' ∧ w.heap.size ≤ Bv ∧ Boxed w' Bv 90 (.slice A L.length cp) ∧ L.length ≤ cp ∧ NumsS .i64 w' (fun g => w.heap.size ≤ g ∧ g < Bv) A L
structure MsS (w : World) (b0 : Nat) (v : Option Addr) (LM : List Int) (j : Nat) (V : World) : Prop where
  out : ∃ u, Boxed V b0 90 u ∧ V.ownsRow w.heap.size 3 1 u (LM.take j).length ((LM.take j).map (Value.int .i64))
  box : Boxed V (b0 + 1) 68 (.pointer v)
  below : Below w.heap.size w V
section
variable {w V : World} {b0 j : Nat} {v : Option Addr} {LM : List Int}
theorem MsS.put (h : MsS w b0 v LM j V) (hb : w.heap.size = b0) {l : Nat} {o : Obj} (hl : b0 + 2 ≤ l) (ho : V.heap[l]? = some o) (hc : o.isCells = false) (o' : Obj) : MsS w b0 v LM j (V.putObj l o') := by
  obtain ⟨v, h1, h2⟩ := h.out
  exact ⟨⟨v, (World.putObj_heap_other (by omega)).trans h1, ownsRow_putObj h2 _ ho hc⟩, (World.putObj_heap_other (by omega)).trans h.box, h.below.trans (below_put V o' (by omega))⟩
end
set_option maxHeartbeats 4000000 in
theorem smissing_go (v : Option Addr) (LM : List Int) (hl : LM.length ≤ 255) (w : World)
    (hI : ∀ (l Bs : Nat) (J : Nat → World → Prop) (Jx : World → Prop), (∀ j W, J j W → W.cell? ⟨Bs, 0, none⟩ = some (.pointer v) ∧ Below w.heap.size w W) →
      (∀ (j : Nat) (x : Int) (W : World), J j W → LM[j]? = some x → YieldAt Fence.wide 1 Try.prog l #[.int .i64 x] W fun e W' => (e = .returned (.bool true) ∧ J (j + 1) W') ∨ (e = .returned (.bool false) ∧ Jx W')) →
      ∀ W, J 0 W → CallsIn Fence.wide 2 Try.prog 57 #[.func (.yield l) #[] #[], .pointer (some ⟨Bs, 0, none⟩)] W fun e W' => (∃ v, e = .returned v) ∧ (J LM.length W' ∨ Jx W')) :
    Calls Try.prog 25 #[.pointer v] w (MissR w LM) := by
  obtain ⟨j0, hi, hj0, hj1, hj2⟩ := info_parts intInfo
  have HI := Lib.hid hI
  clear hI
  generalize hG : MissR w LM = G
  have HG := Lib.hid hG
  clear hG
  refine (callsIn_wide (n := 3)).1 ?_
  refine callsIn_of_wp_marks Try.func25 rfl trivial ?_ rfl
  simp only [Try.ntmps25, List.size_toArray, List.length_cons, List.length_nil, Nat.reduceAdd, Nat.reduceSub, Array.replicate_succ, Array.replicate_zero, List.push_toArray, List.append_toArray, List.nil_append, List.cons_append]
  obtain ⟨w1, hw1⟩ : ∃ w1, w.alloc (Obj.cells #[Value.slice none 0 0] 90) = w1 := ⟨_, rfl⟩
  have hs1 : w1.heap.size = w.heap.size + 1 := by rw [← hw1]; simp
  have hb1 : Below w.heap.size w w1 := by rw [← hw1]; exact (Below.refl _ w).alloc (Nat.le_refl _) _
  have bL1 : Boxed w1 w.heap.size 90 (.slice none 0 0) := by rw [← hw1]; exact Boxed.new w _ _
  have K := sempty_any v w1
  obtain ⟨b0, hb0⟩ : ∃ b0, w.heap.size = b0 := ⟨_, rfl⟩
  have HB0 := Lib.hid hb0
  gi_wp2_with fail
  clear hw1
  refine ⟨trivial, ?_⟩
  refine (callsIn_wide.2 K).mono ?_
  rintro e w2 ⟨rfl, hw2⟩
  clear K
  have hs2 : w2.heap.size = w1.heap.size + 1 := by rw [hw2]; simp
  have bC2 : Boxed w2 w1.heap.size 68 (.pointer v) := by rw [hw2]; exact Boxed.new w1 _ _
  have hb12 : Below w1.heap.size w1 w2 := by rw [hw2]; exact (Below.refl _ w1).alloc (Nat.le_refl _) _
  clear hw2
  have hb2 : Below w.heap.size w w2 := hb1.trans (hb12.mono (by omega))
  have bL2 : Boxed w2 w.heap.size 90 (.slice none 0 0) := (hb12.block _ (by omega)).trans bL1
  rw [hb0] at hs1 bL2
  rw [hs1] at bC2 hs2 ⊢
  clear hb1 hb12 bL1 hs1
  have hM0 : MsS w b0 v LM 0 w2 := ⟨⟨_, bL2, by rw [List.take_zero]; exact World.ownsRow_nil _ _ _ _⟩, bC2, hb2⟩
  clear bL2 bC2 hb2
  gi_wp2_with fail
  refine range_stops rfl (by omega) (gf := 57) (lb := #[.pointer (some ⟨b0 + 1, 0, none⟩)]) rfl trivial (enters_of Try.func57 (by kernel_rfl) rfl)
    (fun x : Int => #[Value.int .i64 x]) (fun _ => rfl)
    (fun j x V => MsS w b0 v LM j V ∧ LM[j]? = some x)
    (fun j V => MsS w b0 v LM j V)
    (fun _ _ => False) (fun _ _ => True) LM.length
    (fun j x V l o o' h hl ho hc' => ⟨h.1.put HB0.out (by omega) ho hc' o', h.2⟩)
    (fun j V l o o' h hl ho hc' => h.put HB0.out (by omega) ho hc' o')
    (fun _ _ _ _ _ h _ _ _ => h)
    (fun _ _ _ _ _ => trivial) (fun _ _ _ _ _ _ _ => trivial)
    (fun o => ?_) ?a1 ?assign ?body ?iter ?done ?stop
  · obtain ⟨v, h1, h2⟩ := hM0.out
    exact ⟨⟨v, (h1.alloc _).alloc _, (h2.alloc _).alloc _⟩, (hM0.box.alloc _).alloc _, (hM0.below.alloc hM0.below.size _).alloc (by have := hM0.below.size; simp; omega) _⟩
  case assign =>
    intro l x V K hK
    gi_wp2
    exact hK
  case body =>
    rintro l j x V hl ⟨hM, hx⟩ hj
    obtain ⟨u, hO, hR⟩ := hM.out
    have hside := hM.box
    have hbe := hM.below
    have kO := hO.cell
    have hszV := hO.lt
    have hbs := hbe.size
    have hlt : (LM.take j).length ≤ 255 := by rw [List.length_take]; omega
    have hnx : LM.take (j + 1) = LM.take j ++ [x] := by rw [List.take_add_one, hx]; rfl
    obtain ⟨L0, hL0⟩ : ∃ L0, LM.take j = L0 := ⟨_, rfl⟩
    rw [hL0] at hR hlt hnx
    have HNX := Lib.hid hnx
    clear hL0
    have HN1 := Lib.hid (Nums.new .i64 V 3 [x] #[.int .i64 x] rfl)
    have HO := Lib.hid hO
    have HR := Lib.hid hR
    have HS := Lib.hid hside
    have HB := Lib.hid hbe
    clear hM hM0 hO hR hside hbe hnx hb0 hx
    gi_wp2_with (gi_at_builtin; refine wpListIn_append_any rfl (.tmp 8) (.tmp 10) 90 rfl w.heap.size 3 j0 (.int .i64 0) 8 Try.underlying90 hi hj0 hj1 hj2 rfl .i64 _ _ [x] u rfl (HR.out.alloc _) (some ⟨V.heap.size, 0, none⟩) 1 1 _ rfl rfl HN1.out ?c1 ?c2 ?c3 ?_)
    case c1 => unfold maxLen; omega
    case c2 => omega
    case c3 => rw [World.size_alloc]; omega
    intro v1 w4 hown1 hg1
    have hg2 := grown_of_alloc hg1
    obtain ⟨g1, cap1, rfl⟩ := ownsRow_succ hown1
    have hnr : some b0 ≠ u.ownBlock := HO.out.not_row (by decide) HR.out
    have bO4 : Boxed w4 b0 90 u := HO.out.kept hg2 hnr
    have kO4 := bO4.cell
    have fO4 := bO4.frozen
    have hnr4 : some b0 ≠ (Value.slice (some ⟨g1, 0, none⟩) (L0.length + 1) cap1).ownBlock := bO4.not_row (show (90 : Nat) ≠ 3 by decide) hown1
    have hside4 : Boxed w4 (b0 + 1) 68 (.pointer v) := HS.out.kept hg2 (HS.out.not_row (by decide) HR.out)
    have hbe4 : Below w.heap.size w w4 := HB.out.grown hg2 hbs (fun g hg => (HR.out.lt g hg).1)
    have hko : KeepsOthers V w4 := KeepsOthers.of_grownBy hg2 fun j o ej hj => by
      rcases HR.out.2 with ⟨rfl, _⟩ | ⟨g, cap, cur, rfl, _, hgb, _⟩
      · simp [Value.ownBlock] at ej
      · obtain rfl : g = j := by simpa [Value.ownBlock] using ej
        rw [hgb] at hj; cases hj; rfl
    have HF : Hid (KeepsFrom w2.heap.size V (w4.setCell ⟨b0, 0, none⟩ (.slice (some ⟨g1, 0, none⟩) (L0.length + 1) cap1)) ∧ MsS w b0 v LM (j + 1) (w4.setCell ⟨b0, 0, none⟩ (.slice (some ⟨g1, 0, none⟩) (L0.length + 1) cap1))) := by
      refine ⟨(hko.trans (KeepsOthers.setCell _ _ _)).from _, ⟨_, bO4.set _, ?_⟩, hside4.other (by omega) _, hbe4.setCell (p := ⟨b0, 0, none⟩) (Nat.le_of_eq HB0.out) _⟩
      rw [HNX.out, List.length_append, List.map_append]
      exact hown1.kept (grownBy_setCell' w4 b0 _) (.inr hnr4.symm)
    clear hown1 hg1 hg2 hside4 hbe4 hko hnr hnr4 bO4 HN1 HO HR HS HB
    gi_wp2
    exact ⟨HF.out.1, HF.out.2, trivial⟩
  case iter =>
    intro Bk X l V hBk hBlt hX hlw hD hB hY
    refine (HI.out l (b0 + 1) (fun k V => MsS w b0 v LM k V ∧ Bk V) X ?_ ?_ V ⟨hD, hB⟩).mono ?_
    · rintro k W ⟨h1, _⟩
      exact ⟨h1.box.cell, h1.below⟩
    · rintro k x W ⟨h1, h2⟩ hx
      refine (hY _ _ W ⟨h1, hx⟩ h2 (List.getElem?_eq_some_iff.1 hx).1).mono ?_
      rintro e V2 (⟨rfl, hd, _, _⟩ | ⟨rfl, hx, _⟩)
      · exact .inl ⟨rfl, hd⟩
      · exact .inr ⟨rfl, hx⟩
    · exact fun _ _ h => h
  case done =>
    rintro D V hD hM hK
    obtain ⟨u, hO, hR⟩ := hM.out
    rw [List.take_length] at hR
    have hbe := hM.below
    have kO := hO.cell
    have hbv := hbe.size
    have hwD : w.heap.size ≤ D := by omega
    have hDlt := (Array.getElem?_eq_some_iff.1 hK).1
    obtain ⟨A, c, rfl, hc, hnum⟩ := MadeK.slice ⟨hR, hbe⟩
    have hnS := MadeK.numsS ⟨hR, hbe⟩ rfl
    have KV := values_any A LM.length c V
    have HBE := Lib.hid hbe
    have HK := Lib.hid hK
    have HNS := Lib.hid hnS
    have HC := Lib.hid hc
    clear hM hM0 hb0 hbe hK hO hR hnum hnS hc
    obtain ⟨q, hq⟩ : ∃ q, LM.length = q := ⟨_, rfl⟩
    rw [hq] at KV kO HC hl
    have HQ := Lib.hid hq
    clear hq
    gi_wp2_with fail
    refine ⟨trivial, ?_⟩
    refine (callsIn_wide.2 KV).mono ?_
    rintro e V1 ⟨rfl, hV1⟩
    have hb1 : Below V.heap.size V V1 := by rw [hV1]; exact (Below.refl _ V).alloc (Nat.le_refl _) _
    have hbx : Boxed V1 V.heap.size 90 (.slice A q c) := by rw [hV1]; exact Boxed.new V _ _
    have hK1 := (hb1.block D hDlt).trans HK.out
    have HFIN : Hid (G (.returned (.func (.func 59) #[] #[.pointer (some ⟨V.heap.size, 0, none⟩)])) (V1.putObj D (.deferred none))) := by
      rw [← HG.out]
      refine ⟨V.heap.size, A, c, rfl, (HBE.out.trans (hb1.mono hbv)).trans (below_put V1 _ hwD), hbv, by rw [HQ.out]; exact (World.putObj_heap_other (by omega)).trans hbx, by rw [HQ.out]; exact HC.out, ?_⟩
      exact (HNS.out.keeps (KeepS.of_below hb1 fun k hk => hk.2)).putObj hK1 rfl _
    clear hV1 hb1 hbx KV kO
    gi_wp2
    refine ⟨by simp, .inl ⟨_, _, rfl, run_takeDeferred hK1, ?_⟩⟩
    refine ⟨_, results_tmp rfl _ _ _, ?_⟩
    exact HFIN.out
  case stop =>
    rintro D cd W' _ h _
    exact h.elim
theorem smissing_nil (w : World) : Calls Try.prog 25 #[.pointer none] w (MissR w []) :=
  smissing_go none [] (by simp) w fun l Bs J Jx hJ _ W h0 => (sempty_nil_in 2 l Bs W (hJ 0 W h0).1).mono fun e W' ⟨hv, hw⟩ => ⟨hv, .inl (by subst hw; exact h0)⟩
/-- the empty places as ints -/
def misZ (C : Sl.Ct) (n : Nat) : List Int := (Sl.mis C n).map fun (i : Nat) => (i : Int)
theorem misZ_len (C : Sl.Ct) (n : Nat) : (misZ C n).length = (Sl.mis C n).length := by simp [misZ]
theorem smissing_any {w : World} {b m : Nat} {v k s : Int} {n : Nat} {E : List Pl} (h : SlotAt w b m v k s (n : Int) E) :
    Calls Try.prog 25 #[.pointer (some ⟨b, 0, none⟩)] w (MissR w (misZ (E.map Pl.ct) n)) := by
  have n2 : n ≤ 255 := by
    obtain ⟨n', hn', _, n2, _, _⟩ := h.count
    omega
  have hfew := Sl.mis_few (E.map Pl.ct) n
  refine smissing_go (some ⟨b, 0, none⟩) _ (by rw [misZ_len]; omega) w fun l Bs J Jx hJ hY W h0 => ?_
  rw [misZ_len]
  refine sempty_in 2 (by omega) 1 l Bs b m v k s (n : Int) E n rfl n2 (fun j W => J (Sl.mis (E.map Pl.ct) j).length W) Jx (fun j W hj => ?_) (fun j W hj hjn hb => ?_) (fun j W hj hjn hb => ?_) W h0
  · obtain ⟨h1, h2⟩ := hJ _ W hj
    exact ⟨h1, h.below h2⟩
  · simp only [Sl.mis_stay hb]
    exact hj
  · simp only [Sl.mis_step hb, List.length_append, List.length_cons, List.length_nil]
    refine hY _ _ W hj ?_
    unfold misZ
    rw [List.getElem?_map, Sl.mis_at hb n hjn]
    rfl
end Go.Proofs.Ytfdbcfkjablnkaa

namespace Go.Proofs.Ytfdbcfkjablnkaa
open Go.RowKit Go.Shelf
set_option maxRecDepth 100000
attribute [local go_sem] Oper.semAt_some

namespace Sl
theorem mis_mono (C : Ct) : ∀ {p q : Nat}, p ≤ q → (mis C p).length ≤ (mis C q).length
  | p, 0, h => by obtain rfl : p = 0 := by omega
                  exact Nat.le_refl _
  | p, q + 1, h => by
    by_cases hp : p = q + 1
    · subst hp; exact Nat.le_refl _
    · have := mis_mono C (p := p) (q := q) (by omega)
      rw [mis_succ, List.length_append]
      omega
/-- the next empty place behind p -/
theorem mis_next {C : Ct} {n p j q : Nat} (hj : (mis C n)[j]? = some q) (hp : (mis C p).length = j) : q < n ∧ has C q = false ∧ p ≤ q ∧ (mis C (q + 1)).length = j + 1 ∧ ∀ i, p ≤ i → i < q → has C i = true := by
  have hm := List.mem_of_getElem? hj
  unfold mis at hm
  rw [List.mem_filter, List.mem_range] at hm
  obtain ⟨hq, hh⟩ := hm
  have hh' : has C q = false := by simpa using hh
  have h1 := mis_at hh' n hq
  have hnd : (mis C n).Nodup := (List.filter_sublist).nodup List.nodup_range
  have b1 := (List.getElem?_eq_some_iff.1 h1).1
  have hlen : (mis C q).length = j := (List.getElem?_inj b1 hnd).1 (h1.trans hj.symm)
  have hs : (mis C (q + 1)).length = j + 1 := by rw [mis_step hh', List.length_append, hlen]; rfl
  refine ⟨hq, hh', ?_, hs, fun i hi hiq => ?_⟩
  · rcases Nat.lt_or_ge q p with h | h
    · have := mis_mono C (p := q + 1) (q := p) h
      omega
    · exact h
  · cases hc : has C i with
    | true => rfl
    | false =>
      have e1 : (mis C (i + 1)).length = (mis C i).length + 1 := by rw [mis_step hc, List.length_append]; rfl
      have e2 := mis_mono C hi
      have e3 := mis_mono C (p := i + 1) (q := q) hiq
      omega
/-- behind the last empty place none is empty -/
theorem mis_rest {C : Ct} {n p : Nat} (hp : (mis C p).length = (mis C n).length) {i : Nat} (h1 : p ≤ i) (h2 : i < n) : has C i = true := by
  cases hc : has C i with
  | true => rfl
  | false =>
    have e1 : (mis C (i + 1)).length = (mis C i).length + 1 := by rw [mis_step hc, List.length_append]; rfl
    have e2 := mis_mono C h1
    have e3 := mis_mono C (p := i + 1) (q := n) h2
    omega
end Sl
section
variable {P : Program} {l : List Oper} {fs : List Tmp} {FS : Tmp → Value → World → Prop} {I : World → Prop} {E : Act → Prop} {o : Oper} {rest : List Oper} {a : Act}
/-- an operation that its guard passes over -/
theorem wpF_skip (hn : noB l.toArray fs o = true) (hw : Region.wanted o (yielded l.toArray a.tmps) = false) (h : wpF P l.toArray I fs FS E rest (a.put o.dst undef)) : wpF P l.toArray I fs FS E (o :: rest) a := by
  obtain ⟨h1, h2⟩ := noB_spec hn
  exact ⟨undef, .inl ⟨h1, h2, .inr ⟨hw, rfl⟩⟩, h⟩
end
/-- the law's two variables that the loops' bodies turn: how far it is, in box bi; whether all is right, in box bi + 1 -/
structure LkS (w4 : World) (bi : Nat) (i : Nat) (V : World) : Prop where
  at' : Boxed V bi 3 (.int .i64 (i : Int))
  ok : Boxed V (bi + 1) 4 (.bool true)
  off : Off (fun k => k = bi ∨ k = bi + 1) w4 V
section
variable {w4 V V' : World} {bi i : Nat}
theorem LkS.below (h : LkS w4 bi i V) (hb : bi + 1 < w4.heap.size) (hB : Below w4.heap.size V V') : LkS w4 bi i V' :=
  ⟨(hB.block bi (by omega)).trans h.at', (hB.block (bi + 1) hb).trans h.ok, off_below h.off hB⟩
theorem LkS.next (h : LkS w4 bi i V) : LkS w4 bi (i + 1) (V.setCell ⟨bi, 0, none⟩ (.int .i64 ((i : Int) + 1))) :=
  ⟨by have := Boxed.set (.int .i64 ((i : Int) + 1)) h.at'; rw [Int.natCast_succ]; exact this, h.ok.other (by omega) _, h.off.setCell (p := ⟨bi, 0, none⟩) (.inl rfl) _⟩
theorem LkS.right (h : LkS w4 bi i V) : LkS w4 bi i (V.setCell ⟨bi + 1, 0, none⟩ (.bool true)) :=
  ⟨h.at'.other (by omega) _, h.ok.set _, h.off.setCell (p := ⟨bi + 1, 0, none⟩) (.inr rfl) _⟩
end
/-- the number in box b -/
def inBoxS (b : Nat) (W : World) : Nat := (intOf ((W.cell? ⟨b, 0, none⟩).getD undef)).toNat
theorem LkS.num {w4 V : World} {bi i : Nat} (h : LkS w4 bi i V) : inBoxS bi V = i := by
  unfold inBoxS
  rw [h.at'.cell]
  simp [intOf]
theorem keeps_below {V V1 : World} (hb : Below V.heap.size V V1) : KeepsOthers V V1 := ⟨hb.size, fun k _ ho _ => (hb.block k (Array.getElem?_eq_some_iff.1 ho).1).trans ho⟩
end Go.Proofs.Ytfdbcfkjablnkaa

namespace Go.Proofs.Ytfdbcfkjablnkaa
open Go.RowKit Go.Shelf
set_option maxRecDepth 100000
attribute [local go_sem] Oper.semAt_some

/-- how many bytes slots have -/
def tots (X : List Sx) : Nat := (X.map fun x => Sl.tot (x.E.map Pl.ct)).sum
theorem tots_held (X : List Sx) : tots X = Tb.held (X.map Sx.ms) := by
  unfold tots Tb.held
  rw [List.map_map]
  rfl
theorem tots_next {X : List Sx} {j : Nat} {x : Sx} (hx : X[j]? = some x) : tots (X.take (j + 1)) = tots (X.take j) + Sl.tot (x.E.map Pl.ct) := by
  unfold tots
  rw [List.take_add_one, hx, List.map_append, List.sum_append]
  simp
theorem tots_le {w : World} : ∀ {X : List Sx}, (∀ x ∈ X, x.At w) → tots X ≤ 192 * X.length
  | [], _ => by simp [tots]
  | x :: r, h => by
    have h1 := tots_le (X := r) fun y hy => h y (List.mem_cons_of_mem _ hy)
    have h2 := SlotAt.most (h x (List.mem_cons_self ..))
    unfold tots at *
    simp only [List.map_cons, List.sum_cons, List.length_cons]
    omega
structure HeS (w : World) (v : Option Addr) (X : List Sx) (j : Nat) (V : World) : Prop where
  num : Boxed V w.heap.size 3 (.int .i64 (tots (X.take j) : Int))
  box : Boxed V (w.heap.size + 1) 53 (.pointer v)
  below : Below w.heap.size w V
theorem HeS.put {w V : World} {v : Option Addr} {X : List Sx} {j : Nat} (h : HeS w v X j V) {l : Nat} {o : Obj} (hl : w.heap.size + 2 ≤ l) (_ho : V.heap[l]? = some o) (_hc : o.isCells = false) (o' : Obj) : HeS w v X j (V.putObj l o') :=
  ⟨(World.putObj_heap_other (by omega)).trans h.num, (World.putObj_heap_other (by omega)).trans h.box, h.below.trans (below_put V o' (by omega))⟩
set_option maxHeartbeats 4000000 in
theorem theld_go (v : Option Addr) (X : List Sx) (hl : X.length ≤ 16) (w : World) (hsl : ∀ x ∈ X, x.At w)
    (hI : ∀ (l Bs : Nat) (J : Nat → World → Prop) (Jx : World → Prop), (∀ j W, J j W → W.cell? ⟨Bs, 0, none⟩ = some (.pointer v) ∧ Below w.heap.size w W) →
      (∀ (j : Nat) (x : Sx) (W : World), J j W → X[j]? = some x → YieldAt Fence.wide 1 Try.prog l #[.int .u32 x.s, .pointer (some ⟨x.b, 0, none⟩)] W fun e W' => (e = .returned (.bool true) ∧ J (j + 1) W') ∨ (e = .returned (.bool false) ∧ Jx W')) →
      ∀ W, J 0 W → CallsIn Fence.wide 2 Try.prog 56 #[.func (.yield l) #[] #[], .pointer (some ⟨Bs, 0, none⟩)] W fun e W' => (∃ v, e = .returned v) ∧ (J X.length W' ∨ Jx W')) :
    Calls Try.prog 30 #[.pointer v] w fun e w' => e = .returned (.int .i64 (tots X : Int)) ∧ Below w.heap.size w w' := by
  have HI := Lib.hid hI
  clear hI
  have htl := tots_le hsl
  refine (callsIn_wide (n := 3)).1 ?_
  refine callsIn_of_wp_marks Try.func30 rfl trivial ?_ rfl
  simp only [Try.ntmps30, List.size_toArray, List.length_cons, List.length_nil, Nat.reduceAdd, Nat.reduceSub, Array.replicate_succ, Array.replicate_zero, List.push_toArray, List.append_toArray, List.nil_append, List.cons_append]
  obtain ⟨w1, hw1⟩ : ∃ w1, w.alloc (Obj.cells #[Value.int .i64 0] 3) = w1 := ⟨_, rfl⟩
  have hs1 : w1.heap.size = w.heap.size + 1 := by rw [← hw1]; simp
  have hb1 : Below w.heap.size w w1 := by rw [← hw1]; exact (Below.refl _ w).alloc (Nat.le_refl _) _
  have bL1 : Boxed w1 w.heap.size 3 (.int .i64 0) := by rw [← hw1]; exact Boxed.new w _ _
  have K := teach_any v w1
  have HW1 := Lib.hid hw1
  clear hw1
  gi_wp2_with fail
  refine ⟨trivial, ?_⟩
  rw [HW1.out]
  refine (callsIn_wide.2 K).mono ?_
  rintro e w2 ⟨rfl, hw2⟩
  clear K
  have hs2 : w2.heap.size = w.heap.size + 2 := by rw [hw2]; simp [hs1]
  have bC2 : Boxed w2 (w.heap.size + 1) 53 (.pointer v) := by rw [hw2, ← hs1]; exact Boxed.new w1 _ _
  have bL2 : Boxed w2 w.heap.size 3 (.int .i64 0) := by rw [hw2]; exact bL1.alloc _
  have hb2 : Below w.heap.size w w2 := by rw [hw2]; exact hb1.alloc (by omega) _
  clear hw2 HW1
  rw [hs1]
  have hH0 : HeS w v X 0 w2 := ⟨bL2, bC2, hb2⟩
  clear bL1 bL2 bC2 hb1 hb2 hs1
  gi_wp2_with fail
  refine range_stops rfl (by omega) (gf := 56) (lb := #[.pointer (some ⟨w.heap.size + 1, 0, none⟩)]) rfl trivial (enters_of Try.func56 (by kernel_rfl) rfl)
    (fun x : Sx => #[Value.int .u32 x.s, .pointer (some ⟨x.b, 0, none⟩)]) (fun _ => rfl)
    (fun j x V => HeS w v X j V ∧ X[j]? = some x)
    (fun j V => HeS w v X j V)
    (fun _ _ => False) (fun _ _ => True) X.length
    (fun j x V l o o' h hl ho hc' => ⟨h.1.put (by omega) ho hc' o', h.2⟩)
    (fun j V l o o' h hl ho hc' => h.put (by omega) ho hc' o')
    (fun _ _ _ _ _ h _ _ _ => h)
    (fun _ _ _ _ _ => trivial) (fun _ _ _ _ _ _ _ => trivial)
    (fun o => ⟨(hH0.num.alloc _).alloc _, (hH0.box.alloc _).alloc _, (hH0.below.alloc hH0.below.size _).alloc (by have := hH0.below.size; simp; omega) _⟩) ?a1 ?assign ?body ?iter ?done ?stop
  case assign =>
    intro l x V K hK
    gi_wp2
    exact hK
  case body =>
    rintro l j x V hl ⟨hM, hx⟩ hj
    have hxm : x ∈ X := List.mem_of_getElem? hx
    have hsx := (hsl x hxm).below hM.below
    have hnx := tots_next hx
    have hle : tots (X.take j) ≤ 192 * 16 := by
      have h1 := tots_le (X := X.take j) (w := w) fun y hy => hsl y (List.mem_of_mem_take hy)
      rw [List.length_take] at h1
      omega
    have hto := SlotAt.most hsx
    have hnum := hM.num
    generalize tots (X.take j) = a at *
    generalize hq : Sl.tot (x.E.map Pl.ct) = q at *
    have L1 : ∀ W, Below V.heap.size V W → (Instr.loadAt 3 (.pointer (some ⟨w.heap.size, 0, none⟩))).run Try.prog W = .ok (.int .i64 (a : Int)) W := fun W hW => by
      have := (show Boxed W w.heap.size 3 _ from (hW.block _ hnum.lt).trans hnum).cell
      simp [Instr.loadAt, go_sem, this]
    have KS : ∀ W, Below V.heap.size V W → Calls Try.prog 46 #[.pointer (some ⟨x.b, 0, none⟩)] W fun e w' => e = .returned (.int .i64 (q : Int)) ∧ Below W.heap.size W w' := fun W hW => by
      have := ssize_any (SlotAt.below hsx hW)
      rw [hq] at this
      exact this
    have HB := Lib.hid hM.below
    have HC := Lib.hid hM.box
    have HNM := Lib.hid hnum
    have HNX := Lib.hid hnx
    have hbs := hM.below.size
    clear hM hH0 hnum hnx hsx hx hxm HI
    gi_wp2_with fail
    refine wpIn_region_FS 15 4 5 [] (fun _ _ _ => True) (fun W => Below V.heap.size V W) (fun _ W W' => W' = W.setCell ⟨w.heap.size, 0, none⟩ (.int .i64 ((a : Int) + (q : Int)))) (by kernel_rfl) (fun ⟨_, _, h⟩ => h) (by kernel_rfl) (by rfl) (by kernel_rfl) (by rfl) (by simp) (fun W W' h hb => h.trans (hb.mono h.size)) (fun _ _ _ _ _ _ => trivial) (Below.refl _ _).drew (by rfl) ?_
    refine wpFS_step (wpF_load (.int .i64 (a : Int)) rfl (by rfl) (by rfl) (by rfl) L1 ?_)
    simp only [wpF, Act.put, List.setIfInBounds_toArray, List.set_cons_succ, List.set_cons_zero]
    repeat (refine wpFS_step (wpF_pure rfl rfl ?_); go_big_quiet_step (fail); refine wpQuiet_nil ?_; simp only [wpF])
    refine wpFS_step (wpF_call (f := 46) (args := #[.pointer (some ⟨x.b, 0, none⟩)]) (.int .i64 (q : Int)) rfl rfl (fun W => by first | rfl | (simp [go_sem]; done)) KS ?_)
    simp only [wpF, Act.put, List.setIfInBounds_toArray, List.set_cons_succ, List.set_cons_zero]
    repeat (refine wpFS_step (wpF_pure rfl rfl ?_); go_big_quiet_step (fail); refine wpQuiet_nil ?_; simp only [wpF])
    refine wpFS_store rfl rfl rfl ⟨w.heap.size, 0, none⟩ (fun _ => .int .i64 ((a : Int) + (q : Int))) (fun _ => rfl) (fun _ => rfl) (fun xs W hW _ => ?_) ?_
    · have hb := (show Boxed W w.heap.size 3 _ from (hW.block _ HNM.out.lt).trans HNM.out)
      have k1 := hb.cell
      have k2 := hb.frozen
      exact ⟨_, by simp [Instr.storeAt, go_sem, k1, k2], rfl⟩
    simp only [wpFS]
    rintro xs W W' hW _ rfl
    have hko := keeps_below hW
    have hbW := HNM.out
    have hnW : Boxed W w.heap.size 3 (.int .i64 (a : Int)) := (hW.block _ hbW.lt).trans hbW
    refine (show KeepsFrom w2.heap.size V (W.setCell ⟨w.heap.size, 0, none⟩ (.int .i64 ((a : Int) + (q : Int)))) ∧ HeS w v X (j + 1) (W.setCell ⟨w.heap.size, 0, none⟩ (.int .i64 ((a : Int) + (q : Int)))) ∧ True from ⟨(hko.trans (KeepsOthers.setCell _ _ _)).from _, ⟨?_, ?_, ?_⟩, trivial⟩)
    · rw [HNX.out, Int.natCast_add]
      exact hnW.set _
    · exact Boxed.other (show Boxed W (w.heap.size + 1) 53 (.pointer v) from (hW.block _ HC.out.lt).trans HC.out) (by omega) _
    · exact (HB.out.trans (hW.mono hbs)).setCell (p := ⟨w.heap.size, 0, none⟩) (Nat.le_refl _) _
  case iter =>
    intro Bk Xp l V hBk hBlt hX hlw hD hB hY
    refine (HI.out l (w.heap.size + 1) (fun k V => HeS w v X k V ∧ Bk V) Xp ?_ ?_ V ⟨hD, hB⟩).mono ?_
    · rintro k W ⟨h1, _⟩
      exact ⟨h1.box.cell, h1.below⟩
    · rintro k x W ⟨h1, h2⟩ hx
      refine (hY _ _ W ⟨h1, hx⟩ h2 (List.getElem?_eq_some_iff.1 hx).1).mono ?_
      rintro e V2 (⟨rfl, hd, _, _⟩ | ⟨rfl, hx, _⟩)
      · exact .inl ⟨rfl, hd⟩
      · exact .inr ⟨rfl, hx⟩
    · exact fun _ _ h => h
  case done =>
    rintro D V hD hM hK
    have kN := hM.num.cell
    rw [List.take_length] at kN
    have hwD : w.heap.size ≤ D := by omega
    have HFIN := Lib.hid (hM.below.trans (below_put (B := w.heap.size) V (.deferred none) hwD))
    clear hM hH0
    gi_wp2
    refine ⟨by simp, .inl ⟨_, _, rfl, run_takeDeferred hK, ?_⟩⟩
    refine ⟨_, results_tmp rfl _ _ _, ?_⟩
    exact ⟨rfl, HFIN.out⟩
  case stop =>
    rintro D cd W' _ h _
    exact h.elim
theorem theld_nil (w : World) : Calls Try.prog 30 #[.pointer none] w fun e w' => e = .returned (.int .i64 0) ∧ Below w.heap.size w w' :=
  theld_go none [] (by simp) w (fun x hx => by cases hx) fun l Bs J Jx hJ _ W h0 => (teach_nil_in 2 l Bs W (hJ 0 W h0).1).mono fun e W' ⟨hv, hw⟩ => ⟨hv, .inl (by subst hw; exact h0)⟩
theorem theld_any {w : World} {S : Nat → Prop} {b r m n cp : Nat} {A : Option Addr} {X : List Sx} (h : TblAt w S b r m A n cp X) :
    Calls Try.prog 30 #[.pointer (some ⟨b, 0, none⟩)] w fun e w' => e = .returned (.int .i64 (Tb.held (X.map Sx.ms) : Int)) ∧ Below w.heap.size w w' := by
  rw [← tots_held]
  have hlen := h.len
  refine theld_go (some ⟨b, 0, none⟩) X (by have := h.few; have := h.room; omega) w h.slots fun l Bs J Jx hJ hY W h0 => ?_
  rw [hlen]
  exact teach_in 2 (by omega) 1 l Bs b r m A n cp X J Jx (fun j W hj => ⟨(hJ j W hj).1, S, h.below (hJ j W hj).2⟩) hY W h0
end Go.Proofs.Ytfdbcfkjablnkaa

namespace Go.Proofs.Ytfdbcfkjablnkaa
open Go.RowKit
set_option maxRecDepth 100000

theorem ct_perm {E E' : List Pl} (h : E.Perm E') : (E.map Pl.ct).Perm (E'.map Pl.ct) := h.map _
/-- what Copy leaves -/
def CopyR (w : World) (v k s c : Int) (E : List Pl) (e : Ending) (w' : World) : Prop :=
  ∃ b m E', e = .returned (.pointer (some ⟨b, 0, none⟩)) ∧ SlotAt w' b m v k s c E' ∧ (E'.map Pl.ct).Perm (E.map Pl.ct) ∧ Below w.heap.size w w' ∧ w.heap.size ≤ b ∧ w.heap.size ≤ m
set_option maxHeartbeats 8000000 in
theorem scopy_any {w : World} {b m : Nat} {v k s c : Int} {E : List Pl} (h : SlotAt w b m v k s c E) :
    Calls Try.prog 40 #[.pointer (some ⟨b, 0, none⟩)] w (CopyR w v k s c E) := by
  obtain ⟨c0, c1, c2, c3, c4, c5⟩ := h.cells
  have hlt := h.size
  have hmlt := h.map.lt
  have hmm := @run_makeMap Try.prog
  obtain ⟨w2, hw2⟩ : ∃ w2, (w.alloc (.map #[] 0)).alloc (.cells #[.int .i64 v, .int .i64 k, .int .u32 s, .int .i64 0, .int .i64 c, .map (some w.heap.size)] 98) = w2 := ⟨_, rfl⟩
  have hb2 : Below w.heap.size w w2 := by rw [← hw2]; exact ((Below.refl _ w).alloc (Nat.le_refl _) _).alloc (by simp) _
  have hs2 : w2.heap.size = w.heap.size + 2 := by rw [← hw2]; simp
  have hnew : SlotAt w2 (w.heap.size + 1) w.heap.size v k s c [] := by
    have hr := World.alloc_heap_new (w.alloc (.map #[] 0)) (Obj.cells #[.int .i64 v, .int .i64 k, .int .u32 s, .int .i64 0, .int .i64 c, .map (some w.heap.size)] 98)
    rw [World.size_alloc, hw2] at hr
    have hm := (MapAt.new w).below ((Below.refl _ _).alloc (Nat.le_refl _) (Obj.cells #[.int .i64 v, .int .i64 k, .int .u32 s, .int .i64 0, .int .i64 c, .map (some w.heap.size)] 98))
    rw [hw2] at hm
    exact ⟨hr, hm, fun p hp => (by cases hp), fun p hp => (by cases hp), h.good, by simp [Sl.tot], h.word⟩
  have hold := h.below hb2
  have hmap2 := hold.map
  have d5 := hold.cells.2.2.2.2.2
  have HOLD := Lib.hid h
  have HNEW := Lib.hid hnew
  have HB2 := Lib.hid hb2
  have HW2 := Lib.hid hw2
  clear hold hw2 hb2 hnew h
  generalize hG : CopyR w v k s c E = G
  have HG := Lib.hid hG
  clear hG
  go_enter Try.func40, Try.ntmps40
  go_wp2_with (at_range; rw [HW2.out]; refine wpList_range_map rfl (.tmp 18) 96 rfl 3 33 Try.underlying96 rfl hmap2 ?_; intro w3 hrg3 hb3 hs3)
  try go_frame
  rw [hs2] at hrg3 hs3 ⊢
  go_loopw [4] (fun _ wr => ∃ D E2 : List Pl, RangeAt wr m (w.heap.size + 2) E D ∧ SlotAt wr (w.heap.size + 1) w.heap.size v k s c E2 ∧ Below w.heap.size w wr ∧ E2.map Pl.ct = D.map Pl.ct) (fun _ wr => wr.rangeLeft m (w.heap.size + 2))
  case atStart => exact ⟨[], [], hrg3, HNEW.out.below hb3, HB2.out.trans (hb3.mono HB2.out.size), rfl⟩
  case round =>
    obtain ⟨D, E2, hrg, hsl, hbw, hct⟩ := hrel
    go_wp2_with (at_next; refine wpList_next_map rfl (.tmp 19) rfl rfl hrg ?_ ?_)
    · intro hd
      have HFIN := Lib.hid (show CopyR w v k s c E (.returned (.pointer (some ⟨w.heap.size + 1, 0, none⟩))) wr from ⟨_, _, E2, rfl, hsl, by rw [hct]; exact hd.map _, hbw, by omega, Nat.le_refl _⟩)
      rw [HG.out] at HFIN
      clear hrg hsl hd hct
      go_wp2
      exact HFIN.out
    · intro p w1 hp hrg1 ho1 hs1 hen
      have hd1 := hrg1.left
      have hd0 := hrg.left
      obtain ⟨R, hperm⟩ := hrg1.sub
      have hlen := hperm.length_eq
      have hbw1 : Below w.heap.size w w1 := hbw.trans (ho1.below (fun q hq => by subst hq; omega) hbw.size)
      have hrc : w.heap.size + 2 < wr.heap.size := hrg.lt
      have hsl1 : SlotAt w1 (w.heap.size + 1) w.heap.size v k s c E2 := hsl.off ho1 (by omega) (by omega) (fun g cs hg e => by
        obtain ⟨A, clock, since, seen, c0, R, hb, h2, hr', _⟩ := hrg
        rw [e, hr'] at hg
        injection hg with hg
        cases hg)
      have hp1 := (HOLD.out.below hbw1).pays p hp
      have hpc := (HOLD.out.below hbw1).few p hp
      have hkeys := hrg1.keys.1
      have hnone : Pl.at E2 p.i = none := by
        have h1 := Pl.has_ct E2 p.i
        cases h9 : Pl.at E2 p.i with
        | none => rfl
        | some q =>
          rw [h9, hct] at h1
          have h2 := Sl.has_iff.1 h1
          have h3 := hkeys.1
          rw [List.map_append, List.nodup_append] at h3
          rw [List.map_map] at h2
          exact absurd rfl (h3.2.2 p.i h2 p.i (by simp))
      have hpi : p.i ≤ 9223372036854775807 := hkeys.2 p (by simp)
      have L1 : ∀ V, Below w1.heap.size w1 V → (Instr.loadAt 96 (.pointer (some ⟨w.heap.size + 1, 5, none⟩))).run Try.prog V = .ok (.map (some w.heap.size)) V := fun V hV => by
        obtain ⟨d0, d1, d2, d3, d4, d5⟩ := (hsl1.below hV).cells
        simp [Instr.loadAt, go_sem, d5]
      have hzl : p.zs.length ≤ 192 := by
        have h1 := tot_le hperm
        have h2 : Sl.tot ((D ++ [p]).map Pl.ct) = Sl.tot (D.map Pl.ct) + p.zs.length := by rw [List.map_append]; exact Sl.tot_push _ _
        have := HOLD.out.most
        omega
      have htot : Sl.tot (E2.map Pl.ct) + p.zs.length ≤ 192 := by
        have h1 := tot_le hperm
        have h2 : Sl.tot ((D ++ [p]).map Pl.ct) = Sl.tot (D.map Pl.ct) + p.zs.length := by rw [List.map_append]; exact Sl.tot_push _ _
        have := HOLD.out.most
        rw [hct]
        omega
      have HP1 := Lib.hid hp1
      have HSL1 := Lib.hid hsl1
      have HRG1 := Lib.hid hrg1
      have HNO := Lib.hid hnone
      have HBW1 := Lib.hid hbw1
      have HCT := Lib.hid hct
      have HPI := Lib.hid hpi
      have HPC := Lib.hid hpc
      have HD1 := Lib.hid hd1
      have HD0 := Lib.hid hd0
      have HLEN := Lib.hid hlen
      have HTOT := Lib.hid htot
      have HRC : Hid (w.heap.size + 2 < w1.heap.size) := by show _ < _; omega
      clear hp1 hsl1 hrg1 hnone hbw1 hct hpi hpc hd1 hd0 hlen htot hkeys hperm hrg hsl hbw hp
      go_wp2_with fail
      refine wp_region_FS 33 7 4 [31] (fun _ x V => ∃ A c2, x = .slice A p.zs.length c2 ∧ PayAt V ⟨p.i, A, c2, p.zs⟩) (fun V => Below w1.heap.size w1 V) (fun xs V V' => ∃ A c2, xs 31 = .slice A p.zs.length c2 ∧ PayAt V ⟨p.i, A, c2, p.zs⟩ ∧ MapAt V' w.heap.size (E2 ++ [⟨p.i, A, c2, p.zs⟩]) ∧ Off (fun q => q = w.heap.size) V V') (by kernel_rfl) (by kernel_rfl) (by rfl) (by kernel_rfl) (by rfl) (by simp) (fun W W' h hb => h.trans (hb.mono h.size)) (fun q x W W' ⟨A, c2, h1, h2⟩ hb => ⟨A, c2, h1, h2.below hb⟩) (Below.refl _ _).drew ?_
      repeat (first | (refine wpFS_step (wpF_nil rfl rfl rfl rfl ?_); simp only [wpF, Act.put, List.setIfInBounds_toArray, List.set_cons_succ, List.set_cons_zero]) | (refine wpFS_step (wpF_pure rfl rfl ?_); go_big_quiet_step (fail); refine wpQuiet_nil ?_; simp only [wpF]))
      refine wpFS_step (wpF_load _ rfl (by rfl) (by rfl) (by rfl) L1 ?_)
      simp only [wpF, Act.put, List.setIfInBounds_toArray, List.set_cons_succ, List.set_cons_zero]
      repeat (refine wpFS_step (wpF_pure rfl rfl ?_); go_big_quiet_step (fail); refine wpQuiet_nil ?_; simp only [wpF])
      refine wpFS_step (wpF_callsrc 31 (f := 49) (args := #[.slice p.a p.zs.length p.cp]) (by simp) rfl rfl rfl (fun x => by first | rfl | (simp [go_sem]; done)) (fun V hV => (clone_any p.a p.zs.length p.cp p.zs V rfl (by omega) ((HP1.out.below hV).nums)).mono fun e V' ⟨x, he, hm⟩ => ?_) ?_)
      · obtain ⟨A, c2, rfl, hp⟩ := hm.pay HP1.out.ne HP1.out.byte p.i
        exact ⟨_, he, ⟨A, c2, rfl, hp⟩, hm.2⟩
      simp only [wpF, Act.put, List.setIfInBounds_toArray, List.set_cons_succ, List.set_cons_zero]
      refine wpFS_upd rfl rfl rfl (fun xs V hV hx => ?_) ?_
      · obtain ⟨A, c2, e31, hp⟩ := hx 31 (by simp)
        obtain ⟨V', hrun, hmap, hoff, _⟩ := (HSL1.out.below hV).map.run_upd (P := Try.prog) (t := 96) Try.underlying96 Try.underlying3 ⟨p.i, A, c2, p.zs⟩ HPI.out HNO.out
        refine ⟨V', ?_, A, c2, e31, hp, hmap, hoff⟩
        simp only [Pl.val] at hrun
        simp only [fill, Act.put, Act.eval, e31]
        exact hrun
      simp only [wpFS]
      rintro xs V V' hV hx ⟨A, c2, e31, hp, hmap, hoff⟩
      have hSV := HSL1.out.below hV
      have hbV := HBW1.out.trans (hV.mono HBW1.out.size)
      have hncell : ∀ g cs, V.heap[g]? = some (.cells cs 5 (0, 0)) → ¬ (g = w.heap.size) := fun g cs hg e => hSV.map.not_cells _ _ _ (by rw [← e]; exact hg)
      have hfin : SlotAt V' (w.heap.size + 1) w.heap.size v k s c (E2 ++ [⟨p.i, A, c2, p.zs⟩]) := by
        refine ⟨(hoff.block _ hSV.size (by omega)).trans hSV.row, hmap, fun q hq => ?_, fun q hq => ?_, hSV.good, ?_, hSV.word⟩
        · rcases List.mem_append.1 hq with hq | hq
          · exact (hSV.pays q hq).off hoff hncell
          · obtain rfl := List.mem_singleton.1 hq
            exact hp.off hoff hncell
        · rcases List.mem_append.1 hq with hq | hq
          · exact hSV.few q hq
          · obtain rfl := List.mem_singleton.1 hq
            exact HPC.out
        · rw [List.map_append, List.map_singleton, Sl.tot_push]
          exact HTOT.out
      have hrgV := HRG1.out.below hV
      have hrgF : RangeAt V' m (w.heap.size + 2) E (D ++ [p]) := hrgV.off hoff (by omega) (by omega)
      have hbF : Below w.heap.size w V' := hbV.trans (hoff.below (fun q hq => by omega) hbV.size)
      have HFIN := Lib.hid (And.intro hfin (And.intro hrgF hbF))
      have hleft := hrgF.left
      have HLEFT := Lib.hid hleft
      clear hp hmap hoff hSV hbV hncell hfin hV hx hrgV hrgF hbF hleft L1
      simp only [fill, Act.put, List.setIfInBounds_toArray, List.set_cons_succ, List.set_cons_zero]
      generalize xs 31 = x31
      go_wp2
      go_roundw
      case rel => exact ⟨D ++ [p], _, HFIN.out.2.1, HFIN.out.1, HFIN.out.2.2, by rw [List.map_append, List.map_append, HCT.out]; rfl⟩
      case measure =>
        have h1 := HLEFT.out
        have h2 := HD0.out
        have h3 := HLEN.out
        rw [h1, h2]
        simp at h3 ⊢
        omega
end Go.Proofs.Ytfdbcfkjablnkaa
