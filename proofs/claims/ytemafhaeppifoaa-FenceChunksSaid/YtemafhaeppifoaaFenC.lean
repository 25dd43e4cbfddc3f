/-
  Contracts of layer 6: the iterator over closed segments.
-/
import Derived.Test.YtemafhaeppifoaaFenN
import Derived.Test.YtemafhaeppifoaaIdx
import Derived.Test.YtemafhaeppifoaaStops
import Derived.Test.YtemafhaeppifoaaKpC
import Derived.WalkSpells
import Derived.RangeFuncBound
import Derived.RangeFuncCalls
import Derived.RangeFuncLeaves
import Derived.Shelf.Abstract
import Derived.Shelf.RegionOpen
import Derived.OwnWalkIn
import Derived.TacticsInMore
import Derived.LoopNIn
import Derived.LoopIn
namespace Go.Proofs.Ytemafhaeppifoaa
open Go.RowKit Go.Shelf
set_option maxRecDepth 100000
attribute [local go_sem] Oper.semAt_some

set_option maxHeartbeats 2000000 in
/-- the closure: it hands each segment with its place to the loop's body, till the body says no more, or there is none left -/
theorem closed_in (n : Nat) (hn : 1 ≤ n) (m' l Bs m c : Nat) (S : Nat → Prop) (w : World) (hS : ∀ k, S k → k < w.heap.size) (A : Option Addr) (zs : List Int) (hm : zs.length = m) (hl : m ≤ 1000000) (hz : Bytes zs) (hc : m ≤ c) (J : Nat → World → Prop) (Jx : World → Prop)
    (hY : ∀ (j p : Nat) (A' : Option Addr) (b : List Int) (W : World), J j W → KeepS S w W → (Fc.scan 0 [] zs)[j]? = some (p, b) → NumsS .u8 w S A' b →
      YieldAt Fence.wide m' Try.prog l #[.int .i64 (p : Int), .slice A' b.length b.length] W fun e W' => (e = .returned (.bool true) ∧ J (j + 1) W' ∧ KeepS S W W') ∨ (e = .returned (.bool false) ∧ Jx W'))
    (W : World) (hSB : S Bs) (hBs : w.cell? ⟨Bs, 0, none⟩ = some (.slice A m c)) (hK : KeepS S w W) (hN : NumsS .u8 w S A zs) (h0 : J 0 W) :
    CallsIn Fence.wide n Try.prog 25 #[.func (.yield l) #[] #[], .pointer (some ⟨Bs, 0, none⟩)] W fun e W' => (∃ v, e = .returned v) ∧ ((J (Fc.scan 0 [] zs).length W' ∧ KeepS S w W') ∨ Jx W') := by
  have HM := Lib.hid hm
  clear hm
  refine callsIn_of_wp Try.func25 rfl trivial ?_ rfl
  simp only [Try.ntmps25, List.size_toArray, List.length_cons, List.length_nil, Nat.reduceAdd, Nat.reduceSub, Array.replicate_succ, Array.replicate_zero, List.push_toArray, List.append_toArray, List.nil_append, List.cons_append]
  gi_wp2
  refine wpIn_wide.2 (wp_scope_straight ((wpIn_wide (n := n)).1 ?_))
  gi_wp2
  apply wpIn_label
  gi_wp2
  gi_loopw [3] (fun v wr => ∃ (k : Nat) (pre : List (Nat × List Int)), k ≤ m ∧ v = .int .i64 (k : Int) ∧ Hid (Fc.scan 0 [] zs = pre ++ Fc.scan k [] (zs.drop k)) ∧ J pre.length wr ∧ KeepS S w wr)
    (fun v _ => m - (intOf v).toNat)
  case atStart => exact ⟨0, [], by omega, rfl, rfl, h0, hK⟩
  case round =>
    obtain ⟨k, pre, hkm, rfl, HP, hJ, hk⟩ := hrel
    have hbx : wr.cell? ⟨Bs, 0, none⟩ = some (.slice A m c) := (hk.cell (p := ⟨Bs, 0, none⟩) hSB).trans hBs
    have hdl : (zs.drop k).length = m - k := by rw [List.length_drop, HM.out]
    have I := index_any w.heap.size (if c = k then A else A.map (·.add k)) (m - k) (c - k) (zs.drop k) wr hdl (hz.drop k) (((hN.keeps hk).nums hS).drop (by rw [HM.out]; exact hc))
    have hle := Cb.nz_le (zs.drop k)
    have hmc : (m : Int) ≤ (c : Int) := by omega
    have hkm' : (k : Int) ≤ (m : Int) := by omega
    rcases Nat.lt_or_ge (Cb.nz (zs.drop k)) (m - k) with h4 | h4
    · have e1 : idx (zs.drop k) = (Cb.nz (zs.drop k) : Int) := by unfold idx; rw [if_pos (by rw [hdl]; exact h4)]
      have hck : c ≠ k := by omega
      rw [e1, if_neg hck] at I
      by_cases h0 : Cb.nz (zs.drop k) = 0
      · have HS : Hid (Fc.scan 0 [] zs = pre ++ Fc.scan (k + 1) [] (zs.drop (k + 1))) := by
          show _ = _
          have := Fc.scan_step (L := zs.drop k) (by rw [hdl]; exact h4) k
          rw [if_pos h0, h0, List.nil_append, List.drop_drop] at this
          rw [HP.out, this]
        rw [h0, show ((0 : Nat) : Int) = 0 from rfl] at I
        clear hle hdl e1
        have HQ := Lib.hid h0
        clear h0
        gi_wp2_with fail
        refine ⟨trivial, ?_⟩
        refine (callsIn_wide.2 I).mono ?_
        rintro e w1 ⟨rfl, rfl⟩
        clear I
        gi_wp2
        refine ⟨fun f hf => (by cases hf), ?_⟩
        gi_wp2
        go_roundw
        case rel => exact ⟨k + 1, pre, by omega, by go_num, HS, hJ, hk⟩
        case measure => simp [intOf]; omega
      · have h5 : (0 : Int) < (Cb.nz (zs.drop k) : Int) := by omega
        have h6 : ¬ (Cb.nz (zs.drop k) : Int) < 0 := by omega
        have HS : Hid (Fc.scan 0 [] zs = pre ++ [(k, (zs.drop k).take (Cb.nz (zs.drop k)))] ++ Fc.scan (k + Cb.nz (zs.drop k) + 1) [] (zs.drop (k + Cb.nz (zs.drop k) + 1))) := by
          show _ = _
          have := Fc.scan_step (L := zs.drop k) (by rw [hdl]; exact h4) k
          rw [if_neg h0, List.drop_drop] at this
          rw [HP.out, this, List.append_assoc, Nat.add_assoc]
        have htl : ((zs.drop k).take (Cb.nz (zs.drop k))).length = Cb.nz (zs.drop k) := by rw [List.length_take]; omega
        have hget : (Fc.scan 0 [] zs)[pre.length]? = some (k, (zs.drop k).take (Cb.nz (zs.drop k))) := by
          rw [HS.out, List.append_assoc, List.getElem?_append_right (Nat.le_refl _), Nat.sub_self]; rfl
        have hnum : NumsS .u8 w S (A.map (·.add k)) ((zs.drop k).take (Cb.nz (zs.drop k))) := by
          have := (hN.drop2 (a' := A.map (·.add k)) (i := 0) (j := k) (fun _ b o e => by subst e; by_cases hk0 : k = 0 <;> simp [Addr.add, hk0])).take (Cb.nz (zs.drop k))
          rwa [Nat.zero_add] at this
        have HYr := Lib.hid (hY pre.length k (A.map (·.add k)) _ wr hJ hk hget hnum)
        rw [htl] at HYr
        clear hle hdl e1 htl hget hnum
        gi_wp2_with fail
        refine ⟨trivial, ?_⟩
        refine (callsIn_wide.2 I).mono ?_
        rintro e w1 ⟨rfl, rfl⟩
        clear I
        have h7 : (k : Int) + (Cb.nz (zs.drop k) : Int) ≤ (c : Int) := by omega
        obtain ⟨fn, tmps, assign, body, hy, hR⟩ := yield_any (n - 1) HYr.out
        have HR := Lib.hid hR
        clear hR HYr
        gi_wp2_with fail
        refine HR.out.mono ?_
        rintro e W3 (⟨rfl, hJ3, hk3⟩ | ⟨rfl, hJx3⟩)
        · gi_wp2
          go_roundw
          case rel => exact ⟨k + Cb.nz (zs.drop k) + 1, pre ++ [(k, (zs.drop k).take (Cb.nz (zs.drop k)))], by omega, by go_num, HS, by rw [List.length_append, List.length_singleton]; exact hJ3, hk.trans hk3⟩
          case measure => simp [intOf]; omega
        · gi_wp2
          first | go_end0 | (rw [Exit.noGoto_normal]; go_end0)
          exact ⟨⟨_, rfl⟩, .inr hJx3⟩
    · have e1 : idx (zs.drop k) = -1 := by unfold idx; rw [if_neg (by rw [hdl]; omega)]
      have HS : Hid (Fc.scan 0 [] zs = pre) := by
        show _ = _
        rw [HP.out, Fc.scan_last (by rw [hdl]; exact h4), List.append_nil]
      rw [e1] at I
      clear hle hdl e1
      by_cases hck : c = k
      · subst hck
        rw [if_pos rfl, Nat.sub_self, show m - c = 0 by omega] at I
        gi_wp2_with fail
        refine ⟨trivial, ?_⟩
        refine (callsIn_wide.2 I).mono ?_
        rintro e w1 ⟨rfl, rfl⟩
        clear I
        gi_wp2
        first | go_end0 | (rw [Exit.noGoto_normal]; go_end0)
        rw [HS.out]
        exact ⟨⟨_, rfl⟩, .inl ⟨hJ, hk⟩⟩
      · rw [if_neg hck] at I
        gi_wp2_with fail
        refine ⟨trivial, ?_⟩
        refine (callsIn_wide.2 I).mono ?_
        rintro e w1 ⟨rfl, rfl⟩
        clear I
        gi_wp2
        first | go_end0 | (rw [Exit.noGoto_normal]; go_end0)
        rw [HS.out]
        exact ⟨⟨_, rfl⟩, .inl ⟨hJ, hk⟩⟩
end Go.Proofs.Ytemafhaeppifoaa
