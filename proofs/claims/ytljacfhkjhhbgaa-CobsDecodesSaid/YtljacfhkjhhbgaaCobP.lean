/-
  Contracts of layer 5: the iterator over the blocks of bytes: parts and its closure.
-/
import Derived.Test.YtljacfhkjhhbgaaCobI
import Derived.Test.YtljacfhkjhhbgaaKeep
import Derived.WalkSpells
import Derived.RangeFuncNested
import Derived.RangeFuncBound
import Derived.RangeFuncCalls
import Derived.RangeFuncLeaves
import Derived.Shelf.Abstract
import Derived.Shelf.RegionOpen
import Derived.OwnWalkIn
import Derived.TacticsInMore
import Derived.LoopNIn
import Derived.LoopIn
namespace Go.Proofs.Ytljacfhkjhhbgaa
open Go.RowKit Go.Shelf
set_option maxRecDepth 100000
attribute [local go_sem] Oper.semAt_some

/-- a block as the closure hands it on: where it lies, its bytes -/
abbrev Blk (w : World) (S : Nat → Prop) := { x : Option Addr × List Int // NumsS .u8 w S x.1 x.2 ∧ Bytes x.2 ∧ x.2.length ≤ 254 }
section
variable {w : World} {S : Nat → Prop}
def bbare (l : List (Blk w S)) : List (List Int) := l.map fun x => x.1.2
theorem bbare_append (a b : List (Blk w S)) : bbare (a ++ b) = bbare a ++ bbare b := by simp [bbare]
theorem bbare_length (a : List (Blk w S)) : (bbare a).length = a.length := by simp [bbare]
def bargs (x : Blk w S) : Array Value := #[Value.slice x.1.1 x.1.2.length x.1.2.length]
end
def sliceLen : Value → Nat
  | .slice _ n _ => n
  | _ => 0

set_option maxHeartbeats 2000000 in
/-- the closure: it hands each block to the loop's body, till the body says no more, or there is none left -/
theorem parts_in (n : Nat) (hn : 1 ≤ n) (l Bs c : Nat) (S : Nat → Prop) (w : World) (hS : ∀ k, S k → k < w.heap.size) (A : Option Addr) (zs : List Int) (hl : zs.length ≤ 1000000) (hz : Bytes zs) (hc : zs.length ≤ c) (J Jx : List (Blk w S) → World → Prop)
    (hY : ∀ pre x W, J pre W → bbare (pre ++ [x]) <+: Cb.blocks zs → YieldAt Fence.wide (n - 1) Try.prog l (bargs x) W fun e W' =>
      (e = .returned (.bool true) ∧ J (pre ++ [x]) W' ∧ KeepS S W W') ∨ (e = .returned (.bool false) ∧ Jx (pre ++ [x]) W'))
    (W : World) (hBs : W.cell? ⟨Bs, 0, none⟩ = some (.slice A zs.length c)) (hK : KeepS S w W) (hN : NumsS .u8 w S A zs) (h0 : J [] W) :
    CallsIn Fence.wide n Try.prog 22 #[.func (.yield l) #[] #[], .pointer (some ⟨Bs, 0, none⟩)] W fun e W' => (∃ v, e = .returned v) ∧
      ((∃ ys, bbare ys = Cb.blocks zs ∧ J ys W') ∨ (∃ pre, (bbare pre <+: Cb.blocks zs ∧ pre ≠ []) ∧ Jx pre W')) := by
  refine callsIn_of_wp Try.func22 rfl trivial ?_ rfl
  simp only [Try.ntmps22, List.size_toArray, List.length_cons, List.length_nil, Nat.reduceAdd, Nat.reduceSub, Array.replicate_succ, Array.replicate_zero, List.push_toArray, List.append_toArray, List.nil_append, List.cons_append]
  gi_wp2
  gi_loopw [3] (fun v wr => ∃ (A : Option Addr) (L : List Int) (m c : Nat) (pre : List (Blk w S)), v = .slice A m c ∧ L.length = m ∧ m ≤ c ∧ m ≤ 1000000 ∧ Hid (NumsS .u8 w S A L) ∧ Hid (Bytes L) ∧ Hid (bbare pre ++ Cb.blocks L = Cb.blocks zs) ∧ J pre wr ∧ KeepS S w wr)
    (fun v _ => sliceLen v)
  case atStart => exact ⟨A, zs, _, c, [], rfl, rfl, hc, hl, hN, hz, rfl, h0, hK⟩
  case round =>
    obtain ⟨A, L, m, c, pre, rfl, hm, hmc, hml, HN, HZ, HP, hJ, hk⟩ := hrel
    have hF := first_any w.heap.size A m c L wr hm hmc (by omega) HZ.out ((HN.out.keeps hk).nums hS)
    have hfl := Cb.fst_le L
    have hf4 := Cb.fst_254 L
    have hx : NumsS .u8 w S A (L.take (Cb.fst L)) ∧ Bytes (L.take (Cb.fst L)) ∧ (L.take (Cb.fst L)).length ≤ 254 := ⟨HN.out.take _, HZ.out.take _, by rw [List.length_take]; omega⟩
    have htl : (L.take (Cb.fst L)).length = Cb.fst L := by rw [List.length_take]; omega
    have hpre : bbare pre ++ [L.take (Cb.fst L)] = bbare (pre ++ [⟨(A, L.take (Cb.fst L)), hx⟩]) := by rw [bbare_append]; rfl
    have hfst : ∃ t, bbare pre ++ [L.take (Cb.fst L)] ++ t = Cb.blocks zs := by
      rcases Nat.lt_or_ge (Cb.fst L) L.length with h4 | h4
      · by_cases h5 : Cb.fst L < 254
        · exact ⟨_, by rw [← HP.out, Cb.blocks_short h4 h5, List.append_assoc, List.singleton_append]⟩
        · exact ⟨_, by rw [← HP.out, Cb.blocks_long h4 h5, List.append_assoc, List.singleton_append]⟩
      · exact ⟨[], by rw [← HP.out, Cb.blocks_end h4, List.append_nil]⟩
    obtain ⟨fn, tmps, assign, body, hy, hR⟩ := hY pre ⟨(A, L.take (Cb.fst L)), hx⟩ wr hJ (by rw [← hpre]; exact hfst)
    simp only [bargs, htl] at hy
    have HR := Lib.hid hR
    have hfc : (Cb.fst L : Int) ≤ (c : Int) := by omega
    have hfm : (Cb.fst L : Int) ≤ (m : Int) := by omega
    have hmc' : (m : Int) ≤ (c : Int) := by omega
    have HX := Lib.hid (And.intro hfst hpre)
    have HL := Lib.hid hm
    have HZd := Lib.hid (HZ.out.drop (Cb.fst L))
    clear hfst hpre htl hfl hm
    rcases Nat.lt_or_ge (Cb.fst L) m with h4 | h4
    · have hcf : c ≠ Cb.fst L := by omega
      have h6 : ¬ ((m : Int) - (Cb.fst L : Int) = 0) := by omega
      by_cases h5 : Cb.fst L < 254
      · have HQ : Hid (bbare pre ++ [L.take (Cb.fst L)] ++ Cb.blocks (L.drop (Cb.fst L + 1)) = Cb.blocks zs) := by
          show _ = _
          rw [← HP.out, Cb.blocks_short (by rw [HL.out]; exact h4) h5, List.append_assoc, List.singleton_append]
        have h7 : (Cb.fst L : Int) < 254 := by omega
        have h8 : (1 : Int) ≤ (m : Int) - (Cb.fst L : Int) := by omega
        have h9 : (m : Int) - (Cb.fst L : Int) ≤ (c : Int) - (Cb.fst L : Int) := by omega
        gi_wp2_with fail
        refine ⟨trivial, ?_⟩
        refine (callsIn_wide.2 hF).mono ?_
        rintro e w1 ⟨rfl, rfl⟩
        gi_wp2_with fail
        refine HR.out.mono ?_
        rintro e W3 (⟨rfl, hJ3, hk3⟩ | ⟨rfl, hJx3⟩)
        · gi_wp2
          refine ⟨⟨_, L.drop (Cb.fst L + 1), _, _, _, rfl, by rw [List.length_drop, HL.out]; omega, by omega, by omega, HN.out.drop2 ?_, HZ.out.drop _, ?_, hJ3, hk.trans hk3⟩, by simp [sliceLen]; omega⟩
          · intro hlt b o e
            have hx1 : c - Cb.fst L ≠ 1 := by have := HL.out; omega
            subst e
            by_cases h0 : Cb.fst L = 0
            · have hx2 : c ≠ 1 := by omega
              simp [Addr.add, h0, hx2]
            · simp [Addr.add, hx1, h0]
          · show _ = _
            rw [← HX.out.2]; exact HQ.out
        · gi_wp2
          refine bodyPost_ret (results_none rfl _ _ _) rfl ?_
          exact ⟨⟨_, rfl⟩, .inr ⟨_, ⟨by rw [← HX.out.2]; exact HX.out.1, by simp⟩, hJx3⟩⟩
      · have HQ : Hid (bbare pre ++ [L.take (Cb.fst L)] ++ Cb.blocks (L.drop (Cb.fst L)) = Cb.blocks zs) := by
          show _ = _
          rw [← HP.out, Cb.blocks_long (by rw [HL.out]; exact h4) h5, List.append_assoc, List.singleton_append]
        have h7 : ¬ (Cb.fst L : Int) < 254 := by omega
        gi_wp2_with fail
        refine ⟨trivial, ?_⟩
        refine (callsIn_wide.2 hF).mono ?_
        rintro e w1 ⟨rfl, rfl⟩
        gi_wp2_with fail
        refine HR.out.mono ?_
        rintro e W3 (⟨rfl, hJ3, hk3⟩ | ⟨rfl, hJx3⟩)
        · gi_wp2
          refine ⟨⟨_, L.drop (Cb.fst L + 0), _, _, _, rfl, by rw [List.length_drop, HL.out]; omega, by omega, by omega, HN.out.drop2 ?_, HZ.out.drop _, ?_, hJ3, hk.trans hk3⟩, by simp [sliceLen]; omega⟩
          · intro hlt b o e
            subst e
            simp [Addr.add]
            omega
          · show _ = _
            rw [← HX.out.2]; exact HQ.out
        · gi_wp2
          refine bodyPost_ret (results_none rfl _ _ _) rfl ?_
          exact ⟨⟨_, rfl⟩, .inr ⟨_, ⟨by rw [← HX.out.2]; exact HX.out.1, by simp⟩, hJx3⟩⟩
    · have HQ : Hid (bbare pre ++ [L.take (Cb.fst L)] = Cb.blocks zs) := by
        show _ = _
        rw [← HP.out, Cb.blocks_end (by rw [HL.out]; exact h4)]
      have h6 : (m : Int) - (Cb.fst L : Int) = 0 := by omega
      gi_wp2_with fail
      refine ⟨trivial, ?_⟩
      refine (callsIn_wide.2 hF).mono ?_
      rintro e w1 ⟨rfl, rfl⟩
      gi_wp2_with fail
      refine HR.out.mono ?_
      rintro e W3 (⟨rfl, hJ3, hk3⟩ | ⟨rfl, hJx3⟩)
      · gi_wp2
        all_goals refine bodyPost_ret (results_none rfl _ _ _) rfl ?_
        all_goals exact ⟨⟨_, rfl⟩, .inl ⟨_, by rw [← HX.out.2]; exact HQ.out, hJ3⟩⟩
      · gi_wp2
        refine bodyPost_ret (results_none rfl _ _ _) rfl ?_
        exact ⟨⟨_, rfl⟩, .inr ⟨_, ⟨by rw [← HX.out.2]; exact HX.out.1, by simp⟩, hJx3⟩⟩

theorem parts_stops (n : Nat) (hn : 1 ≤ n) (Bs m c : Nat) (S : Nat → Prop) (w : World) (A : Option Addr) (zs : List Int) (hm : zs.length = m) (hl : m ≤ 1000000) (hz : Bytes zs) (hB : S Bs) (hS : ∀ k, S k → k < w.heap.size) (hc : m ≤ c)
    (hBs : w.cell? ⟨Bs, 0, none⟩ = some (.slice A m c)) (hN : NumsS .u8 w S A zs) :
    SeqStopsK Fence.wide n Try.prog 22 #[.pointer (some ⟨Bs, 0, none⟩)] (fun x : Blk w S => #[Value.slice x.1.1 x.1.2.length x.1.2.length]) (KeepS S) (fun ys => bbare ys = Cb.blocks zs) (fun pre => bbare pre <+: Cb.blocks zs ∧ pre ≠ []) (Cb.blocks zs).length w := fun l J Jx W hW _ _ hY h0 => by
  subst hm
  have hk : KeepS S w W := KeepS.of_below hW hS
  exact parts_in n hn l Bs c S w hS A zs hl hz hc J Jx (fun pre x W1 hJ hp => hY pre x W1 hJ (by
    obtain ⟨t, ht⟩ := hp
    have h2 := congrArg List.length ht
    rw [List.length_append, bbare_length, List.length_append, List.length_singleton] at h2
    omega)) W ((hk.cell (p := ⟨Bs, 0, none⟩) hB).trans hBs) hk hN h0
theorem parts_any (a : Option Addr) (n c : Nat) (w : World) :
    Calls Try.prog 18 #[.slice a n c] w fun e w' => e = .returned (.func (.func 22) #[] #[.pointer (some ⟨w.heap.size, 0, none⟩)]) ∧ w' = w.alloc (.cells #[.slice a n c] 22) := by
  go_enter Try.func18, Try.ntmps18
  go_wp2
  go_ret
  exact ⟨rfl, rfl⟩
end Go.Proofs.Ytljacfhkjhhbgaa
