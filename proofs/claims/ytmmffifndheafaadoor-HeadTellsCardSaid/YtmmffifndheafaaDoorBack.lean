/-
  Contract of slices.Backward of bytes: its closure hands each byte to the loop's body, the last one first.
-/
import Derived.Test.YtmmffifndheafaaDoorIn
import Derived.Test.YtmmffifndheafaaDoorKeep
import Derived.Test.YtmmffifndheafaaDoorRows
import Derived.WalkLawsBesides
import Derived.WalkMore
import Derived.Lib.Hide
import Derived.Deep.LoopGhost
import Derived.WalkSpells
import Derived.RangeFuncNested
import Derived.RangeFuncBound
import Derived.RangeFuncCalls
import Derived.RangeFuncLeaves
import Derived.Shelf.Abstract
import Derived.Shelf.RegionOpen
import Derived.OwnWalkIn
import Derived.TacticsInMore
import Derived.LoopNIn
import Derived.LoopIn
namespace Go.Proofs.YtmmffifndheafaaDoor
open Go.RowKit Go.Shelf
set_option maxRecDepth 100000
attribute [local go_sem] Oper.semAt_some

/-- a place and a byte, as the closure hands them on -/
abbrev PB := { x : Nat × Int // x.1 ≤ 1000000 ∧ 0 ≤ x.2 ∧ x.2 ≤ 255 }
def bytesOf (l : List PB) : List Int := l.map fun x => x.1.2
theorem bytesOf_append (a b : List PB) : bytesOf (a ++ b) = bytesOf a ++ bytesOf b := by simp [bytesOf]
theorem bytesOf_length (a : List PB) : (bytesOf a).length = a.length := by simp [bytesOf]
theorem back_more {zs : List Int} {k : Nat} {c : Int} (h : zs[k]? = some c) : (zs.drop k).reverse = (zs.drop (k + 1)).reverse ++ [c] := by
  have hk : k < zs.length := (List.getElem?_eq_some_iff.1 h).1
  rw [List.getElem?_eq_getElem hk] at h
  injection h with h
  rw [List.drop_eq_getElem_cons hk, List.reverse_cons, h]

theorem NumsS.kept {k : IntKind} {S : Nat → Prop} {A B : World} {a : Option Addr} {zs : List Int} (h : NumsS k A S a zs) (hk : KeepS S A B) : NumsS k B S a zs := fun hn => by
  obtain ⟨b, off, e, h1, hc⟩ := h hn
  exact ⟨b, off, e, h1, fun j c hj => (hk.cell (p := ⟨b, off + j, none⟩) h1).trans (hc j c hj)⟩
theorem NumsS.open {k : IntKind} {S : Nat → Prop} {w : World} {a : Option Addr} {zs : List Int} (h : NumsS k w S a zs) {j : Nat} {c : Int} (hj : zs[j]? = some c) : ∃ b off, a = some ⟨b, off, none⟩ ∧ S b ∧ w.cell? ⟨b, off + j, none⟩ = some (.int k c) := by
  obtain ⟨b, off, e, hb, hc⟩ := h (by intro e; subst e; simp at hj)
  exact ⟨b, off, e, hb, hc j c hj⟩
theorem Nums.toS {k : IntKind} {S : Nat → Prop} {w : World} {B : Nat} {a : Option Addr} {zs : List Int} (h : Nums k w B a zs) (hS : ∀ b, b < B → S b) : NumsS k w S a zs := fun hn => by
  obtain ⟨b, off, e, hb, hc⟩ := h hn
  exact ⟨b, off, e, hS b hb, hc⟩

set_option maxHeartbeats 2000000 in
theorem back_in (n : Nat) (hn : 1 ≤ n) (l Bs c : Nat) (S : Nat → Prop) (A : Option Addr) (zs : List Int) (hl : zs.length ≤ 1000000) (hz : ∀ c ∈ zs, 0 ≤ c ∧ c ≤ 255) (hS : S Bs) (J Jx : List PB → World → Prop)
    (hY : ∀ pre x W, J pre W → pre.length < zs.length → YieldAt Fence.wide (n - 1) Tryd.prog l #[.int .i64 (x.1.1 : Int), .int .u8 x.1.2] W fun e W' =>
      (e = .returned (.bool true) ∧ J (pre ++ [x]) W' ∧ KeepS S W W') ∨ (e = .returned (.bool false) ∧ Jx (pre ++ [x]) W'))
    (W : World) (hBs : W.cell? ⟨Bs, 0, none⟩ = some (.slice A zs.length c)) (hN : NumsS .u8 W S A zs) (h0 : J [] W) :
    CallsIn Fence.wide n Tryd.prog 46 #[.func (.yield l) #[] #[], .pointer (some ⟨Bs, 0, none⟩)] W fun e W' => (∃ v, e = .returned v) ∧
      ((∃ ys, bytesOf ys = zs.reverse ∧ J ys W') ∨ (∃ pre, (bytesOf pre <+: zs.reverse ∧ pre ≠ []) ∧ Jx pre W')) := by
  refine callsIn_of_wp Tryd.func46 rfl trivial ?_ rfl
  simp only [Tryd.ntmps46, List.size_toArray, List.length_cons, List.length_nil, Nat.reduceAdd, Nat.reduceSub, Array.replicate_succ, Array.replicate_zero, List.push_toArray, List.append_toArray, List.nil_append, List.cons_append]
  gi_wp2
  gi_loopw [3] (fun i wr => ∃ (k : Nat) (z : Int) (pre : List PB), k ≤ zs.length ∧ i = .int .i64 z ∧ z = (k : Int) - 1 ∧ bytesOf pre = (zs.drop k).reverse ∧ J pre wr ∧ KeepS S W wr)
    (fun i _ => (intOf i + 1).toNat)
  case atStart => exact ⟨zs.length, _, [], Nat.le_refl _, rfl, by first | rfl | go_num, by simp [bytesOf], h0, KeepS.refl _ _⟩
  case round =>
    obtain ⟨k, z, pre, hk, rfl, hzk, hpre, hJ, hkp⟩ := hrel
    have hbox := (hkp.cell (p := ⟨Bs, 0, none⟩) hS).trans hBs
    have hNr := hN.kept hkp
    cases k with
    | zero =>
      have hz0 : ¬ 0 ≤ z := by omega
      clear hzk
      gi_wp2
      go_end0
      exact ⟨⟨_, rfl⟩, .inl ⟨_, by simpa using hpre, hJ⟩⟩
    | succ k =>
      obtain rfl : z = (k : Int) := by omega
      obtain ⟨c1, hc⟩ : ∃ c, zs[k]? = some c := ⟨_, List.getElem?_eq_getElem (by omega)⟩
      obtain ⟨b1, o1, rfl, hb1, hc1⟩ := hNr.open hc
      have hcb := hz c1 (List.mem_of_getElem? hc)
      have hkl : (k : Int) < (zs.length : Int) := by omega
      have hx : k ≤ 1000000 ∧ 0 ≤ c1 ∧ c1 ≤ 255 := ⟨by omega, hcb.1, hcb.2⟩
      have hcnt : pre.length < zs.length := by
        have h2 := congrArg List.length hpre
        rw [bytesOf_length, List.length_reverse, List.length_drop] at h2
        omega
      have HM : Hid (bytesOf (pre ++ [(⟨(k, c1), hx⟩ : PB)]) = (zs.drop k).reverse) := by
        show _ = _
        rw [bytesOf_append, hpre, back_more hc]; rfl
      have HP : Hid (bytesOf (pre ++ [(⟨(k, c1), hx⟩ : PB)]) <+: zs.reverse ∧ pre ++ [(⟨(k, c1), hx⟩ : PB)] ≠ []) :=
        ⟨by rw [HM.out]; exact ⟨(zs.take k).reverse, by rw [← List.reverse_append, List.take_append_drop]⟩, by simp⟩
      obtain ⟨fn, tmps, assign, body, hy, hR⟩ := hY pre ⟨(k, c1), hx⟩ wr hJ hcnt
      dsimp only at hy
      clear hpre hzk hc hz
      gi_wp2
      refine hR.mono ?_
      rintro e W3 (⟨rfl, hJ3, hk3⟩ | ⟨rfl, hJx3⟩)
      · gi_wp2
        go_roundw
        case rel => exact ⟨k, _, _, by omega, rfl, by first | rfl | go_num, HM.out, hJ3, hkp.trans hk3⟩
        case measure => simp [intOf]
      · gi_wp2
        refine bodyPost_ret (results_none rfl _ _ _) rfl ?_
        exact ⟨⟨_, rfl⟩, .inr ⟨_, HP.out, hJx3⟩⟩

theorem back_stops (n : Nat) (hn : 1 ≤ n) (S : Nat → Prop) (w : World) (zs : List Int) (Bs c : Nat) (A : Option Addr) (hl : zs.length ≤ 1000000) (hz : ∀ c ∈ zs, 0 ≤ c ∧ c ≤ 255) (hS : ∀ k, S k → k < w.heap.size) (hB : S Bs) (hbox : w.cell? ⟨Bs, 0, none⟩ = some (.slice A zs.length c)) (hnum : NumsS .u8 w S A zs) :
    SeqStopsK Fence.wide n Tryd.prog 46 #[.pointer (some ⟨Bs, 0, none⟩)] (fun x : PB => #[Value.int .i64 (x.1.1 : Int), Value.int .u8 x.1.2]) (KeepS S) (fun ys => bytesOf ys = zs.reverse) (fun pre => bytesOf pre <+: zs.reverse ∧ pre ≠ []) zs.length w := fun l J Jx W hW _ _ hY h0 =>
  back_in n hn l Bs c S A zs hl hz hB J Jx hY W ((hW.cell (p := ⟨Bs, 0, none⟩) (hS Bs hB)).trans hbox) (hnum.kept (KeepS.of_below hW hS)) h0
theorem kept_t {S : Nat → Prop} {A B C : World} (h : KeepS S A B) (k : KeepS S B C) : KeepS S A C := h.trans k
theorem kept_b {S : Nat → Prop} {w : World} (hS : ∀ k, S k → k < w.heap.size) (W : World) (l : Nat) (o o' : Obj) (hl : w.heap.size ≤ l) (_ho : W.heap[l]? = some o) (_h1 : o.isCells = false) (_h2 : o.isWalk = false) : KeepS S W (W.putObj l o') := by
  refine ⟨by simp [World.putObj], fun k h2 => ?_⟩
  have := hS k h2
  simp only [World.putObj]
  rw [Array.getElem?_setIfInBounds]
  rw [if_neg (by omega)]
theorem kept_set {S : Nat → Prop} {W W' : World} {C : Nat} (h : KeepS S W W') (hC : ¬ S C) (o : Nat) (v : Value) : KeepS S W (W'.setCell ⟨C, o, none⟩ v) :=
  h.trans ⟨by simp [World.setCell], fun k h1 => Below.heap_setCell W' ⟨C, o, none⟩ v k (fun e => hC (by subst e; exact h1))⟩

/-- slices.Backward -/
theorem back_any (a : Option Addr) (n cap : Nat) (w : World) :
    Calls Tryd.prog 39 #[.slice a n cap] w fun e w' => e = .returned (.func (.func 46) #[] #[.pointer (some ⟨w.heap.size, 0, none⟩)]) ∧ w' = w.alloc (.cells #[.slice a n cap] 25) := by
  go_enter Tryd.func39, Tryd.ntmps39
  go_wp2
  go_ret
  exact ⟨rfl, rfl⟩
end Go.Proofs.YtmmffifndheafaaDoor
