/-
  The walk of the law WindowNil: it returns true.
-/
import Derived.Test.YtklkfajbfpihfaaWinK
import Derived.Test.YtklkfajbfpihfaaStopB
import Derived.Test.YtklkfajbfpihfaaLd
import Derived.RangeFuncBound
import Derived.RangeFuncCalls
import Derived.RangeFuncLeaves
import Derived.Shelf.Abstract
import Derived.Shelf.RegionOpen
import Derived.OwnWalkIn
import Derived.TacticsInMore
import Derived.LoopNIn
import Derived.LoopIn
import Derived.OpenShut
namespace Go.Proofs.Ytklkfajbfpihfaa
open Go.RowKit Go.Shelf
set_option maxRecDepth 100000
attribute [local go_sem] Oper.semAt_some

theorem wcome_nil (w : World) : Calls Try.prog 19 #[.pointer none] w fun e w' => e = .returned (.func (.func 28) #[] #[]) ∧ w' = w := by
  go_enter Try.func19, Try.ntmps19
  go_wp2
  go_ret
  exact ⟨rfl, rfl⟩
theorem wmissing_nil (w : World) : Calls Try.prog 18 #[.pointer none] w fun e w' => e = .returned (.slice none 0 0) ∧ w' = w := by
  go_enter Try.func18, Try.ntmps18
  go_wp2
  go_ret
  exact ⟨rfl, rfl⟩
theorem come1_not_nil (w : World) : (binOp .eql 49 (.func (.func 28) #[] #[]) .nilFunc).run Try.prog w = .ok (.bool false) w := by
  kernel_rfl
theorem come1_in (n : Nat) (l : Nat) (W : World) :
    CallsIn Fence.wide n Try.prog 28 #[.func (.yield l) #[] #[]] W fun e W' => (∃ v, e = .returned v) ∧ W' = W := by
  refine callsIn_of_wp Try.func28 rfl trivial ?_ rfl
  simp only [Try.ntmps28, List.size_toArray, List.length_cons, List.length_nil, Nat.reduceAdd, Nat.reduceSub, Array.replicate_succ, Array.replicate_zero, List.push_toArray, List.append_toArray, List.nil_append, List.cons_append]
  gi_wp2
  first | go_end0 | (refine bodyPost_ret (results_none rfl _ _ _) rfl ?_) | skip
  exact ⟨⟨_, rfl⟩, rfl⟩
set_option maxHeartbeats 4000000 in
theorem walk_winil (a0 : Int) (_w0 : (Lit.int .u32 a0).wf = true) (w : World) :
    Calls Try.prog 6 #[.int .u32 a0] w fun e w' => e = .returned (.bool true) ∧ Below w.heap.size w w' := by
  refine (callsIn_wide (n := 3)).1 ?_
  refine callsIn_of_wp_marks Try.func6 rfl trivial ?_ rfl
  simp only [Try.ntmps6, List.size_toArray, List.length_cons, List.length_nil, Nat.reduceAdd, Nat.reduceSub, Array.replicate_succ, Array.replicate_zero, List.push_toArray, List.append_toArray, List.nil_append, List.cons_append]
  gi_wp2_with fail
  refine ⟨trivial, ?_⟩
  refine (callsIn_wide.2 (wcome_nil _)).mono ?_
  rintro e w1 ⟨rfl, rfl⟩
  obtain ⟨w1, hw1⟩ : ∃ w1, w.alloc (.cells #[Value.int .i64 0] 3) = w1 := ⟨_, rfl⟩
  have bK : Boxed w1 w.heap.size 3 (.int .i64 0) := by rw [← hw1]; exact Boxed.new w _ _
  have hb1 : Below w.heap.size w w1 := by rw [← hw1]; exact (Below.refl _ w).alloc (Nat.le_refl _) _
  have hs1 := hb1.size
  rw [hw1]
  have hnil := come1_not_nil w1
  clear hw1
  gi_wp2_with fail
  refine range_stopb rfl (by omega) (gf := 28) (lb := #[]) rfl trivial (enters_of Try.func28 (by kernel_rfl) rfl)
    (fun _ : Unit => #[Value.int .u32 0]) (fun _ => rfl)
    (fun _ _ _ => False) (fun _ _ _ _ => False) (fun _ V => Below w1.heap.size w1 V) (fun _ _ => False) (fun _ _ => True) 0
    (fun _ _ _ _ _ _ _ h _ _ _ => h.elim)
    (fun _ V l o o' h hl _ _ => h.trans (below_put V o' hl))
    (fun _ _ _ _ _ h _ _ _ => h)
    (fun _ _ _ _ _ => trivial) (fun _ _ _ _ _ _ _ => trivial)
    (fun o => ((Below.refl w1.heap.size w1).alloc (Nat.le_refl _) _).alloc (by simp) _) ?round ?iter ?done ?stop
  case round =>
    rintro l j x V K h
    exact h.elim
  case iter =>
    intro Bk X l V hBk hBlt hX hl2 hD hB hY
    refine (come1_in 2 l V).mono ?_
    rintro e W' ⟨hv, rfl⟩
    exact ⟨hv, .inl ⟨hD, hB⟩⟩
  case done =>
    rintro D V hD hV hK
    have bK0 : Boxed V w.heap.size 3 (.int .i64 0) := (hV.block _ bK.lt).trans bK
    have hbV0 := hb1.trans (hV.mono hs1)
    have hK0 := hK
    clear hV hnil bK hb1 hK
    gi_wp2_with fail
    refine ⟨trivial, ?_⟩
    refine (callsIn_wide.2 (wiknown_any V)).mono ?_
    rintro e V1 ⟨rfl, hb⟩
    have bK1 : Boxed V1 w.heap.size 3 (.int .i64 0) := (hb.block _ bK0.lt).trans bK0
    have hK1 := (hb.block D (Array.getElem?_eq_some_iff.1 hK0).1).trans hK0
    have hbV1 := hbV0.trans (hb.mono hbV0.size)
    clear hb bK0 hK0 hbV0
    gi_wp2_with fail
    refine ⟨trivial, ?_⟩
    refine (callsIn_wide.2 (wLook_nil a0 V1)).mono ?_
    rintro e V2 ⟨rfl, hb⟩
    have bK2 : Boxed V2 w.heap.size 3 (.int .i64 0) := (hb.block _ bK1.lt).trans bK1
    have hK2 := (hb.block D (Array.getElem?_eq_some_iff.1 hK1).1).trans hK1
    have hbV2 := hbV1.trans (hb.mono hbV1.size)
    clear hb bK1 hK1 hbV1
    gi_wp2_with fail
    refine ⟨trivial, ?_⟩
    refine (callsIn_wide.2 (wMark_nil a0 V2)).mono ?_
    rintro e V3 ⟨rfl, hb⟩
    have bK3 : Boxed V3 w.heap.size 3 (.int .i64 0) := (hb.block _ bK2.lt).trans bK2
    have hK3 := (hb.block D (Array.getElem?_eq_some_iff.1 hK2).1).trans hK2
    have hbV3 := hbV2.trans (hb.mono hbV2.size)
    clear hb bK2 hK2 hbV2
    gi_wp2_with fail
    refine ⟨trivial, ?_⟩
    refine (callsIn_wide.2 (wtop_nil V3)).mono ?_
    rintro e V9 ⟨rfl, rfl⟩
    gi_wp2_with fail
    have kK3 := bK3.cell
    clear bK3
    refine ⟨trivial, ?_⟩
    refine (callsIn_wide.2 (wbits_nil _)).mono ?_
    rintro e V9 ⟨rfl, rfl⟩
    gi_wp2_with fail
    refine ⟨trivial, ?_⟩
    refine (callsIn_wide.2 (wmissing_nil _)).mono ?_
    rintro e V9 ⟨rfl, rfl⟩
    gi_wp2_with fail
    refine ⟨trivial, ?_⟩
    refine (callsIn_wide.2 (wcopy_nil _)).mono ?_
    rintro e V9 ⟨rfl, rfl⟩
    gi_wp2
    refine ⟨by simp, .inl ⟨_, _, rfl, run_takeDeferred hK3, ?_⟩⟩
    refine ⟨_, results_tmp rfl _ _ _, rfl, ?_⟩
    exact hbV3.trans (below_put (B := w.heap.size) _ (.deferred none) (by omega : w.heap.size ≤ D))
  case stop =>
    rintro D cd V _ h _
    exact h.elim
end Go.Proofs.Ytklkfajbfpihfaa
