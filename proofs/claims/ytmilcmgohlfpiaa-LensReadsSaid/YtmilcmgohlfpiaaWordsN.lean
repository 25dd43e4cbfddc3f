/-
  A nil lens's words: the iterator that Words makes, at a nil lens, hands on nothing.
-/
import Derived.Test.YtmilcmgohlfpiaaBack
import Derived.Test.YtmilcmgohlfpiaaKnown3
import Derived.RangeFuncBox
import Derived.RangeFuncWrites
import Derived.ControlIn
import Derived.WalkMore
namespace Go.Proofs.Ytmilcmgohlfpiaa
open Go.RowKit Go.Shelf
set_option maxRecDepth 100000

theorem quiet_of_eq {P : Program} {f : FuncId} {args : Array Value} {w : World} {n : Nat} {v : Value}
    (h : Calls P f args (w.drewN n) fun e w' => e = .returned v ∧ w.drewN n = w') : Calls P f args (w.drewN n) fun e w'' => e = .returned v ∧ ∃ m, w'' = w.drewN m :=
  h.mono fun _ _ ⟨he, hm⟩ => ⟨he, n, hm.symm⟩
theorem grown_drewN (W : World) (n : Nat) : W.grownBy (W.drewN n) none := ⟨rfl, rfl, rfl, Nat.le_refl _, fun _ _ _ => rfl⟩
theorem words_nil_in (n : Nat) (l B1 B2 : Nat) (W : World) (h1 : W.cell? ⟨B1, 0, none⟩ = some (.pointer none)) :
    CallsIn Fence.wide n Try.prog 58 #[.func (.yield l) #[] #[], .pointer (some ⟨B1, 0, none⟩), .pointer (some ⟨B2, 0, none⟩)] W fun e W' => (∃ v, e = .returned v) ∧ ∃ n, W' = W.drewN n := by
  refine callsIn_wide.2 ?_
  go_enter Try.func58, Try.ntmps58
  go_wp2
  go_step3
  go_wp2
  go_step3
  go_wp2
  go_loopw [] (fun wr => Hid (∃ n, wr = W.drewN n)) (fun _ => 0)
  case atStart => exact ⟨0, rfl⟩
  case round =>
    have h2 : wr.cell? ⟨B1, 0, none⟩ = some (.pointer none) := by obtain ⟨k, rfl⟩ := hrel.out; exact h1
    go_wp2
    go_quiet ((go_at_call 39; exact quiet_of_eq (lerr_nil _)))
    go_wp2
    first | go_end0 | (rw [Exit.noGoto_normal]; go_end0)
    obtain ⟨k, rfl⟩ := hrel.out
    exact ⟨⟨_, rfl⟩, k + nq, by simp [World.drewN, Nat.add_assoc]⟩

/-- a nil lens's words: none -/
theorem words_nil_stops (n : Nat) (B1 B2 : Nat) (w : World) (hB1 : B1 < w.heap.size) (h1 : w.cell? ⟨B1, 0, none⟩ = some (.pointer none)) :
    SeqStopsK Fence.wide n Try.prog 58 #[.pointer (some ⟨B1, 0, none⟩), .pointer (some ⟨B2, 0, none⟩)] (fun x : Int => #[Value.int .u32 x]) (fun _ _ => True) (fun ys => ys = []) (fun _ => False) 0 w := fun l J Jx W hW hJ _ _ h0 =>
  (words_nil_in n l B1 B2 W ((hW.cell (p := ⟨B1, 0, none⟩) hB1).trans h1)).mono fun e W' ⟨he, k, hk⟩ => ⟨he, .inl ⟨[], rfl, by rw [hk]; exact hJ _ _ _ none h0 (grown_drewN W k) (fun r e => by cases e)⟩⟩
theorem lwords_any (v : Option Addr) (s : Int) (w : World) :
    Calls Try.prog 36 #[.pointer v, .int .i64 s] w fun e w' => e = .returned (.func (.func 58) #[] #[.pointer (some ⟨w.heap.size, 0, none⟩), .pointer (some ⟨w.heap.size + 1, 0, none⟩)]) ∧ w' = (w.alloc (.cells #[.pointer v] 24)).alloc (.cells #[.int .i64 s] 3) := by
  go_enter Try.func36, Try.ntmps36
  go_wp2
  go_ret
  exact ⟨rfl, rfl⟩
theorem wfunc_not_nil (B1 B2 : Nat) (w : World) : (binOp .eql 68 (.func (.func 58) #[] #[.pointer (some ⟨B1, 0, none⟩), .pointer (some ⟨B2, 0, none⟩)]) .nilFunc).run Try.prog w = .ok (.bool false) w := by
  kernel_rfl
end Go.Proofs.Ytmilcmgohlfpiaa
