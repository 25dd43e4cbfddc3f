/-
  The walk of LensNil.
-/
import Derived.Test.YtmilcmgohlfpiaaWordsN
namespace Go.Proofs.Ytmilcmgohlfpiaa
open Go.RowKit Go.Shelf
set_option maxRecDepth 100000
attribute [local go_sem] Oper.semAt_some

/-- below the call's memory all is as it was; the count is 0 -/
def NilSt (w W : World) : Prop := Below w.heap.size w W ∧ Boxed W w.heap.size 3 (.int .i64 0)
theorem NilSt.later {w W W' : World} (h : NilSt w W) (hb : Below W.heap.size W W') : NilSt w W' := ⟨h.1.trans (hb.mono h.1.size), (hb.block _ h.2.lt).trans h.2⟩

/-- .. and block D holds the deferred calls, none -/
def NilD (w : World) (D : Nat) (W : World) : Prop := NilSt w W ∧ w.heap.size ≤ D ∧ W.heap[D]? = some (.deferred (some []))
theorem NilD.later {w W W' : World} {D : Nat} (h : NilD w D W) (hb : Below W.heap.size W W') : NilD w D W' :=
  ⟨h.1.later hb, h.2.1, (hb.block _ (Array.getElem?_eq_some_iff.1 h.2.2).1).trans h.2.2⟩
theorem NilD.end {w W : World} {D : Nat} (h : NilD w D W) : Below w.heap.size w (W.putObj D (.deferred none)) :=
  h.1.1.trans (belowK_b (w := w) (Nat.le_refl _) W D _ (.deferred none) h.2.1 h.2.2 rfl rfl)

set_option maxHeartbeats 4000000 in
theorem lnil_go (a0 : Int) (w : World) :
    Calls Try.prog 5 #[.int .i64 a0] w fun e w' => e = .returned (.bool true) ∧ Below w.heap.size w w' := by
  refine (callsIn_wide (n := 3)).1 ?_
  refine callsIn_of_wp_marks Try.func5 rfl trivial ?_ rfl
  simp only [Try.ntmps5, List.size_toArray, List.length_cons, List.length_nil, Nat.reduceAdd, Nat.reduceSub, Array.replicate_succ, Array.replicate_zero, List.push_toArray, List.append_toArray, List.nil_append, List.cons_append]
  have bK := Boxed.new w 3 (.int .i64 0)
  have hW0 : Below w.heap.size w (w.alloc (.cells #[.int .i64 0] 3)) := (Below.refl _ w).alloc (Nat.le_refl _) _
  have hs0 : (w.alloc (.cells #[.int .i64 0] 3)).heap.size = w.heap.size + 1 := by simp
  gi_wp2_with fail
  refine ⟨trivial, ?_⟩
  generalize w.alloc (.cells #[.int .i64 0] 3) = W0 at *
  refine (callsIn_wide.2 (lwords_any none 1 W0)).mono ?_
  rintro e w1 ⟨rfl, rfl⟩
  have hb1 : Below W0.heap.size W0 ((W0.alloc (.cells #[.pointer none] 24)).alloc (.cells #[.int .i64 1] 3)) := ((Below.refl _ W0).alloc (Nat.le_refl _) _).alloc (by simp) _
  have hc1 : ((W0.alloc (.cells #[.pointer none] 24)).alloc (.cells #[.int .i64 1] 3)).cell? ⟨W0.heap.size, 0, none⟩ = some (.pointer none) := by simp
  have hs1 : ((W0.alloc (.cells #[.pointer none] 24)).alloc (.cells #[.int .i64 1] 3)).heap.size = w.heap.size + 3 := by simp; omega
  have kK : Boxed ((W0.alloc (.cells #[.pointer none] 24)).alloc (.cells #[.int .i64 1] 3)) w.heap.size 3 (.int .i64 0) := (hb1.block _ (by omega)).trans bK
  have hbw := hW0.trans (hb1.mono hW0.size)
  generalize (W0.alloc (.cells #[.pointer none] 24)).alloc (.cells #[.int .i64 1] 3) = w1 at *
  rw [hs0] at hc1
  have hfn := wfunc_not_nil (w.heap.size + 1) (w.heap.size + 1 + 1)
  clear bK
  gi_wp2_with fail
  refine wpIn_rangeFunc_ownG rfl (by omega) (gf := 58) (lb := #[.pointer (some ⟨w.heap.size + 1, 0, none⟩), .pointer (some ⟨w.heap.size + 1 + 1, 0, none⟩)]) rfl trivial (enters_of Try.func58 (by kernel_rfl) rfl)
    (words_nil_stops _ (w.heap.size + 1) (w.heap.size + 1 + 1) w1 (by omega) hc1) (fun _ _ => trivial) (fun _ _ _ _ _ _ _ _ => trivial) (Below.refl _ _) (fun _ => rfl)
    (fun _ W => NilSt w W)
    (fun _ _ _ => False)
    (OwnFrom.and (ownFrom_below (Nat.le_refl _) (by omega)) (Own.from (boxed_own _ _ _) _))
    (fun _ _ _ _ _ hs _ _ => hs)
    ⟨hbw, kK⟩
    ?a1 ?assign ?body ?done ?stop
  case assign =>
    intro l x W K hK
    gi_wp2
    exact hK
  case body =>
    intro l pre x W _ hcnt
    exact absurd hcnt (Nat.not_lt_zero _)
  case done =>
    rintro D ys W hD _ hS hK
    have HS : Hid (NilD w D W) := ⟨hS, by omega, hK⟩
    clear hS hK hbw kK hb1 hc1 hW0
    gi_wp2_with (refine ⟨trivial, ?_⟩; first
      | (gi_at_call 24; refine (callsIn_wide.2 (known3_any _)).mono ?_; rintro e w2 ⟨rfl, hb⟩; replace HS : Hid _ := Lib.hid (HS.out.later hb); clear hb)
      | (gi_at_call 8; refine (callsIn_wide.2 (lu8_nil _)).mono ?_; rintro e w2 ⟨rfl, hb⟩; replace HS : Hid _ := Lib.hid (HS.out.later hb); clear hb)
      | (gi_at_call 10; refine (callsIn_wide.2 (lu16_nil _)).mono ?_; rintro e w2 ⟨rfl, hb⟩; replace HS : Hid _ := Lib.hid (HS.out.later hb); clear hb)
      | (gi_at_call 11; refine (callsIn_wide.2 (lu32_nil _)).mono ?_; rintro e w2 ⟨rfl, hb⟩; replace HS : Hid _ := Lib.hid (HS.out.later hb); clear hb)
      | (gi_at_call 12; refine (callsIn_wide.2 (lnum_nil _ _)).mono ?_; rintro e w2 ⟨rfl, hb⟩; replace HS : Hid _ := Lib.hid (HS.out.later hb); clear hb)
      | (gi_at_call 14; refine (callsIn_wide.2 (lsig_nil _ _ _)).mono ?_; rintro e w2 ⟨rfl, hb⟩; replace HS : Hid _ := Lib.hid (HS.out.later hb); clear hb)
      | (gi_at_call 16; refine (callsIn_wide.2 (lraw_nil _ _)).mono ?_; rintro e w2 ⟨rfl, hb⟩; replace HS : Hid _ := Lib.hid (HS.out.later hb); clear hb)
      | (gi_at_call 18; refine (callsIn_wide.2 (lfld_nil _ _)).mono ?_; rintro e w2 ⟨rfl, hb⟩; replace HS : Hid _ := Lib.hid (HS.out.later hb); clear hb)
      | (gi_at_call 20; refine (callsIn_wide.2 (lrest_nil _)).mono ?_; rintro e w2 ⟨rfl, hb⟩; replace HS : Hid _ := Lib.hid (HS.out.later hb); clear hb)
      | (gi_at_call 37; refine (callsIn_wide.2 (lleft_nil _)).mono ?_; rintro e w2 ⟨rfl, rfl⟩)
      | (gi_at_call 38; refine (callsIn_wide.2 (lplace_nil _)).mono ?_; rintro e w2 ⟨rfl, rfl⟩)
      | (gi_at_call 39; refine (callsIn_wide.2 (lerr_nil _)).mono ?_; rintro e w2 ⟨rfl, rfl⟩)
      | (gi_at_call 35; refine (callsIn_wide.2 (lend_nil _)).mono ?_; rintro e w2 ⟨rfl, rfl⟩; have hkc := HS.out.1.2.cell))
    refine ⟨by simp, .inl ⟨_, _, rfl, run_takeDeferred HS.out.2.2, ?_⟩⟩
    exact ⟨_, results_tmp rfl _ _ _, rfl, HS.out.end⟩
  case stop =>
    rintro D c pre W _ _ h _
    exact h.elim
theorem walk_lnil (a0 : Int) (_w0 : (Lit.int .i64 a0).wf = true) (w : World) :
    Calls Try.prog 5 #[.int .i64 a0] w fun e w' => e = .returned (.bool true) ∧ Below w.heap.size w w' := lnil_go a0 w
end Go.Proofs.Ytmilcmgohlfpiaa
