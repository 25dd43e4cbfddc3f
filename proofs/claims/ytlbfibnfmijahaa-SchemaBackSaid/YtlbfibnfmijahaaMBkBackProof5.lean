/-
  The law SchemaBack returns true for every kind and every bytes: turned from version 1 to 2 nothing is lost, and turned back it is as it was.
-/
import Derived.Laws.EntriesVeiled
import Derived.Test.YtlbfibnfmijahaaRows
import Derived.Below
import Derived.WalkKit
import Derived.ProofKit
import Derived.OpenShut
import Derived.ShutString
import Derived.ChangeOld
import Derived.Test.YtlbfibnfmijahaaMBkBackProof4
namespace Go.Proofs.Ytlbfibnfmijahaa
open Go.RowKit Go.Shelf
set_option maxRecDepth 100000
attribute [local go_sem] Oper.semAt_some

theorem two_rows {W : World} {c1 c2 : Array Value} {t1 t2 : TypeId} : Below W.heap.size W ((W.alloc (.cells c1 t1)).alloc (.cells c2 t2)) ∧ ((W.alloc (.cells c1 t1)).alloc (.cells c2 t2)).heap[W.heap.size]? = some (.cells c1 t1 (0, 0)) ∧ ((W.alloc (.cells c1 t1)).alloc (.cells c2 t2)).heap[W.heap.size + 1]? = some (.cells c2 t2 (0, 0)) ∧ ((W.alloc (.cells c1 t1)).alloc (.cells c2 t2)).heap.size = W.heap.size + 2 := by
  refine ⟨((Below.refl _ W).alloc (Nat.le_refl _) _).alloc (by simp) _, (Below.heap_alloc _ _ _ (by simp)).trans (World.alloc_heap_new _ _), ?_, by simp⟩
  have := World.alloc_heap_new (W.alloc (.cells c1 t1)) (.cells c2 t2)
  rwa [World.size_alloc] at this
/-- a function with two boxes that it has caught -/
def Fn2 (F : FuncId) (w : World) (c1 c2 : Array Value) (t1 t2 : TypeId) (e : Ending) (w' : World) : Prop := ∃ b1 b2, e = .returned (.func (.func F) #[] #[.pointer (some ⟨b1, 0, none⟩), .pointer (some ⟨b2, 0, none⟩)]) ∧ w.heap.size ≤ b1 ∧ w.heap.size ≤ b2 ∧ w'.heap[b1]? = some (.cells c1 t1 (0, 0)) ∧ w'.heap[b2]? = some (.cells c2 t2 (0, 0)) ∧ Below w.heap.size w w'
theorem plainR_any (mb : Nat) (f : Fd) (w : World) : Calls Try.prog 59 #[.pointer (some ⟨mb, 0, none⟩), f.v] w fun e w' => Fn2 81 w f.cs #[.pointer (some ⟨mb, 0, none⟩)] 75 87 e w' := by
  obtain ⟨h1, h2, h3, h4⟩ := two_rows (W := w) (c1 := #[.pointer (some ⟨mb, 0, none⟩)]) (t1 := 87) (c2 := f.cs) (t2 := 75)
  have H := Lib.hid (And.intro h1 (And.intro h2 h3))
  clear h1 h2 h3 h4
  obtain ⟨X0, hX0⟩ : ∃ X0, f.cs = X0 := ⟨_, rfl⟩
  unfold Fd.v
  rw [hX0] at H ⊢
  clear hX0
  go_enter Try.func59, Try.ntmps59
  go_wp2
  go_ret
  obtain ⟨h1, h2, h3⟩ := H.out
  exact ⟨_, _, rfl, by omega, by omega, h3, h2, h1⟩
theorem signedR_any (mb : Nat) (f : Fd) (w : World) : Calls Try.prog 52 #[.pointer (some ⟨mb, 0, none⟩), f.v] w fun e w' => Fn2 69 w f.cs #[.pointer (some ⟨mb, 0, none⟩)] 75 87 e w' := by
  obtain ⟨h1, h2, h3, h4⟩ := two_rows (W := w) (c1 := #[.pointer (some ⟨mb, 0, none⟩)]) (t1 := 87) (c2 := f.cs) (t2 := 75)
  have H := Lib.hid (And.intro h1 (And.intro h2 h3))
  clear h1 h2 h3 h4
  obtain ⟨X0, hX0⟩ : ∃ X0, f.cs = X0 := ⟨_, rfl⟩
  unfold Fd.v
  rw [hX0] at H ⊢
  clear hX0
  go_enter Try.func52, Try.ntmps52
  go_wp2
  go_ret
  obtain ⟨h1, h2, h3⟩ := H.out
  exact ⟨_, _, rfl, by omega, by omega, h3, h2, h1⟩
theorem countR_any (mo : Int) (F : FuncId) (cs : Array Value) (w : World) : Calls Try.prog 53 #[.int .i64 mo, .func (.func F) #[] cs] w fun e w' => Fn2 71 w #[.int .i64 mo] #[.func (.func F) #[] cs] 3 85 e w' := by
  obtain ⟨h1, h2, h3, h4⟩ := two_rows (W := w) (c1 := #[.int .i64 mo]) (t1 := 3) (c2 := #[.func (.func F) #[] cs]) (t2 := 85)
  have H := Lib.hid (And.intro h1 (And.intro h2 h3))
  clear h1 h2 h3 h4
  go_enter Try.func53, Try.ntmps53
  go_wp2
  go_ret
  obtain ⟨h1, h2, h3⟩ := H.out
  exact ⟨_, _, rfl, by omega, by omega, h2, h3, h1⟩
theorem textR_any (mo : Int) (F : FuncId) (cs : Array Value) (w : World) : Calls Try.prog 56 #[.int .i64 mo, .func (.func F) #[] cs] w fun e w' => Fn2 77 w #[.int .i64 mo] #[.func (.func F) #[] cs] 3 112 e w' := by
  obtain ⟨h1, h2, h3, h4⟩ := two_rows (W := w) (c1 := #[.int .i64 mo]) (t1 := 3) (c2 := #[.func (.func F) #[] cs]) (t2 := 112)
  have H := Lib.hid (And.intro h1 (And.intro h2 h3))
  clear h1 h2 h3 h4
  go_enter Try.func56, Try.ntmps56
  go_wp2
  go_ret
  obtain ⟨h1, h2, h3⟩ := H.out
  exact ⟨_, _, rfl, by omega, by omega, h2, h3, h1⟩
theorem cellR_any (mb : Nat) (w : World) : Calls Try.prog 55 #[.pointer (some ⟨mb, 0, none⟩)] w fun e w' => Fn2 75 w #[.int .i64 (-1)] #[.pointer (some ⟨mb, 0, none⟩)] 3 87 e w' := by
  obtain ⟨h1, h2, h3, h4⟩ := two_rows (W := w) (c1 := #[.pointer (some ⟨mb, 0, none⟩)]) (t1 := 87) (c2 := #[.int .i64 (-1)]) (t2 := 3)
  have H := Lib.hid (And.intro h1 (And.intro h2 h3))
  clear h1 h2 h3 h4
  go_enter Try.func55, Try.ntmps55
  go_wp2
  go_ret
  obtain ⟨h1, h2, h3⟩ := H.out
  exact ⟨_, _, rfl, by omega, by omega, h3, h2, h1⟩
/-- the function that reads a point, with its three boxes -/
def Fn3 (mb : Nat) (w : World) (e : Ending) (w' : World) : Prop := ∃ ab sb bm, e = .returned (.func (.func 74) #[] #[.pointer (some ⟨ab, 0, none⟩), .pointer (some ⟨sb, 0, none⟩), .pointer (some ⟨bm, 0, none⟩)]) ∧ w.heap.size ≤ ab ∧ w.heap.size ≤ sb ∧ w.heap.size ≤ bm ∧
  w'.heap[ab]? = some (.cells #[.int .i64 0, .int .i64 0] 63 (0, 0)) ∧ w'.heap[sb]? = some (.cells #[.func (.func 73) #[] #[]] 125 (0, 0)) ∧ w'.heap[bm]? = some (.cells #[.pointer (some ⟨mb, 0, none⟩)] 87 (0, 0)) ∧ Below w.heap.size w w'
theorem pointR_any (mb : Nat) (w : World) : Calls Try.prog 54 #[.pointer (some ⟨mb, 0, none⟩)] w fun e w' => Fn3 mb w e w' := by
  obtain ⟨w2, hw2⟩ : ∃ w2, (w.alloc (.cells #[.pointer (some ⟨mb, 0, none⟩)] 87)).alloc (.cells #[.int .i64 0, .int .i64 0] 63) = w2 := ⟨_, rfl⟩
  obtain ⟨h1, h2, h3, h4⟩ := two_rows (W := w) (c1 := #[.pointer (some ⟨mb, 0, none⟩)]) (t1 := 87) (c2 := #[.int .i64 0, .int .i64 0]) (t2 := 63)
  rw [hw2] at h1 h2 h3 h4
  have hb : Below w2.heap.size w2 (w2.alloc (.cells #[.func (.func 73) #[] #[]] 125)) := (Below.refl _ w2).alloc (Nat.le_refl _) _
  have h6 := World.alloc_heap_new w2 (.cells #[.func (.func 73) #[] #[]] 125)
  have k2 := (hb.block _ (Array.getElem?_eq_some_iff.1 h2).1).trans h2
  have k3 := (hb.block _ (Array.getElem?_eq_some_iff.1 h3).1).trans h3
  have kb := h1.trans (hb.mono h1.size)
  rw [h4] at h6
  rw [← hw2] at h6 k2 k3 kb
  have H := Lib.hid (And.intro k2 (And.intro k3 (And.intro h6 kb)))
  clear h1 h2 h3 h4 hw2 hb h6 k2 k3 kb
  go_enter Try.func54, Try.ntmps54
  go_wp2
  go_ret
  obtain ⟨k2, k3, h6, kb⟩ := H.out
  exact ⟨_, _, _, rfl, by omega, by omega, by omega, k3, h6, k2, kb⟩
end Go.Proofs.Ytlbfibnfmijahaa

namespace Go.Proofs.Ytlbfibnfmijahaa
open Go.RowKit Go.Shelf
set_option maxRecDepth 100000
attribute [local go_sem] Oper.semAt_some

/-- what reader answers: a function of two that it has caught, which reads the field -/
def RdrR (lo mb lb : Nat) (zs : List Int) (N : Mg) (p : Nat) (f : Fd) (w : World) (e : Ending) (w' : World) : Prop := ∃ F c1 c2, e = .returned (.func (.func F) #[] #[c1, c2]) ∧ (∀ args W, (callFunc F args).run Try.prog W = .ok (.enter F args) W) ∧ Below w.heap.size w w' ∧
  Calls Try.prog F #[.pointer (some ⟨lb, 0, none⟩), c1, c2] w' fun r w'' => RdO lo mb lb zs p (rdF N f (zs.drop p)) w r w''
theorem RdO.since {lo mb lb : Nat} {zs : List Int} {p : Nat} {x : Nat × Nat × Mg} {w w1 w' : World} {r : Ending} (h : RdO lo mb lb zs p x w1 r w') (hb : Below w.heap.size w w1) : RdO lo mb lb zs p x w r w' :=
  ⟨h.1, (Off.of_below (S := fun q => q = mb ∨ q = lb) hb).trans h.2.1 (fun _ _ h => h), h.2.2⟩
set_option maxHeartbeats 8000000 in
theorem reader_any (lo mb lb : Nat) (zs : List Int) (N : Mg) (P C : Value) (p : Nat) (f : Fd) (w : World) (h : RdAt lo w mb lb zs N P C p 0) (hf : FdX f) (hmo : f.so = 1 → 0 ≤ f.mo) (h3 : f.so = 3 → N.p = []) (h4 : f.so = 4 → N.c = []) (hl : zs.length ≤ 1000000) (hz : Bys zs) :
    Calls Try.prog 38 #[.pointer (some ⟨mb, 0, none⟩), f.v] w fun e w' => RdrR lo mb lb zs N p f w e w' := by
  obtain ⟨w2, hw2⟩ : ∃ w2, (w.alloc (.cells #[.pointer (some ⟨mb, 0, none⟩)] 87)).alloc (.cells f.cs 75) = w2 := ⟨_, rfl⟩
  obtain ⟨b2, q0, q1, s2⟩ := two_rows (W := w) (c1 := #[.pointer (some ⟨mb, 0, none⟩)]) (t1 := 87) (c2 := f.cs) (t2 := 75)
  rw [hw2] at b2 q0 q1 s2
  have HB2 := Lib.hid b2
  have HQ0 := Lib.hid q0
  have HQ1 := Lib.hid q1
  have HW2 := Lib.hid hw2
  have hs2 : w.heap.size + 1 < w2.heap.size := by omega
  obtain ⟨d0, d1, d2, d3, d4, d5, d6⟩ := fd_block q1
  have kp := row_cell q0 0 _ rfl
  have LF : Hid ((Instr.loadAt 75 (.pointer (some ⟨w.heap.size + 1, 0, none⟩))).run Try.prog w2 = .ok f.v w2) := Lib.hid (by simp [Instr.loadAt, go_sem, d0, d1, d2, d3, d4, d5, d6, Fd.v, Fd.cs])
  have hso := so_ways hf
  have HH := Lib.hid h
  have HF := Lib.hid hf
  have HZ := Lib.hid hz
  obtain ⟨X0, hX0⟩ : ∃ X0, f.cs = X0 := ⟨_, rfl⟩
  have HX := Lib.hid hX0
  by_cases hk : f.so = 1
  · have e := hk
    rw [hk] at d1
    rw [← hw2] at d1 d4 kp
    have HM := Lib.hid d4
    unfold Fd.v
    rw [hX0] at HW2 d1 d4 kp ⊢
    clear hX0 hw2 b2 q0 q1 s2 d0 d2 d3 d5 d6 h hf hz hso HM
    go_enter Try.func38, Try.ntmps38
    go_wp2_with (rw [HW2.out]; refine wpList_load_run rfl 75 (.tmp 3) rfl (some ⟨w.heap.size + 1, 0, none⟩) rfl f.v LF.out ?_)
    refine (plainR_any mb f w2).mono ?_
    rintro r w3 ⟨a1, a2, rfl, k1, k2, k3, k4, k5⟩
    have HK := Lib.hid (And.intro k3 (And.intro k4 k5))
    clear k3 k4 k5 d1 d4 kp LF
    go_wp2
    go_ret
    obtain ⟨k3, k4, k5⟩ := HK.out
    have hb3 := HB2.out.trans (k5.mono HB2.out.size)
    exact ⟨_, _, _, rfl, enters_of Try.func81 (by kernel_rfl) rfl, hb3, (plainr_any lo mb lb a1 a2 zs N P C p f w3 (HH.out.later hb3) HF.out e (hmo e) hl HZ.out k3 k4).mono fun r w4 h => h.since hb3⟩
  by_cases hk : f.so = 2
  · have e := hk
    rw [hk] at d1
    rw [← hw2] at d1 d4 kp
    have HM := Lib.hid d4
    unfold Fd.v
    rw [hX0] at HW2 d1 d4 kp ⊢
    clear hX0 hw2 b2 q0 q1 s2 d0 d2 d3 d5 d6 h hf hz hso HM
    go_enter Try.func38, Try.ntmps38
    go_wp2_with (rw [HW2.out]; refine wpList_load_run rfl 75 (.tmp 3) rfl (some ⟨w.heap.size + 1, 0, none⟩) rfl f.v LF.out ?_)
    refine (signedR_any mb f w2).mono ?_
    rintro r w3 ⟨a1, a2, rfl, k1, k2, k3, k4, k5⟩
    have HK := Lib.hid (And.intro k3 (And.intro k4 k5))
    clear k3 k4 k5 d1 d4 kp LF
    go_wp2
    go_ret
    obtain ⟨k3, k4, k5⟩ := HK.out
    have hb3 := HB2.out.trans (k5.mono HB2.out.size)
    exact ⟨_, _, _, rfl, enters_of Try.func69 (by kernel_rfl) rfl, hb3, (signedr_any lo mb lb a1 a2 zs N P C p f w3 (HH.out.later hb3) HF.out e hl HZ.out k3 k4).mono fun r w4 h => h.since hb3⟩
  by_cases hk : f.so = 3
  · have e := hk
    rw [hk] at d1
    rw [← hw2] at d1 d4 kp
    have HM := Lib.hid d4
    unfold Fd.v
    rw [hX0] at HW2 d1 d4 kp ⊢
    clear hX0 hw2 b2 q0 q1 s2 d0 d2 d3 d5 d6 h hf hz hso HM
    go_enter Try.func38, Try.ntmps38
    go_wp2_with fail
    rw [HW2.out]
    have lO : ∀ V, Below w2.heap.size w2 V → (Instr.loadAt 3 (.pointer (some ⟨w.heap.size + 1, 4, none⟩))).run Try.prog V = .ok (.int .i64 f.mo) V := fun V hV => by
      have k := (fd_block ((hV.block _ hs2).trans HQ1.out)).2.2.2.2.1
      simp [Instr.loadAt, go_sem, k]
    have lM : ∀ V, Below w2.heap.size w2 V → (Instr.loadAt 87 (.pointer (some ⟨w.heap.size, 0, none⟩))).run Try.prog V = .ok (.pointer (some ⟨mb, 0, none⟩)) V := fun V hV => by
      have k := row_cell ((hV.block _ (by omega)).trans HQ0.out) 0 _ rfl
      simp [Instr.loadAt, go_sem, k]
    refine wp_region_order9 5 (0 :: 1 :: 2 :: 3 :: 4 :: []) (fun V => Below w2.heap.size w2 V) (C := fun V => Below w2.heap.size w2 V) (by kernel_rfl) (by kernel_rfl) (by kernel_rfl) (Below.refl _ _).drew (fun V hV => hV) ?_
    repeat (refine wpO9_pure rfl rfl ?_; go_big_quiet_step (fail); refine wpQuiet_nil ?_)
    refine wpO9_load (ad := ⟨w.heap.size + 1, 4, none⟩) (.int .i64 f.mo) rfl rfl rfl (by rfl) lO ?_
    simp only [Act.put, List.setIfInBounds_toArray, List.set_cons_succ, List.set_cons_zero]
    refine wpO9_load (ad := ⟨w.heap.size, 0, none⟩) (.pointer (some ⟨mb, 0, none⟩)) rfl rfl rfl (by rfl) lM ?_
    simp only [Act.put, List.setIfInBounds_toArray, List.set_cons_succ, List.set_cons_zero]
    refine wpO9_call (fun v => ∃ ab sb bm, v = .func (.func 74) #[] #[.pointer (some ⟨ab, 0, none⟩), .pointer (some ⟨sb, 0, none⟩), .pointer (some ⟨bm, 0, none⟩)]) (fun v V => Below w2.heap.size w2 V ∧ ∀ ab sb bm, v = .func (.func 74) #[] #[.pointer (some ⟨ab, 0, none⟩), .pointer (some ⟨sb, 0, none⟩), .pointer (some ⟨bm, 0, none⟩)] → w2.heap.size ≤ ab ∧ w2.heap.size ≤ sb ∧ w2.heap.size ≤ bm ∧ V.heap[ab]? = some (.cells #[.int .i64 0, .int .i64 0] 63 (0, 0)) ∧ V.heap[sb]? = some (.cells #[.func (.func 73) #[] #[]] 125 (0, 0)) ∧ V.heap[bm]? = some (.cells #[.pointer (some ⟨mb, 0, none⟩)] 87 (0, 0))) (f := 54) (args := #[.pointer (some ⟨mb, 0, none⟩)]) rfl rfl rfl (fun _ V hV => hV.1) (fun x => by first | rfl | (simp [go_sem]; done)) (fun V hV => (pointR_any mb V).mono fun e w' h => ?_) ?_
    · obtain ⟨ab, sb, bm, rfl, k1, k2, k3, k4, k5, k6, k7⟩ := h
      have := hV.size
      refine ⟨_, rfl, ⟨ab, sb, bm, rfl⟩, hV.trans (k7.mono hV.size), fun c1 c2 c3 hc => ?_⟩
      injection hc with _ _ hc
      simp only [Array.mk.injEq, List.cons.injEq, Value.pointer.injEq, Option.some.injEq, Addr.mk.injEq, and_true] at hc
      obtain ⟨rfl, rfl, rfl⟩ := hc
      exact ⟨by omega, by omega, by omega, k4, k5, k6⟩
    rintro v ⟨ab, sb, bm, rfl⟩
    simp only [Act.put, List.setIfInBounds_toArray, List.set_cons_succ, List.set_cons_zero]
    refine wpO9_call (fun v => ∃ b1 b2, v = .func (.func 71) #[] #[.pointer (some ⟨b1, 0, none⟩), .pointer (some ⟨b2, 0, none⟩)]) (fun v V => Below w2.heap.size w2 V ∧ (w2.heap.size ≤ ab ∧ w2.heap.size ≤ sb ∧ w2.heap.size ≤ bm ∧ V.heap[ab]? = some (.cells #[.int .i64 0, .int .i64 0] 63 (0, 0)) ∧ V.heap[sb]? = some (.cells #[.func (.func 73) #[] #[]] 125 (0, 0)) ∧ V.heap[bm]? = some (.cells #[.pointer (some ⟨mb, 0, none⟩)] 87 (0, 0))) ∧ ∀ b1 b2, v = .func (.func 71) #[] #[.pointer (some ⟨b1, 0, none⟩), .pointer (some ⟨b2, 0, none⟩)] → V.heap[b1]? = some (.cells #[.int .i64 f.mo] 3 (0, 0)) ∧ V.heap[b2]? = some (.cells #[.func (.func 74) #[] #[.pointer (some ⟨ab, 0, none⟩), .pointer (some ⟨sb, 0, none⟩), .pointer (some ⟨bm, 0, none⟩)]] 85 (0, 0))) (f := 53) (args := #[.int .i64 f.mo, .func (.func 74) #[] #[.pointer (some ⟨ab, 0, none⟩), .pointer (some ⟨sb, 0, none⟩), .pointer (some ⟨bm, 0, none⟩)]]) rfl rfl rfl (fun _ V hV => hV.1) (fun x => by first | rfl | (simp [go_sem]; done)) (fun V hV => (countR_any f.mo 74 #[.pointer (some ⟨ab, 0, none⟩), .pointer (some ⟨sb, 0, none⟩), .pointer (some ⟨bm, 0, none⟩)] V).mono fun e w' h => ?_) ?_
    · obtain ⟨b1, b2, rfl, k1, k2, k3, k4, k5⟩ := h
      obtain ⟨hb, hf⟩ := hV
      obtain ⟨j1, j2, j3, j4, j5, j6⟩ := hf ab sb bm rfl
      refine ⟨_, rfl, ⟨b1, b2, rfl⟩, hb.trans (k5.mono hb.size), ⟨j1, j2, j3, (k5.block _ (Array.getElem?_eq_some_iff.1 j4).1).trans j4, (k5.block _ (Array.getElem?_eq_some_iff.1 j5).1).trans j5, (k5.block _ (Array.getElem?_eq_some_iff.1 j6).1).trans j6⟩, fun c1 c2 hc => ?_⟩
      injection hc with _ _ hc
      simp only [Array.mk.injEq, List.cons.injEq, Value.pointer.injEq, Option.some.injEq, Addr.mk.injEq, and_true] at hc
      obtain ⟨rfl, rfl⟩ := hc
      exact ⟨k3, k4⟩
    rintro v ⟨b1, b2, rfl⟩
    simp only [Act.put, List.setIfInBounds_toArray, List.set_cons_succ, List.set_cons_zero]
    rintro w3 ⟨hb3, hfa, hrw⟩
    simp only [List.drop_succ_cons, List.drop_zero]
    have HK := Lib.hid (And.intro hb3 (And.intro hfa (hrw b1 b2 rfl)))
    clear hb3 hfa hrw lO lM d1 d4 kp LF
    go_wp2
    go_ret
    obtain ⟨hb3, ⟨j1, j2, j3, j4, j5, j6⟩, k3, k4⟩ := HK.out
    have hb4 := HB2.out.trans (hb3.mono HB2.out.size)
    exact ⟨_, _, _, rfl, enters_of Try.func71 (by kernel_rfl) rfl, hb4, countp_any w w3 lo mb lb b1 b2 ab sb bm zs N P C p f HH.out hb4 HF.out e (h3 e) (by omega) hl HZ.out k3 k4 j4 j6 j5 ⟨(Array.getElem?_eq_some_iff.1 j4).1, (Array.getElem?_eq_some_iff.1 j6).1, (Array.getElem?_eq_some_iff.1 j5).1⟩⟩
  by_cases hk : f.so = 4
  · have e := hk
    rw [hk] at d1
    rw [← hw2] at d1 d4 kp
    have HM := Lib.hid d4
    unfold Fd.v
    rw [hX0] at HW2 d1 d4 kp ⊢
    clear hX0 hw2 b2 q0 q1 s2 d0 d2 d3 d5 d6 h hf hz hso HM
    go_enter Try.func38, Try.ntmps38
    go_wp2_with fail
    rw [HW2.out]
    have lO : ∀ V, Below w2.heap.size w2 V → (Instr.loadAt 3 (.pointer (some ⟨w.heap.size + 1, 4, none⟩))).run Try.prog V = .ok (.int .i64 f.mo) V := fun V hV => by
      have k := (fd_block ((hV.block _ hs2).trans HQ1.out)).2.2.2.2.1
      simp [Instr.loadAt, go_sem, k]
    have lM : ∀ V, Below w2.heap.size w2 V → (Instr.loadAt 87 (.pointer (some ⟨w.heap.size, 0, none⟩))).run Try.prog V = .ok (.pointer (some ⟨mb, 0, none⟩)) V := fun V hV => by
      have k := row_cell ((hV.block _ (by omega)).trans HQ0.out) 0 _ rfl
      simp [Instr.loadAt, go_sem, k]
    refine wp_region_order9 5 (0 :: 1 :: 2 :: 3 :: 4 :: []) (fun V => Below w2.heap.size w2 V) (C := fun V => Below w2.heap.size w2 V) (by kernel_rfl) (by kernel_rfl) (by kernel_rfl) (Below.refl _ _).drew (fun V hV => hV) ?_
    repeat (refine wpO9_pure rfl rfl ?_; go_big_quiet_step (fail); refine wpQuiet_nil ?_)
    refine wpO9_load (ad := ⟨w.heap.size + 1, 4, none⟩) (.int .i64 f.mo) rfl rfl rfl (by rfl) lO ?_
    simp only [Act.put, List.setIfInBounds_toArray, List.set_cons_succ, List.set_cons_zero]
    refine wpO9_load (ad := ⟨w.heap.size, 0, none⟩) (.pointer (some ⟨mb, 0, none⟩)) rfl rfl rfl (by rfl) lM ?_
    simp only [Act.put, List.setIfInBounds_toArray, List.set_cons_succ, List.set_cons_zero]
    refine wpO9_call (fun v => ∃ ab bm, v = .func (.func 75) #[] #[.pointer (some ⟨ab, 0, none⟩), .pointer (some ⟨bm, 0, none⟩)]) (fun v V => Below w2.heap.size w2 V ∧ ∀ ab bm, v = .func (.func 75) #[] #[.pointer (some ⟨ab, 0, none⟩), .pointer (some ⟨bm, 0, none⟩)] → w2.heap.size ≤ ab ∧ w2.heap.size ≤ bm ∧ V.heap[ab]? = some (.cells #[.int .i64 (-1)] 3 (0, 0)) ∧ V.heap[bm]? = some (.cells #[.pointer (some ⟨mb, 0, none⟩)] 87 (0, 0))) (f := 55) (args := #[.pointer (some ⟨mb, 0, none⟩)]) rfl rfl rfl (fun _ V hV => hV.1) (fun x => by first | rfl | (simp [go_sem]; done)) (fun V hV => (cellR_any mb V).mono fun e w' h => ?_) ?_
    · obtain ⟨ab, bm, rfl, k1, k2, k4, k6, k7⟩ := h
      have := hV.size
      refine ⟨_, rfl, ⟨ab, bm, rfl⟩, hV.trans (k7.mono hV.size), fun c1 c2 hc => ?_⟩
      injection hc with _ _ hc
      simp only [Array.mk.injEq, List.cons.injEq, Value.pointer.injEq, Option.some.injEq, Addr.mk.injEq, and_true] at hc
      obtain ⟨rfl, rfl⟩ := hc
      exact ⟨by omega, by omega, k4, k6⟩
    rintro v ⟨ab, bm, rfl⟩
    simp only [Act.put, List.setIfInBounds_toArray, List.set_cons_succ, List.set_cons_zero]
    refine wpO9_call (fun v => ∃ b1 b2, v = .func (.func 71) #[] #[.pointer (some ⟨b1, 0, none⟩), .pointer (some ⟨b2, 0, none⟩)]) (fun v V => Below w2.heap.size w2 V ∧ (w2.heap.size ≤ ab ∧ w2.heap.size ≤ bm ∧ V.heap[ab]? = some (.cells #[.int .i64 (-1)] 3 (0, 0)) ∧ V.heap[bm]? = some (.cells #[.pointer (some ⟨mb, 0, none⟩)] 87 (0, 0))) ∧ ∀ b1 b2, v = .func (.func 71) #[] #[.pointer (some ⟨b1, 0, none⟩), .pointer (some ⟨b2, 0, none⟩)] → V.heap[b1]? = some (.cells #[.int .i64 f.mo] 3 (0, 0)) ∧ V.heap[b2]? = some (.cells #[.func (.func 75) #[] #[.pointer (some ⟨ab, 0, none⟩), .pointer (some ⟨bm, 0, none⟩)]] 85 (0, 0))) (f := 53) (args := #[.int .i64 f.mo, .func (.func 75) #[] #[.pointer (some ⟨ab, 0, none⟩), .pointer (some ⟨bm, 0, none⟩)]]) rfl rfl rfl (fun _ V hV => hV.1) (fun x => by first | rfl | (simp [go_sem]; done)) (fun V hV => (countR_any f.mo 75 #[.pointer (some ⟨ab, 0, none⟩), .pointer (some ⟨bm, 0, none⟩)] V).mono fun e w' h => ?_) ?_
    · obtain ⟨b1, b2, rfl, k1, k2, k3, k4, k5⟩ := h
      obtain ⟨hb, hf⟩ := hV
      obtain ⟨j1, j3, j4, j6⟩ := hf ab bm rfl
      refine ⟨_, rfl, ⟨b1, b2, rfl⟩, hb.trans (k5.mono hb.size), ⟨j1, j3, (k5.block _ (Array.getElem?_eq_some_iff.1 j4).1).trans j4, (k5.block _ (Array.getElem?_eq_some_iff.1 j6).1).trans j6⟩, fun c1 c2 hc => ?_⟩
      injection hc with _ _ hc
      simp only [Array.mk.injEq, List.cons.injEq, Value.pointer.injEq, Option.some.injEq, Addr.mk.injEq, and_true] at hc
      obtain ⟨rfl, rfl⟩ := hc
      exact ⟨k3, k4⟩
    rintro v ⟨b1, b2, rfl⟩
    simp only [Act.put, List.setIfInBounds_toArray, List.set_cons_succ, List.set_cons_zero]
    rintro w3 ⟨hb3, hfa, hrw⟩
    simp only [List.drop_succ_cons, List.drop_zero]
    have HK := Lib.hid (And.intro hb3 (And.intro hfa (hrw b1 b2 rfl)))
    clear hb3 hfa hrw lO lM d1 d4 kp LF
    go_wp2
    go_ret
    obtain ⟨hb3, ⟨j1, j3, j4, j6⟩, k3, k4⟩ := HK.out
    have hb4 := HB2.out.trans (hb3.mono HB2.out.size)
    exact ⟨_, _, _, rfl, enters_of Try.func71 (by kernel_rfl) rfl, hb4, countc_any w w3 lo mb lb b1 b2 ab bm zs N P C p f HH.out hb4 HF.out e (h4 e) (by omega) hl HZ.out k3 k4 j4 j6 ⟨(Array.getElem?_eq_some_iff.1 j4).1, (Array.getElem?_eq_some_iff.1 j6).1⟩⟩
  by_cases hk : f.so = 5
  · have e : f.so = 5 := by omega
    rw [e] at d1
    rw [← hw2] at d1 d4 kp
    have HM := Lib.hid d4
    unfold Fd.v
    rw [hX0] at HW2 d1 d4 kp ⊢
    clear hX0 hw2 b2 q0 q1 s2 d0 d2 d3 d5 d6 h hf hz hso HM
    go_enter Try.func38, Try.ntmps38
    go_wp2_with fail
    rw [HW2.out]
    refine (textR_any f.mo 57 #[.pointer (some ⟨w.heap.size, 0, none⟩)] w2).mono ?_
    rintro r w3 ⟨a1, a2, rfl, k1, k2, k3, k4, k5⟩
    have HK := Lib.hid (And.intro k3 (And.intro k4 k5))
    clear k3 k4 k5 d1 d4 kp LF
    go_wp2
    go_ret
    obtain ⟨k3, k4, k5⟩ := HK.out
    have hb3 := HB2.out.trans (k5.mono HB2.out.size)
    have kb := (k5.block _ (by omega)).trans HQ0.out
    exact ⟨_, _, _, rfl, enters_of Try.func77 (by kernel_rfl) rfl, hb3, (textr_any lo mb lb a1 a2 w.heap.size zs N P C p f w3 (HH.out.later hb3) HF.out e hl HZ.out k3 k4 kb).mono fun r w4 h => h.since hb3⟩
  · have e : f.so = 6 := by omega
    rw [e] at d1
    rw [← hw2] at d1 d4 kp
    have HM := Lib.hid d4
    unfold Fd.v
    rw [hX0] at HW2 d1 d4 kp ⊢
    clear hX0 hw2 b2 q0 q1 s2 d0 d2 d3 d5 d6 h hf hz hso HM
    go_enter Try.func38, Try.ntmps38
    go_wp2_with fail
    rw [HW2.out]
    refine (textR_any f.mo 58 #[.pointer (some ⟨w.heap.size, 0, none⟩)] w2).mono ?_
    rintro r w3 ⟨a1, a2, rfl, k1, k2, k3, k4, k5⟩
    have HK := Lib.hid (And.intro k3 (And.intro k4 k5))
    clear k3 k4 k5 d1 d4 kp LF
    go_wp2
    go_ret
    obtain ⟨k3, k4, k5⟩ := HK.out
    have hb3 := HB2.out.trans (k5.mono HB2.out.size)
    have kb := (k5.block _ (by omega)).trans HQ0.out
    exact ⟨_, _, _, rfl, enters_of Try.func77 (by kernel_rfl) rfl, hb3, (tagr_any lo mb lb a1 a2 w.heap.size zs N P C p f w3 (HH.out.later hb3) HF.out e hl HZ.out k3 k4 kb).mono fun r w4 h => h.since hb3⟩
end Go.Proofs.Ytlbfibnfmijahaa

namespace Go.Proofs.Ytlbfibnfmijahaa
open Go.RowKit Go.Shelf
set_option maxRecDepth 100000
attribute [local go_sem] Oper.semAt_some

/-- .. whose lists are the call's own -/
def DecO (w : World) (r : Nat × Mg) (e : Ending) (w' : World) : Prop := ∃ P C, e = .returned (.tuple #[mV r.2 P C, .int .i64 (r.1 : Int)]) ∧ MOwn w.heap.size w' r.2 P C ∧ Below w.heap.size w w'
theorem MOwn.zero (base : Nat) (w : World) (k : Int) : MOwn base w (Mg.zero k) (.slice none 0 0) (.slice none 0 0) := ⟨World.ownsRow_nil _ _ _ _, World.ownsRow_nil _ _ _ _⟩
theorem mC_zero (k : Int) : mC (Mg.zero k) (.slice none 0 0) (.slice none 0 0) = #[.int .i64 k, .int .i64 0, .int .i64 0, .int .i64 0, .int .i64 0, .int .i64 0, .int .i64 0, .slice none 0 0, .slice none 0 0, .string ⟨#[]⟩, .string ⟨#[]⟩] := rfl
theorem MAt.zero (w : World) (B : Nat) (k : Int) : MAt w B (Mg.zero k) (.slice none 0 0) (.slice none 0 0) := ⟨⟨none, 0, rfl, Nat.le_refl _, Nums.nil⟩, ⟨none, 0, rfl, Nat.le_refl _, Nums.nil⟩⟩
set_option maxHeartbeats 4000000 in
/-- of a version or a kind that isn't -/
theorem bdecode_no (k v : Int) (A : Option Addr) (len cap : Nat) (l : List Int) (w : World) (hE : (v ≠ 1 ∧ v ≠ 2) ∨ FD k = []) : Calls Try.prog 18 #[.int .i64 k, .int .i64 v, .slice A len cap] w fun e w' => DecO w (bdec k v l) e w' := by
  obtain ⟨w2, hw2⟩ : ∃ w2, w.alloc (.cells #[.int .i64 0, .int .i64 0, .int .i64 0, .int .i64 0, .int .i64 0, .int .i64 0, .int .i64 0, .slice none 0 0, .slice none 0 0, .string ⟨#[]⟩, .string ⟨#[]⟩] 33) = w2 := ⟨_, rfl⟩
  have hb2 : Below w.heap.size w w2 := by rw [← hw2]; exact (Below.refl _ w).alloc (Nat.le_refl _) _
  have q0 : w2.heap[w.heap.size]? = some (.cells (mC (Mg.zero 0) (.slice none 0 0) (.slice none 0 0)) 33 (0, 0)) := by rw [← hw2]; exact World.alloc_heap_new _ _
  have HW2 := Lib.hid hw2
  have KK := Lib.hid (bknown_any v w2)
  have KW := Lib.hid (word_any k w2)
  have hst := mg_store w2 w.heap.size _ (mC (Mg.zero 0) (.slice none 0 0) (.slice none 0 0)) q0 rfl rfl (mg_one _ _ _ _ _ _ _)
  have hrow := setRow_heap w2 w.heap.size _ (mC (Mg.zero 0) (.slice none 0 0) (.slice none 0 0)) _ _ q0
  have hoff := (Off.setRow (S := fun q => q = w.heap.size) (Off.refl _ w2) rfl (mC (Mg.zero 0) (.slice none 0 0) (.slice none 0 0)))
  obtain ⟨W', hW'⟩ : ∃ W', w2.setRow w.heap.size (mC (Mg.zero 0) (.slice none 0 0) (.slice none 0 0)) = W' := ⟨_, rfl⟩
  rw [hW'] at hst hrow hoff
  have hbel : Below w.heap.size w W' := hb2.trans (hoff.below (B := w.heap.size) (fun q hq => by omega) hb2.size)
  rw [mC_zero] at hst
  have HST := Lib.hid hst
  have HRW := Lib.hid hrow
  have HBE := Lib.hid hbel
  clear hw2 q0 hst hrow hoff hW' hb2 hbel
  by_cases hv : v = 1 ∨ v = 2
  · have hk : FD k = [] := by
      rcases hE with h | h
      · omega
      · exact h
    have hr : bdec k v l = (9, Mg.zero 0) := by unfold bdec; rw [if_neg (by omega), if_pos hk]
    rw [hr]
    rw [decide_eq_true hv] at KK
    rw [(FD_nil k).1 hk] at KW
    go_enter Try.func18, Try.ntmps18
    go_wp2
    refine wp_scope_straight ?_
    go_wp2_with fail
    rw [HW2.out]
    refine KK.out.mono ?_
    rintro e w3 ⟨rfl, rfl⟩
    go_wp2_with fail
    refine KW.out.mono ?_
    rintro e w3 ⟨rfl, rfl⟩
    go_wp2_with (refine wpList_store_run rfl 33 (.tmp 6) (.tmp 22) rfl (some ⟨w.heap.size, 0, none⟩) rfl (.agg #[.int .i64 0, .int .i64 0, .int .i64 0, .int .i64 0, .int .i64 0, .int .i64 0, .int .i64 0, .slice none 0 0, .slice none 0 0, .string ⟨#[]⟩, .string ⟨#[]⟩]) rfl HST.out ?_)
    try simp only [Exit.noGoto]
    obtain ⟨y0, y1, y2, y3, y4, y5, y6, y7, y8, y9, y10⟩ := mg_block HRW.out
    refine bodyPost_ret (v := .tuple #[.agg (mC (Mg.zero 0) (.slice none 0 0) (.slice none 0 0)), .int .i64 9]) (by simp [results, Try.results18, go_sem, y0, y1, y2, y3, y4, y5, y6, y7, y8, y9, y10, mC]) rfl ?_
    exact ⟨_, _, rfl, MOwn.zero _ _ _, HBE.out⟩
  · have hr : bdec k v l = (10, Mg.zero 0) := by unfold bdec; rw [if_pos (by omega)]
    rw [hr]
    rw [decide_eq_false hv] at KK
    go_enter Try.func18, Try.ntmps18
    go_wp2
    refine wp_scope_straight ?_
    go_wp2_with fail
    rw [HW2.out]
    refine KK.out.mono ?_
    rintro e w3 ⟨rfl, rfl⟩
    go_wp2_with (refine wpList_store_run rfl 33 (.tmp 6) (.tmp 17) rfl (some ⟨w.heap.size, 0, none⟩) rfl (.agg #[.int .i64 0, .int .i64 0, .int .i64 0, .int .i64 0, .int .i64 0, .int .i64 0, .int .i64 0, .slice none 0 0, .slice none 0 0, .string ⟨#[]⟩, .string ⟨#[]⟩]) rfl HST.out ?_)
    try simp only [Exit.noGoto]
    obtain ⟨y0, y1, y2, y3, y4, y5, y6, y7, y8, y9, y10⟩ := mg_block HRW.out
    refine bodyPost_ret (v := .tuple #[.agg (mC (Mg.zero 0) (.slice none 0 0) (.slice none 0 0)), .int .i64 10]) (by simp [results, Try.results18, go_sem, y0, y1, y2, y3, y4, y5, y6, y7, y8, y9, y10, mC]) rfl ?_
    exact ⟨_, _, rfl, MOwn.zero _ _ _, HBE.out⟩
theorem FD_mo1 (k : Int) : ∀ f ∈ FD k, f.so = 1 → 0 ≤ f.mo := by
  have hall : ∀ L : List Fd, (L.all fun f => decide (f.so = 1 → 0 ≤ f.mo)) = true → ∀ f ∈ L, (f.so = 1 → 0 ≤ f.mo) := by
    intro L h f hf
    rw [List.all_eq_true] at h
    exact of_decide_eq_true (h f hf)
  rcases kind_ways k with rfl | rfl | rfl | rfl | rfl | ⟨h1, h2, h3, h4, h5⟩
  case' inr.inr.inr.inr.inr => rw [show FD k = [] by simp [FD, raw, h1, h2, h3, h4, h5, pls]]
  all_goals exact hall _ (by decide)
theorem setCell_same {w : World} {b : Nat} {v : Value} {t : TypeId} (h : w.heap[b]? = some (.cells #[v] t (0, 0))) : w.setCell ⟨b, 0, none⟩ v = w := by
  have hlt := (Array.getElem?_eq_some_iff.1 h).1
  have : (w.setCell ⟨b, 0, none⟩ v).heap = w.heap := by
    apply Array.ext_getElem?
    intro i
    by_cases hi : i = b
    · subst hi
      rw [setCell_at h, h]
      rfl
    · exact Below.heap_setCell _ _ _ _ hi
  cases w
  simp only [World.setCell] at this ⊢
  rw [this]
theorem NuX.putObj {W : World} {mb lb l : Nat} {a : Option Addr} {zs : List Int} {o o' : Obj} (h : NuX W mb lb a zs) (ho : W.heap[l]? = some o) (hc : o.isCells = false) : NuX (W.putObj l o') mb lb a zs := fun hn => by
  obtain ⟨b, off, e, h1, h2, hcl⟩ := h hn
  obtain ⟨z, hz⟩ : ∃ z, zs[0]? = some z := by
    cases zs with
    | nil => exact absurd rfl hn
    | cons x r => exact ⟨x, rfl⟩
  have hne : b ≠ l := fun e2 => by
    subst e2
    have := hcl 0 z hz
    unfold World.cell? at this
    simp only [ho] at this
    cases o <;> simp_all [Obj.isCells]
  refine ⟨b, off, e, h1, h2, fun j c hj => ?_⟩
  have hx : (W.putObj l o').heap[b]? = W.heap[b]? := World.putObj_heap_other hne
  rw [← hcl j c hj]
  simp only [World.cell?, hx]
theorem RdAt.putObj {lo mb lb l : Nat} {W : World} {zs : List Int} {N : Mg} {P C : Value} {p e : Nat} {o o' : Obj} (h : RdAt lo W mb lb zs N P C p e) (hl : mb < l) (ho : W.heap[l]? = some o) (hc : o.isCells = false) : RdAt lo (W.putObj l o') mb lb zs N P C p e := by
  obtain ⟨⟨a, c, h1, h2, h3⟩, ⟨a', c', h4, h5, h6⟩⟩ := And.intro h.p h.c
  have ha := h.a
  have hoff : Off (fun k => k = l) W (W.putObj l o') := ⟨rfl, rfl, rfl, by simp [World.putObj], fun k _ hn => World.putObj_heap_other hn⟩
  exact ⟨(World.putObj_heap_other (by omega)).trans h.m, h.l.off hoff (fun k _ hk => by omega), h.a, ⟨a, c, h1, h2, h3.putObj ho hc⟩, ⟨a', c', h4, h5, h6.putObj ho hc⟩, h.pz, h.cz⟩
/-- while fields are read: so many have been -/
def DcI (w6 : World) (lo mb lb qe : Nat) (zs : List Int) (FL : List Fd) (k : Int) (j : Nat) (V : World) : Prop := ∃ (N : Mg) (P C : Value) (p : Nat), RdAt lo V mb lb zs N P C p 0 ∧ V.heap[qe]? = some (.cells #[.int .i64 0] 23 (0, 0)) ∧ Off (fun q => q = mb ∨ q = lb ∨ q = qe) w6 V ∧
  Msm N ∧ Flds (FL.drop j) N ∧ rdL FL (Mg.zero k) zs = ((rdL (FL.drop j) N (zs.drop p)).1, p + (rdL (FL.drop j) N (zs.drop p)).2.1, (rdL (FL.drop j) N (zs.drop p)).2.2)
section
variable {w6 V V' : World} {lo mb lb qe : Nat} {zs : List Int} {FL : List Fd} {k : Int} {j : Nat}
theorem DcI.later (h : DcI w6 lo mb lb qe zs FL k j V) (hb : Below V.heap.size V V') : DcI w6 lo mb lb qe zs FL k j V' := by
  obtain ⟨N, P, C, p, h1, h2, h3, h4, h5, h6⟩ := h
  exact ⟨N, P, C, p, h1.later hb, (hb.block _ (Array.getElem?_eq_some_iff.1 h2).1).trans h2, h3.trans (Off.of_below (S := fun _ => False) hb) (fun _ _ h => h.elim), h4, h5, h6⟩
theorem DcI.putObj {l : Nat} {o o' : Obj} (h : DcI w6 lo mb lb qe zs FL k j V) (hl : w6.heap.size ≤ l) (hm : mb < w6.heap.size) (hq : qe < w6.heap.size) (ho : V.heap[l]? = some o) (hc : o.isCells = false) : DcI w6 lo mb lb qe zs FL k j (V.putObj l o') := by
  obtain ⟨N, P, C, p, h1, h2, h3, h4, h5, h6⟩ := h
  have hoff : Off (fun k => k = l) V (V.putObj l o') := ⟨rfl, rfl, rfl, by simp [World.putObj], fun k _ hn => World.putObj_heap_other hn⟩
  exact ⟨N, P, C, p, h1.putObj (by omega) ho hc, (World.putObj_heap_other (by omega)).trans h2, h3.trans hoff (fun _ _ e => by omega), h4, h5, h6⟩
end
theorem off3_kf {V W : World} {a b c s : Nat} {c1 c2 c3 : Array Value} {t1 t2 t3 : TypeId} (h : Off (fun q => q = a ∨ q = b ∨ q = c) V W) (h1 : V.heap[a]? = some (.cells c1 t1 (0, 0))) (h2 : V.heap[b]? = some (.cells c2 t2 (0, 0))) (h3 : V.heap[c]? = some (.cells c3 t3 (0, 0))) : KeepsFrom s V W := ⟨h.size, fun q o _ hq hc => (h.block q (Array.getElem?_eq_some_iff.1 hq).1 (by
  rintro (rfl | rfl | rfl)
  · rw [h1] at hq; injection hq with hq; subst hq; cases hc
  · rw [h2] at hq; injection hq with hq; subst hq; cases hc
  · rw [h3] at hq; injection hq with hq; subst hq; cases hc)).trans hq⟩
theorem off3_ket {V W : World} {a b c lo : Nat} {c1 c2 c3 : Array Value} (h : Off (fun q => q = a ∨ q = b ∨ q = c) V W) (h1 : V.heap[a]? = some (.cells c1 33 (0, 0))) (h2 : V.heap[b]? = some (.cells c2 108 (0, 0))) (h3 : V.heap[c]? = some (.cells c3 23 (0, 0))) : KeT 75 3 lo V W := ⟨h.size, fun q cs t _ ht hq => h.block q (Array.getElem?_eq_some_iff.1 hq).1 (by
  have e1 := fun e : t ≠ 33 => row_ne hq h1 e
  have e2 := fun e : t ≠ 108 => row_ne hq h2 e
  have e3 := fun e : t ≠ 23 => row_ne hq h3 e
  rcases ht with rfl | rfl
  · have := e1 (by decide); have := e2 (by decide); have := e3 (by decide); omega
  · have := e1 (by decide); have := e2 (by decide); have := e3 (by decide); omega)⟩
theorem rdL_step (f : Fd) (r : List Fd) (M : Mg) (l : List Int) : rdL (f :: r) M l = if (rdF M f l).1 ≠ 0 then ((rdF M f l).1, 0, M) else ((rdL r (rdF M f l).2.2 (l.drop (rdF M f l).2.1)).1, (rdF M f l).2.1 + (rdL r (rdF M f l).2.2 (l.drop (rdF M f l).2.1)).2.1, (rdL r (rdF M f l).2.2 (l.drop (rdF M f l).2.1)).2.2) := rfl
theorem rdF_small {f : Fd} (hf : FdX f) {N N' : Mg} (h : fE N' f = 0) (hc : N' = cp N N' f) (hs : Msm N) : Msm N' := by
  unfold cp at hc
  unfold fE at h
  by_cases h3 : f.so = 3
  · rw [if_pos h3] at hc h
    obtain ⟨-, h2, -⟩ := wP_zero h
    have := hf.mo.1 h3
    rw [hc]
    exact ⟨by show N'.p.length ≤ 40; omega, hs.c, hs.tx, hs.tg⟩
  rw [if_neg h3] at hc h
  by_cases h4 : f.so = 4
  · rw [if_pos h4] at hc h
    obtain ⟨-, h2, -⟩ := wC_zero h
    have := hf.mo.2.1 h4
    rw [hc]
    exact ⟨hs.p, by show N'.c.length ≤ 40; omega, hs.tx, hs.tg⟩
  rw [if_neg h4] at hc h
  by_cases h5 : f.so = 5
  · rw [if_pos h5] at hc h
    obtain ⟨h2, -⟩ := wT_zero h
    have := hf.mo.2.2.1 h5
    rw [hc]
    exact ⟨hs.p, hs.c, by show N'.tx.size ≤ 80; omega, hs.tg⟩
  rw [if_neg h5] at hc h
  by_cases h6 : f.so = 6
  · rw [if_pos h6] at hc h
    obtain ⟨h2, -⟩ := wT_zero h
    have := hf.mo.2.2.2 h6
    rw [hc]
    exact ⟨hs.p, hs.c, hs.tx, by show N'.tg.size ≤ 80; omega⟩
  rw [if_neg h6] at hc
  rw [hc]
  exact ⟨by rw [Mg.put_p]; exact hs.p, by rw [Mg.put_c]; exact hs.c, by rw [Mg.put_tx]; exact hs.tx, by rw [Mg.put_tg]; exact hs.tg⟩
set_option maxHeartbeats 16000000 in
theorem bdecode_yes (k v : Int) (A : Option Addr) (len cap : Nat) (zs : List Int) (w : World) (hlen : zs.length = len) (hll : len ≤ 1000000) (hby : Bys zs) (hA : Nums .u8 w w.heap.size A zs) (hv : v = 1 ∨ v = 2) (hk : FD k ≠ []) : Calls Try.prog 18 #[.int .i64 k, .int .i64 v, .slice A len cap] w fun e w' => DecO w (bdec k v zs) e w' := by
  obtain ⟨w2, hw2⟩ : ∃ w2, w.alloc (.cells #[.int .i64 0, .int .i64 0, .int .i64 0, .int .i64 0, .int .i64 0, .int .i64 0, .int .i64 0, .slice none 0 0, .slice none 0 0, .string ⟨#[]⟩, .string ⟨#[]⟩] 33) = w2 := ⟨_, rfl⟩
  have hb2 : Below w.heap.size w w2 := by rw [← hw2]; exact (Below.refl _ w).alloc (Nat.le_refl _) _
  have q0 : w2.heap[w.heap.size]? = some (.cells (mC (Mg.zero 0) (.slice none 0 0) (.slice none 0 0)) 33 (0, 0)) := by rw [← hw2]; exact World.alloc_heap_new _ _
  have HW2 := Lib.hid hw2
  have hlt0 := (Array.getElem?_eq_some_iff.1 q0).1
  have KK := Lib.hid (bknown_any v w2)
  have KW := Lib.hid (word_any k w2)
  rw [decide_eq_true hv] at KK
  have hwk : wd k ≠ ⟨#[]⟩ := fun e => hk ((FD_nil k).2 e)
  have hwne := str_nil hwk
  have hwn2 : (wd k).toList.isEmpty = false := by simpa using hwne
  have KL := Lib.hid (lnew_any A len cap zs w2 hlen (by omega) ((hA.below hb2).mono hb2.size))
  obtain ⟨R, hR⟩ : ∃ R, bdec k v zs = R := ⟨_, rfl⟩
  rw [hR]
  unfold bdec at hR
  rw [if_neg (by omega), if_neg hk] at hR
  have HR := Lib.hid hR
  have HB2 := Lib.hid hb2
  have HQ0 := Lib.hid q0
  have HBY := Lib.hid hby
  have HLEN := Lib.hid hlen
  clear hR hw2 hb2 q0 hA hby hlen
  refine (callsIn_wide (n := 9)).1 ?_
  refine callsIn_of_wp_marks Try.func18 rfl trivial ?_ rfl
  simp only [Try.ntmps18, List.size_toArray, List.length_cons, List.length_nil, Nat.reduceAdd, Nat.reduceSub, Array.replicate_succ, Array.replicate_zero, List.push_toArray, List.append_toArray, List.nil_append, List.cons_append]
  gi_wp2_with fail
  refine wpIn_wide.2 (wp_scope_straight ((wpIn_wide (n := 9)).1 ?_))
  gi_wp2_with fail
  rw [HW2.out]
  refine ⟨trivial, (callsIn_wide.2 KK.out).mono ?_⟩
  rintro e w3 ⟨rfl, rfl⟩
  gi_wp2_with fail
  refine ⟨trivial, (callsIn_wide.2 KW.out).mono ?_⟩
  rintro e w3 ⟨rfl, rfl⟩
  clear KW KK
  gi_wp2_with fail
  refine ⟨trivial, (callsIn_wide.2 KL.out).mono ?_⟩
  rintro e w3 ⟨lb, rfl, hl3, hb3⟩
  clear KL
  gi_wp2_with fail
  obtain ⟨w5, hw5⟩ : ∃ w5, ((w3.alloc (.cells #[.int .i64 k, .int .i64 0, .int .i64 0, .int .i64 0, .int .i64 0, .int .i64 0, .int .i64 0, .slice none 0 0, .slice none 0 0, .string ⟨#[]⟩, .string ⟨#[]⟩] 33)).alloc (.cells #[.pointer (some ⟨lb, 0, none⟩)] 83)).alloc (.cells #[.int .i64 0] 23) = w5 := ⟨_, rfl⟩
  have hs3 := hb3.size
  have hlb3 := hl3.lt
  have hlbo := hl3.lo_le
  obtain ⟨mb, hmb⟩ : ∃ mb, w3.heap.size = mb := ⟨_, rfl⟩
  obtain ⟨hb4, m4, r4, hs4⟩ := two_rows (W := w3) (c1 := #[.int .i64 k, .int .i64 0, .int .i64 0, .int .i64 0, .int .i64 0, .int .i64 0, .int .i64 0, .slice none 0 0, .slice none 0 0, .string ⟨#[]⟩, .string ⟨#[]⟩]) (t1 := 33) (c2 := #[.pointer (some ⟨lb, 0, none⟩)]) (t2 := 83)
  obtain ⟨w4, hw4⟩ : ∃ w4, (w3.alloc (.cells #[.int .i64 k, .int .i64 0, .int .i64 0, .int .i64 0, .int .i64 0, .int .i64 0, .int .i64 0, .slice none 0 0, .slice none 0 0, .string ⟨#[]⟩, .string ⟨#[]⟩] 33)).alloc (.cells #[.pointer (some ⟨lb, 0, none⟩)] 83) = w4 := ⟨_, rfl⟩
  rw [hw4] at hb4 m4 r4 hs4
  have hb45 : Below w4.heap.size w4 w5 := by rw [← hw5, hw4]; exact (Below.refl _ w4).alloc (Nat.le_refl _) _
  have e5 : w5.heap[w4.heap.size]? = some (.cells #[.int .i64 0] 23 (0, 0)) := by rw [← hw5, hw4]; exact World.alloc_heap_new _ _
  have m5 := (hb45.block _ (Array.getElem?_eq_some_iff.1 m4).1).trans m4
  have r5 := (hb45.block _ (Array.getElem?_eq_some_iff.1 r4).1).trans r4
  have hb35 := hb4.trans (hb45.mono (by omega))
  have hl5 := hl3.below hb35
  rw [hs4, hmb] at e5
  have e5 : w5.heap[mb + 1 + 1]? = some (.cells #[.int .i64 0] 23 (0, 0)) := e5
  rw [hmb] at m5 r5 hlb3 hs3 ⊢
  have hR5 : RdAt w2.heap.size w5 mb lb zs (Mg.zero k) (.slice none 0 0) (.slice none 0 0) 0 0 := ⟨m5, hl5, hlb3, ⟨none, 0, rfl, Nat.le_refl _, fun h => absurd rfl h⟩, ⟨none, 0, rfl, Nat.le_refl _, fun h => absurd rfl h⟩, fun _ => rfl, fun _ => rfl⟩
  have hs5 : mb + 1 + 1 < w5.heap.size := (Array.getElem?_eq_some_iff.1 e5).1
  have hb05 : Below w.heap.size w w5 := HB2.out.trans ((hb3.trans (hb35.mono (by omega))).mono (by omega))
  have q5 := (hb35.block _ (by omega)).trans ((hb3.block _ hlt0).trans HQ0.out)
  have HW5 := Lib.hid hw5
  have HR5 := Lib.hid hR5
  have HE5 := Lib.hid e5
  have HP5 := Lib.hid r5
  have HQ5 := Lib.hid q5
  have HB05 := Lib.hid hb05
  clear hw5 hR5 e5 r5 q5 hb05 m5 hl5 hb35 hb45 hb4 m4 r4 hs4 hw4 hb3 hl3 HQ0 HB2
  rw [HW5.out]
  clear HW5
  apply wpIn_label
  gi_wp2_with fail
  refine ⟨trivial, (callsIn_wide.2 (fall_any k v w5)).mono ?_⟩
  rintro e w6 ⟨rfl, hg0, hg1, hb6⟩
  have hs6 := (Array.getElem?_eq_some_iff.1 hg1).1
  have hR6 := HR5.out.later hb6
  have e6 := (hb6.block _ hs5).trans HE5.out
  have HP6 := Lib.hid ((hb6.block _ (by omega)).trans HP5.out)
  have HQ6 := Lib.hid ((hb6.block _ (by omega)).trans HQ5.out)
  have HB06 := Lib.hid (HB05.out.trans (hb6.mono HB05.out.size))
  have HFX := Lib.hid (show ∀ f ∈ FDv k v, f.so = 1 → 0 ≤ f.mo from fun f hf => FD_mo1 k f (FDv_sub hf))
  have hfl := FDv_flds k v
  have hsm0 : Msm (Mg.zero k) := ⟨by simp [Mg.zero], by simp [Mg.zero], by show (ByteArray.mk #[]).size ≤ 80; decide, by show (ByteArray.mk #[]).size ≤ 80; decide⟩
  obtain ⟨FL, hFL⟩ : ∃ FL, FDv k v = FL := ⟨_, rfl⟩
  rw [hFL] at HR HFX hfl
  have HFL := Lib.hid hFL
  have hD0 : DcI w6 w2.heap.size mb lb (mb + 1 + 1) zs FL k 0 w6 := ⟨Mg.zero k, _, _, 0, hR6, e6, Off.refl _ _, hsm0, by rw [List.drop_zero]; exact hfl, by simp⟩
  clear hR6 e6 hb6 hFL hfl hsm0 HR5 HE5 HP5 HQ5 HB05
  gi_wp2_with fail
  refine range_stopb rfl (by omega) (gf := 44) (lb := #[.pointer (some ⟨w5.heap.size, 0, none⟩), .pointer (some ⟨w5.heap.size + 1, 0, none⟩)]) rfl trivial (enters_of Try.func44 (by kernel_rfl) rfl)
    (fun f : Fd => #[f.v]) (fun _ => rfl)
    (fun j f V => FL[j]? = some f ∧ DcI w6 w2.heap.size mb lb (mb + 1 + 1) zs FL k j V)
    (fun j f q V => (FL[j]? = some f ∧ DcI w6 w2.heap.size mb lb (mb + 1 + 1) zs FL k j V) ∧ w6.heap.size ≤ q ∧ V.heap[q]? = some (.cells f.cs 75 (0, 0)))
    (fun j V => DcI w6 w2.heap.size mb lb (mb + 1 + 1) zs FL k j V)
    (fun cd V => cd = .exit 1 ∧ ∃ E : Nat, E ≠ 0 ∧ (rdL FL (Mg.zero k) zs).1 = E ∧ V.heap[mb + 1 + 1]? = some (.cells #[.int .i64 (E : Int)] 23 (0, 0)) ∧ Off (fun q => q = mb ∨ q = lb ∨ q = mb + 1 + 1) w6 V)
    (KeT 75 3 w5.heap.size) FL.length
    (fun j f q V l o o' h hl ho hc' => ⟨⟨h.1.1, h.1.2.putObj hl (by omega) (by omega) ho hc'⟩, h.2.1, (World.putObj_heap_other (fun e => by subst e; rw [h.2.2] at ho; injection ho with ho; subst ho; cases hc')).trans h.2.2⟩)
    (fun j V l o o' h hl ho hc' => h.putObj hl (by omega) (by omega) ho hc')
    (fun cd V l o o' h hl ho hc' => by
      obtain ⟨h1, E, h2, h3, h4, h5⟩ := h
      have hoff : Off (fun k => k = l) V (V.putObj l o') := ⟨rfl, rfl, rfl, by simp [World.putObj], fun k _ hn => World.putObj_heap_other hn⟩
      exact ⟨h1, E, h2, h3, (World.putObj_heap_other (by omega)).trans h4, h5.trans hoff (fun _ _ e => by omega)⟩)
    (fun _ _ _ h k => h.trans k) (fun V l o o' hl ho hc' => KeT.putObj ho hc')
    (fun o => (hD0.later ((Below.refl _ w6).alloc (Nat.le_refl _) _)).later ((Below.refl _ _).alloc (Nat.le_refl _) _)) ?round ?iter ?done ?stop
  case round =>
    rintro l j f V K ⟨hf, hC⟩ hj hK
    have HK := Lib.hid hK
    have hsz : w6.heap.size ≤ V.heap.size := by
      obtain ⟨_, _, _, _, _, _, h3, _⟩ := hC
      exact h3.size
    clear hK
    unfold Fd.v Fd.cs
    gi_wp2_with fail
    refine HK.out _ V.heap.size _ ⟨⟨hf, hC.later ((Below.refl _ V).alloc (Nat.le_refl _) _)⟩, hsz, World.alloc_heap_new _ _⟩ ⟨by simp, fun q o _ ho _ => (Below.heap_alloc _ _ _ (Array.getElem?_eq_some_iff.1 ho).1).trans ho⟩ (KeT.of_below ((Below.refl _ V).alloc (Nat.le_refl _) _)) ?_
    clear HK hC
    rintro l V2 hl ⟨⟨_, hC⟩, hq, hc⟩
    obtain ⟨qb, hqb⟩ : ∃ qb, V.heap.size = qb := ⟨_, rfl⟩
    rw [hqb] at hq hc ⊢
    clear hqb hD0
    obtain ⟨N, P, C, p, h1, h2, h3, hsm, h4, h5⟩ := hC
    have hd : FL.drop j = f :: FL.drop (j + 1) := by
      obtain ⟨hlt, he⟩ := List.getElem?_eq_some_iff.1 hf
      rw [List.drop_eq_getElem_cons hlt, he]
    rw [hd] at h4 h5
    have hfx := h4.fdx f (List.mem_cons_self ..)
    have hfp := h4.p f (List.mem_cons_self ..)
    have hfc := h4.c f (List.mem_cons_self ..)
    have KR := reader_any w2.heap.size mb lb zs N P C p f V2 h1 hfx (HFX.out f (List.mem_of_getElem? hf)) hfp hfc (by rw [HLEN.out]; omega) HBY.out
    have hst := rdL_step f (FL.drop (j + 1)) N (zs.drop p)
    have hok : ∀ u N', rdF N f (zs.drop p) = (0, u, N') → fE N' f = 0 ∧ N' = cp N N' f := fun u N' h => (rdFld_ok hfx (HBY.out.drop p) hfp hfc h).2.2
    unfold RdrR at KR
    obtain ⟨⟨E, u, N'⟩, hrd⟩ : ∃ r, rdF N f (zs.drop p) = r := ⟨_, rfl⟩
    rw [hrd] at KR hst hok
    simp only at hst
    rw [hst] at h5
    have r9 := (h3.block _ (by omega) (by omega)).trans HP6.out
    have k9 := row_cell r9 0 _ rfl
    obtain ⟨_, _, hbl, -⟩ := h1.l.open
    have LF : Hid ((Instr.loadAt 75 (.pointer (some ⟨qb, 0, none⟩))).run Try.prog V2 = .ok f.v V2) := by
      obtain ⟨t0, t1, t2, t3, t4, t5, t6⟩ := fd_block hc
      exact Lib.hid (by simp [Instr.loadAt, go_sem, t0, t1, t2, t3, t4, t5, t6, Fd.v, Fd.cs])
    have HM := Lib.hid h1.m
    have HBL := Lib.hid hbl
    have HEQ := Lib.hid h2
    have HOF := Lib.hid h3
    have HST := Lib.hid h5
    have HFL4 := Lib.hid h4
    have HOK := Lib.hid hok
    have HSM := Lib.hid hsm
    have HFD := Lib.hid hfx
    have KR := Lib.hid KR
    have hlbm := h1.a
    have hV2 := h3.size
    clear h1 h2 h3 h4 h5 hst hok hsm hfp hfc hd hf hrd hbl r9 hfx hc
    gi_wp2_with (refine wpListIn_load_run rfl 75 (.tmp 11) rfl (some ⟨qb, 0, none⟩) rfl f.v LF.out ?_)
    refine ⟨trivial, ((callsIn_wide.2 KR.out).inRound l).mono ?_⟩
    rintro e V3 ⟨F, c1, c2, rfl, hent, hb3, hcall⟩
    have hs3 := hb3.size
    have k9 := (hb3.cell (p := ⟨mb + 1, 0, none⟩) (by show mb + 1 < _; omega)).trans k9
    have HCALL := Lib.hid hcall
    clear hcall KR hb3
    gi_wp2_with fail
    refine ⟨trivial, ((callsIn_wide.2 HCALL.out).inRound l).mono ?_⟩
    rintro e V4 ⟨rfl, ho4, hok4⟩
    simp only at hok4 ⊢
    have hV4 := ho4.size
    have m4 := HM.out
    have e4 := (ho4.block _ (Array.getElem?_eq_some_iff.1 HEQ.out).1 (by omega)).trans HEQ.out
    have k4 := row_cell e4 0 _ rfl
    have z4 := frozen_of_row V4 (mb + 1 + 1) 0 _ _ e4
    have ho3 : Off (fun q => q = mb ∨ q = lb ∨ q = mb + 1 + 1) V2 V4 := ho4.mono fun j _ h => by omega
    clear HCALL m4
    by_cases hE : E = 0
    · subst hE
      obtain ⟨P', C', hR'⟩ := hok4 rfl
      obtain ⟨hfe, hcp⟩ := HOK.out u N' rfl
      have hst := HST.out
      rw [if_neg (by simp)] at hst
      simp only [List.drop_drop] at hst
      have HJ : Hid (DcI w6 w2.heap.size mb lb (mb + 1 + 1) zs FL k (j + 1) V4) := Lib.hid ⟨N', P', C', p + u, hR', e4, HOF.out.trans ho3 (fun _ _ h => h), rdF_small HFD.out hfe hcp HSM.out, by rw [hcp]; exact HFL4.out.next N', by rw [hst]; simp only [Nat.add_assoc]⟩
      have HKF := Lib.hid (off3_kf (s := w6.heap.size) ho3 HM.out HBL.out HEQ.out)
      have HKE := Lib.hid (off3_ket (lo := w5.heap.size) ho3 HM.out HBL.out HEQ.out)
      have HSA := Lib.hid (setCell_same e4)
      clear hok4 hR' ho4 ho3 hst hfe hcp e4
      rw [show ((0 : Nat) : Int) = 0 from rfl]
      gi_wp2
      rw [HSA.out]
      exact ⟨HKF.out, HJ.out, HKE.out⟩
    · have hEn : ((E : Int) != 0) = true := by simpa using hE
      have hst := HST.out
      rw [if_pos hE] at hst
      have ho5 : Off (fun q => q = mb ∨ q = lb ∨ q = mb + 1 + 1) V2 (V4.setCell ⟨mb + 1 + 1, 0, none⟩ (.int .i64 (E : Int))) := ho3.setCell (p := ⟨mb + 1 + 1, 0, none⟩) (.inr (.inr rfl)) _
      have HKF := Lib.hid (off3_kf (s := w6.heap.size) ho5 HM.out HBL.out HEQ.out)
      have HX : Hid (∃ E' : Nat, E' ≠ 0 ∧ (rdL FL (Mg.zero k) zs).1 = E' ∧ (V4.setCell ⟨mb + 1 + 1, 0, none⟩ (.int .i64 (E : Int))).heap[mb + 1 + 1]? = some (.cells #[.int .i64 (E' : Int)] 23 (0, 0)) ∧ Off (fun q => q = mb ∨ q = lb ∨ q = mb + 1 + 1) w6 (V4.setCell ⟨mb + 1 + 1, 0, none⟩ (.int .i64 (E : Int)))) := Lib.hid ⟨E, hE, by rw [hst], by rw [setCell_at e4]; rfl, HOF.out.trans ho5 (fun _ _ h => h)⟩
      clear hok4 ho4 ho3 ho5 hst e4
      gi_wp2
      exact ⟨HKF.out, rfl, HX.out⟩
  case iter =>
    intro Bk X l V hBk hBlt hX hl hD hB hY
    have h := fall_in 8 (by omega) 7 l w5.heap.size k v (fun j V => DcI w6 w2.heap.size mb lb (mb + 1 + 1) zs FL k j V ∧ Bk V) X
      (fun j A B h hb => ⟨h.1.later hb, hBk A _ h.2 hb.size (fun q h1 h2 => by have := hBlt A h.2; exact hb.block q (by omega))⟩)
      (fun j f W h hf => by
        rw [HFL.out] at hf
        exact (hY j f W ⟨hf, h.1⟩ h.2 (List.getElem?_eq_some_iff.1 hf).1).mono (fun e W2 h => h.elim (fun h => .inl ⟨h.1, h.2.1, h.2.2.1⟩) (fun h => .inr ⟨h.1, h.2.1⟩)))
      V (by
        obtain ⟨_, _, _, _, _, _, h3, _⟩ := hD
        exact (h3.block _ (by omega) (by omega)).trans hg0) (by
        obtain ⟨_, _, _, _, _, _, h3, _⟩ := hD
        exact (h3.block _ (by omega) (by omega)).trans hg1) ⟨hD, hB⟩
    rw [HFL.out] at h
    exact h
  case done =>
    rintro D V hD hC hK
    obtain ⟨N, P, C, p, h1, h2, h3, hsm, -, h5⟩ := hC
    rw [List.drop_length] at h5
    simp only [rdL, Nat.add_zero] at h5
    have hR := HR.out
    rw [h5] at hR
    simp only [ne_eq, not_true_eq_false, if_false] at hR
    have hp := h1.l.place
    have ce := row_cell h2 0 _ rfl
    have cz := frozen_of_row V (mb + 1 + 1) 0 _ _ h2
    have k9 := row_cell ((h3.block _ (by omega) (by omega)).trans HP6.out) 0 _ rfl
    have HQ := Lib.hid ((h3.block _ (by omega) (by omega)).trans HQ6.out)
    have HB0 := Lib.hid (HB06.out.trans (h3.below (B := w.heap.size) (fun q hq => by omega) HB06.out.size))
    have KE := Lib.hid (lend_any _ _ _ _ _ _ h1.l (by rw [HLEN.out]; omega))
    have HKD0 := Lib.hid hK
    have hV := h3.size
    have HR1 := Lib.hid h1
    have HE1 := Lib.hid h2
    have HSM := Lib.hid hsm
    clear h1 h2 h3 hsm h5 hK hD0 hg0 hg1
    by_cases hlt : p < zs.length
    · rw [if_pos hlt] at hR
      have he3 : endOf zs p 0 = 3 := by unfold endOf; rw [if_neg (by simp), if_pos hlt]
      rw [he3] at KE
      have HR2 := Lib.hid hR
      clear hR
      gi_wp2_with fail
      refine ⟨trivial, (callsIn_wide.2 KE.out).mono ?_⟩
      rintro e V2 ⟨rfl, n2, rfl⟩
      have hb2 := below_of_drewN (B := V.heap.size) V n2
      obtain ⟨V2, hV2⟩ : ∃ V2, V.drewN n2 = V2 := ⟨_, rfl⟩
      rw [hV2] at hb2 ⊢
      have e2 := (hb2.block _ (Array.getElem?_eq_some_iff.1 HE1.out).1).trans HE1.out
      have ce2 := row_cell e2 0 _ rfl
      have cz2 := frozen_of_row V2 (mb + 1 + 1) 0 _ _ e2
      obtain ⟨V4, hV4⟩ : ∃ V4, V2.setCell ⟨mb + 1 + 1, 0, none⟩ (.int .i64 3) = V4 := ⟨_, rfl⟩
      have hof4 : Off (fun q => q = mb + 1 + 1) V2 V4 := by rw [← hV4]; exact Off.setCell (S := fun q => q = mb + 1 + 1) (p := ⟨mb + 1 + 1, 0, none⟩) (Off.refl _ V2) rfl _
      have HEE : Hid (V4.heap[mb + 1 + 1]? = some (.cells #[.int .i64 3] 23 (0, 0))) := Lib.hid (by rw [← hV4, setCell_at e2]; rfl)
      have hqq := (hb2.block _ (Array.getElem?_eq_some_iff.1 HQ.out).1).trans HQ.out
      have HQV := Lib.hid ((hof4.block _ (Array.getElem?_eq_some_iff.1 hqq).1 (by omega)).trans hqq)
      have hkk := (hb2.block _ (Array.getElem?_eq_some_iff.1 HKD0.out).1).trans HKD0.out
      have HKD := Lib.hid ((hof4.block _ (Array.getElem?_eq_some_iff.1 hkk).1 (by omega)).trans hkk)
      have HBV := Lib.hid ((HB0.out.trans (hb2.mono HB0.out.size)).trans (hof4.below (B := w.heap.size) (fun q hq => by omega) (by have := HB0.out.size; have := hb2.size; omega)))
      have HV4 := Lib.hid hV4
      clear KE hb2 hV2 e2 hof4 hqq hkk HQ HB0 HE1 HR1 HKD0 hV4
      rw [show ((3 : Nat) : Int) = 3 from rfl]
      gi_wp2_with fail
      rw [HV4.out]
      have lE : ∀ W, Off (fun q => q = w.heap.size) V4 W → (Instr.loadAt 23 (.pointer (some ⟨mb + 1 + 1, 0, none⟩))).run Try.prog W = .ok (.int .i64 3) W := fun W hW => by
        have k := row_cell ((hW.block _ (Array.getElem?_eq_some_iff.1 HEE.out).1 (by omega)).trans HEE.out) 0 _ rfl
        simp [Instr.loadAt, go_sem, k]
      refine wpIn_wide.2 ?_
      refine wp_region_order9 3 (0 :: 1 :: 2 :: []) (fun W => Off (fun q => q = w.heap.size) V4 W) (C := fun W => Below V4.heap.size V4 W) (by kernel_rfl) (by kernel_rfl) (by kernel_rfl) (Below.refl _ _).drew (fun W hW => Off.of_below hW) ?_
      refine wpO9_build (.agg #[.int .i64 0, .int .i64 0, .int .i64 0, .int .i64 0, .int .i64 0, .int .i64 0, .int .i64 0, .slice none 0 0, .slice none 0 0, .string ⟨#[]⟩, .string ⟨#[]⟩]) rfl rfl rfl (fun W _ => by simp [execOp, go_sem]) ?_
      simp only [Act.put, List.setIfInBounds_toArray, List.set_cons_succ, List.set_cons_zero]
      refine wpO9_load (ad := ⟨mb + 1 + 1, 0, none⟩) (.int .i64 3) rfl rfl rfl (by rfl) lE ?_
      simp only [Act.put, List.setIfInBounds_toArray, List.set_cons_succ, List.set_cons_zero]
      refine wpO9_store (fun W => ∃ W0, Below V4.heap.size V4 W0 ∧ W = W0.setRow w.heap.size #[.int .i64 0, .int .i64 0, .int .i64 0, .int .i64 0, .int .i64 0, .int .i64 0, .int .i64 0, .slice none 0 0, .slice none 0 0, .string ⟨#[]⟩, .string ⟨#[]⟩]) rfl rfl rfl rfl ⟨w.heap.size, 0, none⟩ (.agg #[.int .i64 0, .int .i64 0, .int .i64 0, .int .i64 0, .int .i64 0, .int .i64 0, .int .i64 0, .slice none 0 0, .slice none 0 0, .string ⟨#[]⟩, .string ⟨#[]⟩]) (by rfl) (by rfl) (fun W hW => ?_) (fun W hW => ?_) ?_
      · obtain ⟨W0, h1, rfl⟩ := hW
        exact Off.setRow (S := fun q => q = w.heap.size) (Off.of_below h1) rfl _
      · exact ⟨_, mg_store W w.heap.size _ _ ((hW.block _ (Array.getElem?_eq_some_iff.1 HQV.out).1).trans HQV.out) rfl rfl (mg_one (Mg.zero 0) _ _ _ _ _ _), W, hW, rfl⟩
      rintro V6 ⟨W0, hb0, rfl⟩
      simp only [List.drop_succ_cons, List.drop_zero]
      have q0 := (hb0.block _ (Array.getElem?_eq_some_iff.1 HQV.out).1).trans HQV.out
      have hrow := setRow_heap W0 w.heap.size _ #[.int .i64 0, .int .i64 0, .int .i64 0, .int .i64 0, .int .i64 0, .int .i64 0, .int .i64 0, .slice none 0 0, .slice none 0 0, .string ⟨#[]⟩, .string ⟨#[]⟩] _ _ q0
      have hof0 := Off.setRow (S := fun q => q = w.heap.size) (Off.refl _ W0) rfl #[.int .i64 0, .int .i64 0, .int .i64 0, .int .i64 0, .int .i64 0, .int .i64 0, .int .i64 0, .slice none 0 0, .slice none 0 0, .string ⟨#[]⟩, .string ⟨#[]⟩]
      have hbf : Below w.heap.size w (W0.setRow w.heap.size #[.int .i64 0, .int .i64 0, .int .i64 0, .int .i64 0, .int .i64 0, .int .i64 0, .int .i64 0, .slice none 0 0, .slice none 0 0, .string ⟨#[]⟩, .string ⟨#[]⟩]) := (HBV.out.trans (hb0.mono HBV.out.size)).trans (hof0.below (B := w.heap.size) (fun q hq => by omega) (by have := HBV.out.size; have := hb0.size; omega))
      have hkf := (hof0.block _ (by have := (Array.getElem?_eq_some_iff.1 HKD.out).1; have := hb0.size; omega) (by omega)).trans ((hb0.block _ (Array.getElem?_eq_some_iff.1 HKD.out).1).trans HKD.out)
      generalize W0.setRow w.heap.size _ = Vf at *
      have HRW := Lib.hid hrow
      have HBF := Lib.hid hbf
      have HKF := Lib.hid hkf
      clear lE q0 hrow hof0 hbf hkf hb0 HBV HKD
      go_wp2
      gi_wp2
      try simp only [Exit.noGoto]
      refine ⟨by simp, .inl ⟨_, _, rfl, run_takeDeferred HKF.out, ?_⟩⟩
      obtain ⟨y0, y1, y2, y3, y4, y5, y6, y7, y8, y9, y10⟩ := mg_block (M := Mg.zero 0) (P := .slice none 0 0) (C := .slice none 0 0) (W := Vf.putObj D (.deferred none)) ((World.putObj_heap_other (by omega)).trans HRW.out)
      refine ⟨.tuple #[.agg (mC (Mg.zero 0) (.slice none 0 0) (.slice none 0 0)), .int .i64 3], by simp [results, Try.f18, go_sem, y0, y1, y2, y3, y4, y5, y6, y7, y8, y9, y10, mC], ?_⟩
      rw [← HR2.out]
      exact ⟨_, _, rfl, MOwn.zero _ _ _, HBF.out.trans (below_put _ _ (by omega))⟩
    · rw [if_neg hlt] at hR
      have he3 : endOf zs p 0 = 0 := by unfold endOf; rw [if_neg (by simp), if_neg hlt]
      rw [he3] at KE
      have HR2 := Lib.hid hR
      clear hR
      gi_wp2_with fail
      refine ⟨trivial, (callsIn_wide.2 KE.out).mono ?_⟩
      rintro e V2 ⟨rfl, n2, rfl⟩
      have hb2 := below_of_drewN (B := V.heap.size) V n2
      obtain ⟨V2, hV2⟩ : ∃ V2, V.drewN n2 = V2 := ⟨_, rfl⟩
      rw [hV2] at hb2 ⊢
      have e2 := (hb2.block _ (Array.getElem?_eq_some_iff.1 HE1.out).1).trans HE1.out
      have ce2 := row_cell e2 0 _ rfl
      have cz2 := frozen_of_row V2 (mb + 1 + 1) 0 _ _ e2
      have HSA := Lib.hid (setCell_same e2)
      have h1 := HR1.out.later hb2
      have LM := Lib.hid (mg_read h1.m)
      have hmat : MAt V2 V2.heap.size N P C := by
        obtain ⟨⟨a, c, e1, e2, e3⟩, ⟨a', c', e4, e5, e6⟩⟩ := And.intro h1.p h1.c
        exact ⟨⟨a, c, e1, e2, e3.nums⟩, ⟨a', c', e4, e5, e6.nums⟩⟩
      have KP := mproject_any N P C v V2 HSM.out hmat
      unfold mV at KP LM
      have KP := Lib.hid KP
      have HQ2 := Lib.hid ((hb2.block _ (Array.getElem?_eq_some_iff.1 HQ.out).1).trans HQ.out)
      have HK2 := Lib.hid ((hb2.block _ (Array.getElem?_eq_some_iff.1 HKD0.out).1).trans HKD0.out)
      have HB2' := Lib.hid (HB0.out.trans (hb2.mono HB0.out.size))
      clear KE hb2 hV2 e2 HQ HB0 HE1 HR1 HKD0 h1 hmat
      rw [show ((0 : Nat) : Int) = 0 from rfl]
      gi_wp2_with (rw [HSA.out]; refine wpListIn_load_run rfl 33 (.tmp 8) rfl (some ⟨mb, 0, none⟩) rfl (.agg (mC N P C)) LM.out ?_)
      refine ⟨trivial, (callsIn_wide.2 KP.out).mono ?_⟩
      rintro e V3 ⟨P3, C3, rfl, hown3, hb3⟩
      obtain ⟨G, hG⟩ : ∃ G, mproj N v = G := ⟨_, rfl⟩
      rw [hG] at hown3 HR2 ⊢
      have hm3 := hown3.at
      obtain ⟨⟨a3, c3, rfl, -, -⟩, ⟨b3, cc3, rfl, -, -⟩⟩ := And.intro hm3.p hm3.c
      have hq3 := (hb3.block _ (Array.getElem?_eq_some_iff.1 HQ2.out).1).trans HQ2.out
      have hk3 := (hb3.block _ (Array.getElem?_eq_some_iff.1 HK2.out).1).trans HK2.out
      have hst := mg_store V3 w.heap.size _ (mC G (.slice a3 G.p.length c3) (.slice b3 G.c.length cc3)) hq3 rfl rfl (mg_one _ _ _ _ _ _ _)
      have hrow := setRow_heap V3 w.heap.size _ (mC G (.slice a3 G.p.length c3) (.slice b3 G.c.length cc3)) _ _ hq3
      have hof3 := Off.setRow (S := fun q => q = w.heap.size) (Off.refl _ V3) rfl (mC G (.slice a3 G.p.length c3) (.slice b3 G.c.length cc3))
      have hbq : w.heap.size < V2.heap.size := (Array.getElem?_eq_some_iff.1 HQ2.out).1
      have hown4 := hown3.off hof3 (fun g hg e => by have := (hown3.p.lt g hg).1; omega) (fun g hg e => by have := (hown3.c.lt g hg).1; omega)
      have hbf : Below w.heap.size w (V3.setRow w.heap.size (mC G (.slice a3 G.p.length c3) (.slice b3 G.c.length cc3))) := (HB2'.out.trans (hb3.mono HB2'.out.size)).trans (hof3.below (B := w.heap.size) (fun q hq => by omega) (by have := HB2'.out.size; have := hb3.size; omega))
      have hkf := (hof3.block _ (Array.getElem?_eq_some_iff.1 hk3).1 (by omega)).trans hk3
      obtain ⟨Vf, hVf⟩ : ∃ Vf, V3.setRow w.heap.size (mC G (.slice a3 G.p.length c3) (.slice b3 G.c.length cc3)) = Vf := ⟨_, rfl⟩
      rw [hVf] at hst hrow hown4 hbf hkf
      have HST := Lib.hid hst
      have HRW := Lib.hid hrow
      have HOW := Lib.hid hown4
      have HBF := Lib.hid hbf
      have HKF := Lib.hid hkf
      clear hst hrow hown3 hown4 hbf hkf hq3 hk3 hof3 hVf hm3 KP LM HSA hG
      unfold mV
      gi_wp2_with (refine wpListIn_store_run rfl 33 (.tmp 6) (.tmp 48) rfl (some ⟨w.heap.size, 0, none⟩) rfl (.agg (mC G (.slice a3 G.p.length c3) (.slice b3 G.c.length cc3))) rfl HST.out ?_)
      try simp only [Exit.noGoto]
      refine ⟨by simp, .inl ⟨_, _, rfl, run_takeDeferred HKF.out, ?_⟩⟩
      obtain ⟨y0, y1, y2, y3, y4, y5, y6, y7, y8, y9, y10⟩ := mg_block (W := Vf.putObj D (.deferred none)) ((World.putObj_heap_other (by omega)).trans HRW.out)
      refine ⟨.tuple #[.agg (mC G (.slice a3 G.p.length c3) (.slice b3 G.c.length cc3)), .int .i64 0], by simp [results, Try.f18, go_sem, y0, y1, y2, y3, y4, y5, y6, y7, y8, y9, y10, mC], ?_⟩
      rw [← HR2.out]
      refine ⟨_, _, rfl, ?_, HBF.out.trans (below_put _ _ (by omega))⟩
      have ho5 : Off (fun k => k = D) Vf (Vf.putObj D (.deferred none)) := ⟨rfl, rfl, rfl, by simp [World.putObj], fun k _ hn => World.putObj_heap_other hn⟩
      exact (HOW.out.off ho5 (fun g hg e => by have := (HOW.out.p.lt g hg).1; have := (Array.getElem?_eq_some_iff.1 HK2.out).1; omega) (fun g hg e => by have := (HOW.out.c.lt g hg).1; have := (Array.getElem?_eq_some_iff.1 HK2.out).1; omega)).less (Nat.le_of_lt hbq)
  case stop =>
    rintro D cd V hD ⟨rfl, E, hE, hrd, he, hof⟩ hK
    have hR := HR.out
    rw [if_pos (by rw [hrd]; exact hE), hrd] at hR
    have ce := row_cell he 0 _ rfl
    have e0 : ((E : Int) == 0) = false := by simpa using hE
    have e1 : ((E : Int) != 0) = true := by simpa using hE
    have HEE := Lib.hid he
    have HQV := Lib.hid ((hof.block _ (by omega) (by omega)).trans HQ6.out)
    have HBV := Lib.hid (HB06.out.trans (hof.below (B := w.heap.size) (fun q hq => by omega) HB06.out.size))
    have HKD := Lib.hid hK
    have HR2 := Lib.hid hR
    clear he hof hK hR hrd hD0 hg0 hg1
    gi_wp2_with fail
    have lE : ∀ W, Off (fun q => q = w.heap.size) V W → (Instr.loadAt 23 (.pointer (some ⟨mb + 1 + 1, 0, none⟩))).run Try.prog W = .ok (.int .i64 (E : Int)) W := fun W hW => by
      have k := row_cell ((hW.block _ (Array.getElem?_eq_some_iff.1 HEE.out).1 (by omega)).trans HEE.out) 0 _ rfl
      simp [Instr.loadAt, go_sem, k]
    refine wpIn_wide.2 ?_
    refine wp_region_order9 3 (0 :: 1 :: 2 :: []) (fun W => Off (fun q => q = w.heap.size) V W) (C := fun W => Below V.heap.size V W) (by kernel_rfl) (by kernel_rfl) (by kernel_rfl) (Below.refl _ _).drew (fun W hW => Off.of_below hW) ?_
    refine wpO9_build (.agg #[.int .i64 0, .int .i64 0, .int .i64 0, .int .i64 0, .int .i64 0, .int .i64 0, .int .i64 0, .slice none 0 0, .slice none 0 0, .string ⟨#[]⟩, .string ⟨#[]⟩]) rfl rfl rfl (fun W _ => by simp [execOp, go_sem]) ?_
    simp only [Act.put, List.setIfInBounds_toArray, List.set_cons_succ, List.set_cons_zero]
    refine wpO9_load (ad := ⟨mb + 1 + 1, 0, none⟩) (.int .i64 (E : Int)) rfl rfl rfl (by rfl) lE ?_
    simp only [Act.put, List.setIfInBounds_toArray, List.set_cons_succ, List.set_cons_zero]
    refine wpO9_store (fun W => ∃ W0, Below V.heap.size V W0 ∧ W = W0.setRow w.heap.size #[.int .i64 0, .int .i64 0, .int .i64 0, .int .i64 0, .int .i64 0, .int .i64 0, .int .i64 0, .slice none 0 0, .slice none 0 0, .string ⟨#[]⟩, .string ⟨#[]⟩]) rfl rfl rfl rfl ⟨w.heap.size, 0, none⟩ (.agg #[.int .i64 0, .int .i64 0, .int .i64 0, .int .i64 0, .int .i64 0, .int .i64 0, .int .i64 0, .slice none 0 0, .slice none 0 0, .string ⟨#[]⟩, .string ⟨#[]⟩]) (by rfl) (by rfl) (fun W hW => ?_) (fun W hW => ?_) ?_
    · obtain ⟨W0, h1, rfl⟩ := hW
      exact Off.setRow (S := fun q => q = w.heap.size) (Off.of_below h1) rfl _
    · exact ⟨_, mg_store W w.heap.size _ _ ((hW.block _ (Array.getElem?_eq_some_iff.1 HQV.out).1).trans HQV.out) rfl rfl (mg_one (Mg.zero 0) _ _ _ _ _ _), W, hW, rfl⟩
    rintro V6 ⟨W0, hb0, rfl⟩
    simp only [List.drop_succ_cons, List.drop_zero]
    have q0 := (hb0.block _ (Array.getElem?_eq_some_iff.1 HQV.out).1).trans HQV.out
    have hrow := setRow_heap W0 w.heap.size _ #[.int .i64 0, .int .i64 0, .int .i64 0, .int .i64 0, .int .i64 0, .int .i64 0, .int .i64 0, .slice none 0 0, .slice none 0 0, .string ⟨#[]⟩, .string ⟨#[]⟩] _ _ q0
    have hof0 := Off.setRow (S := fun q => q = w.heap.size) (Off.refl _ W0) rfl #[.int .i64 0, .int .i64 0, .int .i64 0, .int .i64 0, .int .i64 0, .int .i64 0, .int .i64 0, .slice none 0 0, .slice none 0 0, .string ⟨#[]⟩, .string ⟨#[]⟩]
    have hbf : Below w.heap.size w (W0.setRow w.heap.size #[.int .i64 0, .int .i64 0, .int .i64 0, .int .i64 0, .int .i64 0, .int .i64 0, .int .i64 0, .slice none 0 0, .slice none 0 0, .string ⟨#[]⟩, .string ⟨#[]⟩]) := (HBV.out.trans (hb0.mono HBV.out.size)).trans (hof0.below (B := w.heap.size) (fun q hq => by omega) (by have := HBV.out.size; have := hb0.size; omega))
    have hkf := (hof0.block _ (by have := (Array.getElem?_eq_some_iff.1 HKD.out).1; have := hb0.size; omega) (by omega)).trans ((hb0.block _ (Array.getElem?_eq_some_iff.1 HKD.out).1).trans HKD.out)
    generalize W0.setRow w.heap.size _ = Vf at *
    have HRW := Lib.hid hrow
    have HBF := Lib.hid hbf
    have HKF := Lib.hid hkf
    clear lE q0 hrow hof0 hbf hkf hb0 HBV HKD
    go_wp2
    gi_wp2
    try simp only [Exit.noGoto]
    refine ⟨by simp, .inl ⟨_, _, rfl, run_takeDeferred HKF.out, ?_⟩⟩
    obtain ⟨y0, y1, y2, y3, y4, y5, y6, y7, y8, y9, y10⟩ := mg_block (M := Mg.zero 0) (P := .slice none 0 0) (C := .slice none 0 0) (W := Vf.putObj D (.deferred none)) ((World.putObj_heap_other (by omega)).trans HRW.out)
    refine ⟨.tuple #[.agg (mC (Mg.zero 0) (.slice none 0 0) (.slice none 0 0)), .int .i64 (E : Int)], by simp [results, Try.f18, go_sem, y0, y1, y2, y3, y4, y5, y6, y7, y8, y9, y10, mC], ?_⟩
    rw [← HR2.out]
    exact ⟨_, _, rfl, MOwn.zero _ _ _, HBF.out.trans (below_put _ _ (by omega))⟩
theorem bdecode_own (k v : Int) (A : Option Addr) (len cap : Nat) (zs : List Int) (w : World) (hlen : zs.length = len) (hll : len ≤ 1000000) (hby : Bys zs) (hA : Nums .u8 w w.heap.size A zs) : Calls Try.prog 18 #[.int .i64 k, .int .i64 v, .slice A len cap] w fun e w' => DecO w (bdec k v zs) e w' := by
  by_cases hv : v = 1 ∨ v = 2
  · by_cases hk : FD k = []
    · exact bdecode_no k v A len cap zs w (.inr hk)
    · exact bdecode_yes k v A len cap zs w hlen hll hby hA hv hk
  · exact bdecode_no k v A len cap zs w (.inl (by omega))
end Go.Proofs.Ytlbfibnfmijahaa

namespace Go.Proofs.Ytlbfibnfmijahaa
open Go.RowKit
set_option maxRecDepth 100000

end Go.Proofs.Ytlbfibnfmijahaa

namespace Go.Proofs.Ytlbfibnfmijahaa
open Go.RowKit Go.Shelf
set_option maxRecDepth 100000
attribute [local go_sem] Oper.semAt_some

end Go.Proofs.Ytlbfibnfmijahaa

namespace Go.Proofs.Ytlbfibnfmijahaa
open Go.RowKit Go.Shelf
set_option maxRecDepth 100000
attribute [local go_sem] Oper.semAt_some

theorem mg_oneV {w : World} {B : Nat} {M : Mg} {P C : Value} (h : MAt w B M P C) : (mC M P C).all (·.oneCell') = true := by
  obtain ⟨⟨a, c, rfl, -, -⟩, ⟨a', c', rfl, -, -⟩⟩ := h
  exact mg_one _ _ _ _ _ _ _
/-- a message is stored into a new box -/
theorem new_msg (W : World) {w : World} {B : Nat} {M : Mg} {P C : Value} (h : MAt w B M P C) : ∃ W2, (Instr.storeAt 33 (.pointer (some ⟨W.heap.size, 0, none⟩)) (.agg (mC M P C))).run Try.prog (W.alloc (.cells #[.int .i64 0, .int .i64 0, .int .i64 0, .int .i64 0, .int .i64 0, .int .i64 0, .int .i64 0, .slice none 0 0, .slice none 0 0, .string ⟨#[]⟩, .string ⟨#[]⟩] 33)) = .ok () W2 ∧
    W2.heap[W.heap.size]? = some (.cells (mC M P C) 33 (0, 0)) ∧ Below W.heap.size W W2 := by
  have r := World.alloc_heap_new W (.cells #[.int .i64 0, .int .i64 0, .int .i64 0, .int .i64 0, .int .i64 0, .int .i64 0, .int .i64 0, .slice none 0 0, .slice none 0 0, .string ⟨#[]⟩, .string ⟨#[]⟩] 33)
  have hb : Below W.heap.size W (W.alloc (.cells #[.int .i64 0, .int .i64 0, .int .i64 0, .int .i64 0, .int .i64 0, .int .i64 0, .int .i64 0, .slice none 0 0, .slice none 0 0, .string ⟨#[]⟩, .string ⟨#[]⟩] 33)) := (Below.refl _ W).alloc (Nat.le_refl _) _
  have hoff := Off.setRow (S := fun k => k = W.heap.size) (Off.refl _ (W.alloc (.cells #[.int .i64 0, .int .i64 0, .int .i64 0, .int .i64 0, .int .i64 0, .int .i64 0, .int .i64 0, .slice none 0 0, .slice none 0 0, .string ⟨#[]⟩, .string ⟨#[]⟩] 33))) rfl (mC M P C)
  exact ⟨_, mg_store _ _ _ (mC M P C) r rfl rfl (mg_oneV h), setRow_heap _ _ _ _ _ _ r, hb.trans (hoff.below (B := W.heap.size) (fun k hk => by omega) hb.size)⟩
end Go.Proofs.Ytlbfibnfmijahaa

namespace Go.Proofs.Ytlbfibnfmijahaa
open Go.RowKit Go.Shelf
set_option maxRecDepth 100000
attribute [local go_sem] Oper.semAt_some

end Go.Proofs.Ytlbfibnfmijahaa

namespace Go.Proofs.Ytlbfibnfmijahaa
open Go.RowKit Go.Shelf
set_option maxRecDepth 100000
attribute [local go_sem] Oper.semAt_some

end Go.Proofs.Ytlbfibnfmijahaa

namespace Go.Proofs.Ytlbfibnfmijahaa
open Go.RowKit Go.Shelf
set_option maxRecDepth 100000
attribute [local go_sem] Oper.semAt_some

end Go.Proofs.Ytlbfibnfmijahaa

namespace Go.Proofs.Ytlbfibnfmijahaa
open Go.RowKit Go.Shelf
set_option maxRecDepth 100000
attribute [local go_sem] Oper.semAt_some

end Go.Proofs.Ytlbfibnfmijahaa

namespace Go.Proofs.Ytlbfibnfmijahaa
open Go.RowKit Go.Shelf
set_option maxRecDepth 100000
attribute [local go_sem] Oper.semAt_some

end Go.Proofs.Ytlbfibnfmijahaa

namespace Go.Proofs.Ytlbfibnfmijahaa
open Go.RowKit Go.Shelf
set_option maxRecDepth 100000
attribute [local go_sem] Oper.semAt_some

end Go.Proofs.Ytlbfibnfmijahaa

namespace Go.Proofs.Ytlbfibnfmijahaa
open Go.RowKit
section
variable {P : Program} {l : List Oper} {vs : List Value} {fs : List Tmp} {FS : Tmp → Value → World → Prop} {I : World → Prop} {a0 : Act}
end
end Go.Proofs.Ytlbfibnfmijahaa

namespace Go.Proofs.Ytlbfibnfmijahaa
open Go.RowKit Go.Shelf
set_option maxRecDepth 100000
attribute [local go_sem] Oper.semAt_some

end Go.Proofs.Ytlbfibnfmijahaa

namespace Go.Proofs.Ytlbfibnfmijahaa
open Go.RowKit Go.Shelf
set_option maxRecDepth 100000
attribute [local go_sem] Oper.semAt_some

end Go.Proofs.Ytlbfibnfmijahaa

namespace Go.Proofs.Ytlbfibnfmijahaa
open Go.RowKit Go.Shelf
set_option maxRecDepth 100000

end Go.Proofs.Ytlbfibnfmijahaa

namespace Go.Proofs.Ytlbfibnfmijahaa
open Go.RowKit Go.Shelf
set_option maxRecDepth 100000
attribute [local go_sem] Oper.semAt_some

/-- a right message isn't large -/
theorem mck_small {M : Mg} (h : mck M = 0) : Msm M := by
  rw [mck_zero] at h
  obtain ⟨-, h2, h3⟩ := h
  rw [rest_iff] at h3
  obtain ⟨-, p, c, tx, tg⟩ := h3
  have key : ∀ q : Int, isS (FD M.k) q = true → ∃ f ∈ FD M.k, f.so = q := fun q h => by
    unfold isS at h
    rw [List.any_eq_true] at h
    obtain ⟨f, hf, h⟩ := h
    exact ⟨f, hf, by simpa using h⟩
  constructor
  · cases he : isS (FD M.k) 3
    · rw [p he]; simp
    · obtain ⟨f, hf, hs⟩ := key 3 he
      have h4 := h2 f hf
      have hm := (FD_fdx M.k f hf).mo.1 hs
      unfold fE at h4
      rw [if_pos hs] at h4
      have := (wP_zero h4).2.1
      omega
  · cases he : isS (FD M.k) 4
    · rw [c he]; simp
    · obtain ⟨f, hf, hs⟩ := key 4 he
      have h4 := h2 f hf
      have hm := (FD_fdx M.k f hf).mo.2.1 hs
      unfold fE at h4
      rw [if_neg (by omega), if_pos hs] at h4
      have := (wC_zero h4).2.1
      omega
  · cases he : isS (FD M.k) 5
    · rw [tx he]; decide
    · obtain ⟨f, hf, hs⟩ := key 5 he
      have h4 := h2 f hf
      have hm := (FD_fdx M.k f hf).mo.2.2.1 hs
      unfold fE at h4
      rw [if_neg (by omega), if_neg (by omega), if_pos hs] at h4
      have := (wT_zero h4).1
      omega
  · cases he : isS (FD M.k) 6
    · rw [tg he]; decide
    · obtain ⟨f, hf, hs⟩ := key 6 he
      have h4 := h2 f hf
      have hm := (FD_fdx M.k f hf).mo.2.2.2 hs
      unfold fE at h4
      rw [if_neg (by omega), if_neg (by omega), if_neg (by omega), if_pos hs] at h4
      have := (wT_zero h4).1
      omega
theorem bdec_small {k v : Int} {l : List Int} (hl : Bys l) : Msm (bdec k v l).2 := by
  by_cases h : (bdec k v l).1 = 0
  · obtain ⟨_, _, h2, _⟩ := bdec_ok (m := (bdec k v l).2) hl (by rw [← h])
    exact mck_small h2
  · have h0 : (bdec k v l).2 = Mg.zero 0 := by
      unfold bdec at h ⊢
      repeat' split
      all_goals first | rfl | (exfalso; apply h; rename_i h1 h2 h3 h4; rw [if_neg h1, if_neg h2, if_neg h3, if_neg h4])
    rw [h0]
    exact ⟨by simp [Mg.zero], by simp [Mg.zero], by show (ByteArray.mk #[]).size ≤ 80; decide, by show (ByteArray.mk #[]).size ≤ 80; decide⟩
end Go.Proofs.Ytlbfibnfmijahaa

namespace Go.Proofs.Ytlbfibnfmijahaa
open Go.RowKit Go.Shelf
set_option maxRecDepth 100000
attribute [local go_sem] Oper.semAt_some

/-- what Pack answers -/
def PackR (w : World) (M : Mg) (v : Int) (e : Ending) (w' : World) : Prop := ∃ x, e = .returned (.tuple #[.int .i64 (if (benc M v).2 = 0 then M.k else 0), x, .int .i64 (benc M v).2]) ∧ Made w w' (benc M v).1 x
theorem benc_no {M : Mg} {v : Int} (h : (benc M v).2 ≠ 0) : (benc M v).1 = [] := by
  unfold benc at h ⊢
  split
  · rfl
  · rename_i h1
    rw [if_neg h1] at h
    split
    · rfl
    · rename_i h2
      rw [if_neg h2] at h
      exact absurd rfl h
set_option maxHeartbeats 4000000 in
theorem spack_any (M : Mg) (P C : Value) (b : Nat) (v : Int) (w : World) (hs : Msm M) (h1 : MAt w w.heap.size M P C) (hb : SAt w b v) : Calls Try.prog 8 #[.pointer (some ⟨b, 0, none⟩), mV M P C] w fun e w' => PackR w M v e w' := by
  obtain ⟨w2, hw2⟩ : ∃ w2, w.alloc (.cells (mC M P C) 33) = w2 := ⟨_, rfl⟩
  have hb2 : Below w.heap.size w w2 := by rw [← hw2]; exact (Below.refl _ w).alloc (Nat.le_refl _) _
  have q0 : w2.heap[w.heap.size]? = some (.cells (mC M P C) 33 (0, 0)) := by rw [← hw2]; exact World.alloc_heap_new _ _
  have hlt := (Array.getElem?_eq_some_iff.1 q0).1
  have HW2 := Lib.hid hw2
  have HB2 := Lib.hid hb2
  have HQ := Lib.hid q0
  have hsb := hb.later hb2
  have LM : ∀ W, Below w2.heap.size w2 W → (Instr.loadAt 33 (.pointer (some ⟨w.heap.size, 0, none⟩))).run Try.prog W = .ok (.agg (mC M P C)) W := fun W hW => mg_read ((hW.block _ hlt).trans q0)
  have LV : ∀ W, Below w2.heap.size w2 W → (Instr.loadAt 3 (.pointer (some ⟨b, 0, none⟩))).run Try.prog W = .ok (.int .i64 v) W := fun W hW => by
    have k := (hsb.later hW).cell
    simp [Instr.loadAt, go_sem, k]
  obtain ⟨⟨L, E⟩, hD⟩ : ∃ r, benc M v = r := ⟨_, rfl⟩
  have hno := benc_no (M := M) (v := v)
  have KE : Hid (∀ W, Below w2.heap.size w2 W → Calls Try.prog 17 #[.agg (mC M P C), .int .i64 v] W fun e w' => EncR W (L, E) e w') := Lib.hid fun W hW => by
    have := bencode_any M P C v W hs ((h1.later hb2).later hW)
    rwa [hD] at this
  unfold PackR
  rw [hD] at hno ⊢
  simp only at hno ⊢
  have HNO := Lib.hid hno
  have HK : Hid (∀ W, Below w2.heap.size w2 W → W.cell? ⟨w.heap.size, 0, none⟩ = some (.int .i64 M.k)) := Lib.hid fun W hW => row_cell ((hW.block _ hlt).trans q0) 0 (.int .i64 M.k) rfl
  clear hw2 hb2 q0 h1 hb hsb hD hno
  unfold mV
  go_enter Try.func8, Try.ntmps8
  go_wp2_with fail
  rw [HW2.out]
  refine wp_region_order9 12 (0 :: 1 :: 2 :: 3 :: 4 :: 5 :: 6 :: 7 :: 8 :: 9 :: 10 :: 11 :: []) (fun V => Below w2.heap.size w2 V) (C := fun V => Below w2.heap.size w2 V) (by kernel_rfl) (by kernel_rfl) (by kernel_rfl) (Below.refl _ _).drew (fun V hV => hV) ?_
  refine wpO9_load (ad := ⟨w.heap.size, 0, none⟩) (.agg (mC M P C)) rfl rfl rfl (by rfl) LM ?_
  simp only [Act.put, List.setIfInBounds_toArray, List.set_cons_succ, List.set_cons_zero]
  refine wpO9_pure rfl rfl ?_; go_big_quiet_step (fail); refine wpQuiet_nil ?_
  refine wpO9_nil (ad := ⟨b, 0, none⟩) rfl rfl rfl (by rfl) ?_
  simp only [Act.put, List.setIfInBounds_toArray, List.set_cons_succ, List.set_cons_zero]
  repeat (refine wpO9_pure rfl rfl ?_; go_big_quiet_step (fail); refine wpQuiet_nil ?_)
  refine wpO9_load (ad := ⟨b, 0, none⟩) (.int .i64 v) rfl rfl rfl (by rfl) LV ?_
  simp only [Act.put, List.setIfInBounds_toArray, List.set_cons_succ, List.set_cons_zero]
  refine wpO9_call (fun z => ∃ x, z = .tuple #[x, .int .i64 E]) (fun z V => Below w2.heap.size w2 V ∧ ∀ x, z = .tuple #[x, .int .i64 E] → Made w2 V L x) (f := 17) (args := #[.agg (mC M P C), .int .i64 v]) rfl rfl rfl (fun _ V h => h.1) (fun x => by first | rfl | (simp [go_sem]; done)) (fun V hV => (KE.out V hV).mono (fun e w' h => by
    obtain ⟨x, rfl, hm⟩ := h
    refine ⟨_, rfl, ⟨x, rfl⟩, hV.trans (hm.2.mono hV.size), fun y hy => ?_⟩
    injection hy with hy
    simp at hy
    subst hy
    exact hm.since hV)) ?_
  rintro z ⟨x, rfl⟩
  simp only [Act.put, List.setIfInBounds_toArray, List.set_cons_succ, List.set_cons_zero]
  repeat (refine wpO9_pure rfl rfl ?_; go_big_quiet_step (fail); refine wpQuiet_nil ?_)
  rintro w3 ⟨hb3, hm3⟩
  have HM3 := Lib.hid (hm3 x rfl)
  have HB3 := Lib.hid hb3
  clear hm3 hb3 KE LM LV
  simp only [List.drop_succ_cons, List.drop_zero]
  by_cases hE : E = 0
  · subst hE
    have c0 := HK.out w3 HB3.out
    go_wp2
    go_ret3
    exact ⟨x, rfl, HM3.out.since HB2.out⟩
  · have e1 : (E != 0) = true := by simpa using hE
    go_wp2
    go_ret3
    refine ⟨.slice none 0 0, rfl, ?_⟩
    rw [HNO.out hE]
    exact ⟨World.ownsRow_nil _ _ _ _, HB2.out.trans (HM3.out.2.mono HB2.out.size)⟩
set_option maxHeartbeats 4000000 in
theorem sunpack_any (k : Int) (A : Option Addr) (len cap : Nat) (zs : List Int) (b : Nat) (v : Int) (w : World) (hb : SAt w b v) (hlen : zs.length = len) (hll : len ≤ 1000000) (hby : Bys zs) (hA : Nums .u8 w w.heap.size A zs) :
    Calls Try.prog 9 #[.pointer (some ⟨b, 0, none⟩), .int .i64 k, .slice A len cap] w fun e w' => DecO w (bdec k v zs) e w' := by
  obtain ⟨w2, hw2⟩ : ∃ w2, w.alloc (.cells #[.int .i64 0, .int .i64 0, .int .i64 0, .int .i64 0, .int .i64 0, .int .i64 0, .int .i64 0, .slice none 0 0, .slice none 0 0, .string ⟨#[]⟩, .string ⟨#[]⟩] 33) = w2 := ⟨_, rfl⟩
  have hb2 : Below w.heap.size w w2 := by rw [← hw2]; exact (Below.refl _ w).alloc (Nat.le_refl _) _
  have q0 : w2.heap[w.heap.size]? = some (.cells (mC (Mg.zero 0) (.slice none 0 0) (.slice none 0 0)) 33 (0, 0)) := by rw [← hw2]; exact World.alloc_heap_new _ _
  have c2 := (hb.later hb2).cell
  have KD := Lib.hid (bdecode_own k v A len cap zs w2 hlen hll hby ((hA.below hb2).mono hb2.size))
  obtain ⟨⟨E, M⟩, hD⟩ : ∃ r, bdec k v zs = r := ⟨_, rfl⟩
  rw [hD] at KD ⊢
  have HW2 := Lib.hid hw2
  have HB2 := Lib.hid hb2
  have HQ := Lib.hid q0
  rw [← hw2] at c2
  clear hw2 hb2 q0 hb hA hlen hll hby hD
  go_enter Try.func9, Try.ntmps9
  go_wp2_with fail
  rw [HW2.out]
  refine KD.out.mono ?_
  rintro e w3 ⟨P, C, rfl, hmx, hb3⟩
  have q3 := (hb3.block _ (Array.getElem?_eq_some_iff.1 HQ.out).1).trans HQ.out
  have hst := mg_store w3 w.heap.size _ (mC M P C) q3 rfl rfl (mg_oneV hmx.at)
  have hrow := setRow_heap w3 w.heap.size _ (mC M P C) _ _ q3
  have hoff := Off.setRow (S := fun q => q = w.heap.size) (Off.refl _ w3) rfl (mC M P C)
  obtain ⟨W4, hW4⟩ : ∃ W4, w3.setRow w.heap.size (mC M P C) = W4 := ⟨_, rfl⟩
  rw [hW4] at hst hrow hoff
  have hb23 := HB2.out.trans (hb3.mono HB2.out.size)
  have hbel : Below w.heap.size w W4 := hb23.trans (hoff.below (B := w.heap.size) (fun q hq => by omega) hb23.size)
  have hq2 : w.heap.size < w2.heap.size := (Array.getElem?_eq_some_iff.1 HQ.out).1
  have hm4 := hmx.off hoff (fun g hg e => by have := (hmx.p.lt g hg).1; omega) (fun g hg e => by have := (hmx.c.lt g hg).1; omega)
  have HST := Lib.hid hst
  have HRW := Lib.hid hrow
  have HBE := Lib.hid hbel
  have HM4 := Lib.hid (hm4.less (Nat.le_of_lt hq2))
  clear hm4 hmx hst hrow hoff hW4 hbel hb3 q3 c2 KD hb23
  simp only
  unfold mV
  go_wp2_with (refine wpList_store_run rfl 33 (.tmp 6) (.tmp 19) rfl (some ⟨w.heap.size, 0, none⟩) rfl (.agg (mC M P C)) rfl HST.out ?_)
  obtain ⟨y0, y1, y2, y3, y4, y5, y6, y7, y8, y9, y10⟩ := mg_block HRW.out
  refine bodyPost_ret (v := .tuple #[.agg (mC M P C), .int .i64 E]) (by simp [results, Try.results9, go_sem, y0, y1, y2, y3, y4, y5, y6, y7, y8, y9, y10, mC]) rfl ?_
  exact ⟨_, _, rfl, HM4.out, HBE.out⟩
end Go.Proofs.Ytlbfibnfmijahaa

namespace Go.Proofs.Ytlbfibnfmijahaa
open Go.RowKit Go.Shelf
set_option maxRecDepth 100000
attribute [local go_sem] Oper.semAt_some

section
variable {P : Program} {l : List Oper} {fs : List Tmp} {FS : Tmp → Value → World → Prop} {I : World → Prop} {E : Act → Prop} {o : Oper} {rest : List Oper} {a : Act}
/-- an operation that its guard passes over -/
theorem wpF_skipS (hn : noB l.toArray fs o = true) (hw : Region.wanted o (yielded l.toArray a.tmps) = false) (h : wpF P l.toArray I fs FS E rest (a.put o.dst undef)) : wpF P l.toArray I fs FS E (o :: rest) a := by
  obtain ⟨h1, h2⟩ := noB_spec hn
  exact ⟨undef, .inl ⟨h1, h2, .inr ⟨hw, rfl⟩⟩, h⟩
end
theorem sfit_any (M : Mg) (P C : Value) (v : Int) (w : World) (hs : Msm M) (h1 : MAt w w.heap.size M P C) : Calls Try.prog 23 #[mV M P C, .int .i64 v] w fun e w' => e = .returned (.bool (decide (mproj M v = M))) ∧ Below w.heap.size w w' := by
  obtain ⟨w2, hw2⟩ : ∃ w2, w.alloc (.cells (mC M P C) 33) = w2 := ⟨_, rfl⟩
  have hb2 : Below w.heap.size w w2 := by rw [← hw2]; exact (Below.refl _ w).alloc (Nat.le_refl _) _
  have q0 : w2.heap[w.heap.size]? = some (.cells (mC M P C) 33 (0, 0)) := by rw [← hw2]; exact World.alloc_heap_new _ _
  have hlt := (Array.getElem?_eq_some_iff.1 q0).1
  have LM : ∀ W, Below w2.heap.size w2 W → (Instr.loadAt 33 (.pointer (some ⟨w.heap.size, 0, none⟩))).run Try.prog W = .ok (.agg (mC M P C)) W := fun W hW => mg_read ((hW.block _ hlt).trans q0)
  have FM : ∀ W, Below w2.heap.size w2 W → FMs M (.agg (mC M P C)) W := fun W hW => ⟨P, C, rfl, (h1.later hb2).later hW⟩
  have HW2 := Lib.hid hw2
  have HB2 := Lib.hid hb2
  have hsP := mproj_small hs v
  clear hw2 hb2 q0 h1
  unfold mV
  go_enter Try.func23, Try.ntmps23
  go_wp2_with fail
  rw [HW2.out]
  refine wp_region_F 10 [8] (fun _ x W => FMs (mproj M v) x W) (fun W => Below w2.heap.size w2 W) (by kernel_rfl) (by kernel_rfl) (by rfl) (by simp) (fun W W' h hb => h.trans (hb.mono h.size)) (fun s x W W' h hb => h.later hb) (Below.refl _ _).drew ?_
  refine wpF_load (ad := ⟨w.heap.size, 0, none⟩) (.agg (mC M P C)) rfl (by rfl) (by rfl) (by rfl) LM ?_
  simp only [Act.put, List.setIfInBounds_toArray, List.set_cons_succ, List.set_cons_zero]
  refine wpF_load (ad := ⟨w.heap.size, 0, none⟩) (.agg (mC M P C)) rfl (by rfl) (by rfl) (by rfl) LM ?_
  simp only [Act.put, List.setIfInBounds_toArray, List.set_cons_succ, List.set_cons_zero]
  repeat (refine wpF_pure rfl rfl ?_; go_big_quiet_step (fail); refine wpQuiet_nil ?_)
  refine wpF_callsrc 8 (f := 27) (args := #[.agg (mC M P C), .int .i64 v]) (by simp) rfl rfl rfl (fun x => by first | rfl | (simp [go_sem]; done)) (fun W hW => proj_F v hs (FM W hW)) ?_
  simp only [Act.put, List.setIfInBounds_toArray, List.set_cons_succ, List.set_cons_zero]
  refine wpF_use 8 3 (f := 11) (fun x => #[.agg (mC M P C), x]) (.bool (decide (mproj M v = M))) (by simp) rfl (by kernel_rfl) (by kernel_rfl) (by kernel_rfl) (fun x => by rfl) (fun x W => by first | rfl | (simp [go_sem]; done)) (fun x W hW hx => by
    have := same_F hs (FM W hW) hx
    rwa [show decide (M = mproj M v) = decide (mproj M v = M) from decide_eq_decide.2 eq_comm] at this) ?_
  simp only [Act.put, List.setIfInBounds_toArray, List.set_cons_succ, List.set_cons_zero]
  repeat (refine wpF_pure rfl rfl ?_; go_big_quiet_step (fail); refine wpQuiet_nil ?_)
  intro xs w3 hb3 _
  have HF := Lib.hid (HB2.out.trans (hb3.mono HB2.out.size))
  clear LM FM hb3
  simp only [fill, Act.put, List.setIfInBounds_toArray, List.set_cons_succ, List.set_cons_zero]
  go_wp2
  go_ret
  exact ⟨rfl, HF.out⟩
set_option maxHeartbeats 2000000 in
theorem sfits_any (M : Mg) (P C : Value) (b : Nat) (v : Int) (w : World) (hs : Msm M) (h1 : MAt w w.heap.size M P C) (hb : SAt w b v) : Calls Try.prog 13 #[.pointer (some ⟨b, 0, none⟩), mV M P C] w fun e w' => e = .returned (.bool (mfits M v)) ∧ Below w.heap.size w w' := by
  obtain ⟨w2, hw2⟩ : ∃ w2, w.alloc (.cells (mC M P C) 33) = w2 := ⟨_, rfl⟩
  have hb2 : Below w.heap.size w w2 := by rw [← hw2]; exact (Below.refl _ w).alloc (Nat.le_refl _) _
  have q0 : w2.heap[w.heap.size]? = some (.cells (mC M P C) 33 (0, 0)) := by rw [← hw2]; exact World.alloc_heap_new _ _
  have hlt := (Array.getElem?_eq_some_iff.1 q0).1
  have hsb := hb.later hb2
  have LM : ∀ W, Below w2.heap.size w2 W → (Instr.loadAt 33 (.pointer (some ⟨w.heap.size, 0, none⟩))).run Try.prog W = .ok (.agg (mC M P C)) W := fun W hW => mg_read ((hW.block _ hlt).trans q0)
  have LV : ∀ W, Below w2.heap.size w2 W → (Instr.loadAt 3 (.pointer (some ⟨b, 0, none⟩))).run Try.prog W = .ok (.int .i64 v) W := fun W hW => by
    have k := (hsb.later hW).cell
    simp [Instr.loadAt, go_sem, k]
  have KC : ∀ W, Below w2.heap.size w2 W → Calls Try.prog 22 #[.agg (mC M P C)] W fun e w' => e = .returned (.int .i64 (mck M)) ∧ Below W.heap.size W w' := fun W hW => chk_F hs ⟨P, C, rfl, (h1.later hb2).later hW⟩
  have KF : ∀ W, Below w2.heap.size w2 W → Calls Try.prog 23 #[.agg (mC M P C), .int .i64 v] W fun e w' => e = .returned (.bool (decide (mproj M v = M))) ∧ Below W.heap.size W w' := fun W hW => sfit_any M P C v W hs ((h1.later hb2).later hW)
  have HW2 := Lib.hid hw2
  have HB2 := Lib.hid hb2
  clear hw2 hb2 q0 h1 hb hsb
  unfold mV mfits
  by_cases hE : mck M = 0
  · rw [hE] at KC
    rw [decide_eq_true hE, Bool.true_and]
    obtain ⟨D, hD⟩ : ∃ D, decide (mproj M v = M) = D := ⟨_, rfl⟩
    rw [hD] at KF ⊢
    go_enter Try.func13, Try.ntmps13
    go_wp2_with fail
    rw [HW2.out]
    refine wp_region_F 21 [] (fun _ _ _ => True) (fun W => Below w2.heap.size w2 W) (by kernel_rfl) (by kernel_rfl) (by rfl) (by simp) (fun W W' h hb => h.trans (hb.mono h.size)) (fun s x W W' h hb => trivial) (Below.refl _ _).drew ?_
    repeat (refine wpF_pure rfl rfl ?_; go_big_quiet_step (fail); refine wpQuiet_nil ?_)
    refine wpF_load (ad := ⟨w.heap.size, 0, none⟩) (.agg (mC M P C)) rfl (by rfl) (by rfl) (by rfl) LM ?_
    simp only [Act.put, List.setIfInBounds_toArray, List.set_cons_succ, List.set_cons_zero]
    refine wpF_call (f := 22) (args := #[.agg (mC M P C)]) (.int .i64 0) rfl rfl (fun x => by first | rfl | (simp [go_sem]; done)) KC ?_
    simp only [Act.put, List.setIfInBounds_toArray, List.set_cons_succ, List.set_cons_zero]
    repeat (refine wpF_pure rfl rfl ?_; go_big_quiet_step (fail); refine wpQuiet_nil ?_)
    refine wpF_load (ad := ⟨w.heap.size, 0, none⟩) (.agg (mC M P C)) rfl (by rfl) (by rfl) (by rfl) LM ?_
    simp only [Act.put, List.setIfInBounds_toArray, List.set_cons_succ, List.set_cons_zero]
    refine wpF_pure rfl rfl ?_; go_big_quiet_step (fail); refine wpQuiet_nil ?_
    refine wpF_nil (ad := ⟨b, 0, none⟩) rfl (by rfl) (by rfl) (by rfl) ?_
    simp only [Act.put, List.setIfInBounds_toArray, List.set_cons_succ, List.set_cons_zero]
    repeat (refine wpF_pure rfl rfl ?_; go_big_quiet_step (fail); refine wpQuiet_nil ?_)
    refine wpF_load (ad := ⟨b, 0, none⟩) (.int .i64 v) rfl (by rfl) (by rfl) (by rfl) LV ?_
    simp only [Act.put, List.setIfInBounds_toArray, List.set_cons_succ, List.set_cons_zero]
    refine wpF_call (f := 23) (args := #[.agg (mC M P C), .int .i64 v]) (.bool D) rfl rfl (fun x => by first | rfl | (simp [go_sem]; done)) KF ?_
    simp only [Act.put, List.setIfInBounds_toArray, List.set_cons_succ, List.set_cons_zero]
    repeat (refine wpF_pure rfl rfl ?_; go_big_quiet_step (fail); refine wpQuiet_nil ?_)
    intro xs w3 hb3 _
    have HF := Lib.hid (HB2.out.trans (hb3.mono HB2.out.size))
    clear LM LV KC KF hb3
    simp only [fill]
    go_wp2
    go_ret
    exact ⟨rfl, HF.out⟩
  · rw [decide_eq_false hE, Bool.false_and]
    obtain ⟨E, hEE⟩ : ∃ E, mck M = E := ⟨_, rfl⟩
    rw [hEE] at KC hE
    have e1 : (E == 0) = false := by simpa using hE
    clear hEE KF LV
    go_enter Try.func13, Try.ntmps13
    go_wp2_with fail
    rw [HW2.out]
    refine wp_region_F 21 [] (fun _ _ _ => True) (fun W => Below w2.heap.size w2 W) (by kernel_rfl) (by kernel_rfl) (by rfl) (by simp) (fun W W' h hb => h.trans (hb.mono h.size)) (fun s x W W' h hb => trivial) (Below.refl _ _).drew ?_
    repeat (refine wpF_pure rfl rfl ?_; go_big_quiet_step (fail); refine wpQuiet_nil ?_)
    refine wpF_load (ad := ⟨w.heap.size, 0, none⟩) (.agg (mC M P C)) rfl (by rfl) (by rfl) (by rfl) LM ?_
    simp only [Act.put, List.setIfInBounds_toArray, List.set_cons_succ, List.set_cons_zero]
    refine wpF_call (f := 22) (args := #[.agg (mC M P C)]) (.int .i64 E) rfl rfl (fun x => by first | rfl | (simp [go_sem]; done)) KC ?_
    simp only [Act.put, List.setIfInBounds_toArray, List.set_cons_succ, List.set_cons_zero]
    repeat (refine wpF_pure rfl rfl ?_; go_big_quiet_step (fail); refine wpQuiet_nil ?_)
    repeat (refine wpF_skipS rfl rfl ?_; simp only [Act.put, List.setIfInBounds_toArray, List.set_cons_succ, List.set_cons_zero])
    repeat (refine wpF_pure rfl rfl ?_; go_big_quiet_step (fail); refine wpQuiet_nil ?_)
    intro xs w3 hb3 _
    have HF := Lib.hid (HB2.out.trans (hb3.mono HB2.out.size))
    clear LM KC hb3
    simp only [fill]
    go_wp2
    go_ret
    exact ⟨rfl, HF.out⟩
end Go.Proofs.Ytlbfibnfmijahaa

namespace Go.Proofs.Ytlbfibnfmijahaa
open Go.RowKit
section
variable {P : Program} {l : List Oper} {vs : List Value} {fs : List Tmp} {FS : Tmp → Value → World → Prop} {Pr : Tmp → Value → Tmp → Value → Prop} {I : World → Prop} {a0 : Act}
/-- what an operation gives in this world, and what it is beside what was given ahead of it -/
def FpO (fs : List Tmp) (FS : Tmp → Value → World → Prop) (Pr : Tmp → Value → Tmp → Value → Prop) (o : Oper) (w : World) : Tmp → Value → World → Prop := fun d u W =>
  FS d u W ∧ (o.dst = some d → ∀ d' ∈ fs, d' ≠ d → ∀ x', FS d' x' w → Pr d u d' x' ∧ Pr d' x' d u)
def PrI (l : List Oper) (fs : List Tmp) (Pr : Tmp → Value → Tmp → Value → Prop) (listed : Array Bool) (b : Act) : Prop :=
  ∀ d ∈ fs, ∀ d' ∈ fs, d ≠ d' → (∃ (j : Nat) (o : Oper), l[j]? = some o ∧ listed.getD j true = true ∧ o.dst = some d) → (∃ (j : Nat) (o : Oper), l[j]? = some o ∧ listed.getD j true = true ∧ o.dst = some d') →
    ∀ x x', b.tmps[d]? = some x → b.tmps[d']? = some x' → Pr d x d' x'
/-- the walk in the text's order -/
def wpP (P : Program) (ops : Array Oper) (I : World → Prop) (fs : List Tmp) (FS : Tmp → Value → World → Prop) (Pr : Tmp → Value → Tmp → Value → Prop) (E : Act → Prop) : List Oper → Act → Prop
  | [], a => E a
  | o :: r, a => ∃ v, (∀ w, I w → Ob P ops (fun W => W = w) fs (FpO fs FS Pr o w) o v a) ∧ wpP P ops I fs FS Pr E r (a.put o.dst v)
theorem wpP_vals {ops : Array Oper} {E : Act → Prop} : ∀ (l : List Oper) (a : Act), wpP P ops I fs FS Pr E l a → ∃ vs : List Value, vs.length = l.length ∧
    (∀ (k : Nat) o v, l[k]? = some o → vs[k]? = some v → ∀ w, I w → Ob P ops (fun W => W = w) fs (FpO fs FS Pr o w) o v (lex l vs a k)) ∧ E (lex l vs a l.length)
  | [], a, h => ⟨[], rfl, by simp, h⟩
  | o :: r, a, ⟨v, hob, hr⟩ => by
    obtain ⟨vs, h1, h2, h3⟩ := wpP_vals r _ hr
    refine ⟨v :: vs, by simp [h1], fun k o' v' ho hv => ?_, h3⟩
    cases k with
    | zero =>
      simp only [List.getElem?_cons_zero, Option.some.injEq] at ho hv
      subst ho hv
      exact hob
    | succ k =>
      simp only [List.getElem?_cons_succ] at ho hv
      exact h2 k o' v' ho hv
theorem PrI.next {N : Nat} (hR : RG .any l.toArray N) (hN : N ≤ a0.tmps.size) (hlen : vs.length = l.length) {listed : Array Bool} {b : Act} {w : World} {i : Nat} {o : Oper} {u : Value} (h : Inv l vs fs FS I a0 listed b w) (hp : PrI l fs Pr listed b) (ho : l[i]? = some o) (_hun : listed.getD i true = false)
    (hu : ∀ d, o.dst = some d → d ∈ fs → ∀ d' ∈ fs, d' ≠ d → ∀ x', FS d' x' w → Pr d u d' x' ∧ Pr d' x' d u) : PrI l fs Pr (listed.setIfInBounds i true) (b.put o.dst u) := by
  have ho' : l.toArray[i]? = some o := by simpa using ho
  have key : ∀ d, (∃ (j : Nat) (oj : Oper), l[j]? = some oj ∧ (listed.setIfInBounds i true).getD j true = true ∧ oj.dst = some d) → (o.dst = some d) ∨ ((∃ (j : Nat) (oj : Oper), l[j]? = some oj ∧ listed.getD j true = true ∧ oj.dst = some d) ∧ o.dst ≠ some d) := by
    rintro d ⟨j, oj, hj, hlj, hd⟩
    by_cases hij : i = j
    · subst hij
      obtain rfl : o = oj := Option.some.inj (ho.symm.trans hj)
      exact .inl hd
    · rw [getD_set_far _ hij] at hlj
      exact .inr ⟨⟨j, oj, hj, hlj, hd⟩, hR.once i j o oj d ho' (by simpa using hj) hd hij⟩
  have got : ∀ d ∈ fs, (∃ (j : Nat) (oj : Oper), l[j]? = some oj ∧ listed.getD j true = true ∧ oj.dst = some d) → ∀ x, b.tmps[d]? = some x → FS d x w := by
    rintro d hd ⟨j, oj, hj, hlj, hdj⟩ x hx
    obtain ⟨v, hv⟩ : ∃ v, vs[j]? = some v := ⟨_, List.getElem?_eq_getElem (by rw [hlen]; exact (List.getElem?_eq_some_iff.1 hj).1)⟩
    obtain ⟨y, hy, hf⟩ := (h.ins j oj d v hj hlj hdj hv).1 hd
    obtain rfl : x = y := Option.some.inj (hx.symm.trans hy)
    exact hf
  have same : ∀ d x, o.dst = some d → (b.put o.dst u).tmps[d]? = some x → x = u := fun d x hd hx => by
    have hlt : d < b.tmps.size := by rw [h.size]; exact Nat.lt_of_lt_of_le (hR.small i o d ho' hd) hN
    rw [hd, put_same u hlt] at hx
    exact (Option.some.inj hx).symm
  intro d hd d' hd' hne h1 h2 x x' hx hx'
  rcases key d h1 with e1 | ⟨h1, e1⟩
  · rcases key d' h2 with e2 | ⟨h2, e2⟩
    · exact absurd (Option.some.inj (e1.symm.trans e2)) hne
    · rw [put_other u e2] at hx'
      obtain rfl := same d x e1 hx
      exact (hu d e1 hd d' hd' (Ne.symm hne) x' (got d' hd' h2 x' hx')).1
  · rcases key d' h2 with e2 | ⟨h2, e2⟩
    · rw [put_other u e1] at hx
      obtain rfl := same d' x' e2 hx'
      exact (hu d' e2 hd' d hd hne x (got d hd h1 x hx)).2
    · rw [put_other u e1] at hx
      rw [put_other u e2] at hx'
      exact hp d hd d' hd' hne h1 h2 x x' hx hx'

theorem any_of_FTP {N n : Nat} {Q' : Exit → Act → World → Prop} (hR : RG .any l.toArray N) (hN : N ≤ a0.tmps.size) (hlen : vs.length = l.length) (hI : Closed I) (hF : ∀ s x w w', FS s x w → Below w.heap.size w w' → FS s x w')
    (hob : ∀ (j : Nat) o v, j < n → l[j]? = some o → vs[j]? = some v → ∀ w, I w → Ob P l.toArray (fun W => W = w) fs (FpO fs FS Pr o w) o v (lex l vs a0 j)) (hn : n < l.length) (hs : Region.sinkB .any l.toArray n = true) (hc : Region.chainB .any l.toArray n = true)
    (hQ : ∀ (listed : Array Bool) b w, (∀ j, j < n → listed.getD j true = true) → (∀ t, n ≤ t → t < l.length → listed.getD t true = false) → Inv l vs fs FS I a0 listed b w → PrI l fs Pr listed b → wpAny P .any l.toArray Q' (l.length - n) listed b w) :
    ∀ (f : Nat) (listed : Array Bool) (b : Act) (w : World), (listed.toList.take n).count false = f → HeadInv .any l.toArray n listed → Inv l vs fs FS I a0 listed b w → PrI l fs Pr listed b → wpAny P .any l.toArray Q' (f + (l.length - n)) listed b w
  | 0, listed, b, w, hcn, hh, h, hpr => by
    rw [Nat.zero_add]
    exact hQ listed b w (fun j hj => count_take_zero hcn j hj) (fun t h1 h2 => hh.tail t h1 (by simpa using h2)) h hpr
  | f + 1, listed, b, w, hcn, hh, h, hpr => by
    obtain ⟨i0, hi0, hu0⟩ := count_take_pos hcn
    rw [show f + 1 + (l.length - n) = (f + (l.length - n)) + 1 by omega]
    refine ⟨fun h0 => ?_, fun i hi => ?_⟩
    · have hall := ready_all hR h.lsize h0
      rw [hall i0] at hu0
      cases hu0
    have hin : i < n := by
      rcases Nat.lt_or_ge i n with h1 | h1
      · exact h1
      · exact absurd hi (tail_waits hs hc (by simpa using hn) hh _ i0 rfl hi0 hu0 i h1)
    obtain ⟨hun, o, ho, hall⟩ := mem_ready.1 hi
    have ho2 : l[i]? = some o := by simpa using ho
    have hp : ∀ e ∈ o.after, Region.binds .any e = true → listed.getD e.on true = true := fun e he hb => by
      have h1 := hall e he hb
      rw [Array.getD_eq_getD_getElem?] at h1 ⊢
      cases hx : listed[e.on]? with
      | none => rfl
      | some y => rw [hx] at h1; simpa using h1
    obtain ⟨v, hv⟩ : ∃ v, vs[i]? = some v := ⟨_, List.getElem?_eq_getElem (by rw [hlen]; exact (List.getElem?_eq_some_iff.1 ho2).1)⟩
    have hcnt := count_take hin hun
    have h' : Inv l vs fs (FpO fs FS Pr o w) (fun W => W = w) a0 listed b w := ⟨rfl, h.size, h.defers, h.out, fun j oj d v hj hlj hdj hv => by
      obtain ⟨g1, g2⟩ := h.ins j oj d v hj hlj hdj hv
      refine ⟨fun hd => ?_, g2⟩
      obtain ⟨x, hx, hf⟩ := g1 hd
      refine ⟨x, hx, hf, fun e => ?_⟩
      have hij : i ≠ j := fun e2 => by subst e2; rw [hun] at hlj; cases hlj
      exact absurd e (hR.once i j o oj d ho (by simpa using hj) hdj hij), h.down, h.lsize⟩
    exact op_of_F hR hN hlen h' ho2 hun hp hv (hob i o v hin ho2 hv w h.cls) fun u w' hb hu =>
      any_of_FTP hR hN hlen hI hF hob hn hs hc hQ f _ _ w' (by omega) (hh.set hi hin) (h.next hR hN hI hF ho2 hp hb fun d hd => ⟨fun hf => ((hu d hd).1 hf).1, (hu d hd).2⟩)
        (hpr.next hR hN hlen h ho2 hun fun d hd hf => ((hu d hd).1 hf).2 hd)
/-- ONE WALK IN THE TEXT's ORDER SERVES EVERY ORDER; the tail, behind place n, as it stands; what sources have given is known pair by pair -/
theorem wp_region_FTP {id : Nat} {Q : Exit → Act → World → Prop} {a : Act} {w : World} {l : List Oper} (N n : Nat) (fs : List Tmp) (FS : Tmp → Value → World → Prop) (Pr : Tmp → Value → Tmp → Value → Prop) (I : World → Prop) (hm : P.follows .mixedOrders = true) (hB : rgB .any l.toArray N = true)
    (hn : decide (n < l.length) = true) (hs : Region.sinkB .any l.toArray n = true) (hc : Region.chainB .any l.toArray n = true)
    (hq : Region.seqB .any l.toArray (l.length - n) n (List.replicate n true ++ List.replicate (l.length - n) false).toArray = true)
    (hfs : (fs.all fun s => (l.take n).any fun o => o.dst == some s) = true) (hN : N ≤ a.tmps.size) (hI : Closed I) (hF : ∀ s x w w', FS s x w → Below w.heap.size w w' → FS s x w') (hC : I w.drew)
    (h : wpP P l.toArray I fs FS Pr (fun a' => ∀ xs w', I w' → (∀ s ∈ fs, FS s (xs s) w') → (∀ s ∈ fs, ∀ s' ∈ fs, s ≠ s' → Pr s (xs s) s' (xs s')) → wpList P l.toArray Q (l.drop n) (fill fs xs a') w') (l.take n) a) : (Code.region id l.toArray true).wp P Q a w := by
  have hR := rgB_spec hB
  have hn' : n < l.length := by simpa using hn
  obtain ⟨vs0, hlen0, hob0, hE0⟩ := wpP_vals (l.take n) a h
  have htl : (l.take n).length = n := by rw [List.length_take]; omega
  rw [htl] at hlen0 hE0
  obtain ⟨vs, hvs⟩ : ∃ vs, vs0 ++ List.replicate (l.length - n) undef = vs := ⟨_, rfl⟩
  have hlen : vs.length = l.length := by rw [← hvs, List.length_append, List.length_replicate]; omega
  have hlex : ∀ j, j ≤ n → lex (l.take n) vs0 a j = lex l vs a j := fun j hj => by rw [← hvs]; exact lex_take l vs0 _ a n j hj (by rw [hlen0, htl])
  have hob : ∀ (j : Nat) o v, j < n → l[j]? = some o → vs[j]? = some v → ∀ w, I w → Ob P l.toArray (fun W => W = w) fs (FpO fs FS Pr o w) o v (lex l vs a j) := fun j o v hj ho hv => by
    rw [← hlex j (by omega)]
    refine hob0 j o v (by rw [List.getElem?_take, if_pos hj]; exact ho) ?_
    rw [← hvs, List.getElem?_append_left (by omega)] at hv
    exact hv
  rw [hlex n (Nat.le_refl _)] at hE0
  have inv0 : HeadInv .any l.toArray n (Array.replicate l.toArray.size false) :=
    ⟨by simp, fun j oj _ hl => (by rw [getD_replicate_false] at hl; cases hl), fun t _ ht => getD_in (by simpa using ht) (getD_replicate_false _ _)⟩
  refine wp_region_any hm ?_
  have key := any_of_FTP (Q' := Q) (l := l) (vs := vs) (fs := fs) (FS := FS) (Pr := Pr) (I := I) (a0 := a) (n := n) hR hN hlen hI hF hob hn' hs hc ?_ n (Array.replicate l.toArray.size false) a w.drew (by
      simp only [List.size_toArray, Array.toList_replicate, List.take_replicate, List.count_replicate_self]; omega) inv0 ?_ ?_
  · rw [show n + (l.length - n) = l.toArray.size by simp; omega] at key
    exact key
  · intro listed b W hall hno hinv hpr
    have hls : ∀ s ∈ fs, ∃ (j : Nat) (o : Oper), l[j]? = some o ∧ listed.getD j true = true ∧ o.dst = some s := fun s hs => by
      rw [List.all_eq_true] at hfs
      have h1 := hfs s hs
      rw [List.any_eq_true] at h1
      obtain ⟨o, ho, hd⟩ := h1
      obtain ⟨j, hj, rfl⟩ := List.getElem_of_mem ho
      have hj1 : j < n := by rw [List.length_take] at hj; omega
      have hj2 : j < l.length := by omega
      exact ⟨j, l[j], List.getElem?_eq_getElem hj2, hall j hj1, by simpa using hd⟩
    have hw : ∀ s ∈ fs, ∃ x, b.tmps[s]? = some x ∧ FS s x W := fun s hs => by
      rw [List.all_eq_true] at hfs
      have h1 := hfs s hs
      rw [List.any_eq_true] at h1
      obtain ⟨o, ho, hd⟩ := h1
      obtain ⟨j, hj, rfl⟩ := List.getElem_of_mem ho
      have hj1 : j < n := by rw [List.length_take] at hj; omega
      have hj2 : j < l.length := by omega
      have hd' : (l[j]).dst = some s := by simpa using hd
      obtain ⟨v, hv⟩ : ∃ v, vs[j]? = some v := ⟨_, List.getElem?_eq_getElem (by rw [hlen]; exact hj2)⟩
      exact (hinv.ins j l[j] s v (List.getElem?_eq_getElem hj2) (hall j hj1) hd' hv).1 hs
    have hb : b = fill fs (fun s => b.tmps.getD s undef) (lex l vs a n) := by
      have ht : b.tmps = (fill fs (fun s => b.tmps.getD s undef) (lex l vs a n)).tmps := by
        apply Array.ext_getElem?
        intro d
        by_cases hd : d ∈ fs
        · obtain ⟨x, hx, _⟩ := hw d hd
          have hlt : d < (lex l vs a n).tmps.size := by
            rw [(lex_size l vs a n).1, ← hinv.size]
            exact (Array.getElem?_eq_some_iff.1 hx).1
          rw [fill_in fs _ _ d hd hlt, hx]
          simp [hx]
        · rw [fill_out fs _ _ d hd]
          by_cases hwr : ∃ (j : Nat) (oj : Oper), j < n ∧ l[j]? = some oj ∧ oj.dst = some d
          · obtain ⟨j, oj, hjn, hj, hdj⟩ := hwr
            obtain ⟨v, hv⟩ : ∃ v, vs[j]? = some v := ⟨_, List.getElem?_eq_getElem (by rw [hlen]; exact (List.getElem?_eq_some_iff.1 hj).1)⟩
            have hj' : l.toArray[j]? = some oj := by simpa using hj
            rw [(hinv.ins j oj d v hj (hall j hjn) hdj hv).2 hd]
            exact (lex_in l vs a n j oj d v hj hjn hv hdj (Nat.lt_of_lt_of_le (hR.small _ _ _ hj' hdj) hN) fun i oi hi _ hne => hR.once i j oi oj d (by simpa using hi) hj' hdj hne).symm
          · rw [lex_out l vs a n d fun i oi hi hin hdi => hwr ⟨i, oi, hin, hi, hdi⟩]
            refine hinv.out d fun i oi hi hli hdi => hwr ⟨i, oi, ?_, hi, hdi⟩
            rcases Nat.lt_or_ge i n with h1 | h1
            · exact h1
            · rw [hno i h1 (List.getElem?_eq_some_iff.1 hi).1] at hli; cases hli
      have hd : b.defers = (fill fs (fun s => b.tmps.getD s undef) (lex l vs a n)).defers := by
        rw [(fill_size ..).2, (lex_size ..).2]
        exact hinv.defers
      cases b
      simp only at ht hd
      rw [Act.mk.injEq]
      exact ⟨ht, hd⟩
    have hL : listed = (List.replicate n true ++ List.replicate (l.length - n) false).toArray := by
      apply Array.ext
      · simp [hinv.lsize]; omega
      · intro j h1 h2
        have hj : j < l.length := by rw [← hinv.lsize]; exact h1
        by_cases hjn : j < n
        · have h3 := hall j hjn
          rw [Array.getD_eq_getD_getElem?, Array.getElem?_eq_getElem h1] at h3
          simp only [List.getElem_toArray]
          rw [List.getElem_append_left (by simpa using hjn)]
          simpa using h3
        · have h3 := hno j (by omega) hj
          rw [Array.getD_eq_getD_getElem?, Array.getElem?_eq_getElem h1] at h3
          simp only [List.getElem_toArray]
          rw [List.getElem_append_right (by simpa using Nat.le_of_not_lt hjn)]
          simpa using h3
    have hE := hE0 (fun s => b.tmps.getD s undef) W hinv.cls fun s hs => by
      obtain ⟨x, hx, hf⟩ := hw s hs
      simpa [hx] using hf
    have hE := hE fun s hs s' hs' hne => by
      obtain ⟨x, hx, _⟩ := hw s hs
      obtain ⟨x', hx', _⟩ := hw s' hs'
      have := hpr s hs s' hs' hne (hls s hs) (hls s' hs') x x' hx hx'
      simpa [hx, hx'] using this
    rw [← hb] at hE
    have := wpAny_of_seq (md := .any) (Q' := Q) (l.drop n) n listed b W (fun j => by simp [List.getElem?_drop]) (by rw [List.length_drop, hL]; exact hq) hE
    rwa [List.length_drop] at this
  · refine ⟨hC, rfl, rfl, fun _ _ => rfl, fun j o d v hj hlj => ?_, fun j o hj hlj => ?_, by simp⟩
    all_goals
      have hlt := (List.getElem?_eq_some_iff.1 hj).1
      rw [Array.getD_eq_getD_getElem?] at hlj
      simp [hlt] at hlj
  · rintro d _ d' _ _ ⟨j, o, hj, hlj, _⟩
    have hlt := (List.getElem?_eq_some_iff.1 hj).1
    rw [Array.getD_eq_getD_getElem?] at hlj
    simp [hlt] at hlj
end
/-! one operation of the walk -/
section
variable {P : Program} {l : List Oper} {fs : List Tmp} {FS : Tmp → Value → World → Prop} {Pr : Tmp → Value → Tmp → Value → Prop} {I : World → Prop} {E : Act → Prop} {o : Oper} {rest : List Oper} {a : Act}
def noSrcB (o : Oper) (fs : List Tmp) : Bool := match o.dst with | some d => !fs.contains d | none => true
/-- one that is no source: as in XQ6's walk -/
theorem wpP_F (hd : noSrcB o fs = true) (h : wpF P l.toArray I fs FS (fun a' => wpP P l.toArray I fs FS Pr E rest a') [o] a) : wpP P l.toArray I fs FS Pr E (o :: rest) a := by
  obtain ⟨v, hob, hr⟩ := h
  have hno : ∀ d, o.dst = some d → d ∉ fs := fun d hd' => by
    unfold noSrcB at hd
    rw [hd'] at hd
    simpa using hd
  refine ⟨v, fun w hI => ?_, hr⟩
  rcases hob with ⟨h1, h2, hcalm⟩ | ⟨s, hs, hds, h1, hwt, hsrc⟩ | ⟨s, hs, hj, h1, h2, huse⟩ | ⟨s, R, hs, hds, hRs, h1, hmix⟩
  · refine .inl ⟨h1, h2, ?_⟩
    rcases hcalm with ⟨hw, hv⟩ | hw
    · exact .inl ⟨hw, fun w' e => by subst e; exact hv _ hI⟩
    · exact .inr hw
  · exact absurd hs (hno s hds)
  · exact .inr (.inr (.inl ⟨s, hs, hj, h1, h2, fun x w' e hx => by subst e; exact huse x _ hI hx.1⟩))
  · exact absurd hs (hno s hds)
theorem wpF_end {ops : Array Oper} {E : Act → Prop} (h : E a) : wpF P ops I fs FS E [] a := h
/-- a source -/
theorem wpP_src (s : Tmp) (hs : s ∈ fs) (hd : o.dst = some s) (hn : ((o.looksAt l.toArray).all fun d => !fs.contains d) = true) (hw : Region.wanted o (yielded l.toArray a.tmps) = true)
    (hrun : ∀ w, I w → srcUpon P (fun u W => FS s u W ∧ ∀ d' ∈ fs, d' ≠ s → ∀ x', FS d' x' w → Pr s u d' x' ∧ Pr d' x' s u) w ((execOp a.eval o).run P w))
    (h : wpP P l.toArray I fs FS Pr E rest (a.put o.dst undef)) : wpP P l.toArray I fs FS Pr E (o :: rest) a := by
  refine ⟨undef, fun w hI => .inr (.inl ⟨s, hs, hd, fun d hd' hf => ?_, hw, fun w' e => ?_⟩), h⟩
  · rw [List.all_eq_true] at hn
    have := hn d hd'
    simp at this
    exact this hf
  · subst e
    have h3 := hrun w' hI
    generalize (execOp a.eval o).run P w' = r at h3
    cases r with
    | ok n w2 =>
      cases n <;> simp only [srcUpon] at h3 ⊢
      case value u => exact ⟨⟨h3.1.1, fun _ => h3.1.2⟩, h3.2⟩
      case enter f args =>
        obtain ⟨rfl, hcc⟩ := h3
        exact ⟨rfl, hcc.mono fun e w'' ⟨u, he, hf, hb⟩ => ⟨u, he, ⟨hf.1, fun _ => hf.2⟩, hb⟩⟩
    | halt x w2 => simp only [srcUpon] at h3
/-- .. that makes memory -/
theorem wpP_new (s : Tmp) (hs : s ∈ fs) (hd : o.dst = some s) (hn : ((o.looksAt l.toArray).all fun d => !fs.contains d) = true) (hw : Region.wanted o (yielded l.toArray a.tmps) = true)
    (hrun : ∀ w, I w → ∃ u w', (execOp a.eval o).run P w = .ok (.value u) w' ∧ FS s u w' ∧ Below w.heap.size w w' ∧ ∀ d' ∈ fs, d' ≠ s → ∀ x', FS d' x' w → Pr s u d' x' ∧ Pr d' x' s u)
    (h : wpP P l.toArray I fs FS Pr E rest (a.put o.dst undef)) : wpP P l.toArray I fs FS Pr E (o :: rest) a :=
  wpP_src s hs hd hn hw (fun w hI => by
    obtain ⟨u, w', hr, h1, h2, h3⟩ := hrun w hI
    rw [hr]
    exact ⟨⟨h1, h3⟩, h2⟩) h
/-- .. that is a call -/
theorem wpP_callsrc (s : Tmp) {f : FuncId} {args : Array Value} (hs : s ∈ fs) (hd : o.dst = some s) (hn : ((o.looksAt l.toArray).all fun d => !fs.contains d) = true) (hw : Region.wanted o (yielded l.toArray a.tmps) = true)
    (hrun : ∀ w, (execOp a.eval o).run P w = .ok (.enter f args) w) (hc : ∀ w, I w → Calls P f args w fun e w'' => ∃ u, e = .returned u ∧ FS s u w'' ∧ Below w.heap.size w w'')
    (hpr : ∀ u, ∀ d' ∈ fs, d' ≠ s → ∀ x', Pr s u d' x' ∧ Pr d' x' s u)
    (h : wpP P l.toArray I fs FS Pr E rest (a.put o.dst undef)) : wpP P l.toArray I fs FS Pr E (o :: rest) a :=
  wpP_src s hs hd hn hw (fun w hI => by
    rw [hrun w]
    exact ⟨rfl, (hc w hI).mono fun e w'' ⟨u, he, hf, hb⟩ => ⟨u, he, ⟨hf, fun d' h1 h2 x' _ => hpr u d' h1 h2 x'⟩, hb⟩⟩) h
end
end Go.Proofs.Ytlbfibnfmijahaa

namespace Go.Proofs.Ytlbfibnfmijahaa
open Go.RowKit Go.Shelf
set_option maxRecDepth 100000
attribute [local go_sem] Oper.semAt_some

def likeF (M N : Mg) (f : Fd) : Bool := if f.so = 6 then decide (M.tg = N.tg) else decide (M.at' f.pl.toNat = N.at' f.pl.toNat)
set_option maxHeartbeats 4000000 in
theorem alike_any (M N : Mg) (f : Fd) (P C P' C' : Value) (w : World) (hf : (f.so = 1 ∧ ∃ jj : Nat, jj < 6 ∧ f.pl = (jj : Int)) ∨ (f.so = 6 ∧ f.pl = -1)) : Calls Try.prog 30 #[.agg (mC M P C), .agg (mC N P' C'), f.v] w fun e w' => e = .returned (.bool (likeF M N f)) ∧ Below w.heap.size w w' := by
  obtain ⟨w2, hw2⟩ : ∃ w2, ((w.alloc (.cells (mC M P C) 33)).alloc (.cells (mC N P' C') 33)).alloc (.cells f.cs 75) = w2 := ⟨_, rfl⟩
  have hb2 : Below w.heap.size w w2 := by rw [← hw2]; exact (((Below.refl _ w).alloc (Nat.le_refl _) _).alloc (by simp) _).alloc (by simp; omega) _
  have q0 : w2.heap[w.heap.size]? = some (.cells (mC M P C) 33 (0, 0)) := by
    rw [← hw2, Below.heap_alloc _ _ _ (by simp; omega), Below.heap_alloc _ _ _ (by simp)]; exact World.alloc_heap_new _ _
  have q1 : w2.heap[w.heap.size + 1]? = some (.cells (mC N P' C') 33 (0, 0)) := by
    rw [← hw2, Below.heap_alloc _ _ _ (by simp)]
    have := World.alloc_heap_new (w.alloc (.cells (mC M P C) 33)) (.cells (mC N P' C') 33)
    rwa [World.size_alloc] at this
  have q2 : w2.heap[w.heap.size + 1 + 1]? = some (.cells f.cs 75 (0, 0)) := by
    rw [← hw2]
    have := World.alloc_heap_new ((w.alloc (.cells (mC M P C) 33)).alloc (.cells (mC N P' C') 33)) (.cells f.cs 75)
    rwa [World.size_alloc, World.size_alloc] at this
  obtain ⟨_, d1, d2, _, _, _, _⟩ := fd_block q2
  have HW2 := Lib.hid hw2
  have HB2 := Lib.hid hb2
  unfold likeF
  rcases hf with ⟨hso, jj, hj6, hpl⟩ | ⟨hso, hpl⟩
  · have k0 := mg_at q0 hj6
    have k1 := mg_at q1 hj6
    rw [hso] at d1
    rw [hpl] at d2
    rw [if_neg (by omega), hpl, Int.toNat_natCast]
    obtain ⟨x, hx⟩ : ∃ x, M.at' jj = x := ⟨_, rfl⟩
    obtain ⟨y, hy⟩ : ∃ y, N.at' jj = y := ⟨_, rfl⟩
    rw [hx] at k0 ⊢
    rw [hy] at k1 ⊢
    have hz6 : (jj : Int) < 6 := by omega
    have hz0 : (0 : Int) ≤ (jj : Int) := by omega
    rw [← hw2] at d1 d2 k0 k1
    clear hx hy hw2 hb2 q0 q1 q2 hso hpl
    unfold Fd.v
    go_enter Try.func30, Try.ntmps30
    go_wp2_with fail
    go_quiet (fail)
    rw [HW2.out]
    go_wp2
    go_ret
    refine ⟨?_, below_drewN HB2.out _⟩
    rw [show decide (x = y) = (x == y) by by_cases h : x = y <;> simp [h]]
    rfl
  · have k0 := row_cell q0 10 (.string M.tg) rfl
    have k1 := row_cell q1 10 (.string N.tg) rfl
    rw [hso] at d1
    rw [if_pos hso]
    obtain ⟨x, hx⟩ : ∃ x, M.tg = x := ⟨_, rfl⟩
    obtain ⟨y, hy⟩ : ∃ y, N.tg = y := ⟨_, rfl⟩
    rw [hx] at k0 ⊢
    rw [hy] at k1 ⊢
    rw [← hw2] at d1 k0 k1
    clear hx hy hw2 hb2 q0 q1 q2 d2 hso hpl
    unfold Fd.v
    by_cases hxy : x = y
    · subst hxy
      rw [decide_eq_true rfl]
      go_enter Try.func30, Try.ntmps30
      go_wp2
      go_ret
      refine ⟨rfl, ?_⟩
      rw [HW2.out]
      exact HB2.out
    · rw [decide_eq_false hxy]
      have hne := str_ne hxy
      go_enter Try.func30, Try.ntmps30
      go_wp2
      go_ret
      refine ⟨rfl, ?_⟩
      rw [HW2.out]
      exact HB2.out

theorem lost_func (p q : Nat) (w : World) : (Instr.makeFunc (.func 28) #[] #[.pointer (some ⟨p, 0, none⟩), .pointer (some ⟨q, 0, none⟩)]).run Try.prog w = .ok (.func (.func 28) #[] #[.pointer (some ⟨p, 0, none⟩), .pointer (some ⟨q, 0, none⟩)]) w := by
  kernel_rfl
/-- a message box of the call's own -/
def LBx (B : Nat) (x : Value) (W : World) : Prop := ∃ g, x = .pointer (some ⟨g, 0, none⟩) ∧ B ≤ g ∧ W.heap[g]? = some (.cells #[.int .i64 0, .int .i64 0, .int .i64 0, .int .i64 0, .int .i64 0, .int .i64 0, .int .i64 0, .slice none 0 0, .slice none 0 0, .string ⟨#[]⟩, .string ⟨#[]⟩] 33 (0, 0))
def LMs (M : Mg) (x : Value) : Prop := ∃ a n c a' n' c', x = mV M (.slice a n c) (.slice a' n' c')
def FLo (B : Nat) (M N : Mg) (s : Tmp) (x : Value) (W : World) : Prop := (s = 11 → LMs M x) ∧ (s = 14 → LMs N x) ∧ (s = 5 ∨ s = 6 → LBx B x W)
def PLo (s : Tmp) (x : Value) (s' : Tmp) (x' : Value) : Prop := s = 5 ∨ s = 6 → s' = 5 ∨ s' = 6 → x ≠ x'
theorem FLo.later {B : Nat} {M N : Mg} {s : Tmp} {x : Value} {W W' : World} (h : FLo B M N s x W) (hb : Below W.heap.size W W') : FLo B M N s x W' := ⟨h.1, h.2.1, fun e => by
  obtain ⟨g, h1, h2, h3⟩ := h.2.2 e
  exact ⟨g, h1, h2, (hb.block _ (Array.getElem?_eq_some_iff.1 h3).1).trans h3⟩⟩
theorem FMs.two {M : Mg} {x : Value} {W : World} (h : FMs M x W) : LMs M x := by
  obtain ⟨P, C, rfl, ⟨⟨a, c, rfl, _, _⟩, ⟨a', c', rfl, _, _⟩⟩⟩ := h
  exact ⟨_, _, _, _, _, _, rfl⟩
theorem lbx_new (B : Nat) (M N : Mg) (s : Tmp) (hs : s = 5 ∨ s = 6) (fs : List Tmp) {w : World} (hB : B ≤ w.heap.size) : FLo B M N s (.pointer (some ⟨w.heap.size, 0, none⟩)) (w.alloc (.cells #[.int .i64 0, .int .i64 0, .int .i64 0, .int .i64 0, .int .i64 0, .int .i64 0, .int .i64 0, .slice none 0 0, .slice none 0 0, .string ⟨#[]⟩, .string ⟨#[]⟩] 33)) ∧ Below w.heap.size w (w.alloc (.cells #[.int .i64 0, .int .i64 0, .int .i64 0, .int .i64 0, .int .i64 0, .int .i64 0, .int .i64 0, .slice none 0 0, .slice none 0 0, .string ⟨#[]⟩, .string ⟨#[]⟩] 33)) ∧
    ∀ d' ∈ fs, d' ≠ s → ∀ x', FLo B M N d' x' w → PLo s (.pointer (some ⟨w.heap.size, 0, none⟩)) d' x' ∧ PLo d' x' s (.pointer (some ⟨w.heap.size, 0, none⟩)) := by
  refine ⟨⟨fun e => by rcases hs with rfl | rfl <;> exact absurd e (by decide), fun e => by rcases hs with rfl | rfl <;> exact absurd e (by decide), fun _ => ⟨_, rfl, hB, World.alloc_heap_new _ _⟩⟩, (Below.refl _ _).alloc (Nat.le_refl _) _, fun d' _ _ x' hx => ?_⟩
  have key : d' = 5 ∨ d' = 6 → x' ≠ .pointer (some ⟨w.heap.size, 0, none⟩) := fun h e => by
    obtain ⟨g, h1, _, h3⟩ := hx.2.2 h
    rw [h1] at e
    injection e with e
    injection e with e
    injection e with e
    subst e
    have := (Array.getElem?_eq_some_iff.1 h3).1
    omega
  exact ⟨fun _ h e => key h e.symm, fun h _ e => key h e⟩
set_option maxHeartbeats 8000000 in
theorem slost_yes (M : Mg) (P C : Value) (v : Int) (w : World) (hs : Msm M) (h1 : MAt w w.heap.size M P C) (hE : mck M = 0) : Calls Try.prog 16 #[mV M P C, .int .i64 v] w fun e w' => ∃ b d P1 C1 P2 C2, e = .returned (.func (.func 28) #[] #[.pointer (some ⟨b, 0, none⟩), .pointer (some ⟨d, 0, none⟩)]) ∧ w.heap.size ≤ b ∧ w.heap.size ≤ d ∧ w'.heap[b]? = some (.cells (mC M P1 C1) 33 (0, 0)) ∧ w'.heap[d]? = some (.cells (mC (mproj M v) P2 C2) 33 (0, 0)) ∧ Below w.heap.size w w' := by
  obtain ⟨w2, hw2⟩ : ∃ w2, w.alloc (.cells (mC M P C) 33) = w2 := ⟨_, rfl⟩
  have hb2 : Below w.heap.size w w2 := by rw [← hw2]; exact (Below.refl _ w).alloc (Nat.le_refl _) _
  have q0 : w2.heap[w.heap.size]? = some (.cells (mC M P C) 33 (0, 0)) := by rw [← hw2]; exact World.alloc_heap_new _ _
  have hlt := (Array.getElem?_eq_some_iff.1 q0).1
  have KC : Calls Try.prog 22 #[.agg (mC M P C)] w2 fun e w' => e = .returned (.int .i64 (mck M)) ∧ Below w2.heap.size w2 w' := chk_F hs ⟨P, C, rfl, h1.later hb2⟩
  rw [hE] at KC
  have KC := Lib.hid KC
  have LM := Lib.hid (mg_read q0)
  have HW2 := Lib.hid hw2
  have HB2 := Lib.hid hb2
  have HQ := Lib.hid q0
  have HFM : Hid (∀ W, Below w2.heap.size w2 W → FMs M (.agg (mC M P C)) W) := Lib.hid fun W hW => ⟨P, C, rfl, (h1.later hb2).later hW⟩
  obtain ⟨N, hN⟩ : ∃ N, mproj M v = N := ⟨_, rfl⟩
  rw [hN]
  clear hw2 hb2 q0 h1 hE
  unfold mV at *
  go_enter Try.func16, Try.ntmps16
  go_wp2_with (rw [HW2.out]; refine wpList_load_run rfl 33 (.tmp 2) rfl (some ⟨w.heap.size, 0, none⟩) rfl (.agg (mC M P C)) LM.out ?_)
  refine KC.out.mono ?_
  rintro e w3 ⟨rfl, hb3⟩
  have HB3 := Lib.hid hb3
  have LM3 : ∀ W, Below w3.heap.size w3 W → (Instr.loadAt 33 (.pointer (some ⟨w.heap.size, 0, none⟩))).run Try.prog W = .ok (.agg (mC M P C)) W := fun W hW => mg_read (((hb3.trans (hW.mono hb3.size)).block _ hlt).trans HQ.out)
  have FM3 : ∀ W, Below w3.heap.size w3 W → FMs M (.agg (mC M P C)) W := fun W hW => HFM.out W (hb3.trans (hW.mono hb3.size))
  clear hb3 KC LM
  go_wp2_with fail
  refine wp_region_FTP 16 7 [11, 14, 5, 6] (FLo w3.heap.size M N) PLo (fun W => Below w3.heap.size w3 W) (by kernel_rfl) (by kernel_rfl) (by rfl) (by kernel_rfl) (by kernel_rfl) (by kernel_rfl) (by rfl) (by simp) (fun W W' h hb => h.trans (hb.mono h.size)) (fun s x W W' h hb => h.later hb) (Below.refl _ _).drew ?_
  simp only [List.take_succ_cons, List.take_zero, List.drop_succ_cons, List.drop_zero]
  refine wpP_F rfl ?_
  refine wpF_load (ad := ⟨w.heap.size, 0, none⟩) (.agg (mC M P C)) rfl (by rfl) (by rfl) (by rfl) LM3 ?_
  refine wpF_end ?_
  simp only [Act.put, List.setIfInBounds_toArray, List.set_cons_succ, List.set_cons_zero]
  refine wpP_callsrc 11 (f := 26) (args := #[.agg (mC M P C)]) (by simp) rfl rfl rfl (fun x => by first | rfl | (simp [go_sem]; done)) (fun W hW => (copy_F hs (FM3 W hW)).mono fun e w' h => by
    obtain ⟨u, e1, h2, h3⟩ := h
    exact ⟨u, e1, ⟨fun _ => h2.two, fun e => absurd e (by decide), fun e => absurd e (by decide)⟩, h3⟩) (fun u d' _ _ x' => ⟨fun e => absurd e (by decide), fun _ e => absurd e (by decide)⟩) ?_
  simp only [Act.put, List.setIfInBounds_toArray, List.set_cons_succ, List.set_cons_zero]
  refine wpP_F rfl ?_
  refine wpF_load (ad := ⟨w.heap.size, 0, none⟩) (.agg (mC M P C)) rfl (by rfl) (by rfl) (by rfl) LM3 ?_
  refine wpF_end ?_
  simp only [Act.put, List.setIfInBounds_toArray, List.set_cons_succ, List.set_cons_zero]
  refine wpP_F rfl ?_
  refine wpF_pure rfl rfl ?_; go_big_quiet_step (fail); refine wpQuiet_nil ?_
  refine wpF_end ?_
  refine wpP_callsrc 14 (f := 27) (args := #[.agg (mC M P C), .int .i64 v]) (by simp) rfl rfl rfl (fun x => by first | rfl | (simp [go_sem]; done)) (fun W hW => (proj_F v hs (FM3 W hW)).mono fun e w' h => by
    obtain ⟨u, e1, h2, h3⟩ := h
    rw [hN] at h2
    exact ⟨u, e1, ⟨fun e => absurd e (by decide), fun _ => h2.two, fun e => absurd e (by decide)⟩, h3⟩) (fun u d' _ _ x' => ⟨fun e => absurd e (by decide), fun _ e => absurd e (by decide)⟩) ?_
  simp only [Act.put, List.setIfInBounds_toArray, List.set_cons_succ, List.set_cons_zero]
  have hzz : ∀ W : World, (zeroValue 33).run Try.prog W = .ok (.agg #[.int .i64 0, .int .i64 0, .int .i64 0, .int .i64 0, .int .i64 0, .int .i64 0, .int .i64 0, .slice none 0 0, .slice none 0 0, .string ⟨#[]⟩, .string ⟨#[]⟩]) W := fun W => by kernel_rfl
  refine wpP_new 5 (by simp) rfl (by kernel_rfl) (by kernel_rfl) (fun W hW => ?_) ?_
  · obtain ⟨k1, k2, k3⟩ := lbx_new w3.heap.size M N 5 (.inl rfl) [11, 14, 5, 6] hW.size
    exact ⟨.pointer (some ⟨W.heap.size, 0, none⟩), _, by simp [execOp, go_sem, hzz W]; try rfl, k1, k2, k3⟩
  simp only [Act.put, List.setIfInBounds_toArray, List.set_cons_succ, List.set_cons_zero]
  refine wpP_new 6 (by simp) rfl (by kernel_rfl) (by kernel_rfl) (fun W hW => ?_) ?_
  · obtain ⟨k1, k2, k3⟩ := lbx_new w3.heap.size M N 6 (.inr rfl) [11, 14, 5, 6] hW.size
    exact ⟨.pointer (some ⟨W.heap.size, 0, none⟩), _, by simp [execOp, go_sem, hzz W]; try rfl, k1, k2, k3⟩
  simp only [Act.put, List.setIfInBounds_toArray, List.set_cons_succ, List.set_cons_zero]
  intro xs w4 hb4 hx hpr
  obtain ⟨a1, n1, c1, a2, n2, c2, e11⟩ := (hx 11 (by simp)).1 rfl
  obtain ⟨a3, n3, c3, a4, n4, c4, e14⟩ := (hx 14 (by simp)).2.1 rfl
  obtain ⟨g5, e5, hg5, h5⟩ := (hx 5 (by simp)).2.2 (.inl rfl)
  obtain ⟨g6, e6, hg6, h6⟩ := (hx 6 (by simp)).2.2 (.inr rfl)
  have hne : g5 ≠ g6 := fun e => hpr 5 (by simp) 6 (by simp) (by decide) (.inl rfl) (.inr rfl) (by rw [e5, e6, e])
  simp only [fill, Act.put, List.setIfInBounds_toArray, List.set_cons_succ, List.set_cons_zero]
  rw [e5, e6, e11, e14]
  clear hx hpr e5 e6 e11 e14 hzz LM3 FM3
  have st5 := mg_store w4 g5 _ (mC M (.slice a1 n1 c1) (.slice a2 n2 c2)) h5 rfl rfl (mg_one _ _ _ _ _ _ _)
  have row5 := setRow_heap w4 g5 _ (mC M (.slice a1 n1 c1) (.slice a2 n2 c2)) _ _ h5
  have of5 := Off.setRow (S := fun q => q = g5) (Off.refl _ w4) rfl (mC M (.slice a1 n1 c1) (.slice a2 n2 c2))
  obtain ⟨w5, hw5⟩ : ∃ w5, w4.setRow g5 (mC M (.slice a1 n1 c1) (.slice a2 n2 c2)) = w5 := ⟨_, rfl⟩
  rw [hw5] at st5 row5 of5
  have q6 := (of5.block g6 (Array.getElem?_eq_some_iff.1 h6).1 (fun e => hne e.symm)).trans h6
  have st6 := mg_store w5 g6 _ (mC N (.slice a3 n3 c3) (.slice a4 n4 c4)) q6 rfl rfl (mg_one _ _ _ _ _ _ _)
  have row6 := setRow_heap w5 g6 _ (mC N (.slice a3 n3 c3) (.slice a4 n4 c4)) _ _ q6
  have of6 := Off.setRow (S := fun q => q = g6) (Off.refl _ w5) rfl (mC N (.slice a3 n3 c3) (.slice a4 n4 c4))
  obtain ⟨w6, hw6⟩ : ∃ w6, w5.setRow g6 (mC N (.slice a3 n3 c3) (.slice a4 n4 c4)) = w6 := ⟨_, rfl⟩
  rw [hw6] at st6 row6 of6
  have q5 := (of6.block g5 (Array.getElem?_eq_some_iff.1 row5).1 hne).trans row5
  have h23 := HB3.out.size
  have h02 := HB2.out.size
  have hb24 := HB3.out.trans (hb4.mono h23)
  have hb45 : Below w2.heap.size w4 w5 := of5.below (fun q hq => by omega) (by have := hb4.size; omega)
  have hb56 : Below w2.heap.size w5 w6 := of6.below (fun q hq => by omega) (by have := hb45.size; have := hb4.size; omega)
  have HF := Lib.hid (HB2.out.trans ((hb24.trans (hb45.trans hb56)).mono h02))
  have HST5 := Lib.hid st5
  have HST6 := Lib.hid st6
  have HQ56 := Lib.hid (And.intro q5 row6)
  have hfn := lost_func g5 g6 w6
  have h05 : w.heap.size ≤ g5 := by omega
  have h06 : w.heap.size ≤ g6 := by omega
  clear st5 row5 of5 hw5 q6 st6 row6 of6 hw6 q5 hb24 hb45 hb56 h5 h6 hb4
  refine wpList_store_run rfl 33 (.tmp 5) (.tmp 11) rfl (some ⟨g5, 0, none⟩) rfl (.agg (mC M (.slice a1 n1 c1) (.slice a2 n2 c2))) rfl HST5.out ?_
  refine wpList_store_run rfl 33 (.tmp 6) (.tmp 14) rfl (some ⟨g6, 0, none⟩) rfl (.agg (mC N (.slice a3 n3 c3) (.slice a4 n4 c4))) rfl HST6.out ?_
  go_wp2
  go_ret
  exact ⟨g5, g6, _, _, _, _, rfl, h05, h06, HQ56.out.1, HQ56.out.2, HF.out⟩
end Go.Proofs.Ytlbfibnfmijahaa

namespace Go.Proofs.Ytlbfibnfmijahaa
open Go.RowKit Go.Shelf
set_option maxRecDepth 100000
attribute [local go_sem] Oper.semAt_some

end Go.Proofs.Ytlbfibnfmijahaa

namespace Go.Proofs.Ytlbfibnfmijahaa
open Go.RowKit Go.Shelf
set_option maxRecDepth 100000
attribute [local go_sem] Oper.semAt_some

end Go.Proofs.Ytlbfibnfmijahaa

namespace Go.Proofs.Ytlbfibnfmijahaa
open Go.RowKit Go.Shelf
set_option maxRecDepth 100000
attribute [local go_sem] Oper.semAt_some

end Go.Proofs.Ytlbfibnfmijahaa

namespace Go.Proofs.Ytlbfibnfmijahaa
open Go.RowKit Go.Shelf
set_option maxRecDepth 100000
attribute [local go_sem] Oper.semAt_some

/-- is a field to be handed out? -/
def lostP (M : Mg) (v : Int) (f : Fd) : Bool := decide (f.si = 2) && !(likeF M (mproj M v) f)
theorem lostP_all {M : Mg} (h : mck M = 0) (v : Int) : (FD M.k).filter (lostP M v) = mlost M v := by
  unfold mlost
  by_cases hv : v = 1
  · subst hv
    rw [if_neg (by simp [h])]
    refine List.filter_congr fun f hf => ?_
    rw [lost_alt M f hf]
    unfold lostP likeF
    rcases (Int.lt_or_le f.si 2) with h2 | h2
    · simp [show ¬ f.si = 2 by omega]
    · have hs2 : f.si = 2 := by
        have := (FD_all M.k f hf).1
        omega
      rcases FD_two M.k f hf hs2 with ⟨hso, jj, _, hpl⟩ | ⟨hso, _⟩
      · simp [hs2, hso, hpl]
      · simp [hs2, hso]
  · rw [if_pos (.inr hv), List.filter_eq_nil_iff]
    intro f _
    unfold lostP likeF mproj
    rw [if_neg hv]
    simp
set_option maxHeartbeats 16000000 in
/-- the iterator of a right one: the names of what is lost -/
theorem slost_in (n : Nat) (hn5 : 5 ≤ n) (m' l b d s0 : Nat) (M : Mg) (P C P2 C2 : Value) (v : Int) (LL : List Fd) (hLL : (FD M.k).filter (lostP M v) = LL) (Dn : Nat → World → Prop) (Bk Xp : World → Prop) (Kp : World → World → Prop) (hls : l < s0 + 2)
    (hDb : ∀ j A B, Dn j A → Below s0 A B → Dn j B)
    (hDm : ∀ j V, Dn j V → V.heap[b]? = some (.cells (mC M P C) 33 (0, 0)) ∧ V.heap[d]? = some (.cells (mC (mproj M v) P2 C2) 33 (0, 0)))
    (hBk : ∀ A B, Bk A → A.heap.size ≤ B.heap.size → (∀ k, s0 ≤ k → k < s0 + 2 → B.heap[k]? = A.heap[k]?) → Bk B) (hBlt : ∀ A, Bk A → s0 + 2 ≤ A.heap.size)
    (hX : ∀ A l' o o', Xp A → s0 + 2 ≤ l' → A.heap[l']? = some o → o.isCells = false → Xp (A.putObj l' o'))
    (hKp : ∀ V V' k cs t, Kp V V' → s0 + 2 ≤ k → V.heap[k]? = some (.cells cs t (0, 0)) → V'.heap[k]? = some (.cells cs t (0, 0)))
    (hY : ∀ (j : Nat) (f : Fd) (V : World), Dn j V → LL[j]? = some f → Bk V → YieldAt Fence.wide m' Try.prog l #[.string f.nm] V (YPost s0 l Kp (fun W2 => Dn (j + 1) W2 ∧ Bk W2) Xp V))
    (W : World) (hD0 : Dn 0 W) (hB0 : Bk W) :
    CallsIn Fence.wide n Try.prog 28 #[.func (.yield l) #[] #[], .pointer (some ⟨b, 0, none⟩), .pointer (some ⟨d, 0, none⟩)] W fun e W' => (∃ v, e = .returned v) ∧ ((Dn LL.length W' ∧ Bk W') ∨ Xp W') := by
  have hn1 : 1 ≤ n := by omega
  have hsW := hBlt W hB0
  obtain ⟨m0, _⟩ := hDm 0 W hD0
  have hbl := (Array.getElem?_eq_some_iff.1 m0).1
  obtain ⟨yb, hyb⟩ : ∃ yb, W.heap.size = yb := ⟨_, rfl⟩
  obtain ⟨w1, hw1⟩ : ∃ w1, W.alloc (.cells #[.func (.yield l) #[] #[]] 68) = w1 := ⟨_, rfl⟩
  have hb1 : Below yb W w1 := by rw [← hw1, ← hyb]; exact (Below.refl _ W).alloc (Nat.le_refl _) _
  have y1 : w1.heap[yb]? = some (.cells #[.func (.yield l) #[] #[]] 68 (0, 0)) := by rw [← hw1, ← hyb]; exact World.alloc_heap_new _ _
  have hs1 : w1.heap.size = yb + 1 := by rw [← hw1, ← hyb]; simp
  have m1 := (hb1.block _ (by omega)).trans m0
  have k1 := row_cell m1 0 (.int .i64 M.k) rfl
  have HTW := Lib.hid (FD_two M.k)
  have HAL := Lib.hid (FD_all M.k)
  have HY := Lib.hid hY
  have HW1 := Lib.hid hw1
  have HDM := Lib.hid hDm
  have KA := Lib.hid (fall_any M.k 2 w1)
  rw [hs1] at KA
  obtain ⟨N, hN⟩ : ∃ N, mproj M v = N := ⟨_, rfl⟩
  obtain ⟨FL, hFL⟩ : ∃ FL, FD M.k = FL := ⟨_, rfl⟩
  have hF2 := FDv_two M.k
  have hpf : ∀ f, lostP M v f = (decide (f.si = 2) && !(likeF M N f)) := fun f => by unfold lostP; rw [hN]
  obtain ⟨lp, hlp⟩ : ∃ lp, lostP M v = lp := ⟨_, rfl⟩
  rw [hlp] at hpf hLL
  rw [hFL] at hLL HTW HAL hF2
  rw [hN] at HDM
  have HF2 := Lib.hid hF2
  have HPF := Lib.hid hpf
  have HLL := Lib.hid hLL
  clear hY hw1 m1 hN hFL hF2 hpf hlp hLL hDm
  refine callsIn_of_wp_marks Try.func28 rfl trivial ?_ rfl
  simp only [Try.ntmps28, List.size_toArray, List.length_cons, List.length_nil, Nat.reduceAdd, Nat.reduceSub, Array.replicate_succ, Array.replicate_zero, List.push_toArray, List.append_toArray, List.nil_append, List.cons_append]
  gi_wp2_with fail
  refine wpIn_wide.2 (wp_scope_straight ((wpIn_wide (n := n)).1 ?_))
  gi_wp2_with fail
  apply wpIn_label
  rw [HW1.out]
  gi_wp2_with fail
  refine ⟨trivial, (callsIn_wide.2 KA.out).mono ?_⟩
  rintro e w6 ⟨rfl, hg0, hg1, hb6⟩
  have hs6 := (Array.getElem?_eq_some_iff.1 hg1).1
  have hbW6 : Below yb W w6 := hb1.trans (hb6.mono (by omega))
  have y6 := (hb6.block _ (by omega)).trans y1
  have hsy : s0 ≤ yb := by omega
  have hD6 := hDb 0 _ _ hD0 (hbW6.mono hsy)
  have hB6 : Bk w6 := hBk _ _ hB0 hbW6.size (fun k _ h2 => hbW6.block k (by omega))
  obtain ⟨BX, hBX⟩ : ∃ BX : World → Prop, BX = fun V => w6.heap.size ≤ V.heap.size ∧ V.heap[yb]? = some (.cells #[.func (.yield l) #[] #[]] 68 (0, 0)) ∧ V.heap[yb + 1]? = some (.cells #[.int .i64 M.k] 3 (0, 0)) ∧ V.heap[yb + 1 + 1]? = some (.cells #[.int .i64 2] 3 (0, 0)) := ⟨_, rfl⟩
  have hBX0 : ∀ V, BX V → w6.heap.size ≤ V.heap.size ∧ V.heap[yb]? = some (.cells #[.func (.yield l) #[] #[]] 68 (0, 0)) ∧ V.heap[yb + 1]? = some (.cells #[.int .i64 M.k] 3 (0, 0)) ∧ V.heap[yb + 1 + 1]? = some (.cells #[.int .i64 2] 3 (0, 0)) := fun V hV => by rwa [hBX] at hV
  have hBXb : ∀ V V', BX V → Below w6.heap.size V V' → BX V' := fun V V' h hb => by
    rw [hBX] at h ⊢
    exact ⟨Nat.le_trans h.1 hb.size, (hb.block _ (by omega)).trans h.2.1, (hb.block _ (by omega)).trans h.2.2.1, (hb.block _ (by omega)).trans h.2.2.2⟩
  have hBXk : ∀ V V', BX V → Kp V V' → V.heap.size ≤ V'.heap.size → BX V' := fun V V' h hk hsz => by
    rw [hBX] at h ⊢
    exact ⟨Nat.le_trans h.1 hsz, hKp _ _ _ _ _ hk (by omega) h.2.1, hKp _ _ _ _ _ hk (by omega) h.2.2.1, hKp _ _ _ _ _ hk (by omega) h.2.2.2⟩
  have hBX6 : BX w6 := by rw [hBX]; exact ⟨Nat.le_refl _, y6, hg0, hg1⟩
  have hJb : ∀ j V, Dn j V ∧ Bk V ∧ BX V → ∀ V', Below w6.heap.size V V' → Dn j V' ∧ Bk V' ∧ BX V' := fun j V h V' hb =>
    ⟨hDb _ _ _ h.1 (hb.mono (by omega)), hBk _ _ h.2.1 hb.size (fun k _ h2 => hb.block k (by omega)), hBXb _ _ h.2.2 hb⟩
  obtain ⟨cnt, hcnt⟩ : ∃ cnt : Nat → Nat, cnt = fun p => ((FL.take p).filter lp).length := ⟨_, rfl⟩
  have hc0 : cnt 0 = 0 := by rw [hcnt]; simp
  have hcS : ∀ p f, FL[p]? = some f → cnt (p + 1) = cnt p + (if lp f then 1 else 0) := fun p f hf => by rw [hcnt]; exact filter_take hf
  have hcG : ∀ p f, FL[p]? = some f → lp f = true → LL[cnt p]? = some f := fun p f hf h => by rw [hcnt, ← HLL.out]; exact filter_get hf h
  have hcE : cnt FL.length = LL.length := by rw [hcnt, ← HLL.out]; simp
  have HCS := Lib.hid hcS
  have HCG := Lib.hid hcG
  have HCE := Lib.hid hcE
  clear hBX hbW6 y6 y1 hg0 hg1 hb1 hb6 k1 m0 KA HW1 hcnt hcS hcG hcE
  rw [← hc0] at hD0 hD6
  clear hD0
  gi_wp2_with fail
  refine range_stopb rfl hn1 (gf := 44) (lb := #[.pointer (some ⟨yb + 1, 0, none⟩), .pointer (some ⟨yb + 1 + 1, 0, none⟩)]) rfl trivial (enters_of Try.func44 (by kernel_rfl) rfl)
    (fun f : Fd => #[f.v]) (fun _ => rfl)
    (fun j f V => FL[j]? = some f ∧ Dn (cnt j) V ∧ Bk V ∧ BX V)
    (fun j f q V => (FL[j]? = some f ∧ Dn (cnt j) V ∧ Bk V ∧ BX V) ∧ w6.heap.size ≤ q ∧ V.heap[q]? = some (.cells f.cs 75 (0, 0)))
    (fun j V => Dn (cnt j) V ∧ Bk V ∧ BX V)
    (fun cd V => cd = .exit 0 ∧ Xp V)
    (KeT 75 3 (yb + 1)) FL.length
    (fun j f q V l' o o' h hl ho hc' => ⟨⟨h.1.1, hJb _ V h.1.2 _ (below_put V o' hl)⟩, h.2.1, (World.putObj_heap_other (fun e => by subst e; rw [h.2.2] at ho; injection ho with ho; subst ho; cases hc')).trans h.2.2⟩)
    (fun j V l' o o' h hl ho hc' => hJb _ V h _ (below_put V o' hl))
    (fun cd V l' o o' h hl ho hc' => ⟨h.1, hX V l' o o' h.2 (by omega) ho hc'⟩)
    (fun _ _ _ h k => h.trans k) (fun V l' o o' hl ho hc' => KeT.putObj ho hc')
    (fun o => hJb _ w6 ⟨hD6, hB6, hBX6⟩ _ (((Below.refl w6.heap.size w6).alloc (Nat.le_refl _) _).alloc (by simp) _)) ?round ?iter ?done ?stop
  case round =>
    rintro l2 j f V K ⟨hf, hJ⟩ hj hK
    have HK := Lib.hid hK
    have hsz := (hBX0 V hJ.2.2).1
    clear hK hD6 hB6 hBX6
    unfold Fd.v Fd.cs
    gi_wp2_with fail
    refine HK.out _ V.heap.size _ ⟨⟨hf, hJb _ V hJ _ ((Below.refl _ V).alloc hsz _)⟩, hsz, World.alloc_heap_new _ _⟩ ⟨by simp, fun q o _ ho _ => (Below.heap_alloc _ _ _ (Array.getElem?_eq_some_iff.1 ho).1).trans ho⟩ (KeT.of_below ((Below.refl _ V).alloc (Nat.le_refl _) _)) ?_
    clear HK hJ
    rintro l2 V2 hl2 ⟨⟨_, hJ⟩, hq, hc⟩
    obtain ⟨qb, hqb⟩ : ∃ qb, V.heap.size = qb := ⟨_, rfl⟩
    rw [hqb] at hq hc ⊢
    clear hqb
    obtain ⟨m2, n2⟩ := HDM.out _ V2 hJ.1
    obtain ⟨hs2, y2, _⟩ := hBX0 V2 hJ.2.2
    have hqlt := (Array.getElem?_eq_some_iff.1 hc).1
    obtain ⟨d0, _, _, _, _, d5, _⟩ := fd_block hc
    have hal := (HAL.out f (List.mem_of_getElem? hf)).1
    have htw := HTW.out f (List.mem_of_getElem? hf)
    have hcs := HCS.out j f hf
    have hcg := HCG.out j f hf
    have hpf := HPF.out f
    have HJ := Lib.hid hJ
    have HF := Lib.hid hf
    have HM2 := Lib.hid m2
    have HN2 := Lib.hid n2
    have HC2 := Lib.hid hc
    have HY2 := Lib.hid y2
    clear hJ hf m2 n2 hc y2
    by_cases h2 : f.si < 2
    · have hlf : lp f = false := by rw [hpf]; simp; omega
      rw [hlf] at hcs
      have hfin := Lib.hid (show KeepsFrom w6.heap.size V2 V2 ∧ (Dn (cnt (j + 1)) V2 ∧ Bk V2 ∧ BX V2) ∧ KeT 75 3 (yb + 1) V2 V2 from ⟨⟨Nat.le_refl _, fun _ _ _ ho _ => ho⟩, (by rw [hcs]; exact HJ.out), KeT.refl _⟩)
      clear hcs hcg hpf htw hal hlf
      gi_wp2
      exact hfin.out
    · obtain hsi : f.si = 2 := by omega
      have htw := htw hsi
      rw [hsi] at d5
      have KL := Lib.hid (alike_any M N f P C P2 C2 V2 htw)
      have LM := Lib.hid (mg_read HM2.out)
      have LN := Lib.hid (mg_read HN2.out)
      have LF : Hid ((Instr.loadAt 75 (.pointer (some ⟨qb, 0, none⟩))).run Try.prog V2 = .ok f.v V2) := by
        obtain ⟨t0, t1, t2, t3, t4, t5, t6⟩ := fd_block HC2.out
        exact Lib.hid (by simp [Instr.loadAt, go_sem, t0, t1, t2, t3, t4, t5, t6, Fd.v, Fd.cs])
      unfold mV at LM LN
      have hlf : lp f = !(likeF M N f) := by rw [hpf, hsi]; simp
      obtain ⟨Lk, hLk⟩ : ∃ Lk, likeF M N f = Lk := ⟨_, rfl⟩
      rw [hLk] at KL hlf
      clear hLk hpf htw hal h2 hsi
      gi_wp2_with (first | refine wpListIn_load_run rfl 33 (.tmp 1) rfl (some ⟨b, 0, none⟩) rfl (.agg (mC M P C)) LM.out ?_ | refine wpListIn_load_run rfl 33 (.tmp 2) rfl (some ⟨d, 0, none⟩) rfl (.agg (mC N P2 C2)) LN.out ?_ | refine wpListIn_load_run rfl 75 (.tmp 4) rfl (some ⟨qb, 0, none⟩) rfl f.v LF.out ?_)
      refine ⟨trivial, fun _ => by omega, ?_⟩
      refine (CallsIn.inRound l2 (callsIn_wide.2 KL.out)).mono ?_
      rintro e V3 ⟨rfl, hb3⟩
      have hJ3 := hJb _ V2 HJ.out V3 (hb3.mono hs2)
      have hkf : KeepsFrom w6.heap.size V2 V3 := ⟨hb3.size, fun q o _ ho _ => (hb3.block q (Array.getElem?_eq_some_iff.1 ho).1).trans ho⟩
      have hke : KeT 75 3 (yb + 1) V2 V3 := KeT.of_below hb3
      clear KL LM LN LF d5
      cases Lk
      · have hlt : lp f = true := by rw [hlf]; rfl
        rw [hlt, if_pos rfl] at hcs
        have hyld := HY.out _ f V3 hJ3.1 (hcg hlt) hJ3.2.1
        obtain ⟨fn, tmps, assign, body, hyr, hR⟩ := yield_any (n - 1 - 1 - 1) hyld
        have HR := Lib.hid hR
        have HX3 := Lib.hid hJ3.2.2
        have HKF := Lib.hid hkf
        have HKE := Lib.hid hke
        have e0 := row_cell ((hb3.block _ hqlt).trans HC2.out) 0 (.string f.nm) rfl
        have e1 := row_cell ((hb3.block _ (by have := (Array.getElem?_eq_some_iff.1 HY2.out).1; omega)).trans HY2.out) 0 (.func (.yield l) #[] #[]) rfl
        clear hR hyld hJ3 hkf hke hcg hlf hlt d0 hb3
        gi_wp2_with fail
        refine ⟨fun _ => by omega, ?_⟩
        refine RoundIn.mono (F := Fence.wide.inRound l2) HR.out ?_
        rintro e V6 (⟨rfl, ⟨hd, hb⟩, hk, hkb⟩ | ⟨rfl, hx, hkb⟩)
        · have hX6 := hBXk _ _ HX3.out hk hkb.size
          rw [← hcs] at hd
          have hfin := Lib.hid (show KeepsFrom w6.heap.size V2 V6 ∧ (Dn (cnt (j + 1)) V6 ∧ Bk V6 ∧ BX V6) ∧ KeT 75 3 (yb + 1) V2 V6 from
            ⟨⟨Nat.le_trans HKF.out.size hkb.size, fun q o h1 h2 h3 => hkb.same q o (by omega) (by omega) (HKF.out.same q o h1 h2 h3) h3⟩, ⟨hd, hb, hX6⟩,
              ⟨Nat.le_trans HKF.out.size hkb.size, fun q cs t hq ht hA => (hKp V3 V6 q cs t hk (by omega) ((HKE.out.same q cs t hq ht hA).trans hA)).trans hA.symm⟩⟩)
          clear hd hb hk hkb hX6 HR
          gi_wp2
          exact hfin.out
        · have hfin := Lib.hid (show KeepsFrom w6.heap.size V2 V6 ∧ Xp V6 from
            ⟨⟨Nat.le_trans HKF.out.size hkb.size, fun q o h1 h2 h3 => hkb.same q o (by omega) (by omega) (HKF.out.same q o h1 h2 h3) h3⟩, hx⟩)
          clear hx hkb HR
          gi_wp2
          exact ⟨hfin.out.1, rfl, hfin.out.2⟩
      · have hlt : lp f = false := by rw [hlf]; rfl
        rw [hlt] at hcs
        have hfin := Lib.hid (show KeepsFrom w6.heap.size V2 V3 ∧ (Dn (cnt (j + 1)) V3 ∧ Bk V3 ∧ BX V3) ∧ KeT 75 3 (yb + 1) V2 V3 from ⟨hkf, (by rw [hcs]; exact hJ3), hke⟩)
        clear hcs hcg hlf hlt hJ3 hkf hke d0 hb3
        gi_wp2
        exact hfin.out
  case iter =>
    intro Bk2 X2 l2 V hBk2 hBlt2 hX2 hl2 hDV hBV hYV
    obtain ⟨_, _, g0V, g1V⟩ := hBX0 V hDV.2.2
    have h := fall_in (n - 1) (by omega) (n - 1 - 1) l2 (yb + 1) M.k 2 (fun j V => (Dn (cnt j) V ∧ Bk V ∧ BX V) ∧ Bk2 V) X2
      (fun j A B h hb => ⟨hJb _ A h.1 B (hb.mono (hBX0 A h.1.2.2).1), hBk2 A _ h.2 hb.size (fun q h1 h2 => by have := hBlt2 A h.2; exact hb.block q (by omega))⟩)
      (fun j f W h hf => by
        rw [HF2.out] at hf
        exact (hYV j f W ⟨hf, h.1⟩ h.2 (List.getElem?_eq_some_iff.1 hf).1).mono (fun e W2 h => h.elim (fun h => .inl ⟨h.1, h.2.1, h.2.2.1⟩) (fun h => .inr ⟨h.1, h.2.1⟩)))
      V g0V g1V ⟨hDV, hBV⟩
    rw [HF2.out] at h
    exact h
  case done =>
    rintro D V hD ⟨hDV, hBV, _⟩ hK
    rw [HCE.out] at hDV
    have hfin := Lib.hid (And.intro (hDb _ _ _ hDV (below_put V (.deferred none) (by omega : s0 ≤ D))) (hBk _ _ hBV (by simp [World.putObj]) (fun k _ h2 => World.putObj_heap_other (by omega)) : Bk (V.putObj D (.deferred none))))
    clear hDV hBV hD6 hB6 hBX6
    gi_wp2
    refine ⟨by simp, .inl ⟨_, _, rfl, run_takeDeferred hK, ?_⟩⟩
    refine ⟨_, results_none rfl _ _ _, ?_⟩
    exact ⟨⟨_, rfl⟩, .inl hfin.out⟩
  case stop =>
    rintro D cd V hD ⟨rfl, hx⟩ hK
    have hfin := Lib.hid (hX V D _ (.deferred none) hx (by omega) hK rfl)
    clear hx
    gi_wp2
    refine ⟨by simp, .inl ⟨_, _, rfl, run_takeDeferred hK, ?_⟩⟩
    refine ⟨_, results_none rfl _ _ _, ?_⟩
    exact ⟨⟨_, rfl⟩, .inr hfin.out⟩
end Go.Proofs.Ytlbfibnfmijahaa

namespace Go.Proofs.Ytlbfibnfmijahaa
open Go.RowKit Go.Shelf
set_option maxRecDepth 100000
attribute [local go_sem] Oper.semAt_some

set_option maxHeartbeats 4000000 in
theorem sbest_any (M : Mg) (P C : Value) (w : World) (hs : Msm M) (h1 : MAt w w.heap.size M P C) : Calls Try.prog 15 #[mV M P C] w fun e w' => e = .returned (.tuple #[.int .i64 (mbest M).1, .int .i64 (mbest M).2]) ∧ Below w.heap.size w w' := by
  obtain ⟨w2, hw2⟩ : ∃ w2, w.alloc (.cells (mC M P C) 33) = w2 := ⟨_, rfl⟩
  have hb2 : Below w.heap.size w w2 := by rw [← hw2]; exact (Below.refl _ w).alloc (Nat.le_refl _) _
  have q0 : w2.heap[w.heap.size]? = some (.cells (mC M P C) 33 (0, 0)) := by rw [← hw2]; exact World.alloc_heap_new _ _
  have hlt := (Array.getElem?_eq_some_iff.1 q0).1
  have LM0 : (Instr.loadAt 33 (.pointer (some ⟨w.heap.size, 0, none⟩))).run Try.prog w2 = .ok (.agg (mC M P C)) w2 := mg_read q0
  have KC : Calls Try.prog 22 #[.agg (mC M P C)] w2 fun e w' => e = .returned (.int .i64 (mck M)) ∧ Below w2.heap.size w2 w' := chk_F hs ⟨P, C, rfl, h1.later hb2⟩
  have LM : Hid (∀ W, Below w2.heap.size w2 W → (Instr.loadAt 33 (.pointer (some ⟨w.heap.size, 0, none⟩))).run Try.prog W = .ok (.agg (mC M P C)) W) := Lib.hid fun W hW => mg_read ((hW.block _ hlt).trans q0)
  have KF : Hid (∀ (v : Int) W, Below w2.heap.size w2 W → Calls Try.prog 23 #[.agg (mC M P C), .int .i64 v] W fun e w' => e = .returned (.bool (decide (mproj M v = M))) ∧ Below W.heap.size W w') := Lib.hid fun v W hW => sfit_any M P C v W hs ((h1.later hb2).later hW)
  have HW2 := Lib.hid hw2
  have HB2 := Lib.hid hb2
  have HL0 := Lib.hid LM0
  clear hw2 hb2 q0 h1 LM0
  have hP2 := sproj_two M
  unfold mV mbest
  obtain ⟨E, hEE⟩ : ∃ E, mck M = E := ⟨_, rfl⟩
  rw [hEE] at KC ⊢
  have KC := Lib.hid KC
  clear hEE
  by_cases hE : E = 0
  · subst hE
    rw [if_neg (by simp)]
    obtain ⟨R, hR⟩ : ∃ R, (if mproj M 1 = M then ((1, 0) : Int × Int) else (2, 0)) = R := ⟨_, rfl⟩
    rw [hR]
    have HR := Lib.hid hR
    clear hR
    refine (callsIn_wide (n := 9)).1 ?_
    refine callsIn_of_wp_marks Try.func15 rfl trivial ?_ rfl
    simp only [Try.ntmps15, List.size_toArray, List.length_cons, List.length_nil, Nat.reduceAdd, Nat.reduceSub, Array.replicate_succ, Array.replicate_zero, List.push_toArray, List.append_toArray, List.nil_append, List.cons_append]
    gi_wp2_with fail
    rw [HW2.out]
    refine wpIn_wide.2 (wp_scope_straight ((wpIn_wide (n := 9)).1 ?_))
    gi_wp2_with (refine wpListIn_load_run rfl 33 (.tmp 1) rfl (some ⟨w.heap.size, 0, none⟩) rfl (.agg (mC M P C)) HL0.out ?_)
    refine ⟨trivial, (callsIn_wide.2 KC.out).mono ?_⟩
    rintro e w3 ⟨rfl, hb3⟩
    obtain ⟨Bq, hBq⟩ : ∃ Bq, w3.heap.size = Bq := ⟨_, rfl⟩
    obtain ⟨w4, hw4⟩ : ∃ w4, w3.alloc (.cells #[.int .i64 0] 3) = w4 := ⟨_, rfl⟩
    have hb34 : Below w3.heap.size w3 w4 := by rw [← hw4]; exact (Below.refl _ w3).alloc (Nat.le_refl _) _
    have bF : Boxed w4 Bq 3 (.int .i64 0) := by rw [← hw4, ← hBq]; exact Boxed.new w3 3 (.int .i64 0)
    have hs4 : w4.heap.size = Bq + 1 := by rw [← hw4, ← hBq]; simp
    have hb24 : Below w2.heap.size w2 w4 := hb3.trans (hb34.mono hb3.size)
    have hq2 : w2.heap.size ≤ Bq := by have := hb3.size; omega
    have HW4 := Lib.hid hw4
    have HB24 := Lib.hid hb24
    have HBQ := Lib.hid hBq
    clear KC hw4 hb34 hb3 hb24 HL0 HW2 hBq
    gi_wp2_with fail
    rw [HBQ.out, HW4.out]
    apply wpIn_label
    gi_wp2_with fail
    refine ⟨trivial, ?_⟩
    refine (callsIn_wide.2 (svers_any w4)).mono ?_
    rintro e w1 ⟨rfl, rfl⟩
    gi_wp2_with fail
    refine range_stops rfl (by omega) (gf := 19) (lb := #[]) rfl trivial (enters_of Try.func19 (by kernel_rfl) rfl)
      (fun j : Nat => #[.int .i64 ((j : Int) + 1)]) (fun _ => rfl)
      (fun j x' V => x' = j ∧ (∀ i : Nat, i < j → mproj M ((i : Int) + 1) ≠ M) ∧ Below w4.heap.size w4 V)
      (fun j V => (∀ i : Nat, i < j → mproj M ((i : Int) + 1) ≠ M) ∧ Below w4.heap.size w4 V)
      (fun cd V => cd = .exit 0 ∧ ∃ j : Nat, j < 2 ∧ (∀ i : Nat, i < j → mproj M ((i : Int) + 1) ≠ M) ∧ mproj M ((j : Int) + 1) = M ∧ Boxed V Bq 3 (.int .i64 ((j : Int) + 1)) ∧ Off (fun q => q = Bq) w4 V) (fun _ _ => True) 2
      (fun j x' V l o o' h hl ho hc' => ⟨h.1, h.2.1, h.2.2.trans (below_put V o' hl)⟩)
      (fun j V l o o' h hl ho hc' => ⟨h.1, h.2.trans (below_put V o' hl)⟩)
      (fun cd V l o o' h hl ho hc' => by
        obtain ⟨h1, j, h2, h3, h4, h5, h6⟩ := h
        exact ⟨h1, j, h2, h3, h4, (World.putObj_heap_other (by omega)).trans h5, off_below h6 (below_put V o' hl)⟩)
      (fun _ _ _ _ _ => trivial) (fun _ _ _ _ _ _ _ => trivial)
      (fun o => ⟨fun i hi => by omega, ((Below.refl w4.heap.size w4).alloc (Nat.le_refl _) _).alloc (by simp) _⟩) ?a1 ?assign ?body ?iter ?done ?stop
    case assign =>
      intro l x' V K' hK'
      gi_wp2
      exact hK'
    case body =>
      rintro l j x' V hl ⟨rfl, hn, hbV⟩ hj
      have hb2V := HB24.out.trans (hbV.mono HB24.out.size)
      have LV := Lib.hid (LM.out V hb2V)
      have KV := Lib.hid (KF.out ((x' : Int) + 1) V hb2V)
      have HBV := Lib.hid hbV
      have HN := Lib.hid hn
      clear hn hbV hb2V
      gi_wp2_with (refine wpListIn_load_run rfl 33 (.tmp 1) rfl (some ⟨w.heap.size, 0, none⟩) rfl (.agg (mC M P C)) LV.out ?_)
      refine ⟨trivial, ((callsIn_wide.2 KV.out).inRound l).mono ?_⟩
      rintro e V2 ⟨rfl, hb2'⟩
      have hbV2 : Below w4.heap.size w4 V2 := HBV.out.trans (hb2'.mono HBV.out.size)
      have hkf : KeepsFrom w4.heap.size V V2 := ⟨hb2'.size, fun q o _ h2 _ => (hb2'.block q (Array.getElem?_eq_some_iff.1 h2).1).trans h2⟩
      by_cases h : mproj M ((x' : Int) + 1) = M
      · rw [decide_eq_true h]
        have bFV : Boxed V2 Bq 3 (.int .i64 0) := (hbV2.block _ (by omega)).trans bF
        have e0 := bFV.cell
        have e1 := bFV.frozen
        have hfin := Lib.hid (show _ ∧ _ ∧ _ from ⟨hkf.trans ((KeepsOthers.setCell V2 ⟨Bq, 0, none⟩ (.int .i64 ((x' : Int) + 1))).from w4.heap.size), bFV.set (.int .i64 ((x' : Int) + 1)), (off_below (Off.refl (fun q => q = Bq) w4) hbV2).setCell (p := ⟨Bq, 0, none⟩) rfl (.int .i64 ((x' : Int) + 1))⟩)
        have HH := Lib.hid h
        clear hbV2 hkf bFV h hb2' KV LV HBV
        gi_wp2
        exact ⟨hfin.out.1, rfl, x', hj, HN.out, HH.out, hfin.out.2⟩
      · rw [decide_eq_false h]
        have hfin := Lib.hid (show _ ∧ _ ∧ _ from ⟨hkf, (fun i hi => by
          rcases Nat.lt_or_ge i x' with h1 | h1
          · exact HN.out i h1
          · obtain rfl : i = x' := by omega
            exact h : ∀ i : Nat, i < x' + 1 → mproj M ((i : Int) + 1) ≠ M), hbV2⟩)
        clear hbV2 hkf h hb2' KV LV HBV HN
        gi_wp2
        exact ⟨hfin.out.1, hfin.out.2, trivial⟩
    case iter =>
      intro Bk X l V hBk hBlt hX hl hD hB hY
      exact svers_in 8 (by omega) 7 l (fun j V => ((∀ i : Nat, i < j → mproj M ((i : Int) + 1) ≠ M) ∧ Below w4.heap.size w4 V) ∧ Bk V) X
        (fun j W h hj => (hY j j W ⟨rfl, h.1⟩ h.2 hj).mono (fun e W2 h => h.elim (fun h => .inl ⟨h.1, h.2.1⟩) (fun h => .inr ⟨h.1, h.2.1⟩)))
        V ⟨hD, hB⟩
    case done =>
      rintro D V hD ⟨hn, hbV⟩ hK
      exact absurd hP2 (hn 1 (by omega))
    case stop =>
      rintro D cd V hD ⟨rfl, j, hj, hn, hx, bV, hO⟩ hK
      have h0 : R = ((j : Int) + 1, 0) := by
        rw [← HR.out]
        have hj2 : j = 0 ∨ j = 1 := by omega
        rcases hj2 with rfl | rfl
        · rw [if_pos (show mproj M 1 = M from hx)]; rfl
        · rw [if_neg (show ¬ mproj M 1 = M from hn 0 (by omega))]; rfl
      subst h0
      have e0 := bV.cell
      have HB := Lib.hid (HB2.out.trans ((HB24.out.trans (hO.below (B := w2.heap.size) (fun k hk => by omega) HB24.out.size)).mono HB2.out.size))
      clear hx hn bV hO
      gi_wp2
      simp only [Exit.noGoto]
      refine ⟨by simp, .inl ⟨_, _, rfl, run_takeDeferred hK, ?_⟩⟩
      refine ⟨.tuple #[.int .i64 ((j : Int) + 1), .int .i64 0], ?_, rfl, HB.out.trans (below_put _ _ (by have := HB24.out.size; have := HB2.out.size; omega))⟩
      simp [results, Try.f15, go_sem]
  · have e1 : (E != 0) = true := by simpa using hE
    rw [if_pos hE]
    go_enter Try.func15, Try.ntmps15
    go_wp2_with fail
    rw [HW2.out]
    refine wp_scope_straight ?_
    go_wp2_with (refine wpList_load_run rfl 33 (.tmp 1) rfl (some ⟨w.heap.size, 0, none⟩) rfl (.agg (mC M P C)) HL0.out ?_)
    refine KC.out.mono ?_
    rintro e w3 ⟨rfl, hb3⟩
    have HB3 := Lib.hid (HB2.out.trans (hb3.mono HB2.out.size))
    clear hb3 KC HL0
    go_wp2
    try simp only [Exit.noGoto]
    go_ret2
    exact ⟨rfl, HB3.out⟩
end Go.Proofs.Ytlbfibnfmijahaa

namespace Go.Proofs.Ytlbfibnfmijahaa
open Go.RowKit Go.Shelf
set_option maxRecDepth 100000
attribute [local go_sem] Oper.semAt_some

/-- cells from lo on are as they were -/
structure KeV (lo : Nat) (A B : World) : Prop where
  size : A.heap.size ≤ B.heap.size
  same : ∀ (q : Nat) (cs : Array Value) (t : TypeId), lo ≤ q → A.heap[q]? = some (.cells cs t (0, 0)) → B.heap[q]? = some (.cells cs t (0, 0))
theorem KeV.trans {lo : Nat} {A B C : World} (h : KeV lo A B) (k : KeV lo B C) : KeV lo A C := ⟨Nat.le_trans h.size k.size, fun q cs t hq hA => k.same q cs t hq (h.same q cs t hq hA)⟩
theorem KeV.putObj {lo l : Nat} {A : World} {o o' : Obj} (ho : A.heap[l]? = some o) (hc : o.isCells = false) : KeV lo A (A.putObj l o') := ⟨by simp [World.putObj], fun q cs t _ hA => (World.putObj_heap_other (fun e => by
  subst e
  rw [ho] at hA
  injection hA with hA
  subst hA
  cases hc)).trans hA⟩
theorem KeV.off {S : Nat → Prop} {lo : Nat} {A B : World} (ho : Off S A B) (hS : ∀ k, lo ≤ k → ¬ S k) : KeV lo A B := ⟨ho.size, fun q _ _ hq hA => (ho.block q (Array.getElem?_eq_some_iff.1 hA).1 (hS q hq)).trans hA⟩
theorem KeepsFrom.of_offV {S : Nat → Prop} {lo : Nat} {A B : World} (ho : Off S A B) (hS : ∀ k, lo ≤ k → ¬ S k) : KeepsFrom lo A B := ⟨ho.size, fun q _ hq hA _ => (ho.block q (Array.getElem?_eq_some_iff.1 hA).1 (hS q hq)).trans hA⟩
theorem lost_not_nil2 (p q : Nat) (w : World) : (binOp .eql 51 (.func (.func 28) #[] #[.pointer (some ⟨p, 0, none⟩), .pointer (some ⟨q, 0, none⟩)]) .nilFunc).run Try.prog w = .ok (.bool false) w := by kernel_rfl

def ex0 : Mg := ⟨2, 0, 0, 0, 0, 0, 0, [], [], ⟨#[]⟩, ⟨#[]⟩⟩
def ex9 : Mg := ⟨2, 0, 0, 9, 0, 0, 0, [], [], ⟨#[]⟩, ⟨#[]⟩⟩
theorem ex_small (k a b c d e f : Int) : Msm ⟨k, a, b, c, d, e, f, [], [], ⟨#[]⟩, ⟨#[]⟩⟩ := ⟨by simp, by simp, by show (ByteArray.mk #[]).size ≤ 80; decide, by show (ByteArray.mk #[]).size ≤ 80; decide⟩
theorem ex_at (k a b c d e f : Int) (w : World) (B : Nat) : MAt w B ⟨k, a, b, c, d, e, f, [], [], ⟨#[]⟩, ⟨#[]⟩⟩ (.slice none 0 0) (.slice none 0 0) := ⟨⟨none, 0, rfl, Nat.le_refl _, Nums.nil⟩, ⟨none, 0, rfl, Nat.le_refl _, Nums.nil⟩⟩
theorem ex0_best : mbest ex0 = (1, 0) := by decide
theorem ex9_best : mbest ex9 = (2, 0) := by decide
theorem ex9_check : mck ex9 = 0 := by decide
theorem ex9_lost : (mlost ex9 1).map (·.nm) = [⟨#[122, 111, 110, 101]⟩] := by decide
set_option maxHeartbeats 8000000 in
theorem lknown_any (w : World) : Calls Try.prog 6 #[] w fun e w' => e = .returned (.bool true) ∧ Below w.heap.size w w' := by
  have K0 := fun W => sbest_any ex0 (.slice none 0 0) (.slice none 0 0) W (ex_small ..) (ex_at ..)
  have K9 := fun W => sbest_any ex9 (.slice none 0 0) (.slice none 0 0) W (ex_small ..) (ex_at ..)
  have KL := fun W => slost_yes ex9 (.slice none 0 0) (.slice none 0 0) 1 W (ex_small ..) (ex_at ..) ex9_check
  simp only [ex0_best] at K0
  simp only [ex9_best] at K9
  unfold ex0 mV mC at K0
  have hst : ∀ W b, W.heap[b]? = some (.cells #[.int .i64 2, .int .i64 0, .int .i64 0, .int .i64 9, .int .i64 0, .int .i64 0, .int .i64 0, .slice none 0 0, .slice none 0 0, .string ⟨#[]⟩, .string ⟨#[]⟩] 33 (0, 0)) → (Instr.loadAt 33 (.pointer (some ⟨b, 0, none⟩))).run Try.prog W = .ok (.agg #[.int .i64 2, .int .i64 0, .int .i64 0, .int .i64 9, .int .i64 0, .int .i64 0, .int .i64 0, .slice none 0 0, .slice none 0 0, .string ⟨#[]⟩, .string ⟨#[]⟩]) W := fun W b h => mg_read (M := ex9) (P := .slice none 0 0) (C := .slice none 0 0) h
  obtain ⟨LL, hLL⟩ : ∃ LL, (FD ex9.k).filter (lostP ex9 1) = LL := ⟨_, rfl⟩
  have hnm : LL.map (·.nm) = [⟨#[122, 111, 110, 101]⟩] := by rw [← hLL, lostP_all ex9_check]; exact ex9_lost
  have hl1 : LL.length = 1 := by have := congrArg List.length hnm; simpa using this
  have hl0 : ∀ (j : Nat) f, LL[j]? = some f → j = 0 ∧ f.nm = ⟨#[122, 111, 110, 101]⟩ := fun j f h => by
    have h2 : (LL.map (·.nm))[j]? = some f.nm := by rw [List.getElem?_map, h]; rfl
    rw [hnm] at h2
    rcases j with _ | j
    · simp at h2; exact ⟨rfl, h2.symm⟩
    · simp at h2
  have HLL := Lib.hid hLL
  have HL0 := Lib.hid hl0
  clear hLL hnm hl0
  unfold ex9 mV mC at K9 KL
  have K0 := Lib.hid K0
  have K9 := Lib.hid K9
  have KL := Lib.hid KL
  have HST := Lib.hid hst
  clear hst
  refine (callsIn_wide (n := 9)).1 ?_
  refine callsIn_of_wp_marks Try.func6 rfl trivial ?_ rfl
  simp only [Try.ntmps6, List.size_toArray, List.length_nil, Nat.reduceSub, Array.replicate_succ, Array.replicate_zero, List.push_toArray, List.append_toArray, List.nil_append, List.cons_append]
  gi_wp2_with fail
  refine ⟨trivial, (callsIn_wide.2 (K0.out w)).mono ?_⟩
  rintro e w1 ⟨rfl, hb1⟩
  have HB1 := Lib.hid hb1
  clear hb1 K0
  gi_wp2_with fail
  obtain ⟨w2, hw2⟩ : ∃ w2, w1.alloc (.cells #[.int .i64 2, .int .i64 0, .int .i64 0, .int .i64 9, .int .i64 0, .int .i64 0, .int .i64 0, .slice none 0 0, .slice none 0 0, .string ⟨#[]⟩, .string ⟨#[]⟩] 33) = w2 := ⟨_, rfl⟩
  have hb12 : Below w1.heap.size w1 w2 := by rw [← hw2]; exact (Below.refl _ w1).alloc (Nat.le_refl _) _
  have q2 : w2.heap[w1.heap.size]? = some (.cells #[.int .i64 2, .int .i64 0, .int .i64 0, .int .i64 9, .int .i64 0, .int .i64 0, .int .i64 0, .slice none 0 0, .slice none 0 0, .string ⟨#[]⟩, .string ⟨#[]⟩] 33 (0, 0)) := by rw [← hw2]; exact World.alloc_heap_new _ _
  obtain ⟨mb, hmb⟩ : ∃ mb, w1.heap.size = mb := ⟨_, rfl⟩
  rw [hw2]
  refine ⟨trivial, (callsIn_wide.2 (K9.out w2)).mono ?_⟩
  rintro e w3 ⟨rfl, hb3⟩
  have q3 := (hb3.block _ (Array.getElem?_eq_some_iff.1 q2).1).trans q2
  rw [hmb] at q3 ⊢
  obtain ⟨nb, hnb⟩ : ∃ nb, w3.heap.size = nb := ⟨_, rfl⟩
  obtain ⟨w4, hw4⟩ : ∃ w4, w3.alloc (.cells #[.string ⟨#[]⟩] 9) = w4 := ⟨_, rfl⟩
  have hb34 : Below w3.heap.size w3 w4 := by rw [← hw4]; exact (Below.refl _ w3).alloc (Nat.le_refl _) _
  have bN4 : Boxed w4 nb 9 (.string ⟨#[]⟩) := by rw [← hw4, ← hnb]; exact Boxed.new w3 9 _
  have hs4 : w4.heap.size = nb + 1 := by rw [← hw4, ← hnb]; simp
  have q4 := (hb34.block _ (Array.getElem?_eq_some_iff.1 q3).1).trans q3
  have L3 := Lib.hid (HST.out _ _ q3)
  have L4 := Lib.hid (HST.out _ _ q4)
  have hb13 := hb12.trans (hb3.mono hb12.size)
  have HB4 := Lib.hid (HB1.out.trans ((hb13.trans (hb34.mono hb13.size)).mono HB1.out.size))
  have hnb0 : w.heap.size ≤ nb := by have := HB1.out.size; have := hb13.size; omega
  have HW4 := Lib.hid hw4
  have HNB := Lib.hid hnb
  clear hb12 q2 hb3 q3 hw4 hb34 q4 hb13 HST K9 HB1 hw2 hmb hnb
  gi_wp2_with (rw [HNB.out, HW4.out]; refine wpListIn_load_run rfl 33 (.tmp 3) rfl (some ⟨mb, 0, none⟩) rfl (.agg #[.int .i64 2, .int .i64 0, .int .i64 0, .int .i64 9, .int .i64 0, .int .i64 0, .int .i64 0, .slice none 0 0, .slice none 0 0, .string ⟨#[]⟩, .string ⟨#[]⟩]) L4.out ?_)
  refine ⟨trivial, (callsIn_wide.2 (KL.out w4)).mono ?_⟩
  rintro e w5 ⟨b, d, P1, C1, P2, C2, rfl, hb, hd, mfb, mfd, hb5⟩
  have bN5 : Boxed w5 nb 9 (.string ⟨#[]⟩) := (hb5.block _ (by omega)).trans bN4
  have hs5 := hb5.size
  have HB5 := Lib.hid (HB4.out.trans (hb5.mono HB4.out.size))
  have HMB := Lib.hid mfb
  have HMD := Lib.hid mfd
  have hbl := (Array.getElem?_eq_some_iff.1 mfb).1
  have hdl := (Array.getElem?_eq_some_iff.1 mfd).1
  have kn := lost_not_nil2
  clear hb5 mfb mfd KL bN4 L3 L4 HW4 HNB
  gi_wp2_with fail
  refine range_stops rfl (by omega) (gf := 28) (lb := #[.pointer (some ⟨b, 0, none⟩), .pointer (some ⟨d, 0, none⟩)]) rfl trivial (enters_of Try.func28 (by kernel_rfl) rfl)
    (fun f : Fd => #[.string f.nm]) (fun _ => rfl)
    (fun j f V => LL[j]? = some f ∧ Boxed V nb 9 (.string (if j = 0 then ⟨#[]⟩ else ⟨#[122, 111, 110, 101]⟩)) ∧ Off (fun q => q = nb) w5 V)
    (fun j V => Boxed V nb 9 (.string (if j = 0 then ⟨#[]⟩ else ⟨#[122, 111, 110, 101]⟩)) ∧ Off (fun q => q = nb) w5 V)
    (fun _ _ => False) (KeV w5.heap.size) LL.length
    (fun j f V l o o' h hl ho hc' => ⟨h.1, (World.putObj_heap_other (by omega)).trans h.2.1, off_below h.2.2 (below_put V o' hl)⟩)
    (fun j V l o o' h hl ho hc' => ⟨(World.putObj_heap_other (by omega)).trans h.1, off_below h.2 (below_put V o' hl)⟩)
    (fun _ _ _ _ _ h => h.elim)
    (fun _ _ _ h k => h.trans k) (fun V l o o' hl ho hc' => KeV.putObj ho hc')
    (fun o => ⟨(Below.heap_alloc _ _ _ (by simp; omega)).trans ((Below.heap_alloc _ _ _ (by omega)).trans bN5), Off.of_below (((Below.refl w5.heap.size w5).alloc (Nat.le_refl _) _).alloc (by simp) _)⟩) ?a1 ?assign ?body ?iter ?done ?stop
  case assign =>
    intro l x' V K' hK'
    gi_wp2
    exact hK'
  case body =>
    rintro l j f V hl ⟨hf, hI, hO⟩ hj
    obtain ⟨rfl, hfn⟩ := HL0.out j f hf
    rw [if_pos rfl] at hI
    have e0 := hI.cell
    have e1 := hI.frozen
    have hI2 := hI.set (.string ⟨#[122, 111, 110, 101]⟩)
    have hO2 : Off (fun q => q = nb) w5 (V.setCell ⟨nb, 0, none⟩ (.string ⟨#[122, 111, 110, 101]⟩)) := hO.setCell (p := ⟨nb, 0, none⟩) rfl _
    have hOV : Off (fun q => q = nb) V (V.setCell ⟨nb, 0, none⟩ (.string ⟨#[122, 111, 110, 101]⟩)) := Off.setCell (S := fun q => q = nb) (p := ⟨nb, 0, none⟩) (Off.refl _ _) rfl _
    have HF := Lib.hid (show KeepsFrom w5.heap.size V _ ∧ (Boxed _ nb 9 (.string ⟨#[122, 111, 110, 101]⟩) ∧ Off (fun q => q = nb) w5 _) ∧ KeV w5.heap.size V _ from ⟨KeepsFrom.of_offV hOV (fun k hk => by omega), ⟨hI2, hO2⟩, KeV.off hOV (fun k hk => by omega)⟩)
    clear hI hO hI2 hO2 hOV
    rw [hfn]
    gi_wp2
    all_goals exact HF.out
  case iter =>
    intro Bk X l V hBk hBlt hX hl hD hB hY
    exact slost_in 8 (by omega) 7 l b d w5.heap.size ex9 P1 C1 P2 C2 1 LL HLL.out (fun j V => Boxed V nb 9 (.string (if j = 0 then ⟨#[]⟩ else ⟨#[122, 111, 110, 101]⟩)) ∧ Off (fun q => q = nb) w5 V) Bk X (KeV w5.heap.size) hl
      (fun j A B h hb => ⟨(hb.block _ (by omega)).trans h.1, off_below h.2 hb⟩)
      (fun j V h => ⟨(h.2.block _ hbl (by omega)).trans HMB.out, (h.2.block _ hdl (by omega)).trans HMD.out⟩)
      hBk hBlt hX (fun V V' k cs t h hk hc => h.same k cs t (by omega) hc)
      (fun j f V h hf hb => hY j f V ⟨hf, h⟩ hb (List.getElem?_eq_some_iff.1 hf).1)
      V hD hB
  case done =>
    rintro D V hD ⟨hI, hO⟩ hK
    rw [hl1, if_neg (by decide)] at hI
    have e0 := hI.cell
    have HB := Lib.hid (HB5.out.trans (hO.below (B := w.heap.size) (fun k hk => by omega) HB5.out.size))
    clear hI hO
    gi_wp2
    try simp only [Exit.noGoto]
    refine ⟨by simp, .inl ⟨_, _, rfl, run_takeDeferred hK, ?_⟩⟩
    refine ⟨.bool true, ?_, rfl, HB.out.trans (below_put _ _ (by omega))⟩
    simp [results, Try.f6, go_sem]
  case stop =>
    rintro D cd V hD h hK
    exact h.elim
end Go.Proofs.Ytlbfibnfmijahaa

namespace Go.Proofs.Ytlbfibnfmijahaa
open Go.RowKit Go.Shelf
set_option maxRecDepth 100000
attribute [local go_sem] Oper.semAt_some

/-- what a turning leaves -/
def TurnR (w : World) (r : List Int × Bool × Int) (e : Ending) (w' : World) : Prop := ∃ x, e = .returned (.tuple #[x, .bool r.2.1, .int .i64 r.2.2]) ∧ Made w w' r.1 x
theorem TurnR.no {w w' : World} (E : Int) (hb : Below w.heap.size w w') : TurnR w ([], false, E) (.returned (.tuple #[.slice none 0 0, .bool false, .int .i64 E])) w' := ⟨_, rfl, World.ownsRow_nil _ _ _ _, hb⟩
end Go.Proofs.Ytlbfibnfmijahaa

namespace Go.Proofs.Ytlbfibnfmijahaa
open Go.RowKit Go.Shelf
set_option maxRecDepth 100000
attribute [local go_sem] Oper.semAt_some

theorem sturn_bad (k f t : Int) (x : Value) (w : World) (h : (f ≠ 1 ∧ f ≠ 2) ∨ (t ≠ 1 ∧ t ≠ 2)) : Calls Try.prog 5 #[.int .i64 k, .int .i64 f, .int .i64 t, x] w fun e w' => TurnR w ([], false, 10) e w' := by
  by_cases h1 : f = 1 ∨ f = 2
  · have KN := Lib.hid (snew_yes f h1 w)
    have KN2 := Lib.hid fun W => snew_no t (by omega) W
    clear h h1
    go_enter Try.func5, Try.ntmps5
    go_wp2_with fail
    refine KN.out.mono ?_
    rintro e w1 ⟨b, rfl, -, -, hb1⟩
    have HB1 := Lib.hid hb1
    clear hb1 KN
    go_wp2_with fail
    refine (KN2.out w1).mono ?_
    rintro e w2 ⟨rfl, hb2⟩
    have HT := Lib.hid (TurnR.no (w := w) 10 (HB1.out.trans (hb2.mono HB1.out.size)))
    clear hb2 KN2
    go_wp2
    go_ret3
    exact HT.out
  · have KN := Lib.hid (snew_no f h1 w)
    clear h h1
    go_enter Try.func5, Try.ntmps5
    go_wp2_with fail
    refine KN.out.mono ?_
    rintro e w1 ⟨rfl, hb1⟩
    have HT := Lib.hid (TurnR.no (w := w) 10 hb1)
    clear hb1 KN
    go_wp2
    go_ret3
    exact HT.out
set_option maxHeartbeats 4000000 in
theorem sturn_any (k f t : Int) (A : Option Addr) (len cap : Nat) (zs : List Int) (w : World) (hlen : zs.length = len) (hll : len ≤ 1000000) (hby : Bys zs) (hA : Nums .u8 w w.heap.size A zs) :
    Calls Try.prog 5 #[.int .i64 k, .int .i64 f, .int .i64 t, .slice A len cap] w fun e w' => TurnR w (mturn k f t zs) e w' := by
  unfold mturn
  by_cases hV : (f ≠ 1 ∧ f ≠ 2) ∨ (t ≠ 1 ∧ t ≠ 2)
  · rw [if_pos hV]
    exact sturn_bad k f t _ w hV
  · rw [if_neg hV]
    have hf : f = 1 ∨ f = 2 := by omega
    have ht : t = 1 ∨ t = 2 := by omega
    clear hV
    have KN := Lib.hid (snew_yes f hf w)
    have KN2 := Lib.hid fun W => snew_yes t ht W
    have hsm := bdec_small (k := k) (v := f) hby
    have hwh := fun m h => turn_whole (k := k) (f := f) (t := t) (m := m) hby ht h
    have hck := fun m h => (bdec_ok (k := k) (v := f) (m := m) hby h).2.2.1
    have KD := Lib.hid fun b (W : World) (hW : Below w.heap.size w W) (hb : SAt W b f) => sunpack_any k A len cap zs b f W hb hlen hll hby ((hA.below hW).mono hW.size)
    obtain ⟨⟨E, M⟩, hD⟩ : ∃ r, bdec k f zs = r := ⟨_, rfl⟩
    rw [hD] at hsm KD ⊢
    have HWH := Lib.hid (hwh M)
    have HCK := Lib.hid (hck M)
    rw [hD] at HWH HCK
    simp only at hsm ⊢
    have HSM := Lib.hid hsm
    clear hwh hck hsm hD hby hA hlen hll ht hf
    by_cases hE : E = 0
    · subst hE
      obtain ⟨g1, g2, g3, g4⟩ := HWH.out rfl
      have gc := HCK.out rfl
      rw [if_neg (by simp)]
      obtain ⟨L, hL⟩ : ∃ L, body M t = L := ⟨_, rfl⟩
      rw [hL] at g2 ⊢
      have HG2 := Lib.hid g2
      have HGC := Lib.hid gc
      clear g1 g2 g3 g4 gc hL HWH HCK
      go_enter Try.func5, Try.ntmps5
      go_wp2_with fail
      refine KN.out.mono ?_
      rintro e w1 ⟨b1, rfl, -, hs1, hb1⟩
      have HB1 := Lib.hid hb1
      have HS1 := Lib.hid hs1
      clear hs1 hb1 KN
      go_wp2_with fail
      refine (KN2.out w1).mono ?_
      rintro e w2 ⟨b2, rfl, -, hs2, hb2⟩
      have HB2 := Lib.hid (HB1.out.trans (hb2.mono HB1.out.size))
      have HS2 := Lib.hid hs2
      have HS12 := Lib.hid (HS1.out.later hb2)
      clear hs2 hb2 HS1 HB1 KN2
      go_wp2_with fail
      refine (KD.out b1 w2 HB2.out HS12.out).mono ?_
      rintro e w3 ⟨P, C, rfl, hmx, hb3⟩
      obtain ⟨w4, hst4, q4, hb4⟩ := new_msg w3 hmx.at
      have HST4 := Lib.hid hst4
      have hb24 := hb3.trans (hb4.mono hb3.size)
      have HX := Lib.hid (And.intro q4 (hmx.at.later hb4))
      have HS4 := Lib.hid (HS2.out.later hb24)
      have HB4 := Lib.hid (HB2.out.trans (hb24.mono HB2.out.size))
      clear hst4 q4 hb3 hb4 hb24 hmx KD HS12 HS2 HB2
      simp only
      unfold mV
      have LM : Hid (∀ W, Below w4.heap.size w4 W → (Instr.loadAt 33 (.pointer (some ⟨w3.heap.size, 0, none⟩))).run Try.prog W = .ok (.agg (mC M P C)) W) := Lib.hid fun W hW => mg_read ((hW.block _ (Array.getElem?_eq_some_iff.1 HX.out.1).1).trans HX.out.1)
      have KP : Hid (Calls Try.prog 8 #[.pointer (some ⟨b2, 0, none⟩), .agg (mC M P C)] w4 fun e w' => ∃ x, e = .returned (.tuple #[.int .i64 M.k, x, .int .i64 0]) ∧ Made w4 w' L x) := Lib.hid (by
        have := spack_any M P C b2 t w4 HSM.out HX.out.2 HS4.out
        unfold PackR at this
        rwa [HG2.out] at this)
      have KF : Hid (∀ W, Below w4.heap.size w4 W → Calls Try.prog 13 #[.pointer (some ⟨b2, 0, none⟩), .agg (mC M P C)] W fun e w' => e = .returned (.bool (decide (mproj M t = M))) ∧ Below W.heap.size W w') := Lib.hid fun W hW => by
        have := sfits_any M P C b2 t W HSM.out (HX.out.2.later hW) (HS4.out.later hW)
        unfold mfits at this
        rwa [decide_eq_true HGC.out, Bool.true_and] at this
      have l4 := LM.out w4 (Below.refl _ _)
      go_wp2_with (first | refine wpList_store_run rfl 33 (.tmp 14) (.tmp 38) rfl (some ⟨w3.heap.size, 0, none⟩) rfl (.agg (mC M P C)) rfl HST4.out ?_ | refine wpList_load_run rfl 33 (.tmp 14) rfl (some ⟨w3.heap.size, 0, none⟩) rfl (.agg (mC M P C)) l4 ?_)
      refine KP.out.mono ?_
      rintro e w5 ⟨x5, rfl, hm5⟩
      have l5 := LM.out w5 hm5.2
      have KF5 := Lib.hid (KF.out w5 hm5.2)
      have HM5 := Lib.hid hm5
      clear hm5 KP l4 KF
      go_wp2_with (refine wpList_load_run rfl 33 (.tmp 14) rfl (some ⟨w3.heap.size, 0, none⟩) rfl (.agg (mC M P C)) l5 ?_)
      refine KF5.out.mono ?_
      rintro e w6 ⟨rfl, hb6⟩
      have HM6 := Lib.hid ((HM5.out.later hb6).since HB4.out)
      clear hb6 l5 KF5
      go_wp2
      go_ret3
      exact ⟨_, rfl, HM6.out⟩
    · have e0 : ¬ (E : Int) = 0 := by omega
      have e1 : ((E : Int) != 0) = true := by simpa using e0
      rw [if_pos hE]
      go_enter Try.func5, Try.ntmps5
      go_wp2_with fail
      refine KN.out.mono ?_
      rintro e w1 ⟨b1, rfl, -, hs1, hb1⟩
      have HB1 := Lib.hid hb1
      have HS1 := Lib.hid hs1
      clear hs1 hb1 KN
      go_wp2_with fail
      refine (KN2.out w1).mono ?_
      rintro e w2 ⟨b2, rfl, -, hs2, hb2⟩
      have HB2 := Lib.hid (HB1.out.trans (hb2.mono HB1.out.size))
      have HS2 := Lib.hid hs2
      have HS12 := Lib.hid (HS1.out.later hb2)
      clear hs2 hb2 HS1 HB1 KN2
      go_wp2_with fail
      refine (KD.out b1 w2 HB2.out HS12.out).mono ?_
      rintro e w3 ⟨P, C, rfl, hmx, hb3⟩
      obtain ⟨w4, hst4, q4, hb4⟩ := new_msg w3 hmx.at
      have HST4 := Lib.hid hst4
      have hb24 := hb3.trans (hb4.mono hb3.size)
      have HX := Lib.hid (And.intro q4 (hmx.at.later hb4))
      have HS4 := Lib.hid (HS2.out.later hb24)
      have HB4 := Lib.hid (HB2.out.trans (hb24.mono HB2.out.size))
      clear hst4 q4 hb3 hb4 hb24 hmx KD HS12 HS2 HB2
      simp only
      unfold mV
      have LM : Hid (∀ W, Below w4.heap.size w4 W → (Instr.loadAt 33 (.pointer (some ⟨w3.heap.size, 0, none⟩))).run Try.prog W = .ok (.agg (mC M P C)) W) := Lib.hid fun W hW => mg_read ((hW.block _ (Array.getElem?_eq_some_iff.1 HX.out.1).1).trans HX.out.1)
      have HT := Lib.hid (TurnR.no (w := w) (E : Int) HB4.out)
      clear HWH HCK
      go_wp2_with (refine wpList_store_run rfl 33 (.tmp 14) (.tmp 38) rfl (some ⟨w3.heap.size, 0, none⟩) rfl (.agg (mC M P C)) rfl HST4.out ?_)
      go_ret3
      exact HT.out
end Go.Proofs.Ytlbfibnfmijahaa

namespace Go.Proofs.Ytlbfibnfmijahaa
open Go.RowKit Go.Shelf
set_option maxRecDepth 100000
attribute [local go_sem] Oper.semAt_some

set_option maxHeartbeats 8000000 in
theorem sback_go (k : Int) (a : Option Addr) (n m cp : Nat) (es : List Int) (w : World) (hn : es.length = n) (hc : n ≤ cp) (hz : Bys es) (h1 : Nums .u8 w w.heap.size a es) (hm : min (n : Int) 250 = (m : Int)) (hmn : m ≤ n) (hm2 : m ≤ 250) :
    Calls Try.prog 3 #[.int .i64 k, .slice a n cp] w fun e w' => e = .returned (.bool true) ∧ Below w.heap.size w w' := by
  have hmc : (m : Int) ≤ (cp : Int) := by omega
  have hlen : (es.take m).length = m := by rw [List.length_take]; omega
  have hby : Bys (es.take m) := fun c hc => hz c (List.mem_of_mem_take hc)
  have hnum := h1.take m
  generalize es.take m = zs at *
  clear hz h1 hn
  have KT := sturn_any k 1 2 a m cp zs w hlen (by omega) hby hnum
  obtain ⟨⟨E, M⟩, hD⟩ : ∃ r, bdec k 1 zs = r := ⟨_, rfl⟩
  by_cases hE : E = 0
  · subst hE
    rw [turn_up hD] at KT
    have hbk := turn_back hby hD
    have hmk := (bdec_ok hby hD).2.2.1
    have h192 := body_len (M := M) (v := 2) (.inr rfl) hmk
    have hbb := body_byte M 2
    obtain ⟨L, hL⟩ : ∃ L, body M 2 = L := ⟨_, rfl⟩
    rw [hL] at KT hbk h192 hbb
    have KT := Lib.hid KT
    have HBK := Lib.hid (And.intro hbk hbb)
    have HNM := Lib.hid hnum
    have HLN := Lib.hid hlen
    clear hbk hbb hnum hlen hD hL hmk hby
    go_enter Try.func3, Try.ntmps3
    go_wp2_with (first | rw [hm])
    refine KT.out.mono ?_
    rintro e w2 ⟨x2, rfl, hm2'⟩
    obtain ⟨A2, c2, rfl, hc2, hn2⟩ := hm2'.slice
    obtain ⟨n2, hn2e⟩ : ∃ n2, L.length = n2 := ⟨_, rfl⟩
    rw [hn2e] at hc2 h192 ⊢
    have KU : Hid (Calls Try.prog 5 #[.int .i64 k, .int .i64 2, .int .i64 1, .slice A2 n2 c2] w2 fun e w' => TurnR w2 (zs, true, 0) e w') := Lib.hid (by
      have := sturn_any k 2 1 A2 n2 c2 L w2 hn2e (by omega) HBK.out.2 hn2
      rwa [HBK.out.1] at this)
    have HB2 := Lib.hid hm2'.2
    clear hm2' hn2 KT
    simp only
    go_wp2_with fail
    refine KU.out.mono ?_
    rintro e w3 ⟨x3, rfl, hm3⟩
    obtain ⟨A3, c3, rfl, hc3, hn3⟩ := hm3.slice
    rw [HLN.out] at hc3 ⊢
    have HB3 := Lib.hid (HB2.out.trans (hm3.2.mono HB2.out.size))
    have HN3 := Lib.hid hn3
    clear hm3 hn3 KU
    simp only
    go_wp2_with fail
    refine (lknown_any w3).mono ?_
    rintro e w4 ⟨rfl, hb4⟩
    have KS : Hid (Calls Try.prog 7 #[.slice A3 m c3, .slice a m cp] w4 fun e w' => e = .returned (.bool true) ∧ Below w4.heap.size w4 w') := Lib.hid ((same_len w4.heap.size A3 a m m c3 cp zs zs w4 rfl HLN.out HLN.out (by omega) ((HN3.out.below hb4).mono hb4.size) ((HNM.out.below (HB3.out.trans (hb4.mono HB3.out.size))).mono (HB3.out.trans (hb4.mono HB3.out.size)).size)).mono fun e w' h => by
      obtain ⟨h1, j, h2⟩ := h
      exact ⟨h1, by rw [h2]; exact below_drewN (Below.refl _ _) j⟩)
    have HB4 := Lib.hid (HB3.out.trans (hb4.mono HB3.out.size))
    clear hb4
    go_wp2_with fail
    refine KS.out.mono ?_
    rintro e w5 ⟨rfl, hb5⟩
    have HF := Lib.hid (HB4.out.trans (hb5.mono HB4.out.size))
    clear hb5
    go_wp2
    go_ret
    exact ⟨rfl, HF.out⟩
  · have hT : mturn k 1 2 zs = ([], false, (E : Int)) := by
      unfold mturn
      rw [if_neg (by omega), hD, if_pos hE]
    rw [hT] at KT
    have KT := Lib.hid KT
    have e0 : ¬ (E : Int) = 0 := by omega
    have e1 : ((E : Int) != 0) = true := by simpa using e0
    clear hT hD hnum hlen hby
    go_enter Try.func3, Try.ntmps3
    go_wp2_with (first | rw [hm])
    refine KT.out.mono ?_
    rintro e w2 ⟨x2, rfl, hm2'⟩
    obtain ⟨A2, c2, rfl, hc2, -⟩ := hm2'.slice
    have HB2 := Lib.hid hm2'.2
    clear hm2' KT
    simp only [List.length_nil]
    go_wp2_with fail
    refine (lknown_any w2).mono ?_
    rintro e w3 ⟨rfl, hb3⟩
    have HF := Lib.hid (HB2.out.trans (hb3.mono HB2.out.size))
    clear hb3
    go_wp2
    go_ret
    exact ⟨rfl, HF.out⟩
end Go.Proofs.Ytlbfibnfmijahaa

namespace Go.Proofs.Ytlbfibnfmijahaa.schemaBack
open Go.ChangeShapes Go.WideShapes Go.ChangeAt Go.RowKit
open Go.ChangeMaps (open_string shut_string)
set_option linter.unusedVariables false

theorem own : ownKnob Try.prog.godebug = none := by kernel_rfl
theorem laidOut : laidOutB Try.prog = true := by kernel_rfl

set_option maxRecDepth 100000 in
theorem lifted (os : Os) (started : os.Started) (H : Type) (enc : TypeId × Value → H) :
    ReturnsInHanded {} Try.checked os 3 .any (Rows.schemaBackSpec.pre6 enc Try.prog Try.f3 Rows.schemaBackRow.domain false) (Rows.schemaBackSpec.post enc Try.prog Try.f3 false true false false) := by
  refine returnsInHanded_of_change (C := Try.checked) own started (by kernel_rfl) Try.func3
    (ChangeSpec.witness6 (enc := enc) (C := Try.checked) false ⟨#[], #[.int .i64 0, .slice none 0 0], []⟩ 8 (by kernel_rfl) (by kernel_rfl) (by kernel_rfl) (by kernel_rfl)) ?_
  intro W base args ds gs before hval0 hW hcnd _
  have hval : ∀ (j : Nat) t v, Try.f3.params[j]? = some t → args[j]? = some v → Value.okWide Try.prog W .any base t v := hval0
  have hW' := hW
  obtain ⟨p, q, hA0, hV, rfl, hfz, hnd⟩ := hW
  have hA : DataW.TrodAll enc Try.prog W 0 (fun _ => true) true Try.f3.params.toList args.toList ds p := hA0
  rw [Try.params3] at hA hval
  obtain ⟨v0, vs0, d0, ds0, p0, q0, hargs, rfl, rfl, h0, r0⟩ := trodAll_cons hA
  obtain ⟨v1, vs1, d1, ds1, p1, q1, rfl, rfl, rfl, h1, r1⟩ := trodAll_cons r0
  obtain ⟨rfl, rfl, rfl⟩ := trodAll_nil r1
  obtain rfl : args = #[v0, v1] := by cases args; simp_all
  obtain ⟨rfl, rfl⟩ := trodVars_none hV
  obtain ⟨a0, rfl, rfl, rfl, w0⟩ := open_int Try.underlying3 (hval 0 3 v0 rfl rfl) h0
  obtain ⟨a1, len1, cap1, rfl⟩ := okWide_slice Try.underlying22 (hval 1 22 v1 rfl rfl)
  have k1 := h1
  have lt1 : ∀ x ∈ p1, x.block < W.heap.size := by obtain ⟨m, hm⟩ := k1; exact DataW.trod_lt m _ _ _ hm
  obtain ⟨e1, hd1, hm1, w1⟩ : ∃ es : List Int, es.length = len1 ∧ len1 ≤ cap1 ∧ Nums .u8 W W.heap.size a1 es ∧ ∀ z ∈ es, (Lit.int .u8 z).wf = true := by
    obtain ⟨fuel, hf⟩ := h1
    obtain ⟨_, _, _, es, he, q⟩ := row_of Try.underlying22 Try.underlying5 (by kernel_rfl) hf
    injection he with e1 e2 e3
    subst e1 e2 e3
    exact ⟨es, q⟩
  clear hA0 hval0
  refine (sback_go a0 a1 len1 (min len1 250) cap1 e1 W hd1 hm1 (fun c hc => bounds_u8 (w1.2 c hc)) w1.1 (by omega) (by omega) (by omega)).mono fun e W' ⟨he, bel⟩ => ?_
  subst he
  exact ⟨_, rfl, _, _, _, [], _, [], hW', trodAll_mk1 (shut_bool Try.underlying4 _), (trodAll_cons_mk (shut_int Try.underlying3 w0) (trodAll_cons_mk (Below.trod laidOut (by kernel_rfl) (of_decide_eq_true (by kernel_rfl)) k1 bel lt1) trodAll_mk0)), rfl, bel.frame _, fun h => by cases h⟩

theorem over : Rows.schemaBackRow.holds Try.pinned (OpenSpec.ofChange Rows.schemaBackSpec) :=
  OpenClaim.holds_of_wide 3 Try.f3 rfl rfl rfl rfl rfl rfl rfl ⟨rfl, rfl, rfl, rfl, rfl⟩ rfl rfl rfl rfl rfl (by kernel_rfl) Try.func3 (by kernel_rfl)
    (of_decide_eq_true (by kernel_rfl)) (by unfold Func.isWrapper; first | (rw [if_pos (by decide +kernel)]; kernel_rfl) | (rw [if_neg (by decide +kernel)]; exact ⟨rfl, rfl⟩))
    (fun os started H enc _ => lifted os started H enc)

theorem proved : Rows.SchemaBackSaid := over
#print axioms proved
end Go.Proofs.Ytlbfibnfmijahaa.schemaBack
