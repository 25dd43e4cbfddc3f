/-
  A nil codec has no frames: FrameNil returns true at every input, and leaves its arguments as they were.
-/
import Derived.Test.YtbohdmconeebeaaRows
import Derived.Below
import Derived.WalkKit
import Derived.ProofKit
import Derived.OpenShut
import Derived.ShutString
import Derived.ChangeOld
import Derived.Test.YtbohdmconeebeaaMB3
namespace Go.Proofs.Ytbohdmconeebeaa
open Go.RowKit Go.Shelf
set_option maxRecDepth 100000
attribute [local go_sem] Oper.semAt_some

set_option maxHeartbeats 8000000 in
theorem walk_fnil (v k s i c : Int) (a : Option Addr) (n cp : Nat) (p : Value) (w : World) :
    Calls Try.prog 6 #[frV v k s i c p, .slice a n cp] w fun e w' => e = .returned (.bool true) ∧ Below w.heap.size w w' := by
  have HF : Hid (frC v k s i c p = #[.int .i64 v, .int .i64 k, .int .u32 s, .int .i64 i, .int .i64 c, p]) := rfl
  have KS := Lib.hid (fsegment_nil v k s i c p)
  have KC := Lib.hid (fcheck_nil v k s i c p)
  unfold frV at KS KC ⊢
  obtain ⟨w0, hw0⟩ : ∃ w0, w.alloc (.cells (frC v k s i c p) 29) = w0 := ⟨_, rfl⟩
  have hs0 : w0.heap.size = w.heap.size + 1 := by rw [← hw0]; simp
  have hbx : w0.heap[w.heap.size]? = some (.cells (frC v k s i c p) 29 (0, 0)) := by rw [← hw0]; exact World.alloc_heap_new _ _
  have hb0 : Below w.heap.size w w0 := by rw [← hw0]; exact (Below.refl _ w).alloc (Nat.le_refl _) _
  have HB0 := Lib.hid hb0
  have HBX := Lib.hid hbx
  clear hb0 hbx
  rw [HF.out] at hw0 KS KC ⊢
  have HBk : Hid (∀ W, Below w0.heap.size w0 W → W.cell? ⟨w.heap.size, 0, none⟩ = some (.int .i64 v) ∧ W.cell? ⟨w.heap.size, 1, none⟩ = some (.int .i64 k) ∧ W.cell? ⟨w.heap.size, 2, none⟩ = some (.int .u32 s) ∧ W.cell? ⟨w.heap.size, 3, none⟩ = some (.int .i64 i) ∧ W.cell? ⟨w.heap.size, 4, none⟩ = some (.int .i64 c) ∧ W.cell? ⟨w.heap.size, 5, none⟩ = some p) := fun W hW =>
    fr_block ((hW.block w.heap.size (by omega)).trans HBX.out)
  obtain ⟨d0, d1, d2, d3, d4, d5⟩ := HBk.out w0 (Below.refl _ _)
  refine (callsIn_wide (n := 9)).1 ?_
  refine callsIn_of_wp_marks Try.func6 rfl trivial ?_ rfl
  simp only [Try.ntmps6, List.size_toArray, List.length_cons, List.length_nil, Nat.reduceAdd, Nat.reduceSub, Array.replicate_succ, Array.replicate_zero, List.push_toArray, List.append_toArray, List.nil_append, List.cons_append]
  gi_wp2_with fail
  refine ⟨trivial, ?_⟩
  refine (callsIn_wide.2 (fpack_nil _ _)).mono ?_
  rintro e w1 ⟨rfl, hb1⟩
  have hb01 : Below w0.heap.size w0 w1 := ((Below.refl w0.heap.size w0).alloc (Nat.le_refl _) _).trans (hb1.mono (by simp))
  clear d0 d1 d2 d3 d4 d5 hb1 hw0
  obtain ⟨d0, d1, d2, d3, d4, d5⟩ := HBk.out w1 hb01
  gi_wp2_with fail
  refine ⟨trivial, ?_⟩
  refine (callsIn_wide.2 (KS.out _)).mono ?_
  rintro e w2 ⟨rfl, hb2⟩
  have hb02 := hb01.trans (hb2.mono hb01.size)
  clear d0 d1 d2 d3 d4 d5 hb2 hb01
  gi_wp2_with fail
  refine ⟨trivial, ?_⟩
  refine (callsIn_wide.2 (funpack_nil a n cp _)).mono ?_
  rintro e w3 ⟨rfl, hb3⟩
  have hb03 := hb02.trans (hb3.mono hb02.size)
  clear hb3 hb02
  unfold frV frC
  gi_wp2_with fail
  refine ⟨trivial, ?_⟩
  obtain ⟨w4, hw4⟩ : ∃ w4, (w3.alloc (.cells (frC 0 0 0 0 0 (.slice none 0 0)) 29)).alloc (.cells #[.int .i64 0] 3) = w4 := ⟨_, rfl⟩
  have hs4 : w4.heap.size = w3.heap.size + 2 := by rw [← hw4]; simp
  have bN4 : Boxed w4 (w3.heap.size + 1) 3 (.int .i64 ((0 : Nat) : Int)) := by
    rw [← hw4]
    have := Boxed.new (w3.alloc (.cells (frC 0 0 0 0 0 (.slice none 0 0)) 29)) 3 (.int .i64 0)
    rwa [World.size_alloc] at this
  have bZ4 : w4.heap[w3.heap.size]? = some (.cells (frC 0 0 0 0 0 (.slice none 0 0)) 29 (0, 0)) := by
    rw [← hw4]; exact (Below.heap_alloc _ _ _ (by simp)).trans (World.alloc_heap_new _ _)
  have hb34 : Below w3.heap.size w3 w4 := by rw [← hw4]; exact ((Below.refl _ w3).alloc (Nat.le_refl _) _).alloc (by simp) _
  have hb04 := hb03.trans (hb34.mono hb03.size)
  unfold frC at hw4
  rw [hw4]
  clear hw4
  refine (callsIn_wide.2 (fframes_nil _ _)).mono ?_
  rintro e w5 ⟨rfl, hb5⟩
  have hs5 := hb5.size
  have bN5 : Boxed w5 (w3.heap.size + 1) 3 (.int .i64 ((0 : Nat) : Int)) := (hb5.block _ (by omega)).trans bN4
  have bZ5 : w5.heap[w3.heap.size]? = some (.cells (frC 0 0 0 0 0 (.slice none 0 0)) 29 (0, 0)) := (hb5.block _ (by omega)).trans bZ4
  have hb05 := hb04.trans (hb5.mono hb04.size)
  have hfn := nil_not_nil
  have hs30 := hb03.size
  clear bN4 bZ4 hb04 hb34 hb5 hb03
  gi_wp2_with fail
  refine range_stops rfl (by omega) (gf := 33) (lb := #[]) rfl trivial (enters_of Try.func33 (by kernel_rfl) rfl)
    (fun _ : Unit => #[Value.int .i64 0, Value.int .i64 0]) (fun _ => rfl)
    (fun _ _ _ => False)
    (fun _ V => Below w5.heap.size w5 V) (fun _ _ => False) (fun _ _ => True) 0
    (fun _ _ _ _ _ _ h _ _ _ => h.elim)
    (fun _ V l o o' h hl _ _ => h.trans (below_put V o' hl))
    (fun _ _ _ _ _ h _ _ _ => h)
    (fun _ _ _ _ _ => trivial) (fun _ _ _ _ _ _ _ => trivial)
    (fun o => ((Below.refl w5.heap.size w5).alloc (Nat.le_refl _) _).alloc (by simp) _) ?a1 ?assign ?body ?iter ?done ?stop
  case assign =>
    intro l x V K hK
    gi_wp2
    exact hK
  case body =>
    rintro l j x V hl h
    exact h.elim
  case iter =>
    intro Bk X l V hBk hBlt hX hl hD hB hY
    refine (nil_in 8 _ V).mono ?_
    rintro e W' ⟨hv, rfl⟩
    exact ⟨hv, .inl ⟨hD, hB⟩⟩
  case done =>
    rintro D V hD hV hK
    have hb0V := hb05.trans (hV.mono hb05.size)
    have bNV : Boxed V (w3.heap.size + 1) 3 (.int .i64 ((0 : Nat) : Int)) := (hV.block _ (by omega)).trans bN5
    have bZV : V.heap[w3.heap.size]? = some (.cells (frC 0 0 0 0 0 (.slice none 0 0)) 29 (0, 0)) := (hV.block _ (by omega)).trans bZ5
    have hDV := (Array.getElem?_eq_some_iff.1 hK).1
    have hVs := hV.size
    clear bN5 bZ5 hb05 hV hfn
    gi_wp2_with fail
    refine ⟨trivial, ?_⟩
    refine (callsIn_wide.2 (fknown_any _)).mono ?_
    rintro e V1 ⟨rfl, hb1⟩
    have hb01 := hb0V.trans (hb1.mono hb0V.size)
    obtain ⟨d0, d1, d2, d3, d4, d5⟩ := HBk.out V1 hb01
    gi_wp2_with fail
    refine ⟨trivial, ?_⟩
    refine (callsIn_wide.2 (KC.out _)).mono ?_
    rintro e V2 ⟨rfl, hb2⟩
    have hb12 := hb1.trans (hb2.mono hb1.size)
    have hb02 := hb0V.trans (hb12.mono hb0V.size)
    have bZ2 : V2.heap[w3.heap.size]? = some (.cells (frC 0 0 0 0 0 (.slice none 0 0)) 29 (0, 0)) := (hb12.block _ (by omega)).trans bZV
    clear d0 d1 d2 d3 d4 d5 hb1 hb2
    obtain ⟨d0, d1, d2, d3, d4, d5⟩ := fr_block bZ2
    have KQ := fsame_any 0 0 0 0 0 0 0 0 0 0 0 none none 0 0 0 0 [] [] V2 rfl rfl (Nat.zero_le _) (by intro z hz; cases hz) (by intro z hz; cases hz) Nums.nil Nums.nil
    rw [show sameZ 0 0 0 0 0 0 0 0 0 0 [] [] = true from rfl] at KQ
    unfold frV frC at KQ
    gi_wp2_with fail
    refine ⟨trivial, ?_⟩
    refine (callsIn_wide.2 KQ).mono ?_
    rintro e V3 ⟨rfl, hb3⟩
    have hb13 := hb12.trans (hb3.mono hb12.size)
    have hb03 := hb02.trans (hb3.mono hb02.size)
    have bN3 : Boxed V3 (w3.heap.size + 1) 3 (.int .i64 ((0 : Nat) : Int)) := (hb13.block _ (by omega)).trans bNV
    have kN := bN3.cell
    have hK3 : V3.heap[D]? = some (.deferred (some [])) := (hb13.block _ hDV).trans hK
    have hfin := Lib.hid ((HB0.out.trans (hb03.mono HB0.out.size)).trans (below_put (B := w.heap.size) V3 (.deferred none) (by have := HB0.out.size; omega : w.heap.size ≤ D)))
    rw [show ((0 : Nat) : Int) = 0 from rfl] at kN
    clear d0 d1 d2 d3 d4 d5 hb3 hb12 hb02 bZ2 bZV bNV bN3 KQ hb13 hb03
    gi_wp2
    refine ⟨by simp, .inl ⟨_, _, rfl, run_takeDeferred hK3, ?_⟩⟩
    refine ⟨_, results_tmp rfl _ _ _, ?_⟩
    exact ⟨rfl, hfin.out⟩
  case stop =>
    rintro D cd W' _ h _
    exact h.elim
end Go.Proofs.Ytbohdmconeebeaa

namespace Go.Proofs.Ytbohdmconeebeaa.frameNil
open Go.ChangeShapes Go.WideShapes Go.ChangeAt Go.RowKit
open Go.ChangeMaps (open_string shut_string)
set_option linter.unusedVariables false

theorem own : ownKnob Try.prog.godebug = none := by kernel_rfl
theorem laidOut : laidOutB Try.prog = true := by kernel_rfl

set_option maxRecDepth 100000 in
theorem lifted (os : Os) (started : os.Started) (H : Type) (enc : TypeId × Value → H) :
    ReturnsInHanded {} Try.checked os 6 .any (Rows.frameNilSpec.pre6 enc Try.prog Try.f6 Rows.frameNilRow.domain false) (Rows.frameNilSpec.post enc Try.prog Try.f6 false true false false) := by
  refine returnsInHanded_of_change (C := Try.checked) own started (by kernel_rfl) Try.func6
    (ChangeSpec.witness6 (enc := enc) (C := Try.checked) false ⟨#[], #[.agg #[.int .i64 0, .int .i64 0, .int .u32 0, .int .i64 0, .int .i64 0, .slice none 0 0], .slice none 0 0], []⟩ 8 (by kernel_rfl) (by kernel_rfl) (by kernel_rfl) (by kernel_rfl)) ?_
  intro W base args ds gs before hval0 hW hcnd _
  have hval : ∀ (j : Nat) t v, Try.f6.params[j]? = some t → args[j]? = some v → Value.okWide Try.prog W .any base t v := hval0
  have hW' := hW
  obtain ⟨p, q, hA0, hV, rfl, hfz, hnd⟩ := hW
  have hA : DataW.TrodAll enc Try.prog W 0 (fun _ => true) true Try.f6.params.toList args.toList ds p := hA0
  rw [Try.params6] at hA hval
  obtain ⟨v0, vs0, d0, ds0, p0, q0, hargs, rfl, rfl, h0, r0⟩ := trodAll_cons hA
  obtain ⟨v1, vs1, d1, ds1, p1, q1, rfl, rfl, rfl, h1, r1⟩ := trodAll_cons r0
  obtain ⟨rfl, rfl, rfl⟩ := trodAll_nil r1
  obtain rfl : args = #[v0, v1] := by cases args; simp_all
  obtain ⟨rfl, rfl⟩ := trodVars_none hV
  have k0 := h0
  have lt0 : ∀ x ∈ p0, x.block < W.heap.size := by obtain ⟨m, hm⟩ := k0; exact DataW.trod_lt m _ _ _ hm
  obtain ⟨f0, rfl, y0, z0⟩ := open_frame (hval 0 29 v0 rfl rfl) h0
  obtain ⟨a1, len1, cap1, rfl⟩ := okWide_slice Try.underlying22 (hval 1 22 v1 rfl rfl)
  have k1 := h1
  have lt1 : ∀ x ∈ p1, x.block < W.heap.size := by obtain ⟨m, hm⟩ := k1; exact DataW.trod_lt m _ _ _ hm
  obtain ⟨e1, hd1, hm1, w1⟩ : ∃ es : List Int, es.length = len1 ∧ len1 ≤ cap1 ∧ Nums .u8 W W.heap.size a1 es ∧ ∀ z ∈ es, (Lit.int .u8 z).wf = true := by
    obtain ⟨fuel, hf⟩ := h1
    obtain ⟨_, _, _, es, he, q⟩ := row_of Try.underlying22 Try.underlying5 (by kernel_rfl) hf
    injection he with e1 e2 e3
    subst e1 e2 e3
    exact ⟨es, q⟩
  clear hA0 hval0
  refine (walk_fnil f0.v f0.k f0.s f0.i f0.c a1 len1 cap1 _ W).mono fun e W' ⟨he, bel⟩ => ?_
  subst he
  exact ⟨_, rfl, _, _, _, [], _, [], hW', trodAll_mk1 (shut_bool Try.underlying4 _), (trodAll_cons_mk (Below.trod laidOut (by kernel_rfl) (of_decide_eq_true (by kernel_rfl)) k0 bel lt0) (trodAll_cons_mk (Below.trod laidOut (by kernel_rfl) (of_decide_eq_true (by kernel_rfl)) k1 bel lt1) trodAll_mk0)), rfl, bel.frame _, fun h => by cases h⟩

theorem over : Rows.frameNilRow.holds Try.pinned (OpenSpec.ofChange Rows.frameNilSpec) :=
  OpenClaim.holds_of_wide 6 Try.f6 rfl rfl rfl rfl rfl rfl rfl ⟨rfl, rfl, rfl, rfl, rfl⟩ rfl rfl rfl rfl rfl (by kernel_rfl) Try.func6 (by kernel_rfl)
    (of_decide_eq_true (by kernel_rfl)) (by unfold Func.isWrapper; first | (rw [if_pos (by decide +kernel)]; kernel_rfl) | (rw [if_neg (by decide +kernel)]; exact ⟨rfl, rfl⟩))
    (fun os started H enc _ => lifted os started H enc)

theorem proved : Rows.FrameNilSaid := over
#print axioms proved
end Go.Proofs.Ytbohdmconeebeaa.frameNil
