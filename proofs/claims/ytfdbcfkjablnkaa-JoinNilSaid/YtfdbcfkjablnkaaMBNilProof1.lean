/-
  The law JoinNil of layer 15 (join) returns true: for every frame, with no condition.
-/
import Derived.Test.YtfdbcfkjablnkaaRows
import Derived.Below
import Derived.WalkKit
import Derived.ProofKit
import Derived.OpenShut
import Derived.ShutString
import Derived.ChangeOld
import Derived.Test.YtfdbcfkjablnkaaMB6
namespace Go.Proofs.Ytfdbcfkjablnkaa
open Go.RowKit Go.Shelf
set_option maxRecDepth 100000
attribute [local go_sem] Oper.semAt_some

set_option maxHeartbeats 8000000 in
theorem jnil_go (f : Fr) (w : World) :
    Calls Try.prog 4 #[frV f.v f.k f.s f.i f.c (.slice f.a f.zs.length f.cp)] w fun e w' => e = .returned (.bool true) ∧ Below w.heap.size w w' := by
  have HKN := Lib.hid (fun W => jknown_any W)
  have HPT := Lib.hid (fun W => jtake_nil f W)
  have HWT := Lib.hid (fun W => jwait_nil W)
  have HOT := Lib.hid (fun W => touts_any none none 0 0 0 false false 0 [] W rfl (by omega) Nums.nil Nums.nil)
  have HDN := Lib.hid (fun W => jdone_nil f.s W)
  have HDR := Lib.hid (fun W => jdrop_nil f.s W)
  have HWI := Lib.hid (fun W => jwindow_nil W)
  have HTA := Lib.hid (fun W => jtable_nil W)
  have HHE := Lib.hid (fun W => jheld_nil W)
  have HCP := Lib.hid (fun W => jcopy_nil W)
  have HNN := Lib.hid (fun W => jwait1_not_nil W)
  obtain ⟨w1, hw1⟩ : ∃ w1, w.alloc (.cells f.cs 35) = w1 := ⟨_, rfl⟩
  have hb1 : Below w.heap.size w w1 := by rw [← hw1]; exact (Below.refl _ w).alloc (Nat.le_refl _) _
  have hs1 : w1.heap.size = w.heap.size + 1 := by rw [← hw1]; simp
  have hx1 : w1.heap[w.heap.size]? = some (.cells f.cs 35 (0, 0)) := by rw [← hw1]; exact World.alloc_heap_new _ _
  have HW1 : Hid (w.alloc (.cells #[.int .i64 f.v, .int .i64 f.k, .int .u32 f.s, .int .i64 f.i, .int .i64 f.c, .slice f.a f.zs.length f.cp] 35) = w1) := Lib.hid hw1
  clear hw1
  unfold frV outV at *
  simp only [frC, outC] at *
  refine (callsIn_wide (n := 7)).1 ?_
  refine callsIn_of_wp_marks Try.func4 rfl trivial ?_ rfl
  simp only [Try.ntmps4, List.size_toArray, List.length_cons, List.length_nil, Nat.reduceAdd, Nat.reduceSub, Array.replicate_succ, Array.replicate_zero, List.push_toArray, List.append_toArray, List.nil_append, List.cons_append]
  gi_wp2_with fail
  refine ⟨trivial, ?_⟩
  rw [HW1.out]
  refine (callsIn_wide.2 (HPT.out w1)).mono ?_
  rintro e w2 ⟨rfl, hb2⟩
  have hx2 := row_stays hx1 hb2
  have hb02 := hb1.trans (hb2.mono (by omega))
  have hs2 := hb2.size
  obtain ⟨w3, hw3⟩ : ∃ w3, (w2.alloc (.cells #[.slice none 0 0, .bool false, .bool false, .int .u32 0] 39)).alloc (.cells #[.int .i64 0] 3) = w3 := ⟨_, rfl⟩
  have hb23 : Below w2.heap.size w2 w3 := by rw [← hw3]; exact ((Below.refl _ w2).alloc (Nat.le_refl _) _).alloc (by simp) _
  have hs3 : w3.heap.size = w2.heap.size + 2 := by rw [← hw3]; simp
  have hO3 : w3.heap[w2.heap.size]? = some (.cells (outC none 0 0 false false 0) 39 (0, 0)) := by rw [← hw3]; exact (Below.heap_alloc _ _ _ (by simp)).trans (World.alloc_heap_new _ _)
  have hN3 : Boxed w3 (w2.heap.size + 1) 3 (.int .i64 0) := by
    have := Boxed.new (w2.alloc (.cells #[.slice none 0 0, .bool false, .bool false, .int .u32 0] 39)) 3 (.int .i64 0)
    rw [World.size_alloc] at this
    rw [← hw3]; exact this
  have hx3 := row_stays hx2 hb23
  have hb03 := hb02.trans (hb23.mono hb02.size)
  have HW3 := Lib.hid hw3
  clear hw3 hx1 hb1 hx2 hb2 hb23 hb02 HW1 HPT
  gi_wp2_with fail
  refine ⟨trivial, ?_⟩
  rw [HW3.out]
  refine (callsIn_wide.2 (HWT.out w3)).mono ?_
  rintro e w4 ⟨rfl, rfl⟩
  rename World => w4
  have hnn := HNN.out w4
  have hw34 : w2.heap.size + 2 ≤ w4.heap.size := by omega
  have hw04 : w.heap.size < w2.heap.size := by omega
  have hN4 := hN3
  have hO4 := hO3
  have hx4 := hx3
  have hb04 := hb03
  clear hx3 hO3 hN3 hb03 hs3 HWT HW3
  gi_wp2_with fail
  refine range_stops rfl (by omega) (gf := 22) (lb := #[]) rfl trivial (enters_of Try.func22 (by kernel_rfl) rfl)
    (fun x : Int × Int => #[Value.int .u32 x.1, .int .i64 x.2]) (fun _ => rfl)
    (fun _ _ _ => False) (fun _ V => Below w4.heap.size w4 V) (fun _ _ => False) (fun _ _ => True) 0
    (fun _ _ _ _ _ _ h _ _ _ => h.elim)
    (fun _ V l o o' h hl _ _ => h.trans (below_put V o' hl))
    (fun _ _ _ _ _ h _ _ _ => h)
    (fun _ _ _ _ _ => trivial) (fun _ _ _ _ _ _ _ => trivial)
    (fun o => ((Below.refl w4.heap.size w4).alloc (Nat.le_refl _) _).alloc (by simp) _) ?a1 ?assign ?body ?iter ?done ?stop
  case assign =>
    intro l x V K hK
    gi_wp2
    exact hK
  case body =>
    rintro l j x V hl h hj
    exact h.elim
  case iter =>
    intro Bk X l V hBk hBlt hX hl2 hD hB hY
    exact (jwait1_in 6 l V).mono fun e W' ⟨hv, hw⟩ => ⟨hv, .inl (by subst hw; exact ⟨hD, hB⟩)⟩
  case done =>
    rintro D V hD hV hK
    have hxV := row_stays hx4 hV
    have hOV := row_stays hO4 hV
    have bNV : Boxed V (w2.heap.size + 1) 3 (.int .i64 0) := row_stays hN4 hV
    have hbV := hb04.trans (hV.mono hb04.size)
    clear hV hnn hN4 hO4 hx4 hb04
    gi_wp2_with fail
    refine ⟨trivial, ?_⟩
    refine (callsIn_wide.2 (HKN.out V)).mono ?_
    rintro e V1 ⟨rfl, hb⟩
    have bN1 : Boxed V1 (w2.heap.size + 1) 3 (.int .i64 0) := row_stays bNV hb
    have hx1 := row_stays hxV hb
    have hO1 := row_stays hOV hb
    have hK1 := row_stays hK hb
    have hbV1 := hbV.trans (hb.mono hbV.size)
    obtain ⟨k0, k1, k2, k3⟩ := out_block hO1
    clear hb bNV hxV hOV hK hbV
    gi_wp2_with fail
    refine ⟨trivial, ?_⟩
    refine (callsIn_wide.2 (HOT.out V1)).mono ?_
    rintro e V2 ⟨rfl, hb⟩
    have bN2 : Boxed V2 (w2.heap.size + 1) 3 (.int .i64 0) := row_stays bN1 hb
    have hx2 := row_stays hx1 hb
    have hK2 := row_stays hK1 hb
    have hbV2 := hbV1.trans (hb.mono hbV1.size)
    obtain ⟨d0, d1, d2, d3, d4, d5⟩ := fr_block (v := f.v) (k := f.k) (s := f.s) (i := f.i) (c := f.c) hx2
    have kN := bN2.cell
    clear hb bN1 hx1 hO1 hK1 hbV1 k0 k1 k2 k3
    gi_wp2_with fail
    refine ⟨trivial, ?_⟩
    refine (callsIn_wide.2 (HDN.out V2)).mono ?_
    rintro e V9 ⟨rfl, rfl⟩
    gi_wp2_with fail
    refine ⟨trivial, ?_⟩
    refine (callsIn_wide.2 (HDR.out _)).mono ?_
    rintro e V9 ⟨rfl, rfl⟩
    gi_wp2_with fail
    refine ⟨trivial, ?_⟩
    refine (callsIn_wide.2 (HWI.out _)).mono ?_
    rintro e V9 ⟨rfl, rfl⟩
    gi_wp2_with fail
    refine ⟨trivial, ?_⟩
    refine (callsIn_wide.2 (HTA.out _)).mono ?_
    rintro e V9 ⟨rfl, rfl⟩
    gi_wp2_with fail
    refine ⟨trivial, ?_⟩
    refine (callsIn_wide.2 (HHE.out _)).mono ?_
    rintro e V9 ⟨rfl, rfl⟩
    gi_wp2_with fail
    refine ⟨trivial, ?_⟩
    refine (callsIn_wide.2 (HCP.out _)).mono ?_
    rintro e V9 ⟨rfl, rfl⟩
    gi_wp2
    refine ⟨by simp, .inl ⟨_, _, rfl, run_takeDeferred hK2, ?_⟩⟩
    refine ⟨_, results_tmp rfl _ _ _, rfl, ?_⟩
    exact hbV2.trans (below_put (B := w.heap.size) _ (.deferred none) (by omega : w.heap.size ≤ D))
  case stop =>
    rintro D cd V _ h _
    exact h.elim
end Go.Proofs.Ytfdbcfkjablnkaa

namespace Go.Proofs.Ytfdbcfkjablnkaa.joinNil
open Go.ChangeShapes Go.WideShapes Go.ChangeAt Go.RowKit
open Go.ChangeMaps (open_string shut_string)
set_option linter.unusedVariables false

theorem own : ownKnob Try.prog.godebug = none := by kernel_rfl
theorem laidOut : laidOutB Try.prog = true := by kernel_rfl

set_option maxRecDepth 100000 in
theorem lifted (os : Os) (started : os.Started) (H : Type) (enc : TypeId × Value → H) :
    ReturnsInHanded {} Try.checked os 4 .any (Rows.joinNilSpec.pre6 enc Try.prog Try.f4 Rows.joinNilRow.domain false) (Rows.joinNilSpec.post enc Try.prog Try.f4 false true false false) := by
  refine returnsInHanded_of_change (C := Try.checked) own started (by kernel_rfl) Try.func4
    (ChangeSpec.witness6 (enc := enc) (C := Try.checked) false ⟨#[], #[.agg #[.int .i64 0, .int .i64 0, .int .u32 0, .int .i64 0, .int .i64 0, .slice none 0 0]], []⟩ 8 (by kernel_rfl) (by kernel_rfl) (by kernel_rfl) (by kernel_rfl)) ?_
  intro W base args ds gs before hval0 hW hcnd _
  have hval : ∀ (j : Nat) t v, Try.f4.params[j]? = some t → args[j]? = some v → Value.okWide Try.prog W .any base t v := hval0
  have hW' := hW
  obtain ⟨p, q, hA0, hV, rfl, hfz, hnd⟩ := hW
  have hA : DataW.TrodAll enc Try.prog W 0 (fun _ => true) true Try.f4.params.toList args.toList ds p := hA0
  rw [Try.params4] at hA hval
  obtain ⟨v0, vs0, d0, ds0, p0, q0, hargs, rfl, rfl, h0, r0⟩ := trodAll_cons hA
  obtain ⟨rfl, rfl, rfl⟩ := trodAll_nil r0
  obtain rfl : args = #[v0] := by cases args; simp_all
  obtain ⟨rfl, rfl⟩ := trodVars_none hV
  have k0 := h0
  have lt0 : ∀ x ∈ p0, x.block < W.heap.size := by obtain ⟨m, hm⟩ := k0; exact DataW.trod_lt m _ _ _ hm
  obtain ⟨f0, rfl, y0, z0⟩ := open_frame (hval 0 35 v0 rfl rfl) h0
  clear hA0 hval0
  refine (jnil_go f0 W).mono fun e W' ⟨he, bel⟩ => ?_
  subst he
  exact ⟨_, rfl, _, _, _, [], _, [], hW', trodAll_mk1 (shut_bool Try.underlying4 _), (trodAll_cons_mk (Below.trod laidOut (by kernel_rfl) (of_decide_eq_true (by kernel_rfl)) k0 bel lt0) trodAll_mk0), rfl, bel.frame _, fun h => by cases h⟩

theorem over : Rows.joinNilRow.holds Try.pinned (OpenSpec.ofChange Rows.joinNilSpec) :=
  OpenClaim.holds_of_wide 4 Try.f4 rfl rfl rfl rfl rfl rfl rfl ⟨rfl, rfl, rfl, rfl, rfl⟩ rfl rfl rfl rfl rfl (by kernel_rfl) Try.func4 (by kernel_rfl)
    (of_decide_eq_true (by kernel_rfl)) (by unfold Func.isWrapper; first | (rw [if_pos (by decide +kernel)]; kernel_rfl) | (rw [if_neg (by decide +kernel)]; exact ⟨rfl, rfl⟩))
    (fun os started H enc _ => lifted os started H enc)

theorem proved : Rows.JoinNilSaid := over
#print axioms proved
end Go.Proofs.Ytfdbcfkjablnkaa.joinNil
