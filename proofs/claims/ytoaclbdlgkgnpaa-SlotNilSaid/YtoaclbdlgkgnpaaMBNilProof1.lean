/-
  SlotNil: a nil slot has no fragments
-/
import Derived.Test.YtoaclbdlgkgnpaaRows
import Derived.Below
import Derived.WalkKit
import Derived.ProofKit
import Derived.OpenShut
import Derived.ShutString
import Derived.ChangeOld
import Derived.Test.YtoaclbdlgkgnpaaMB3
namespace Go.Proofs.Ytoaclbdlgkgnpaa
open Go.RowKit Go.Shelf
set_option maxRecDepth 100000
attribute [local go_sem] Oper.semAt_some

set_option maxHeartbeats 8000000 in
theorem snil_go (v k s i c : Int) (a : Option Addr) (n cp : Nat) (w : World) :
    Calls Try.prog 5 #[frV v k s i c (.slice a n cp)] w fun e w' => e = .returned (.bool true) ∧ Below w.heap.size w w' := by
  have HKN := Lib.hid (fun W => sknown_any W)
  have HPT := Lib.hid (fun W => sput_nil v k s i c a n cp W)
  have HHD := Lib.hid (fun W => shead_nil W)
  have HHV := Lib.hid (fun W => shave_nil W)
  have HSZ := Lib.hid (fun W => ssize_nil W)
  have HFL := Lib.hid (fun W => sfull_nil W)
  have HCP := Lib.hid (fun W => scopy_nil W)
  have HBY := Lib.hid (fun W => sbytes_nil W)
  have HMS := Lib.hid (fun W => smissing_nil W)
  obtain ⟨w1, hw1⟩ : ∃ w1, w.alloc (.cells (frC v k s i c (.slice a n cp)) 39) = w1 := ⟨_, rfl⟩
  have hb1 : Below w.heap.size w w1 := by rw [← hw1]; exact (Below.refl _ w).alloc (Nat.le_refl _) _
  have hs1 : w1.heap.size = w.heap.size + 1 := by rw [← hw1]; simp
  have hx1 : w1.heap[w.heap.size]? = some (.cells (frC v k s i c (.slice a n cp)) 39 (0, 0)) := by rw [← hw1]; exact World.alloc_heap_new _ _
  have HW1 : Hid (w.alloc (.cells #[.int .i64 v, .int .i64 k, .int .u32 s, .int .i64 i, .int .i64 c, .slice a n cp] 39) = w1) := Lib.hid hw1
  clear hw1
  unfold frV frC hdV at *
  refine (callsIn_wide (n := 3)).1 ?_
  refine callsIn_of_wp_marks Try.func5 rfl trivial ?_ rfl
  simp only [Try.ntmps5, List.size_toArray, List.length_cons, List.length_nil, Nat.reduceAdd, Nat.reduceSub, Array.replicate_succ, Array.replicate_zero, List.push_toArray, List.append_toArray, List.nil_append, List.cons_append]
  gi_wp2_with fail
  refine ⟨trivial, ?_⟩
  rw [HW1.out]
  refine (callsIn_wide.2 (HBY.out w1)).mono ?_
  rintro e w2 ⟨rfl, d, rfl⟩
  have hb2 := below_drewN hb1 d
  have hx2 : (w1.drewN d).heap[w.heap.size]? = _ := hx1
  have hs2 : (w1.drewN d).heap.size = w.heap.size + 1 := hs1
  generalize w1.drewN d = w2 at *
  clear hb1 hs1 hx1 HW1
  obtain ⟨w3, hw3⟩ : ∃ w3, w2.alloc (.cells #[.int .i64 0] 3) = w3 := ⟨_, rfl⟩
  have hb3 : Below w.heap.size w w3 := by rw [← hw3]; exact hb2.alloc (by omega) _
  have hs3 : w3.heap.size = w.heap.size + 2 := by rw [← hw3]; simp [hs2]
  have hx3 : w3.heap[w.heap.size]? = some (.cells #[.int .i64 v, .int .i64 k, .int .u32 s, .int .i64 i, .int .i64 c, .slice a n cp] 39 (0, 0)) := by rw [← hw3]; exact (Below.heap_alloc _ _ _ (by omega)).trans hx2
  have bN3 : Boxed w3 (w.heap.size + 1) 3 (.int .i64 0) := by rw [← hw3, ← hs2]; exact Boxed.new w2 _ _
  have HW3 := Lib.hid hw3
  have HS2 := Lib.hid hs2
  clear hw3 hb2 hx2 hs2
  gi_wp2_with fail
  refine ⟨trivial, ?_⟩
  rw [HW3.out]
  refine (callsIn_wide.2 (HMS.out w3)).mono ?_
  rintro e w4 ⟨Bv, A, cq, rfl, hb4, hBv, hbx, hcq, _⟩
  have hb4w := hb3.trans (hb4.mono (by omega))
  have hx4 := (hb4.block _ (by omega)).trans hx3
  have bN4 : Boxed w4 (w.heap.size + 1) 3 (.int .i64 0) := (hb4.block _ (by omega)).trans bN3
  have hs4 := hb4.size
  have hbl := hbx.lt
  have HNN := Lib.hid (values_not_nil Bv w4)
  have hnn := HNN.out
  clear hb3 hb4 hx3 bN3 HW3 HMS HBY
  gi_wp2_with fail
  refine range_stops rfl (by omega) (gf := 42) (lb := #[.pointer (some ⟨Bv, 0, none⟩)]) rfl trivial (enters_of Try.func42 (by kernel_rfl) rfl)
    (fun x : Int => #[Value.int .i64 x]) (fun _ => rfl)
    (fun _ _ _ => False) (fun _ V => Below w4.heap.size w4 V) (fun _ _ => False) (fun _ _ => True) 0
    (fun _ _ _ _ _ _ h _ _ _ => h.elim)
    (fun _ V l o o' h hl _ _ => h.trans (below_put V o' hl))
    (fun _ _ _ _ _ h _ _ _ => h)
    (fun _ _ _ _ _ => trivial) (fun _ _ _ _ _ _ _ => trivial)
    (fun o => ((Below.refl w4.heap.size w4).alloc (Nat.le_refl _) _).alloc (by simp) _) ?a1 ?assign ?body ?iter ?done ?stop
  case assign =>
    intro l x V K hK
    gi_wp2
    exact hK
  case body =>
    rintro l j x V hl h hj
    exact h.elim
  case iter =>
    intro Bk X l V hBk hBlt hX hl2 hD hB hY
    have hbx' : Boxed V Bv 50 (.slice A 0 cq) := (hD.block _ hbl).trans hbx
    refine (values_in 2 (by omega) 1 l Bv A 0 cq [] rfl (by omega) (fun _ W => Below w4.heap.size w4 W ∧ Bk W) X (fun _ _ _ => ⟨0, Nums.nil⟩) (fun j x W _ hx => by simp at hx) V hbx'.cell ⟨hD, hB⟩).mono ?_
    exact fun e W' h => h
  case done =>
    rintro D V hD hV hK
    have hxV := (hV.block _ (by omega)).trans hx4
    have bNV : Boxed V (w.heap.size + 1) 3 (.int .i64 0) := (hV.block _ (by omega)).trans bN4
    have hbV := hb4w.trans (hV.mono hb4w.size)
    have hK0 := hK
    clear hV hnn HNN hbx bN4 hx4 hb4w hK
    gi_wp2_with fail
    refine ⟨trivial, ?_⟩
    refine (callsIn_wide.2 (HKN.out V)).mono ?_
    rintro e V1 ⟨rfl, hb⟩
    have bN1 : Boxed V1 (w.heap.size + 1) 3 (.int .i64 0) := (hb.block _ bNV.lt).trans bNV
    have hx1 := (hb.block _ (Array.getElem?_eq_some_iff.1 hxV).1).trans hxV
    have hK1 := (hb.block D (Array.getElem?_eq_some_iff.1 hK0).1).trans hK0
    have hbV1 := hbV.trans (hb.mono hbV.size)
    obtain ⟨d0, d1, d2, d3, d4, d5⟩ := fr_block hx1
    clear hb bNV hxV hK0 hbV
    gi_wp2_with fail
    refine ⟨trivial, ?_⟩
    refine (callsIn_wide.2 (HPT.out V1)).mono ?_
    rintro e V2 ⟨rfl, hb⟩
    have bN2 : Boxed V2 (w.heap.size + 1) 3 (.int .i64 0) := (hb.block _ bN1.lt).trans bN1
    have hK2 := (hb.block D (Array.getElem?_eq_some_iff.1 hK1).1).trans hK1
    have hbV2 := hbV1.trans (hb.mono hbV1.size)
    clear hb bN1 hx1 hK1 hbV1 d0 d1 d2 d3 d4 d5
    gi_wp2_with fail
    refine ⟨trivial, ?_⟩
    refine (callsIn_wide.2 (HHD.out V2)).mono ?_
    rintro e V3 ⟨rfl, hb⟩
    have bN3 : Boxed V3 (w.heap.size + 1) 3 (.int .i64 0) := (hb.block _ bN2.lt).trans bN2
    have hK3 := (hb.block D (Array.getElem?_eq_some_iff.1 hK2).1).trans hK2
    have hbV3 := hbV2.trans (hb.mono hbV2.size)
    clear hb bN2 hK2 hbV2
    gi_wp2_with fail
    refine ⟨trivial, ?_⟩
    refine (callsIn_wide.2 (HHV.out V3)).mono ?_
    rintro e V9 ⟨rfl, rfl⟩
    gi_wp2_with fail
    refine ⟨trivial, ?_⟩
    refine (callsIn_wide.2 (HSZ.out _)).mono ?_
    rintro e V9 ⟨rfl, rfl⟩
    gi_wp2_with fail
    refine ⟨trivial, ?_⟩
    refine (callsIn_wide.2 (HFL.out _)).mono ?_
    rintro e V4 ⟨rfl, nd, rfl⟩
    have kN4 := bN3.cell
    have kN4 : (V9.drewN nd).cell? ⟨w2.heap.size, 0, none⟩ = some (.int .i64 0) := by rw [HS2.out]; exact kN4
    have hK4 : (V9.drewN nd).heap[D]? = some (.deferred (some [])) := hK3
    have hbV4 := below_drewN hbV3 nd
    clear hK3 hbV3 bN3
    generalize V9.drewN nd = V4 at *
    gi_wp2_with fail
    refine ⟨trivial, ?_⟩
    refine (callsIn_wide.2 (HCP.out _)).mono ?_
    rintro e V9 ⟨rfl, rfl⟩
    gi_wp2
    refine ⟨by simp, .inl ⟨_, _, rfl, run_takeDeferred hK4, ?_⟩⟩
    refine ⟨_, results_tmp rfl _ _ _, rfl, ?_⟩
    exact hbV4.trans (below_put (B := w.heap.size) _ (.deferred none) (by omega : w.heap.size ≤ D))
  case stop =>
    rintro D cd V _ h _
    exact h.elim
end Go.Proofs.Ytoaclbdlgkgnpaa

namespace Go.Proofs.Ytoaclbdlgkgnpaa.slotNil
open Go.ChangeShapes Go.WideShapes Go.ChangeAt Go.RowKit
open Go.ChangeMaps (open_string shut_string)
set_option linter.unusedVariables false

theorem own : ownKnob Try.prog.godebug = none := by kernel_rfl
theorem laidOut : laidOutB Try.prog = true := by kernel_rfl

set_option maxRecDepth 100000 in
theorem lifted (os : Os) (started : os.Started) (H : Type) (enc : TypeId × Value → H) :
    ReturnsInHanded {} Try.checked os 5 .any (Rows.slotNilSpec.pre6 enc Try.prog Try.f5 Rows.slotNilRow.domain false) (Rows.slotNilSpec.post enc Try.prog Try.f5 false true false false) := by
  refine returnsInHanded_of_change (C := Try.checked) own started (by kernel_rfl) Try.func5
    (ChangeSpec.witness6 (enc := enc) (C := Try.checked) false ⟨#[], #[.agg #[.int .i64 0, .int .i64 0, .int .u32 0, .int .i64 0, .int .i64 0, .slice none 0 0]], []⟩ 8 (by kernel_rfl) (by kernel_rfl) (by kernel_rfl) (by kernel_rfl)) ?_
  intro W base args ds gs before hval0 hW hcnd _
  have hval : ∀ (j : Nat) t v, Try.f5.params[j]? = some t → args[j]? = some v → Value.okWide Try.prog W .any base t v := hval0
  have hW' := hW
  obtain ⟨p, q, hA0, hV, rfl, hfz, hnd⟩ := hW
  have hA : DataW.TrodAll enc Try.prog W 0 (fun _ => true) true Try.f5.params.toList args.toList ds p := hA0
  rw [Try.params5] at hA hval
  obtain ⟨v0, vs0, d0, ds0, p0, q0, hargs, rfl, rfl, h0, r0⟩ := trodAll_cons hA
  obtain ⟨rfl, rfl, rfl⟩ := trodAll_nil r0
  obtain rfl : args = #[v0] := by cases args; simp_all
  obtain ⟨rfl, rfl⟩ := trodVars_none hV
  have k0 := h0
  have lt0 : ∀ x ∈ p0, x.block < W.heap.size := by obtain ⟨m, hm⟩ := k0; exact DataW.trod_lt m _ _ _ hm
  obtain ⟨f0, rfl, y0, z0⟩ := open_frame (hval 0 39 v0 rfl rfl) h0
  clear hA0 hval0
  refine (snil_go f0.v f0.k f0.s f0.i f0.c f0.a f0.zs.length f0.cp W).mono fun e W' ⟨he, bel⟩ => ?_
  subst he
  exact ⟨_, rfl, _, _, _, [], _, [], hW', trodAll_mk1 (shut_bool Try.underlying4 _), (trodAll_cons_mk (Below.trod laidOut (by kernel_rfl) (of_decide_eq_true (by kernel_rfl)) k0 bel lt0) trodAll_mk0), rfl, bel.frame _, fun h => by cases h⟩

theorem over : Rows.slotNilRow.holds Try.pinned (OpenSpec.ofChange Rows.slotNilSpec) :=
  OpenClaim.holds_of_wide 5 Try.f5 rfl rfl rfl rfl rfl rfl rfl ⟨rfl, rfl, rfl, rfl, rfl⟩ rfl rfl rfl rfl rfl (by kernel_rfl) Try.func5 (by kernel_rfl)
    (of_decide_eq_true (by kernel_rfl)) (by unfold Func.isWrapper; first | (rw [if_pos (by decide +kernel)]; kernel_rfl) | (rw [if_neg (by decide +kernel)]; exact ⟨rfl, rfl⟩))
    (fun os started H enc _ => lifted os started H enc)

theorem proved : Rows.SlotNilSaid := over
#print axioms proved
end Go.Proofs.Ytoaclbdlgkgnpaa.slotNil
