/-
  The law ScanNil (a nil scanner finds nothing) returns true for every input, under no condition of ours.
-/
import Derived.Test.YtcfgemdpnbimoaaRows
import Derived.Below
import Derived.WalkKit
import Derived.ProofKit
import Derived.OpenShut
import Derived.ShutString
import Derived.ChangeOld
import Derived.SizedLaws
import Derived.Test.YtcfgemdpnbimoaaMB3
namespace Go.Proofs.Ytcfgemdpnbimoaa
open Go.RowKit Go.Shelf
set_option maxRecDepth 100000
attribute [local go_sem] Oper.semAt_some

theorem boxed_below {U W : World} {b : Nat} {t : TypeId} {v : Value} (h : Boxed U b t v) (hW : Below U.heap.size U W) : Boxed W b t v := (hW.block b h.lt).trans h
theorem sreset_nil (w : World) : Calls Try.prog 19 #[.pointer none] w fun e w' => (∃ x, e = .returned x) ∧ w' = w := by
  go_enter Try.func19, Try.ntmps19
  go_wp2
  go_end0
  exact ⟨⟨_, rfl⟩, rfl⟩
theorem sheld_nil (w : World) : Calls Try.prog 14 #[.pointer none] w fun e w' => e = .returned (.int .i64 0) ∧ w' = w := by
  go_enter Try.func14, Try.ntmps14
  go_wp2
  go_ret
  exact ⟨rfl, rfl⟩
theorem sfed_nil (w : World) : Calls Try.prog 15 #[.pointer none] w fun e w' => e = .returned (.int .u64 0) ∧ w' = w := by
  go_enter Try.func15, Try.ntmps15
  go_wp2
  go_ret
  exact ⟨rfl, rfl⟩
theorem sopen_nil (w : World) : Calls Try.prog 16 #[.pointer none] w fun e w' => e = .returned (.bool false) ∧ w' = w := by
  go_enter Try.func16, Try.ntmps16
  go_wp2
  go_ret
  exact ⟨rfl, rfl⟩
theorem scopy_nil (w : World) : Calls Try.prog 10 #[.pointer none] w fun e w' => e = .returned (.pointer none) ∧ w' = w := by
  go_enter Try.func10, Try.ntmps10
  go_wp2
  go_ret
  exact ⟨rfl, rfl⟩
/-- what Each leaves: the scanner's pointer in the box Bs, a copy of the part in the box Bb -/
structure EachR (s : Option Addr) (n : Nat) (zs : List Int) (w : World) (Bs Bb : Nat) (A : Option Addr) (c : Nat) (w' : World) : Prop where
  loS : w.heap.size ≤ Bs
  hiS : Bs < w'.heap.size
  loB : w.heap.size ≤ Bb
  hiB : Bb < w'.heap.size
  ne : Bs ≠ Bb
  boxS : Boxed w' Bs 23 (.pointer s)
  boxB : Boxed w' Bb 25 (.slice A n c)
  room : n ≤ c
  nums : NumsS .u8 w' (fun k => w.heap.size ≤ k ∧ k < w'.heap.size ∧ k ≠ Bs ∧ k ≠ Bb) A zs
  below : Below w.heap.size w w'
theorem each_any (s : Option Addr) (a : Option Addr) (n c : Nat) (zs : List Int) (w : World) (hn : zs.length = n) (hl : n ≤ 140737488351232) (h1 : Nums .u8 w w.heap.size a zs) :
    Calls Try.prog 18 #[.pointer s, .slice a n c] w fun e w' => ∃ Bs Bb A c', e = .returned (.func (.func 28) #[] #[.pointer (some ⟨Bs, 0, none⟩), .pointer (some ⟨Bb, 0, none⟩)]) ∧ EachR s n zs w Bs Bb A c' w' := by
  have C := clone_big a n c zs w hn hl h1
  have HN := Lib.hid hn
  clear h1 hn
  go_enter Try.func18, Try.ntmps18
  go_wp2_with fail
  refine C.mono ?_
  rintro e w1 ⟨v, rfl, hm⟩
  obtain ⟨A, c', rfl, hc, hnum⟩ := hm.slice
  rw [HN.out] at hc ⊢
  have hS := hm.numsS rfl
  have hb1 := hm.2
  have K := ended_any s A n c' w1
  have HS := Lib.hid hS
  have HB := Lib.hid hb1
  clear hm hnum hS hb1 C
  go_wp2_with fail
  refine K.mono ?_
  rintro e w2 ⟨rfl, hw2⟩
  have HW := Lib.hid hw2
  clear hw2 K
  go_wp2
  go_ret
  have hw2 := HW.out
  have hb := HB.out
  have hsz := hb.size
  have hb2 : Below w1.heap.size w1 w2 := by rw [hw2]; exact ((Below.refl _ w1).alloc (Nat.le_refl _) _).alloc (by simp) _
  have hs2 : w2.heap.size = w1.heap.size + 2 := by rw [hw2]; simp
  refine ⟨w1.heap.size, w1.heap.size + 1, A, c', rfl, hsz, by omega, by omega, by omega, by omega, ?_, ?_, hc, ?_, hb.trans (hb2.mono hsz)⟩
  · rw [hw2]; exact (Boxed.new w1 _ _).alloc _
  · rw [hw2]
    have := Boxed.new (w1.alloc (.cells #[.pointer s] 23)) 25 (.slice A n c')
    rwa [World.size_alloc] at this
  · exact (HS.out.keeps (KeepS.of_below hb2 fun k hk => hk.2)).more fun k hk => ⟨hk.1, by omega, by omega, by omega⟩
theorem each_not_nil (Bs Bb : Nat) (w : World) : (binOp .eql 41 (.func (.func 28) #[] #[.pointer (some ⟨Bs, 0, none⟩), .pointer (some ⟨Bb, 0, none⟩)]) .nilFunc).run Try.prog w = .ok (.bool false) w := by
  kernel_rfl
/-- the iterator of a nil scanner -/
theorem ended_nil_in (n : Nat) (l Bs Bb : Nat) (w : World) (hBs : w.cell? ⟨Bs, 0, none⟩ = some (.pointer none)) :
    CallsIn Fence.wide n Try.prog 28 #[.func (.yield l) #[] #[], .pointer (some ⟨Bs, 0, none⟩), .pointer (some ⟨Bb, 0, none⟩)] w fun e W' => (∃ v, e = .returned v) ∧ W' = w := by
  refine callsIn_of_wp Try.func28 rfl trivial ?_ rfl
  simp only [Try.ntmps28, List.size_toArray, List.length_cons, List.length_nil, Nat.reduceAdd, Nat.reduceSub, Array.replicate_succ, Array.replicate_zero, List.push_toArray, List.append_toArray, List.nil_append, List.cons_append]
  gi_wp2
  refine wpIn_wide.2 (wp_scope_straight ((wpIn_wide (n := n)).1 ?_))
  gi_wp2
  simp only [Exit.noGoto]
  refine bodyPost_ret (results_none rfl _ _ _) rfl ?_
  exact ⟨⟨_, rfl⟩, rfl⟩
theorem feed_nil (a : Option Addr) (n c : Nat) (w : World) :
    Calls Try.prog 11 #[.pointer none, .slice a n c] w fun e w' => e = .returned (.slice none 0 0) ∧ Below w.heap.size w w' := by
  obtain ⟨w0, hw0⟩ : ∃ w0, w.alloc (.cells #[.slice none 0 0] 29) = w0 := ⟨_, rfl⟩
  have hs0 : w0.heap.size = w.heap.size + 1 := by rw [← hw0]; simp
  have hb0 : Below w.heap.size w w0 := by rw [← hw0]; exact (Below.refl _ w).alloc (Nat.le_refl _) _
  have bL0 : Boxed w0 w.heap.size 29 (.slice none 0 0) := by rw [← hw0]; exact Boxed.new w _ _
  have K1 := ended_any none a n c w0
  obtain ⟨w1, hw1⟩ : ∃ w1, (w0.alloc (.cells #[.pointer none] 23)).alloc (.cells #[.slice a n c] 25) = w1 := ⟨_, rfl⟩
  have hs1 : w1.heap.size = w.heap.size + 3 := by rw [← hw1]; simp [hs0]
  have hb1 : Below w0.heap.size w0 w1 := by rw [← hw1]; exact ((Below.refl _ w0).alloc (Nat.le_refl _) _).alloc (by simp) _
  have bL1 : Boxed w1 w.heap.size 29 (.slice none 0 0) := (hb1.block _ (by omega)).trans bL0
  have bS1 : Boxed w1 (w.heap.size + 1) 23 (.pointer none) := by
    rw [← hw1, ← hs0]; exact (Boxed.new w0 _ _).alloc _
  rw [hw1, hs0] at K1
  have hb01 := hb0.trans (hb1.mono (by omega))
  clear hw1
  have HW0 := Lib.hid hw0
  clear hw0
  refine (callsIn_wide (n := 9)).1 ?_
  refine callsIn_of_wp_marks Try.func11 rfl trivial ?_ rfl
  simp only [Try.ntmps11, List.size_toArray, List.length_cons, List.length_nil, Nat.reduceAdd, Nat.reduceSub, Array.replicate_succ, Array.replicate_zero, List.push_toArray, List.append_toArray, List.nil_append, List.cons_append]
  gi_wp2_with fail
  rw [HW0.out]
  refine ⟨trivial, ?_⟩
  refine (callsIn_wide.2 K1).mono ?_
  rintro e w1' ⟨rfl, rfl⟩
  gi_wp2_with fail
  clear K1
  refine range_stopb rfl (by omega) (gf := 28) (lb := #[.pointer (some ⟨w.heap.size + 1, 0, none⟩), .pointer (some ⟨w.heap.size + 1 + 1, 0, none⟩)]) rfl trivial (enters_of Try.func28 (by kernel_rfl) rfl)
    (fun _ : Unit => #[Value.int .i64 0]) (fun _ => rfl)
    (fun _ _ _ => False) (fun _ _ _ _ => False) (fun _ V => Below w1'.heap.size w1' V) (fun _ _ => False) (fun _ _ => True) 0
    (fun _ _ _ _ _ _ _ h _ _ _ => h.elim)
    (fun _ V l o o' h hl _ _ => h.trans (below_put V o' hl))
    (fun _ _ _ _ _ h _ _ _ => h)
    (fun _ _ _ _ _ => trivial) (fun _ _ _ _ _ _ _ => trivial)
    (fun o => ((Below.refl w1'.heap.size w1').alloc (Nat.le_refl _) _).alloc (by simp) _) ?round ?iter ?done ?stop
  case round =>
    rintro l j x V K h
    exact h.elim
  case iter =>
    intro Bk X l V hBk hBlt hX hl2 hD hB hY
    refine (ended_nil_in 8 l (w.heap.size + 1) (w.heap.size + 1 + 1) V (boxed_below bS1 hD).cell).mono ?_
    rintro e W' ⟨hv, rfl⟩
    exact ⟨hv, .inl ⟨hD, hB⟩⟩
  case done =>
    rintro D V hD hV hK
    have kB := (boxed_below bL1 hV).cell
    have hfin := Lib.hid ((hb01.trans (hV.mono hb01.size)).trans (below_put (B := w.heap.size) V (.deferred none) (by omega : w.heap.size ≤ D)))
    clear hV bL1 bS1 bL0
    gi_wp2_with fail
    refine ⟨by simp, .inl ⟨_, _, rfl, run_takeDeferred hK, ?_⟩⟩
    refine ⟨_, results_tmp rfl _ _ _, ?_⟩
    exact ⟨rfl, hfin.out⟩
  case stop =>
    rintro D cd V _ h _
    exact h.elim
end Go.Proofs.Ytcfgemdpnbimoaa

namespace Go.Proofs.Ytcfgemdpnbimoaa
open Go.RowKit Go.Shelf
set_option maxRecDepth 100000
attribute [local go_sem] Oper.semAt_some

set_option maxHeartbeats 8000000 in
theorem walk_scnil (a : Option Addr) (n c : Nat) (es : List Int) (w : World) (hn : es.length = n) (hl : n ≤ 140737488351232) (h1 : Nums .u8 w w.heap.size a es) :
    Calls Try.prog 7 #[.slice a n c] w fun e w' => e = .returned (.bool true) ∧ Below w.heap.size w w' := by
  obtain ⟨w0, hw0⟩ : ∃ w0, w.alloc (.cells #[.int .i64 0] 3) = w0 := ⟨_, rfl⟩
  have hs0 : w0.heap.size = w.heap.size + 1 := by rw [← hw0]; simp
  have hb0 : Below w.heap.size w w0 := by rw [← hw0]; exact (Below.refl _ w).alloc (Nat.le_refl _) _
  have bN0 : Boxed w0 w.heap.size 3 (.int .i64 0) := by rw [← hw0]; exact Boxed.new w _ _
  have KE := each_any none a n c es w0 hn hl ((h1.below hb0).mono hb0.size)
  have HW0 := Lib.hid hw0
  clear hw0 hn h1
  refine (callsIn_wide (n := 9)).1 ?_
  refine callsIn_of_wp_marks Try.func7 rfl trivial ?_ rfl
  simp only [Try.ntmps7, List.size_toArray, List.length_cons, List.length_nil, Nat.reduceAdd, Nat.reduceSub, Array.replicate_succ, Array.replicate_zero, List.push_toArray, List.append_toArray, List.nil_append, List.cons_append]
  gi_wp2_with fail
  refine ⟨trivial, ?_⟩
  refine (callsIn_wide.2 (sreset_nil _)).mono ?_
  rintro e wq ⟨⟨x, rfl⟩, hq⟩
  rw [hq]
  clear hq
  gi_wp2_with fail
  refine ⟨trivial, ?_⟩
  rw [HW0.out]
  refine (callsIn_wide.2 KE).mono ?_
  rintro e w1 ⟨Bs, Bb, A, c', rfl, hE⟩
  have hfn := each_not_nil Bs Bb
  have hbE := hE.below
  have hsE := hbE.size
  have bS := hE.boxS
  have bN1 := boxed_below bN0 hbE
  have hb01 := hb0.trans (hbE.mono (by omega))
  clear KE hE hbE
  gi_wp2_with fail
  refine range_stops rfl (by omega) (gf := 28) (lb := #[.pointer (some ⟨Bs, 0, none⟩), .pointer (some ⟨Bb, 0, none⟩)]) rfl trivial (enters_of Try.func28 (by kernel_rfl) rfl)
    (fun _ : Unit => #[Value.int .i64 0]) (fun _ => rfl)
    (fun _ _ _ => False)
    (fun _ V => Below w1.heap.size w1 V) (fun _ _ => False) (fun _ _ => True) 0
    (fun _ _ _ _ _ _ h _ _ _ => h.elim)
    (fun _ V l o o' h hl _ _ => h.trans (below_put V o' hl))
    (fun _ _ _ _ _ h _ _ _ => h)
    (fun _ _ _ _ _ => trivial) (fun _ _ _ _ _ _ _ => trivial)
    (fun o => ((Below.refl w1.heap.size w1).alloc (Nat.le_refl _) _).alloc (by simp) _) ?a1 ?assign ?body ?iter ?done ?stop
  case assign =>
    intro l x V K hK
    gi_wp2
    exact hK
  case body =>
    rintro l j x V hl h
    exact h.elim
  case iter =>
    intro Bk X l V hBk hBlt hX hl hD hB hY
    refine (ended_nil_in 8 l Bs Bb V (boxed_below bS hD).cell).mono ?_
    rintro e W' ⟨hv, rfl⟩
    exact ⟨hv, .inl ⟨hD, hB⟩⟩
  case done =>
    rintro D V hD hV hK
    have hb0V := hb01.trans (hV.mono hb01.size)
    have bNV := boxed_below bN1 hV
    have hDV := (Array.getElem?_eq_some_iff.1 hK).1
    have hVs := hV.size
    clear bS bN1 hV hfn hb01
    gi_wp2_with fail
    refine ⟨trivial, ?_⟩
    refine (callsIn_wide.2 (scknown_any _)).mono ?_
    rintro e V1 ⟨rfl, hb1⟩
    have hs1 := hb1.size
    gi_wp2_with fail
    refine ⟨trivial, ?_⟩
    refine (callsIn_wide.2 (feed_nil a n c _)).mono ?_
    rintro e V2 ⟨rfl, hb2⟩
    have hb12 := hb1.trans (hb2.mono hs1)
    have kN := (boxed_below bNV hb12).cell
    have hK2 : V2.heap[D]? = some (.deferred (some [])) := (hb12.block _ hDV).trans hK
    have hb02 := hb0V.trans (hb12.mono hb0V.size)
    have hfin := Lib.hid (hb02.trans (below_put (B := w.heap.size) V2 (.deferred none) (by omega : w.heap.size ≤ D)))
    clear bNV hb12 hb1 hb2 hb02 hb0V
    gi_wp2_with fail
    refine ⟨trivial, ?_⟩
    refine (callsIn_wide.2 (sheld_nil _)).mono ?_
    rintro e wq ⟨rfl, hq⟩
    rw [hq]
    clear hq
    gi_wp2_with fail
    refine ⟨trivial, ?_⟩
    refine (callsIn_wide.2 (sfed_nil _)).mono ?_
    rintro e wq ⟨rfl, hq⟩
    rw [hq]
    clear hq
    gi_wp2_with fail
    refine ⟨trivial, ?_⟩
    refine (callsIn_wide.2 (sopen_nil _)).mono ?_
    rintro e wq ⟨rfl, hq⟩
    rw [hq]
    clear hq
    gi_wp2_with fail
    refine ⟨trivial, ?_⟩
    refine (callsIn_wide.2 (scopy_nil _)).mono ?_
    rintro e wq ⟨rfl, hq⟩
    rw [hq]
    clear hq
    gi_wp2
    refine ⟨by simp, .inl ⟨_, _, rfl, run_takeDeferred hK2, ?_⟩⟩
    refine ⟨_, results_tmp rfl _ _ _, ?_⟩
    exact ⟨rfl, hfin.out⟩
  case stop =>
    rintro D cd W' _ h _
    exact h.elim
end Go.Proofs.Ytcfgemdpnbimoaa

namespace Go.Proofs.Ytcfgemdpnbimoaa.scanNil
open Go.ChangeShapes Go.WideShapes Go.ChangeAt Go.RowKit
open Go.ChangeMaps (open_string shut_string)
set_option linter.unusedVariables false

theorem own : ownKnob Try.prog.godebug = none := by kernel_rfl
theorem bytes5 : Try.prog.bytesOf 5 = 1 := by kernel_rfl
theorem laidOut : laidOutB Try.prog = true := by kernel_rfl

theorem walk (a0 : Option Addr) (len0 cap0 : Nat) (z0 : List Int) (w : World) (w0 : IsRow .u8 w a0 len0 cap0 z0) (hr : cap0 ≤ 140737488351232) :
    Calls Try.prog 7 #[.slice a0 len0 cap0] w fun e w' => e = .returned (.bool true) ∧ Below w.heap.size w w' := by
  obtain ⟨es, h1, h2, h3, h4, _⟩ := w0.elems
  exact walk_scnil a0 len0 cap0 es w h1 (by omega) h4

set_option maxRecDepth 100000 in
theorem lifted (os : Os) (started : os.Started) (H : Type) (enc : TypeId × Value → H) :
    ReturnsInHanded {} Try.checked os 7 .any (Rows.scanNilSpec.pre6 enc Try.prog Try.f7 Rows.scanNilRow.domain false) (Rows.scanNilSpec.post enc Try.prog Try.f7 false true false false) := by
  refine returnsInHanded_of_change_sized (C := Try.checked) own started (by kernel_rfl) Try.func7
    (ChangeSpec.witness6 (enc := enc) (C := Try.checked) false ⟨#[], #[.slice none 0 0], []⟩ 8 (by kernel_rfl) (by kernel_rfl) (by kernel_rfl) (by kernel_rfl)) ?_
  intro W base args ds gs before hval0 hW hcnd hsz0 _
  have hsz : (DataW.weightsEach Try.prog (Try.f7.params.toList ++ Rows.scanNilSpec.plain.varTypes Try.prog) (ds ++ gs)).all (· ≤ reachBytes) = true := hsz0
  clear hsz0
  have hval : ∀ (j : Nat) t v, Try.f7.params[j]? = some t → args[j]? = some v → Value.okWide Try.prog W .any base t v := hval0
  have hW' := hW
  obtain ⟨p, q, hA0, hV, rfl, hfz, hnd⟩ := hW
  have hA : DataW.TrodAll enc Try.prog W 0 (fun _ => true) true Try.f7.params.toList args.toList ds p := hA0
  rw [Try.params7] at hA hval hsz
  obtain ⟨v0, vs0, d0, ds0, p0, q0, hargs, rfl, rfl, h0, r0⟩ := trodAll_cons hA
  obtain ⟨rfl, rfl, rfl⟩ := trodAll_nil r0
  obtain rfl : args = #[v0] := by cases args; simp_all
  obtain ⟨rfl, rfl⟩ := trodVars_none hV
  obtain ⟨a0, len0, cap0, rfl⟩ := okWide_slice Try.underlying25 (hval 0 25 v0 rfl rfl)
  have k0 := h0
  have lt0 : ∀ x ∈ p0, x.block < W.heap.size := by obtain ⟨m, hm⟩ := k0; exact DataW.trod_lt m _ _ _ hm
  obtain ⟨⟨z0, w0⟩, hr⟩ : (∃ zs, IsRow .u8 W a0 len0 cap0 zs) ∧ cap0 ≤ 140737488351232 := by
    obtain ⟨fuel, hf⟩ := h0
    rcases open_ints Try.underlying25 Try.underlying5 (by kernel_rfl) hf with ⟨hcs, _⟩ | ⟨x, l, c, zs, hcs, _, hl, hm, hz, hq, hcell, hwz⟩
    · simp [Value.cells] at hcs
      obtain ⟨rfl, rfl, rfl⟩ := hcs
      exact ⟨⟨[], .inl ⟨rfl, rfl, rfl, rfl⟩⟩, by omega⟩
    · simp [Value.cells] at hcs
      obtain ⟨rfl, rfl, rfl⟩ := hcs
      refine ⟨⟨zs, .inr ⟨_, rfl, hl, hm, by simpa using hz, hcell, hwz⟩⟩, ?_⟩
      simp only [Prod.mk.injEq] at hq
      obtain ⟨rfl, rfl⟩ := hq
      have := sized_slice hsz (j := 0) (t := 25) (e := 5) rfl rfl Try.underlying25
      rw [bytes5] at this
      simp only [lits, List.length_map, List.length_take, List.length_drop, reachBytes] at this
      simp at hz
      omega
  clear hA0 hval0
  refine (walk a0 len0 cap0 z0 W w0 hr).mono fun e W' ⟨he, bel⟩ => ?_
  subst he
  exact ⟨_, rfl, _, _, _, [], _, [], hW', trodAll_mk1 (shut_bool Try.underlying4 _), (trodAll_cons_mk (Below.trod laidOut (by kernel_rfl) (of_decide_eq_true (by kernel_rfl)) k0 bel lt0) trodAll_mk0), rfl, bel.frame _, fun h => by cases h⟩

theorem over : Rows.scanNilRow.holds Try.pinned (OpenSpec.ofChange Rows.scanNilSpec) :=
  OpenClaim.holds_of_wide 7 Try.f7 rfl rfl rfl rfl rfl rfl rfl ⟨rfl, rfl, rfl, rfl, rfl⟩ rfl rfl rfl rfl rfl (by kernel_rfl) Try.func7 (by kernel_rfl)
    (of_decide_eq_true (by kernel_rfl)) (by unfold Func.isWrapper; first | (rw [if_pos (by decide +kernel)]; kernel_rfl) | (rw [if_neg (by decide +kernel)]; exact ⟨rfl, rfl⟩))
    (fun os started H enc _ => lifted os started H enc)

theorem proved : Rows.ScanNilSaid := over
#print axioms proved
end Go.Proofs.Ytcfgemdpnbimoaa.scanNil
