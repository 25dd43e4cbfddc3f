/-
  Contract of layer 7's Check.
-/
import Derived.Test.YtmmffifndheafaaDoorHdI
import Derived.Test.YtmmffifndheafaaDoorStopA
import Derived.Test.YtmmffifndheafaaDoorRow
import Derived.Test.YtmmffifndheafaaDoorLd
namespace Go.Proofs.YtmmffifndheafaaDoor
open Go.RowKit Go.Shelf
set_option maxRecDepth 100000
attribute [local go_sem] Oper.semAt_some

/-- the parts ahead of the j-th are as they may be -/
def okTo (v k i c : Int) (j : Nat) : Prop := (0 < j → 1 ≤ v ∧ v ≤ 2) ∧ (1 < j → 1 ≤ k ∧ k ≤ 5) ∧ (2 < j → 1 ≤ c ∧ c ≤ 255) ∧ (3 < j → 0 ≤ i ∧ i < c)

theorem part_at {v k i c : Int} {j : Nat} (hj : j < 4) (h : okTo v k i c j) : ∃ x le mo wr : Int, ptCs v k i c (wrap64 (c - 1)) j = #[.int .i64 x, .int .i64 le, .int .i64 mo, .int .i64 wr] ∧
    (le ≤ x → x ≤ mo → okTo v k i c (j + 1)) ∧ (x < le ∨ mo < x → chk v k i c = wr) := by
  obtain ⟨h0, h1, h2, h3⟩ := h
  obtain rfl | rfl | rfl | rfl : j = 0 ∨ j = 1 ∨ j = 2 ∨ j = 3 := by omega
  · exact ⟨_, _, _, _, rfl, fun a b => ⟨fun _ => ⟨a, b⟩, by omega, by omega, by omega⟩, fun h => by unfold chk; rw [if_pos h]⟩
  · have := h0 (by omega)
    exact ⟨_, _, _, _, rfl, fun a b => ⟨fun _ => h0 (by omega), fun _ => ⟨a, b⟩, by omega, by omega⟩, fun h => by unfold chk; rw [if_neg (by omega), if_pos h]⟩
  · have := h0 (by omega)
    have := h1 (by omega)
    exact ⟨_, _, _, _, rfl, fun a b => ⟨fun _ => h0 (by omega), fun _ => h1 (by omega), fun _ => ⟨a, b⟩, by omega⟩, fun h => by unfold chk; rw [if_neg (by omega), if_neg (by omega), if_pos (by omega)]⟩
  · have := h0 (by omega)
    have := h1 (by omega)
    have := h2 (by omega)
    have hw : wrap64 (c - 1) = c - 1 := by unfold wrap64; omega
    rw [hw]
    exact ⟨_, _, _, _, rfl, fun a b => ⟨fun _ => h0 (by omega), fun _ => h1 (by omega), fun _ => h2 (by omega), fun _ => ⟨a, by omega⟩⟩, fun h => by unfold chk; rw [if_neg (by omega), if_neg (by omega), if_pos (by omega)]⟩

set_option maxHeartbeats 4000000 in
theorem check_any (v k s i c : Int) (w : World) :
    Calls Tryd.prog 8 #[hdV v k s i c] w fun e w' => e = .returned (.int .i64 (chk v k i c)) ∧ Below w.heap.size w w' := by
  obtain ⟨w0, hw0⟩ : ∃ w0, (w.alloc (.cells #[.int .i64 v, .int .i64 k, .int .u32 s, .int .i64 i, .int .i64 c] 24)).alloc (.cells #[.int .i64 0] 26) = w0 := ⟨_, rfl⟩
  have hs0 : w0.heap.size = w.heap.size + 2 := by rw [← hw0]; simp
  have hb0 : Below w.heap.size w w0 := by rw [← hw0]; exact ((Below.refl _ w).alloc (Nat.le_refl _) _).alloc (by simp) _
  have bF0 : Boxed w0 (w.heap.size + 1) 26 (.int .i64 0) := by
    rw [← hw0]
    have := Boxed.new (w.alloc (.cells #[.int .i64 v, .int .i64 k, .int .u32 s, .int .i64 i, .int .i64 c] 24)) 26 (.int .i64 0)
    rwa [World.size_alloc] at this
  have HP := Lib.hid (parts_any v k s i c)
  have HW := Lib.hid hw0
  clear hw0
  unfold hdV at HP ⊢
  refine (callsIn_wide (n := 9)).1 ?_
  refine callsIn_of_wp_marks Tryd.func8 rfl trivial ?_ rfl
  simp only [Tryd.ntmps8, List.size_toArray, List.length_cons, List.length_nil, Nat.reduceAdd, Nat.reduceSub, Array.replicate_succ, Array.replicate_zero, List.push_toArray, List.append_toArray, List.nil_append, List.cons_append]
  gi_wp2_with fail
  refine wpIn_wide.2 (wp_scope_straight ((wpIn_wide (n := 9)).1 ?_))
  gi_wp2_with fail
  apply wpIn_label
  gi_wp2_with fail
  refine ⟨trivial, ?_⟩
  rw [HW.out]
  refine (callsIn_wide.2 (HP.out w0)).mono ?_
  rintro e w1 ⟨g, rfl, hg0, hg, hb1⟩
  clear HP
  have hs1 := hb1.size
  have hgl : g < w1.heap.size := (Array.getElem?_eq_some_iff.1 hg).1
  have bF1 : Boxed w1 (w.heap.size + 1) 26 (.int .i64 0) := (hb1.block _ (by omega)).trans bF0
  have hb01 := hb0.trans (hb1.mono (by omega))
  clear HW bF0
  have hF : w.heap.size + 1 < w1.heap.size := by omega
  gi_wp2_with fail
  refine range_stopa rfl (by omega) (gf := 26) (lb := #[.pointer (some ⟨g, 0, none⟩)]) rfl trivial (enters_of Tryd.func26 (by kernel_rfl) rfl)
    (fun x : Nat => #[ptV v k i c (wrap64 (c - 1)) x]) (fun _ => rfl)
    (fun j x V => x = j ∧ okTo v k i c j ∧ Below w1.heap.size w1 V)
    (fun j x b V => x = j ∧ okTo v k i c j ∧ Below w1.heap.size w1 V ∧ ∃ q, b = { tmps := #[.agg #[.int .i64 v, .int .i64 k, .int .u32 s, .int .i64 i, .int .i64 c], .pointer (some ⟨w.heap.size, 0, none⟩), .int .i64 0, .pointer (some ⟨w.heap.size + 1, 0, none⟩), .pointer (some ⟨q, 0, none⟩),
        .agg #[.int .i64 v, .int .i64 k, .int .u32 s, .int .i64 i, .int .i64 c], .func (.func 26) #[] #[.pointer (some ⟨g, 0, none⟩)], ptV v k i c (wrap64 (c - 1)) x, undef, undef, undef, undef, undef, undef, undef, undef, undef, undef, undef, undef, undef, undef], defers := [] } ∧
      w1.heap.size ≤ q ∧ V.heap[q]? = some (.cells (ptCs v k i c (wrap64 (c - 1)) j) 50 (0, 0)))
    (fun j V => okTo v k i c j ∧ Below w1.heap.size w1 V)
    (fun cd V => cd = .exit 0 ∧ Boxed V (w.heap.size + 1) 26 (.int .i64 (chk v k i c)) ∧ Off (fun q => q = w.heap.size + 1) w1 V) (fun _ _ => True) 4
    (fun j x b V l o o' h hl ho hc' => ⟨h.1, h.2.1, h.2.2.1.trans ⟨rfl, rfl, rfl, by simp [World.putObj], fun k hk => World.putObj_heap_other (by omega)⟩, by
      obtain ⟨q, h1, h2, h3⟩ := h.2.2.2
      exact ⟨q, h1, h2, (World.putObj_heap_other (fun e => by subst e; rw [h3] at ho; injection ho with ho; subst ho; cases hc')).trans h3⟩⟩)
    (fun j V l o o' h hl _ _ => ⟨h.1, h.2.trans ⟨rfl, rfl, rfl, by simp [World.putObj], fun k hk => World.putObj_heap_other (by omega)⟩⟩)
    (fun cd V l o o' h hl _ _ => ⟨h.1, (World.putObj_heap_other (by omega)).trans h.2.1, off_below h.2.2 (below_put V o' hl)⟩)
    (fun _ _ _ _ _ => trivial) (fun _ _ _ _ _ _ _ => trivial)
    (fun o => ⟨⟨by omega, by omega, by omega, by omega⟩, ((Below.refl w1.heap.size w1).alloc (Nat.le_refl _) _).alloc (by simp) _⟩) ?assign ?body ?iter ?done ?stop
  case assign =>
    rintro l j x V K ⟨rfl, hok, hbV⟩ hj hK
    obtain ⟨y, le, mo, wr, hcs, _⟩ := part_at hj hok
    have hK' := Lib.hid (hK { tmps := #[.agg #[.int .i64 v, .int .i64 k, .int .u32 s, .int .i64 i, .int .i64 c], .pointer (some ⟨w.heap.size, 0, none⟩), .int .i64 0, .pointer (some ⟨w.heap.size + 1, 0, none⟩), .pointer (some ⟨V.heap.size, 0, none⟩),
        .agg #[.int .i64 v, .int .i64 k, .int .u32 s, .int .i64 i, .int .i64 c], .func (.func 26) #[] #[.pointer (some ⟨g, 0, none⟩)], ptV v k i c (wrap64 (c - 1)) x, undef, undef, undef, undef, undef, undef, undef, undef, undef, undef, undef, undef, undef, undef], defers := [] }
      (V.alloc (.cells (ptCs v k i c (wrap64 (c - 1)) x) 50)) ⟨rfl, hok, hbV.alloc hbV.size _, V.heap.size, rfl, hbV.size, World.alloc_heap_new _ _⟩ ⟨by simp, fun q o _ ho _ => (Below.heap_alloc _ _ _ (Array.getElem?_eq_some_iff.1 ho).1).trans ho⟩ trivial)
    clear hK
    unfold ptV at hK' ⊢
    rw [hcs] at hK' ⊢
    gi_wp2
    exact hK'.out
  case body =>
    rintro l j x b V hl ⟨rfl, hok, hbV, q, rfl, hq, hcell⟩ hj
    obtain ⟨y, le, mo, wr, hcs, hin, hout⟩ := part_at hj hok
    rw [hcs] at hcell
    have d0 : V.cell? ⟨q, 0, none⟩ = some (.int .i64 y) := by simp [World.cell?, hcell]
    have d1 : V.cell? ⟨q, 1, none⟩ = some (.int .i64 le) := by simp [World.cell?, hcell]
    have d2 : V.cell? ⟨q, 2, none⟩ = some (.int .i64 mo) := by simp [World.cell?, hcell]
    have d3 : V.cell? ⟨q, 3, none⟩ = some (.int .i64 wr) := by simp [World.cell?, hcell]
    have bFV : Boxed V (w.heap.size + 1) 26 (.int .i64 0) := (hbV.block _ hF).trans bF1
    have e0 := bFV.cell
    have e1 := bFV.frozen
    have hgo := Lib.hid (fun h1 h2 => (⟨⟨Nat.le_refl _, fun _ _ _ ho _ => ho⟩, ⟨hin h1 h2, hbV⟩, trivial⟩ : KeepsFrom w1.heap.size V V ∧ (okTo v k i c (x + 1) ∧ Below w1.heap.size w1 V) ∧ True))
    have hst := Lib.hid (fun h => (⟨(KeepsOthers.setCell _ _ _).from _, by rw [hout h]; exact bFV.set _, (off_below (Off.refl (fun q => q = w.heap.size + 1) w1) hbV).setCell (p := ⟨w.heap.size + 1, 0, none⟩) rfl _⟩ :
      KeepsFrom w1.heap.size V (V.setCell ⟨w.heap.size + 1, 0, none⟩ (.int .i64 wr)) ∧ Boxed (V.setCell ⟨w.heap.size + 1, 0, none⟩ (.int .i64 wr)) (w.heap.size + 1) 26 (.int .i64 (chk v k i c)) ∧ Off (fun q => q = w.heap.size + 1) w1 (V.setCell ⟨w.heap.size + 1, 0, none⟩ (.int .i64 wr))))
    clear hok hbV hcell hin hout hcs bFV
    by_cases h1 : y < le
    · gi_wp2
      exact ⟨(hst.out (.inl h1)).1, rfl, (hst.out (.inl h1)).2⟩
    · by_cases h2 : mo < y
      · gi_wp2
        exact ⟨(hst.out (.inr h2)).1, rfl, (hst.out (.inr h2)).2⟩
      · gi_wp2
        exact hgo.out (by omega) (by omega)
  case iter =>
    intro Bk X l V hBk hBlt hX hl hD hB hY
    exact parts_in 8 (by omega) 7 l g v k i c (wrap64 (c - 1)) (fun j V => (okTo v k i c j ∧ Below w1.heap.size w1 V) ∧ Bk V) X
      (fun j A cs t h => ⟨⟨h.1.1, h.1.2.alloc h.1.2.size _⟩, hBk A _ h.2 (by simp) (fun q h1 h2 => by have := hBlt A h.2; exact Below.heap_alloc _ _ _ (by omega))⟩)
      (fun j W h hj => (hY j j W ⟨rfl, h.1⟩ h.2 hj).mono (fun e W2 h => h.elim (fun h => .inl ⟨h.1, h.2.1⟩) (fun h => .inr ⟨h.1, h.2.1⟩)))
      V ((hD.2.block g hgl).trans hg) ⟨hD, hB⟩
  case done =>
    rintro D V hD ⟨hok, hbV⟩ hK
    have hz : chk v k i c = 0 := by
      have h0 := hok.1 (by omega); have h1 := hok.2.1 (by omega); have h2 := hok.2.2.1 (by omega); have h3 := hok.2.2.2 (by omega)
      unfold chk; rw [if_neg (by omega), if_neg (by omega), if_neg (by omega)]
    have bFV : Boxed V (w.heap.size + 1) 26 (.int .i64 0) := (hbV.block _ hF).trans bF1
    have e0 := bFV.cell
    have HB := Lib.hid (hb01.trans (hbV.mono hb01.size))
    gi_wp2
    simp only [Exit.noGoto]
    refine ⟨by simp, .inl ⟨_, _, rfl, run_takeDeferred hK, ?_⟩⟩
    rw [hz]
    refine ⟨.int .i64 0, ?_, rfl, HB.out.trans (below_put _ _ (by omega))⟩
    simp [results, Tryd.f8, go_sem]
  case stop =>
    rintro D cd V hD ⟨rfl, bF, hO⟩ hK
    have e0 := bF.cell
    have HB := Lib.hid (hb01.trans (hO.below (B := w.heap.size) (fun k hk => by omega) hb01.size))
    gi_wp2
    simp only [Exit.noGoto]
    refine ⟨by simp, .inl ⟨_, _, rfl, run_takeDeferred hK, ?_⟩⟩
    refine ⟨.int .i64 (chk v k i c), ?_, rfl, HB.out.trans (below_put _ _ (by omega))⟩
    simp [results, Tryd.f8, go_sem]
end Go.Proofs.YtmmffifndheafaaDoor
