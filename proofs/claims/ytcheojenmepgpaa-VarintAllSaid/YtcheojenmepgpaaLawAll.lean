/-
  The walk of the law VarintAll: it returns true.
-/
import Derived.Test.YtcheojenmepgpaaCount
import Derived.Test.YtcheojenmepgpaaKnown
import Derived.OpenShut
namespace Go.Proofs.Ytcheojenmepgpaa
open Go.RowKit Go.Shelf
set_option maxRecDepth 100000
attribute [local go_sem] Oper.semAt_some

/-! ### only one block has turned -/
theorem ownFrom_grown {β : Type} {B : Nat} {w0 : World} {row : Nat} (hB : B = w0.heap.size) : OwnFrom B (fun (_ : β) W => w0.grownBy W (some row)) := by
  subst hB
  intro _ W W' r hs hg hr
  refine ⟨hg.os.trans hs.os, hg.tape.trans hs.tape, hg.output.trans hs.output, Nat.le_trans hs.size hg.size, fun k hk hne => ?_⟩
  refine (hg.block k (Nat.lt_of_lt_of_le hk hs.size) (fun e => ?_)).trans (hs.block k hk hne)
  have := (hr k e.symm).1
  omega
theorem grown_nums {k : IntKind} {w0 W : World} {row B : Nat} {a : Option Addr} {zs : List Int} (h : w0.grownBy W (some row)) (hn : Nums k w0 B a zs) (hB : B ≤ w0.heap.size) (hr : B ≤ row) : Nums k W B a zs :=
  hn.kept fun p hp => World.cell?_of_block (h.block p.block (by omega) (fun e => by injection e with e; omega))
theorem grown_boxed {w0 W : World} {row b : Nat} {t : TypeId} {v : Value} (h : w0.grownBy W (some row)) (hb : Boxed w0 b t v) (hne : b ≠ row) : Boxed W b t v := hb.kept h (fun e => by injection e with e; exact hne e)
theorem grown_below {w0 W : World} {row B : Nat} (h : w0.grownBy W (some row)) (hB : B ≤ w0.heap.size) (hr : B ≤ row) : Below B w0 W := (Below.refl B w0).grown h hB (fun k e => by injection e with e; omega)
theorem grown_set {w0 W : World} {row : Nat} (h : w0.grownBy W (some row)) (v : Value) : w0.grownBy (W.setCell ⟨row, 0, none⟩ v) (some row) :=
  ⟨h.os, h.tape, h.output, by simpa [World.setCell] using h.size, fun k hk hne => (Below.heap_setCell W ⟨row, 0, none⟩ v k (fun e => hne (by simp at e; rw [e]))).trans (h.block k hk hne)⟩

theorem func_not_nil (Bs : Nat) (w : World) : (binOp .eql 43 (.func (.func 23) #[] #[.pointer (some ⟨Bs, 0, none⟩)]) .nilFunc).run Try.prog w = .ok (.bool false) w := by
  kernel_rfl

set_option maxHeartbeats 4000000 in
theorem all_lt (a0 : Option Addr) (cap0 : Nat) (es : List Int) (stop : Int) (w : World) (hs0 : -9223372036854775808 ≤ stop) (hs1 : stop ≤ 9223372036854775807) (hlc : es.length ≤ cap0) (hz : ∀ c ∈ es.take 60, 0 ≤ c ∧ c ≤ 255) (hn : Nums .u8 w w.heap.size a0 (es.take 60)) (h60 : es.length < 60) :
    Calls Try.prog 5 #[.slice a0 es.length cap0, .int .i64 stop] w fun e w' => e = .returned (.bool true) ∧ Below w.heap.size w w' := by
  have hl : (es.take 60).length = min 60 es.length := List.length_take
  refine (callsIn_wide (n := 3)).1 ?_
  refine callsIn_of_wp_marks Try.func5 rfl trivial ?_ rfl
  simp only [Try.ntmps5, List.size_toArray, List.length_cons, List.length_nil, Nat.reduceAdd, Nat.reduceSub, Array.replicate_succ, Array.replicate_zero, List.push_toArray, List.append_toArray, List.nil_append, List.cons_append]
  gi_wp2_with fail
  refine ⟨trivial, ?_⟩
  have bS := (Boxed.new w 3 (.int .i64 stop)).alloc (.cells #[.bool false] 4)
  have bR := Boxed.new (w.alloc (.cells #[.int .i64 stop] 3)) 4 (.bool false)
  rw [World.size_alloc] at bR
  have hW0 : Below w.heap.size w ((w.alloc (.cells #[.int .i64 stop] 3)).alloc (.cells #[.bool false] 4)) := ((Below.refl _ w).alloc (Nat.le_refl _) _).alloc (by simp) _
  have hs0' : ((w.alloc (.cells #[.int .i64 stop] 3)).alloc (.cells #[.bool false] 4)).heap.size = w.heap.size + 2 := by simp
  generalize (w.alloc (.cells #[.int .i64 stop] 3)).alloc (.cells #[.bool false] 4) = W0 at *
  refine (callsIn_wide.2 (rall_len _ _ _ (es.take 60) W0 (by omega) (by omega) hz ((hn.below hW0).mono hW0.size))).mono ?_
  rintro e w1 ⟨A, c, A2, c2, rfl, hnP, hnN, hb1, hc, hc2⟩
  have bS1 : Boxed w1 w.heap.size 3 (.int .i64 stop) := (hb1.block _ (by omega)).trans bS
  have bR1 : Boxed w1 (w.heap.size + 1) 4 (.bool false) := (hb1.block _ (by omega)).trans bR
  have hb01 := hW0.trans (hb1.mono hW0.size)
  have hz1 := hb1.size
  clear bS bR hb1 hW0
  gi_wp2_with fail
  refine ⟨trivial, ?_⟩
  have hzl : (es.take 60).length ≤ 60 := by omega
  have hzn : (es.take 60).length = es.length := by omega
  have hYl := Vi.tl_length (es.take 60) 0
  clear hl
  generalize es.take 60 = zs at *
  generalize hY : Vi.tl zs 0 = Y at *
  have hb2 : Below w1.heap.size w1 (((w1.alloc (.cells #[.slice A Y.length c] 39)).alloc (.cells #[.slice A2 Y.length c2] 22)).alloc (.cells #[.int .i64 0] 3)) :=
    (((Below.refl _ w1).alloc (Nat.le_refl _) _).alloc (by simp) _).alloc (by simp; omega) _
  have bP := ((Boxed.new w1 39 (.slice A Y.length c)).alloc (.cells #[.slice A2 Y.length c2] 22)).alloc (.cells #[.int .i64 0] 3)
  have bN := (Boxed.new (w1.alloc (.cells #[.slice A Y.length c] 39)) 22 (.slice A2 Y.length c2)).alloc (.cells #[.int .i64 0] 3)
  have bI := Boxed.new ((w1.alloc (.cells #[.slice A Y.length c] 39)).alloc (.cells #[.slice A2 Y.length c2] 22)) 3 (.int .i64 0)
  have hz2 : (((w1.alloc (.cells #[.slice A Y.length c] 39)).alloc (.cells #[.slice A2 Y.length c2] 22)).alloc (.cells #[.int .i64 0] 3)).heap.size = w1.heap.size + 3 := by simp
  rw [World.size_alloc] at bN
  rw [World.size_alloc, World.size_alloc] at bI
  generalize ((w1.alloc (.cells #[.slice A Y.length c] 39)).alloc (.cells #[.slice A2 Y.length c2] 22)).alloc (.cells #[.int .i64 0] 3) = W2 at *
  have hb02 := hb01.trans (hb2.mono hb01.size)
  refine (callsIn_wide.2 (all_any _ _ _ zs W2 hzn (by omega) ((hn.below hb02).mono hb02.size))).mono ?_
  rintro e w3 ⟨Bs, Ac, cc, rfl, hs⟩
  have hb3 := hs.below
  have hz3 := hb3.size
  have bS3 : Boxed w3 w.heap.size 3 (.int .i64 stop) := (hb3.block _ (by omega)).trans ((hb2.block _ (by omega)).trans bS1)
  have bR3 : Boxed w3 (w.heap.size + 1) 4 (.bool false) := (hb3.block _ (by omega)).trans ((hb2.block _ (by omega)).trans bR1)
  have bP3 : Boxed w3 w1.heap.size 39 (.slice A Y.length c) := (hb3.block _ (by omega)).trans bP
  have bN3 : Boxed w3 (w1.heap.size + 1) 22 (.slice A2 Y.length c2) := (hb3.block _ (by omega)).trans bN
  have bI3 : Boxed w3 (w1.heap.size + 1 + 1) 3 (.int .i64 0) := (hb3.block _ (by omega)).trans bI
  have hnP3 : Nums .i64 w3 w1.heap.size A (places Y) := (hnP.below hb2).below (hb3.mono (by omega))
  have hnN3 : Nums .u64 w3 w1.heap.size A2 (numbers Y) := (hnN.below hb2).below (hb3.mono (by omega))
  have hb03 := hb02.trans (hb3.mono hb02.size)
  clear bS1 bR1 bP bN bI hnP hnN hb3 hb2 hb02 hb01
  have hfn := func_not_nil Bs
  gi_wp2_with fail
  have hcl := closure_stops (3 - 1) (by omega) W2 w3 zs Bs cc Ac (by omega) hz hs
  rw [hY] at hcl
  refine wpIn_rangeFunc_ownG rfl (by omega) (gf := 23) (lb := #[.pointer (some ⟨Bs, 0, none⟩)]) rfl trivial (enters_of Try.func23 (by kernel_rfl) rfl)
    hcl keeps_t (keeps_b (Nat.le_refl _)) (Below.refl _ _) (fun _ => rfl)
    (fun pre W => bare pre <+: Y ∧ Boxed W (w1.heap.size + 1 + 1) 3 (.int .i64 (pre.length : Nat)) ∧ w3.grownBy W (some (w1.heap.size + 1 + 1)))
    (fun _ pre _ => ¬ bare pre <+: Y)
    (OwnFrom.and (ownFrom_pure _ _) (OwnFrom.and (Own.from (boxed_own _ _ _) _) (ownFrom_grown rfl)))
    (fun _ => ownFrom_pure _ _)
    ⟨by simp [bare], bI3, World.grownBy.refl _ _⟩
    ?a1 ?assign ?body ?done ?stop
  case assign =>
    intro l x W K hK
    gi_wp2
    exact hK
  case body =>
    rintro l pre x W ⟨hpre, hI, hG⟩ hcnt
    have hfin : Hid (bare (pre ++ [x]) <+: Y → KeepsFrom w3.heap.size W (W.setCell ⟨w1.heap.size + 1 + 1, 0, none⟩ (.int .i64 ((pre.length : Int) + 1))) ∧ Keeps W2.heap.size w3.heap.size W (W.setCell ⟨w1.heap.size + 1 + 1, 0, none⟩ (.int .i64 ((pre.length : Int) + 1))) ∧
        bare (pre ++ [x]) <+: Y ∧ Boxed (W.setCell ⟨w1.heap.size + 1 + 1, 0, none⟩ (.int .i64 ((pre.length : Int) + 1))) (w1.heap.size + 1 + 1) 3 (.int .i64 ((pre ++ [x]).length : Nat)) ∧ w3.grownBy (W.setCell ⟨w1.heap.size + 1 + 1, 0, none⟩ (.int .i64 ((pre.length : Int) + 1))) (some (w1.heap.size + 1 + 1))) :=
      fun hx => ⟨(KeepsOthers.setCell _ _ _).from _, keeps_set (Keeps.refl _ _ _) (by omega) _, hx, by rw [List.length_append, List.length_singleton]; exact hI.set _, grown_set hG _⟩
    obtain ⟨y, hy⟩ : ∃ y, Y[pre.length]? = some y := ⟨_, List.getElem?_eq_getElem hcnt⟩
    have hyP : (places Y)[pre.length]? = some (y.1 : Int) := by simp [places, hy]
    have hyN : (numbers Y)[pre.length]? = some (y.2 : Int) := by simp [numbers, hy]
    obtain ⟨pb, po, rfl, hpb, hpc⟩ := (grown_nums hG hnP3 (by omega) (by omega)).open hyP
    obtain ⟨nb, no, rfl, hnb, hnc⟩ := (grown_nums hG hnN3 (by omega) (by omega)).open hyN
    have kI := hI.cell
    have fI := hI.frozen
    have kP := (grown_boxed hG bP3 (by omega)).cell
    have kN := (grown_boxed hG bN3 (by omega)).cell
    have kR := (grown_boxed hG bR3 (by omega)).cell
    have fR := (grown_boxed hG bR3 (by omega)).frozen
    have hiff : Hid (bare (pre ++ [x]) <+: Y ↔ x.1 = y) := by
      obtain ⟨t, ht⟩ := hpre
      have hl : (bare pre).length = pre.length := bare_length pre
      have e : Y[pre.length]? = t[0]? := by rw [← ht, List.getElem?_append_right (by omega), hl, Nat.sub_self]
      rw [hy] at e
      cases t with
      | nil => simp at e
      | cons t0 t =>
        simp only [List.getElem?_cons_zero, Option.some.injEq] at e
        subst e
        rw [bare_append, ← ht]
        constructor
        · rintro ⟨r, hr⟩
          rw [List.append_assoc] at hr
          have := List.append_cancel_left hr
          simp [bare] at this
          exact this.1
        · intro hx
          exact ⟨t, by simp [bare, hx]⟩
    obtain ⟨⟨x1, x2⟩, hx1, hx2⟩ := x
    obtain ⟨y1, y2⟩ := y
    simp only at hx1 hx2 hpc hnc hiff
    have hi : (pre.length : Int) < (Y.length : Int) := by omega
    have hYs : (Y.length : Int) ≤ 60 := by omega
    have HY := Lib.hid hY
    have HZ2 := Lib.hid hz2
    clear hz2 hy hyP hyN hY hI hG hnP3 hnN3 bS3 bR3 bP3 bN3 bI3 hs hcl hb03 hn hz
    by_cases e1 : x1 = y1
    · subst e1
      by_cases e2 : x2 = y2
      · subst e2
        have hF := Lib.hid (hfin.out (hiff.out.2 rfl))
        gi_wp2
        exact hF.out
      · have h2 : ((x2 : Int) != (y2 : Int)) = true := by simp; omega
        have hF : Hid (¬ bare (pre ++ [(⟨(x1, x2), hx1, hx2⟩ : PN)]) <+: Y) := fun h => e2 (by have := hiff.out.1 h; simpa using this)
        gi_wp2
        exact ⟨(KeepsOthers.setCell _ _ _).from _, hF.out⟩
    · have h2 : ((x1 : Int) != (y1 : Int)) = true := by simp; omega
      have hF : Hid (¬ bare (pre ++ [(⟨(x1, x2), hx1, hx2⟩ : PN)]) <+: Y) := fun h => e1 (by have := hiff.out.1 h; simp at this; exact this.1)
      gi_wp2
      exact ⟨(KeepsOthers.setCell _ _ _).from _, hF.out⟩
  case done =>
    rintro D1 ys W hD1 hYs ⟨_, hI, hG⟩ hK1
    have hys : ys.length = Y.length := by rw [← hYs, bare_length]
    rw [hys] at hI
    have hzW := hG.size
    have bS4 := grown_boxed hG bS3 (by omega)
    have bR4 := grown_boxed hG bR3 (by omega)
    have bP4 := grown_boxed hG bP3 (by omega)
    have hb04 := hb03.trans (grown_below hG (by omega) (by omega))
    have hn4 := (hn.below hb04).mono hb04.size
    clear hys hYs bS3 bR3 bP3 bN3 bI3 hG hs hcl hnP3 hnN3
    gi_wp2_with fail
    refine ⟨trivial, ?_⟩
    have hb5 : Below W.heap.size W (W.alloc (.cells #[.int .i64 0] 3)) := (Below.refl _ W).alloc (Nat.le_refl _) _
    have bK := Boxed.new W 3 (.int .i64 0)
    have hz5 : (W.alloc (.cells #[.int .i64 0] 3)).heap.size = W.heap.size + 1 := by simp
    generalize W.alloc (.cells #[.int .i64 0] 3) = W5 at *
    refine (callsIn_wide.2 (all_any _ _ _ zs W5 hzn (by omega) ((hn4.below hb5).mono hb5.size))).mono ?_
    rintro e w6 ⟨Bs2, Ac2, cc2, rfl, hs⟩
    have hb6 := hb5.trans (hs.below.mono hb5.size)
    have hz6 := hs.below.size
    have kk : ∀ {b t v}, Boxed W b t v → Boxed w6 b t v := fun h => (hb6.block _ h.lt).trans h
    have bS6 := kk bS4
    have bR6 := kk bR4
    have bP6 := kk bP4
    have bI6 := kk hI
    have hK6 : w6.heap[D1]? = some (.deferred (some [])) := (hb6.block _ (Array.getElem?_eq_some_iff.1 hK1).1).trans hK1
    have hD1b := (Array.getElem?_eq_some_iff.1 hK1).1
    have bK6 : Boxed w6 W.heap.size 3 (.int .i64 0) := (hs.below.block _ (by omega)).trans bK
    have hb06 := hb04.trans (hb6.mono hb04.size)
    clear bS4 bR4 bP4 hI kk hb6 hb5 bK hn4 hb04 hK1
    have hfn2 := func_not_nil Bs2
    gi_wp2_with fail
    have hcl := closure_stops (3 - 1) (by omega) W5 w6 zs Bs2 cc2 Ac2 (by omega) hz hs
    rw [hY] at hcl
    refine wpIn_rangeFunc_ownG rfl (by omega) (gf := 23) (lb := #[.pointer (some ⟨Bs2, 0, none⟩)]) rfl trivial (enters_of Try.func23 (by kernel_rfl) rfl)
      hcl keeps_t (keeps_b (Nat.le_refl _)) (Below.refl _ _) (fun _ => rfl)
      (fun pre W' => (stop < 0 ∨ (pre.length : Int) ≤ stop) ∧ Boxed W' W.heap.size 3 (.int .i64 (pre.length : Nat)) ∧ w6.grownBy W' (some W.heap.size))
      (fun cd pre W' => (cd = .exit 2 ∧ 0 ≤ stop ∧ (pre.length : Int) = stop + 1) ∧ Boxed W' W.heap.size 3 (.int .i64 (pre.length : Nat)) ∧ w6.grownBy W' (some W.heap.size))
      (OwnFrom.and (ownFrom_pure _ _) (OwnFrom.and (Own.from (boxed_own _ _ _) _) (ownFrom_grown rfl)))
      (fun _ => OwnFrom.and (ownFrom_pure _ _) (OwnFrom.and (Own.from (boxed_own _ _ _) _) (ownFrom_grown rfl)))
      ⟨by simp; omega, bK6, World.grownBy.refl _ _⟩
      ?a2 ?assign2 ?body2 ?done2 ?stop2
    case assign2 =>
      intro l x W' K hK
      gi_wp2
      exact hK
    case body2 =>
      rintro l pre x W' ⟨hp, hI, hG⟩ hcnt
      have kK := hI.cell
      have fK := hI.frozen
      have kS := ((grown_boxed hG bS6 (by omega)).other (B' := W.heap.size) (by omega) (.int .i64 ((pre.length : Int) + 1))).cell
      have hfin := Lib.hid (show KeepsFrom w6.heap.size W' (W'.setCell ⟨W.heap.size, 0, none⟩ (.int .i64 ((pre.length : Int) + 1))) ∧ Keeps W5.heap.size w6.heap.size W' (W'.setCell ⟨W.heap.size, 0, none⟩ (.int .i64 ((pre.length : Int) + 1))) ∧
          Boxed (W'.setCell ⟨W.heap.size, 0, none⟩ (.int .i64 ((pre.length : Int) + 1))) W.heap.size 3 (.int .i64 ((pre ++ [x]).length : Nat)) ∧ w6.grownBy (W'.setCell ⟨W.heap.size, 0, none⟩ (.int .i64 ((pre.length : Int) + 1))) (some W.heap.size) from
        ⟨(KeepsOthers.setCell _ _ _).from _, keeps_set (Keeps.refl _ _ _) (by omega) _, by rw [List.length_append, List.length_singleton]; exact hI.set _, grown_set hG _⟩)
      have hlen : (pre ++ [x]).length = pre.length + 1 := by simp
      have HL := Lib.hid hlen
      have hYs : (Y.length : Int) ≤ 60 := by omega
      have HZ5 := Lib.hid hz5
      have HZ2 := Lib.hid hz2
      have HYY := Lib.hid hY
      clear hlen hI hG hz5 hz2 hY bS6 bR6 bP6 bI6 bK6 hb06 hcl hs hK6 hb03 hn hz
      by_cases hst : (pre.length : Int) = stop
      · have e1 : ((pre.length : Int) == stop) = true := by simp; omega
        have hq : Hid (0 ≤ stop ∧ ((pre ++ [x]).length : Int) = stop + 1) := ⟨by omega, by rw [HL.out]; omega⟩
        have HST := Lib.hid hst
        clear hst
        gi_wp2
        exact ⟨hfin.out.1, ⟨rfl, hq.out⟩, hfin.out.2.2.1, hfin.out.2.2.2⟩
      · have e1 : ((pre.length : Int) == stop) = false := by simp; omega
        have hq : Hid (stop < 0 ∨ ((pre ++ [x]).length : Int) ≤ stop) := by show _ ∨ _; rw [HL.out]; omega
        gi_wp2
        exact ⟨hfin.out.1, hfin.out.2.1, hq.out, hfin.out.2.2.1, hfin.out.2.2.2⟩
    case done2 =>
      rintro D2 zs2 W' hD2 hY2 ⟨hp, hI, hG⟩ hK2
      have hys : zs2.length = Y.length := by rw [← hY2, bare_length]
      rw [hys] at hI hp
      clear hY2 hys
      rcases hp with hp | hp
      · skip
        have hz7 := hG.size
        have bS7 := grown_boxed hG bS6 (by omega)
        have bR7 := grown_boxed hG bR6 (by omega)
        have bP7 := grown_boxed hG bP6 (by omega)
        have bI7 := grown_boxed hG bI6 (by omega)
        have hK17 : W'.heap[D1]? = some (.deferred (some [])) := (hG.block D1 (by omega) (fun e => by injection e with e; omega)).trans hK6
        have hb07 := hb06.trans (grown_below hG (by omega) (by omega))
        have hn7 := (hn.below hb07).mono hb07.size
        have hDD : D1 ≠ D2 := by omega
        have hDr1 : w.heap.size + 1 ≠ D1 := by omega
        have hDr2 : w.heap.size + 1 ≠ D2 := by omega
        have hDw1 : w.heap.size ≤ D1 := by omega
        have hDw2 : w.heap.size ≤ D2 := by omega
        have kS := bS7.cell
        have kP := bP7.cell
        have kK := hI.cell
        have hYs : (Y.length : Int) ≤ 60 := by omega
        have HY := Lib.hid hY
        have HZ5 := Lib.hid hz5
        have HZ2 := Lib.hid hz2
        have HS0 := Lib.hid hs0'
        clear bS6 bR6 bP6 bI6 bK6 hb06 hs hcl hG hb03 hn hK6 hY hz5 hz2 hs0' hfn hfn2
        have hp1 : ¬ 0 ≤ stop := by omega
        gi_wp2_with fail
        refine ⟨trivial, ?_⟩
        refine (callsIn_wide.2 (count_any _ _ _ zs W' hzn (by omega) (by omega) hz hn7)).mono ?_
        rintro e w8 ⟨rfl, hb8⟩
        rw [HY.out]
        gi_wp2_with fail
        refine ⟨trivial, ?_⟩
        refine (callsIn_wide.2 (known_any w8)).mono ?_
        rintro e w9 ⟨rfl, hb9⟩
        have hb79 := hb8.trans (hb9.mono hb8.size)
        have kk : ∀ {b t v}, Boxed W' b t v → Boxed w9 b t v := fun h => (hb79.block _ h.lt).trans h
        have kI9 := (kk bI7).cell
        have kP9 := (kk bP7).cell
        have kK9 := (kk hI).cell
        have bR9 := kk bR7
        have kR9 := bR9.cell
        have fR9 := bR9.frozen
        have hK1 := (hb79.block D1 (Array.getElem?_eq_some_iff.1 hK17).1).trans hK17
        have hK2' := (hb79.block D2 (Array.getElem?_eq_some_iff.1 hK2).1).trans hK2
        have hb09 := hb07.trans (hb79.mono hb07.size)
        clear kk kS kP kK hb8 hb9 hb79 bS7 bP7 bI7 hI bR7 hK17 hK2 hb07 hn7 hz
        gi_wp2
        have hbf := hb09.setCell (p := ⟨w.heap.size + 1, 0, none⟩) (by simp) (.bool true)
        have bRf := bR9.set (.bool true)
        have hKf2 : (w9.setCell ⟨w.heap.size + 1, 0, none⟩ (.bool true)).heap[D2]? = some (.deferred (some [])) := (Below.heap_setCell w9 _ _ _ (Ne.symm hDr2)).trans hK2'
        have hKf1 : (w9.setCell ⟨w.heap.size + 1, 0, none⟩ (.bool true)).heap[D1]? = some (.deferred (some [])) := (Below.heap_setCell w9 _ _ _ (Ne.symm hDr1)).trans hK1
        generalize w9.setCell ⟨w.heap.size + 1, 0, none⟩ (.bool true) = Wf at *
        refine ⟨by simp, .inl ⟨_, _, rfl, run_takeDeferred hKf2, ?_⟩⟩
        have hKg1 := (World.putObj_heap_other (w := Wf) (o := .deferred none) hDD).trans hKf1
        have hbg := hbf.trans (belowK_b (w := w) (Nat.le_refl _) Wf D2 _ (.deferred none) hDw2 hKf2 rfl rfl)
        have bRg : Boxed (Wf.putObj D2 (.deferred none)) (w.heap.size + 1) 4 (.bool true) := (World.putObj_heap_other hDr2).trans bRf
        refine ⟨by simp, .inl ⟨_, _, rfl, run_takeDeferred hKg1, ?_⟩⟩
        have hbh := hbg.trans (belowK_b (w := w) (Nat.le_refl _) _ D1 _ (.deferred none) hDw1 hKg1 rfl rfl)
        have bRh : Boxed ((Wf.putObj D2 (.deferred none)).putObj D1 (.deferred none)) (w.heap.size + 1) 4 (.bool true) := (World.putObj_heap_other hDr1).trans bRg
        have kRh := bRh.cell
        refine ⟨.bool true, ?_, rfl, hbh⟩
        simp [results, Try.f5, go_sem, kRh]
      · skip
        have hz7 := hG.size
        have bS7 := grown_boxed hG bS6 (by omega)
        have bR7 := grown_boxed hG bR6 (by omega)
        have bP7 := grown_boxed hG bP6 (by omega)
        have bI7 := grown_boxed hG bI6 (by omega)
        have hK17 : W'.heap[D1]? = some (.deferred (some [])) := (hG.block D1 (by omega) (fun e => by injection e with e; omega)).trans hK6
        have hb07 := hb06.trans (grown_below hG (by omega) (by omega))
        have hn7 := (hn.below hb07).mono hb07.size
        have hDD : D1 ≠ D2 := by omega
        have hDr1 : w.heap.size + 1 ≠ D1 := by omega
        have hDr2 : w.heap.size + 1 ≠ D2 := by omega
        have hDw1 : w.heap.size ≤ D1 := by omega
        have hDw2 : w.heap.size ≤ D2 := by omega
        have kS := bS7.cell
        have kP := bP7.cell
        have kK := hI.cell
        have hYs : (Y.length : Int) ≤ 60 := by omega
        have HY := Lib.hid hY
        have HZ5 := Lib.hid hz5
        have HZ2 := Lib.hid hz2
        have HS0 := Lib.hid hs0'
        clear bS6 bR6 bP6 bI6 bK6 hb06 hs hcl hG hb03 hn hK6 hY hz5 hz2 hs0' hfn hfn2
        have hp1 : 0 ≤ stop := by omega
        gi_wp2_with fail
        refine ⟨trivial, ?_⟩
        refine (callsIn_wide.2 (count_any _ _ _ zs W' hzn (by omega) (by omega) hz hn7)).mono ?_
        rintro e w8 ⟨rfl, hb8⟩
        rw [HY.out]
        gi_wp2_with fail
        refine ⟨trivial, ?_⟩
        refine (callsIn_wide.2 (known_any w8)).mono ?_
        rintro e w9 ⟨rfl, hb9⟩
        have hb79 := hb8.trans (hb9.mono hb8.size)
        have kk : ∀ {b t v}, Boxed W' b t v → Boxed w9 b t v := fun h => (hb79.block _ h.lt).trans h
        have kI9 := (kk bI7).cell
        have kP9 := (kk bP7).cell
        have kK9 := (kk hI).cell
        have bR9 := kk bR7
        have kR9 := bR9.cell
        have fR9 := bR9.frozen
        have hK1 := (hb79.block D1 (Array.getElem?_eq_some_iff.1 hK17).1).trans hK17
        have hK2' := (hb79.block D2 (Array.getElem?_eq_some_iff.1 hK2).1).trans hK2
        have hb09 := hb07.trans (hb79.mono hb07.size)
        clear kk kS kP kK hb8 hb9 hb79 bS7 bP7 bI7 hI bR7 hK17 hK2 hb07 hn7 hz
        gi_wp2
        have hbf := hb09.setCell (p := ⟨w.heap.size + 1, 0, none⟩) (by simp) (.bool true)
        have bRf := bR9.set (.bool true)
        have hKf2 : (w9.setCell ⟨w.heap.size + 1, 0, none⟩ (.bool true)).heap[D2]? = some (.deferred (some [])) := (Below.heap_setCell w9 _ _ _ (Ne.symm hDr2)).trans hK2'
        have hKf1 : (w9.setCell ⟨w.heap.size + 1, 0, none⟩ (.bool true)).heap[D1]? = some (.deferred (some [])) := (Below.heap_setCell w9 _ _ _ (Ne.symm hDr1)).trans hK1
        generalize w9.setCell ⟨w.heap.size + 1, 0, none⟩ (.bool true) = Wf at *
        refine ⟨by simp, .inl ⟨_, _, rfl, run_takeDeferred hKf2, ?_⟩⟩
        have hKg1 := (World.putObj_heap_other (w := Wf) (o := .deferred none) hDD).trans hKf1
        have hbg := hbf.trans (belowK_b (w := w) (Nat.le_refl _) Wf D2 _ (.deferred none) hDw2 hKf2 rfl rfl)
        have bRg : Boxed (Wf.putObj D2 (.deferred none)) (w.heap.size + 1) 4 (.bool true) := (World.putObj_heap_other hDr2).trans bRf
        refine ⟨by simp, .inl ⟨_, _, rfl, run_takeDeferred hKg1, ?_⟩⟩
        have hbh := hbg.trans (belowK_b (w := w) (Nat.le_refl _) _ D1 _ (.deferred none) hDw1 hKg1 rfl rfl)
        have bRh : Boxed ((Wf.putObj D2 (.deferred none)).putObj D1 (.deferred none)) (w.heap.size + 1) 4 (.bool true) := (World.putObj_heap_other hDr1).trans bRg
        have kRh := bRh.cell
        refine ⟨.bool true, ?_, rfl, hbh⟩
        simp [results, Try.f5, go_sem, kRh]
    case stop2 =>
      rintro D2 cd pre W' hD2 hS2 ⟨⟨rfl, hp0, hp1⟩, hI, hG⟩ hK2
      have hple : pre.length ≤ Y.length := by
        obtain ⟨r, hr⟩ := hS2.1
        have := congrArg List.length hr
        rw [List.length_append, bare_length] at this
        omega
      have hpY : stop < (Y.length : Int) := by omega
      rw [hp1] at hI
      clear hp1 hple hS2
      have hz7 := hG.size
      have bS7 := grown_boxed hG bS6 (by omega)
      have bR7 := grown_boxed hG bR6 (by omega)
      have bP7 := grown_boxed hG bP6 (by omega)
      have bI7 := grown_boxed hG bI6 (by omega)
      have hK17 : W'.heap[D1]? = some (.deferred (some [])) := (hG.block D1 (by omega) (fun e => by injection e with e; omega)).trans hK6
      have hb07 := hb06.trans (grown_below hG (by omega) (by omega))
      have hn7 := (hn.below hb07).mono hb07.size
      have hDD : D1 ≠ D2 := by omega
      have hDr1 : w.heap.size + 1 ≠ D1 := by omega
      have hDr2 : w.heap.size + 1 ≠ D2 := by omega
      have hDw1 : w.heap.size ≤ D1 := by omega
      have hDw2 : w.heap.size ≤ D2 := by omega
      have kS := bS7.cell
      have kP := bP7.cell
      have kK := hI.cell
      have hYs : (Y.length : Int) ≤ 60 := by omega
      have HY := Lib.hid hY
      have HZ5 := Lib.hid hz5
      have HZ2 := Lib.hid hz2
      have HS0 := Lib.hid hs0'
      clear bS6 bR6 bP6 bI6 bK6 hb06 hs hcl hG hb03 hn hK6 hY hz5 hz2 hs0' hfn hfn2
      gi_wp2_with fail
      refine ⟨trivial, ?_⟩
      refine (callsIn_wide.2 (count_any _ _ _ zs W' hzn (by omega) (by omega) hz hn7)).mono ?_
      rintro e w8 ⟨rfl, hb8⟩
      rw [HY.out]
      gi_wp2_with fail
      refine ⟨trivial, ?_⟩
      refine (callsIn_wide.2 (known_any w8)).mono ?_
      rintro e w9 ⟨rfl, hb9⟩
      have hb79 := hb8.trans (hb9.mono hb8.size)
      have kk : ∀ {b t v}, Boxed W' b t v → Boxed w9 b t v := fun h => (hb79.block _ h.lt).trans h
      have kI9 := (kk bI7).cell
      have kP9 := (kk bP7).cell
      have kK9 := (kk hI).cell
      have bR9 := kk bR7
      have kR9 := bR9.cell
      have fR9 := bR9.frozen
      have hK1 := (hb79.block D1 (Array.getElem?_eq_some_iff.1 hK17).1).trans hK17
      have hK2' := (hb79.block D2 (Array.getElem?_eq_some_iff.1 hK2).1).trans hK2
      have hb09 := hb07.trans (hb79.mono hb07.size)
      clear kk kS kP kK hb8 hb9 hb79 bS7 bP7 bI7 hI bR7 hK17 hK2 hb07 hn7 hz
      gi_wp2
      have hbf := hb09.setCell (p := ⟨w.heap.size + 1, 0, none⟩) (by simp) (.bool true)
      have bRf := bR9.set (.bool true)
      have hKf2 : (w9.setCell ⟨w.heap.size + 1, 0, none⟩ (.bool true)).heap[D2]? = some (.deferred (some [])) := (Below.heap_setCell w9 _ _ _ (Ne.symm hDr2)).trans hK2'
      have hKf1 : (w9.setCell ⟨w.heap.size + 1, 0, none⟩ (.bool true)).heap[D1]? = some (.deferred (some [])) := (Below.heap_setCell w9 _ _ _ (Ne.symm hDr1)).trans hK1
      generalize w9.setCell ⟨w.heap.size + 1, 0, none⟩ (.bool true) = Wf at *
      refine ⟨by simp, .inl ⟨_, _, rfl, run_takeDeferred hKf2, ?_⟩⟩
      have hKg1 := (World.putObj_heap_other (w := Wf) (o := .deferred none) hDD).trans hKf1
      have hbg := hbf.trans (belowK_b (w := w) (Nat.le_refl _) Wf D2 _ (.deferred none) hDw2 hKf2 rfl rfl)
      have bRg : Boxed (Wf.putObj D2 (.deferred none)) (w.heap.size + 1) 4 (.bool true) := (World.putObj_heap_other hDr2).trans bRf
      refine ⟨by simp, .inl ⟨_, _, rfl, run_takeDeferred hKg1, ?_⟩⟩
      have hbh := hbg.trans (belowK_b (w := w) (Nat.le_refl _) _ D1 _ (.deferred none) hDw1 hKg1 rfl rfl)
      have bRh : Boxed ((Wf.putObj D2 (.deferred none)).putObj D1 (.deferred none)) (w.heap.size + 1) 4 (.bool true) := (World.putObj_heap_other hDr1).trans bRg
      have kRh := bRh.cell
      refine ⟨.bool true, ?_, rfl, hbh⟩
      simp [results, Try.f5, go_sem, kRh]
  case stop =>
    rintro D c pre W _ hS h _
    exact absurd hS.1 h

set_option maxHeartbeats 4000000 in
theorem all_eq (a0 : Option Addr) (cap0 : Nat) (es : List Int) (stop : Int) (w : World) (hs0 : -9223372036854775808 ≤ stop) (hs1 : stop ≤ 9223372036854775807) (hlc : es.length ≤ cap0) (hz : ∀ c ∈ es.take 60, 0 ≤ c ∧ c ≤ 255) (hn : Nums .u8 w w.heap.size a0 (es.take 60)) (h60 : es.length ≤ 60) (h61 : 60 ≤ es.length) :
    Calls Try.prog 5 #[.slice a0 es.length cap0, .int .i64 stop] w fun e w' => e = .returned (.bool true) ∧ Below w.heap.size w w' := by
  have hl : (es.take 60).length = min 60 es.length := List.length_take
  refine (callsIn_wide (n := 3)).1 ?_
  refine callsIn_of_wp_marks Try.func5 rfl trivial ?_ rfl
  simp only [Try.ntmps5, List.size_toArray, List.length_cons, List.length_nil, Nat.reduceAdd, Nat.reduceSub, Array.replicate_succ, Array.replicate_zero, List.push_toArray, List.append_toArray, List.nil_append, List.cons_append]
  gi_wp2_with fail
  refine ⟨trivial, ?_⟩
  have bS := (Boxed.new w 3 (.int .i64 stop)).alloc (.cells #[.bool false] 4)
  have bR := Boxed.new (w.alloc (.cells #[.int .i64 stop] 3)) 4 (.bool false)
  rw [World.size_alloc] at bR
  have hW0 : Below w.heap.size w ((w.alloc (.cells #[.int .i64 stop] 3)).alloc (.cells #[.bool false] 4)) := ((Below.refl _ w).alloc (Nat.le_refl _) _).alloc (by simp) _
  have hs0' : ((w.alloc (.cells #[.int .i64 stop] 3)).alloc (.cells #[.bool false] 4)).heap.size = w.heap.size + 2 := by simp
  generalize (w.alloc (.cells #[.int .i64 stop] 3)).alloc (.cells #[.bool false] 4) = W0 at *
  refine (callsIn_wide.2 (rall_len _ _ _ (es.take 60) W0 (by omega) (by omega) hz ((hn.below hW0).mono hW0.size))).mono ?_
  rintro e w1 ⟨A, c, A2, c2, rfl, hnP, hnN, hb1, hc, hc2⟩
  have bS1 : Boxed w1 w.heap.size 3 (.int .i64 stop) := (hb1.block _ (by omega)).trans bS
  have bR1 : Boxed w1 (w.heap.size + 1) 4 (.bool false) := (hb1.block _ (by omega)).trans bR
  have hb01 := hW0.trans (hb1.mono hW0.size)
  have hz1 := hb1.size
  clear bS bR hb1 hW0
  gi_wp2_with fail
  refine ⟨trivial, ?_⟩
  have hzl : (es.take 60).length ≤ 60 := by omega
  have hzn : (es.take 60).length = es.length := by omega
  have hYl := Vi.tl_length (es.take 60) 0
  clear hl
  generalize es.take 60 = zs at *
  generalize hY : Vi.tl zs 0 = Y at *
  have hb2 : Below w1.heap.size w1 (((w1.alloc (.cells #[.slice A Y.length c] 39)).alloc (.cells #[.slice A2 Y.length c2] 22)).alloc (.cells #[.int .i64 0] 3)) :=
    (((Below.refl _ w1).alloc (Nat.le_refl _) _).alloc (by simp) _).alloc (by simp; omega) _
  have bP := ((Boxed.new w1 39 (.slice A Y.length c)).alloc (.cells #[.slice A2 Y.length c2] 22)).alloc (.cells #[.int .i64 0] 3)
  have bN := (Boxed.new (w1.alloc (.cells #[.slice A Y.length c] 39)) 22 (.slice A2 Y.length c2)).alloc (.cells #[.int .i64 0] 3)
  have bI := Boxed.new ((w1.alloc (.cells #[.slice A Y.length c] 39)).alloc (.cells #[.slice A2 Y.length c2] 22)) 3 (.int .i64 0)
  have hz2 : (((w1.alloc (.cells #[.slice A Y.length c] 39)).alloc (.cells #[.slice A2 Y.length c2] 22)).alloc (.cells #[.int .i64 0] 3)).heap.size = w1.heap.size + 3 := by simp
  rw [World.size_alloc] at bN
  rw [World.size_alloc, World.size_alloc] at bI
  generalize ((w1.alloc (.cells #[.slice A Y.length c] 39)).alloc (.cells #[.slice A2 Y.length c2] 22)).alloc (.cells #[.int .i64 0] 3) = W2 at *
  have hb02 := hb01.trans (hb2.mono hb01.size)
  refine (callsIn_wide.2 (all_any _ _ _ zs W2 hzn (by omega) ((hn.below hb02).mono hb02.size))).mono ?_
  rintro e w3 ⟨Bs, Ac, cc, rfl, hs⟩
  have hb3 := hs.below
  have hz3 := hb3.size
  have bS3 : Boxed w3 w.heap.size 3 (.int .i64 stop) := (hb3.block _ (by omega)).trans ((hb2.block _ (by omega)).trans bS1)
  have bR3 : Boxed w3 (w.heap.size + 1) 4 (.bool false) := (hb3.block _ (by omega)).trans ((hb2.block _ (by omega)).trans bR1)
  have bP3 : Boxed w3 w1.heap.size 39 (.slice A Y.length c) := (hb3.block _ (by omega)).trans bP
  have bN3 : Boxed w3 (w1.heap.size + 1) 22 (.slice A2 Y.length c2) := (hb3.block _ (by omega)).trans bN
  have bI3 : Boxed w3 (w1.heap.size + 1 + 1) 3 (.int .i64 0) := (hb3.block _ (by omega)).trans bI
  have hnP3 : Nums .i64 w3 w1.heap.size A (places Y) := (hnP.below hb2).below (hb3.mono (by omega))
  have hnN3 : Nums .u64 w3 w1.heap.size A2 (numbers Y) := (hnN.below hb2).below (hb3.mono (by omega))
  have hb03 := hb02.trans (hb3.mono hb02.size)
  clear bS1 bR1 bP bN bI hnP hnN hb3 hb2 hb02 hb01
  have hfn := func_not_nil Bs
  gi_wp2_with fail
  have hcl := closure_stops (3 - 1) (by omega) W2 w3 zs Bs cc Ac (by omega) hz hs
  rw [hY] at hcl
  refine wpIn_rangeFunc_ownG rfl (by omega) (gf := 23) (lb := #[.pointer (some ⟨Bs, 0, none⟩)]) rfl trivial (enters_of Try.func23 (by kernel_rfl) rfl)
    hcl keeps_t (keeps_b (Nat.le_refl _)) (Below.refl _ _) (fun _ => rfl)
    (fun pre W => bare pre <+: Y ∧ Boxed W (w1.heap.size + 1 + 1) 3 (.int .i64 (pre.length : Nat)) ∧ w3.grownBy W (some (w1.heap.size + 1 + 1)))
    (fun _ pre _ => ¬ bare pre <+: Y)
    (OwnFrom.and (ownFrom_pure _ _) (OwnFrom.and (Own.from (boxed_own _ _ _) _) (ownFrom_grown rfl)))
    (fun _ => ownFrom_pure _ _)
    ⟨by simp [bare], bI3, World.grownBy.refl _ _⟩
    ?a1 ?assign ?body ?done ?stop
  case assign =>
    intro l x W K hK
    gi_wp2
    exact hK
  case body =>
    rintro l pre x W ⟨hpre, hI, hG⟩ hcnt
    have hfin : Hid (bare (pre ++ [x]) <+: Y → KeepsFrom w3.heap.size W (W.setCell ⟨w1.heap.size + 1 + 1, 0, none⟩ (.int .i64 ((pre.length : Int) + 1))) ∧ Keeps W2.heap.size w3.heap.size W (W.setCell ⟨w1.heap.size + 1 + 1, 0, none⟩ (.int .i64 ((pre.length : Int) + 1))) ∧
        bare (pre ++ [x]) <+: Y ∧ Boxed (W.setCell ⟨w1.heap.size + 1 + 1, 0, none⟩ (.int .i64 ((pre.length : Int) + 1))) (w1.heap.size + 1 + 1) 3 (.int .i64 ((pre ++ [x]).length : Nat)) ∧ w3.grownBy (W.setCell ⟨w1.heap.size + 1 + 1, 0, none⟩ (.int .i64 ((pre.length : Int) + 1))) (some (w1.heap.size + 1 + 1))) :=
      fun hx => ⟨(KeepsOthers.setCell _ _ _).from _, keeps_set (Keeps.refl _ _ _) (by omega) _, hx, by rw [List.length_append, List.length_singleton]; exact hI.set _, grown_set hG _⟩
    obtain ⟨y, hy⟩ : ∃ y, Y[pre.length]? = some y := ⟨_, List.getElem?_eq_getElem hcnt⟩
    have hyP : (places Y)[pre.length]? = some (y.1 : Int) := by simp [places, hy]
    have hyN : (numbers Y)[pre.length]? = some (y.2 : Int) := by simp [numbers, hy]
    obtain ⟨pb, po, rfl, hpb, hpc⟩ := (grown_nums hG hnP3 (by omega) (by omega)).open hyP
    obtain ⟨nb, no, rfl, hnb, hnc⟩ := (grown_nums hG hnN3 (by omega) (by omega)).open hyN
    have kI := hI.cell
    have fI := hI.frozen
    have kP := (grown_boxed hG bP3 (by omega)).cell
    have kN := (grown_boxed hG bN3 (by omega)).cell
    have kR := (grown_boxed hG bR3 (by omega)).cell
    have fR := (grown_boxed hG bR3 (by omega)).frozen
    have hiff : Hid (bare (pre ++ [x]) <+: Y ↔ x.1 = y) := by
      obtain ⟨t, ht⟩ := hpre
      have hl : (bare pre).length = pre.length := bare_length pre
      have e : Y[pre.length]? = t[0]? := by rw [← ht, List.getElem?_append_right (by omega), hl, Nat.sub_self]
      rw [hy] at e
      cases t with
      | nil => simp at e
      | cons t0 t =>
        simp only [List.getElem?_cons_zero, Option.some.injEq] at e
        subst e
        rw [bare_append, ← ht]
        constructor
        · rintro ⟨r, hr⟩
          rw [List.append_assoc] at hr
          have := List.append_cancel_left hr
          simp [bare] at this
          exact this.1
        · intro hx
          exact ⟨t, by simp [bare, hx]⟩
    obtain ⟨⟨x1, x2⟩, hx1, hx2⟩ := x
    obtain ⟨y1, y2⟩ := y
    simp only at hx1 hx2 hpc hnc hiff
    have hi : (pre.length : Int) < (Y.length : Int) := by omega
    have hYs : (Y.length : Int) ≤ 60 := by omega
    have HY := Lib.hid hY
    have HZ2 := Lib.hid hz2
    clear hz2 hy hyP hyN hY hI hG hnP3 hnN3 bS3 bR3 bP3 bN3 bI3 hs hcl hb03 hn hz
    by_cases e1 : x1 = y1
    · subst e1
      by_cases e2 : x2 = y2
      · subst e2
        have hF := Lib.hid (hfin.out (hiff.out.2 rfl))
        gi_wp2
        exact hF.out
      · have h2 : ((x2 : Int) != (y2 : Int)) = true := by simp; omega
        have hF : Hid (¬ bare (pre ++ [(⟨(x1, x2), hx1, hx2⟩ : PN)]) <+: Y) := fun h => e2 (by have := hiff.out.1 h; simpa using this)
        gi_wp2
        exact ⟨(KeepsOthers.setCell _ _ _).from _, hF.out⟩
    · have h2 : ((x1 : Int) != (y1 : Int)) = true := by simp; omega
      have hF : Hid (¬ bare (pre ++ [(⟨(x1, x2), hx1, hx2⟩ : PN)]) <+: Y) := fun h => e1 (by have := hiff.out.1 h; simp at this; exact this.1)
      gi_wp2
      exact ⟨(KeepsOthers.setCell _ _ _).from _, hF.out⟩
  case done =>
    rintro D1 ys W hD1 hYs ⟨_, hI, hG⟩ hK1
    have hys : ys.length = Y.length := by rw [← hYs, bare_length]
    rw [hys] at hI
    have hzW := hG.size
    have bS4 := grown_boxed hG bS3 (by omega)
    have bR4 := grown_boxed hG bR3 (by omega)
    have bP4 := grown_boxed hG bP3 (by omega)
    have hb04 := hb03.trans (grown_below hG (by omega) (by omega))
    have hn4 := (hn.below hb04).mono hb04.size
    clear hys hYs bS3 bR3 bP3 bN3 bI3 hG hs hcl hnP3 hnN3
    gi_wp2_with fail
    refine ⟨trivial, ?_⟩
    have hb5 : Below W.heap.size W (W.alloc (.cells #[.int .i64 0] 3)) := (Below.refl _ W).alloc (Nat.le_refl _) _
    have bK := Boxed.new W 3 (.int .i64 0)
    have hz5 : (W.alloc (.cells #[.int .i64 0] 3)).heap.size = W.heap.size + 1 := by simp
    generalize W.alloc (.cells #[.int .i64 0] 3) = W5 at *
    refine (callsIn_wide.2 (all_any _ _ _ zs W5 hzn (by omega) ((hn4.below hb5).mono hb5.size))).mono ?_
    rintro e w6 ⟨Bs2, Ac2, cc2, rfl, hs⟩
    have hb6 := hb5.trans (hs.below.mono hb5.size)
    have hz6 := hs.below.size
    have kk : ∀ {b t v}, Boxed W b t v → Boxed w6 b t v := fun h => (hb6.block _ h.lt).trans h
    have bS6 := kk bS4
    have bR6 := kk bR4
    have bP6 := kk bP4
    have bI6 := kk hI
    have hK6 : w6.heap[D1]? = some (.deferred (some [])) := (hb6.block _ (Array.getElem?_eq_some_iff.1 hK1).1).trans hK1
    have hD1b := (Array.getElem?_eq_some_iff.1 hK1).1
    have bK6 : Boxed w6 W.heap.size 3 (.int .i64 0) := (hs.below.block _ (by omega)).trans bK
    have hb06 := hb04.trans (hb6.mono hb04.size)
    clear bS4 bR4 bP4 hI kk hb6 hb5 bK hn4 hb04 hK1
    have hfn2 := func_not_nil Bs2
    gi_wp2_with fail
    have hcl := closure_stops (3 - 1) (by omega) W5 w6 zs Bs2 cc2 Ac2 (by omega) hz hs
    rw [hY] at hcl
    refine wpIn_rangeFunc_ownG rfl (by omega) (gf := 23) (lb := #[.pointer (some ⟨Bs2, 0, none⟩)]) rfl trivial (enters_of Try.func23 (by kernel_rfl) rfl)
      hcl keeps_t (keeps_b (Nat.le_refl _)) (Below.refl _ _) (fun _ => rfl)
      (fun pre W' => (stop < 0 ∨ (pre.length : Int) ≤ stop) ∧ Boxed W' W.heap.size 3 (.int .i64 (pre.length : Nat)) ∧ w6.grownBy W' (some W.heap.size))
      (fun cd pre W' => (cd = .exit 2 ∧ 0 ≤ stop ∧ (pre.length : Int) = stop + 1) ∧ Boxed W' W.heap.size 3 (.int .i64 (pre.length : Nat)) ∧ w6.grownBy W' (some W.heap.size))
      (OwnFrom.and (ownFrom_pure _ _) (OwnFrom.and (Own.from (boxed_own _ _ _) _) (ownFrom_grown rfl)))
      (fun _ => OwnFrom.and (ownFrom_pure _ _) (OwnFrom.and (Own.from (boxed_own _ _ _) _) (ownFrom_grown rfl)))
      ⟨by simp; omega, bK6, World.grownBy.refl _ _⟩
      ?a2 ?assign2 ?body2 ?done2 ?stop2
    case assign2 =>
      intro l x W' K hK
      gi_wp2
      exact hK
    case body2 =>
      rintro l pre x W' ⟨hp, hI, hG⟩ hcnt
      have kK := hI.cell
      have fK := hI.frozen
      have kS := ((grown_boxed hG bS6 (by omega)).other (B' := W.heap.size) (by omega) (.int .i64 ((pre.length : Int) + 1))).cell
      have hfin := Lib.hid (show KeepsFrom w6.heap.size W' (W'.setCell ⟨W.heap.size, 0, none⟩ (.int .i64 ((pre.length : Int) + 1))) ∧ Keeps W5.heap.size w6.heap.size W' (W'.setCell ⟨W.heap.size, 0, none⟩ (.int .i64 ((pre.length : Int) + 1))) ∧
          Boxed (W'.setCell ⟨W.heap.size, 0, none⟩ (.int .i64 ((pre.length : Int) + 1))) W.heap.size 3 (.int .i64 ((pre ++ [x]).length : Nat)) ∧ w6.grownBy (W'.setCell ⟨W.heap.size, 0, none⟩ (.int .i64 ((pre.length : Int) + 1))) (some W.heap.size) from
        ⟨(KeepsOthers.setCell _ _ _).from _, keeps_set (Keeps.refl _ _ _) (by omega) _, by rw [List.length_append, List.length_singleton]; exact hI.set _, grown_set hG _⟩)
      have hlen : (pre ++ [x]).length = pre.length + 1 := by simp
      have HL := Lib.hid hlen
      have hYs : (Y.length : Int) ≤ 60 := by omega
      have HZ5 := Lib.hid hz5
      have HZ2 := Lib.hid hz2
      have HYY := Lib.hid hY
      clear hlen hI hG hz5 hz2 hY bS6 bR6 bP6 bI6 bK6 hb06 hcl hs hK6 hb03 hn hz
      by_cases hst : (pre.length : Int) = stop
      · have e1 : ((pre.length : Int) == stop) = true := by simp; omega
        have hq : Hid (0 ≤ stop ∧ ((pre ++ [x]).length : Int) = stop + 1) := ⟨by omega, by rw [HL.out]; omega⟩
        have HST := Lib.hid hst
        clear hst
        gi_wp2
        exact ⟨hfin.out.1, ⟨rfl, hq.out⟩, hfin.out.2.2.1, hfin.out.2.2.2⟩
      · have e1 : ((pre.length : Int) == stop) = false := by simp; omega
        have hq : Hid (stop < 0 ∨ ((pre ++ [x]).length : Int) ≤ stop) := by show _ ∨ _; rw [HL.out]; omega
        gi_wp2
        exact ⟨hfin.out.1, hfin.out.2.1, hq.out, hfin.out.2.2.1, hfin.out.2.2.2⟩
    case done2 =>
      rintro D2 zs2 W' hD2 hY2 ⟨hp, hI, hG⟩ hK2
      have hys : zs2.length = Y.length := by rw [← hY2, bare_length]
      rw [hys] at hI hp
      clear hY2 hys
      rcases hp with hp | hp
      · skip
        have hz7 := hG.size
        have bS7 := grown_boxed hG bS6 (by omega)
        have bR7 := grown_boxed hG bR6 (by omega)
        have bP7 := grown_boxed hG bP6 (by omega)
        have bI7 := grown_boxed hG bI6 (by omega)
        have hK17 : W'.heap[D1]? = some (.deferred (some [])) := (hG.block D1 (by omega) (fun e => by injection e with e; omega)).trans hK6
        have hb07 := hb06.trans (grown_below hG (by omega) (by omega))
        have hn7 := (hn.below hb07).mono hb07.size
        have hDD : D1 ≠ D2 := by omega
        have hDr1 : w.heap.size + 1 ≠ D1 := by omega
        have hDr2 : w.heap.size + 1 ≠ D2 := by omega
        have hDw1 : w.heap.size ≤ D1 := by omega
        have hDw2 : w.heap.size ≤ D2 := by omega
        have kS := bS7.cell
        have kP := bP7.cell
        have kK := hI.cell
        have hYs : (Y.length : Int) ≤ 60 := by omega
        have HY := Lib.hid hY
        have HZ5 := Lib.hid hz5
        have HZ2 := Lib.hid hz2
        have HS0 := Lib.hid hs0'
        clear bS6 bR6 bP6 bI6 bK6 hb06 hs hcl hG hb03 hn hK6 hY hz5 hz2 hs0' hfn hfn2
        have hp1 : ¬ 0 ≤ stop := by omega
        gi_wp2_with fail
        refine ⟨trivial, ?_⟩
        refine (callsIn_wide.2 (count_any _ _ _ zs W' hzn (by omega) (by omega) hz hn7)).mono ?_
        rintro e w8 ⟨rfl, hb8⟩
        rw [HY.out]
        gi_wp2_with fail
        refine ⟨trivial, ?_⟩
        refine (callsIn_wide.2 (known_any w8)).mono ?_
        rintro e w9 ⟨rfl, hb9⟩
        have hb79 := hb8.trans (hb9.mono hb8.size)
        have kk : ∀ {b t v}, Boxed W' b t v → Boxed w9 b t v := fun h => (hb79.block _ h.lt).trans h
        have kI9 := (kk bI7).cell
        have kP9 := (kk bP7).cell
        have kK9 := (kk hI).cell
        have bR9 := kk bR7
        have kR9 := bR9.cell
        have fR9 := bR9.frozen
        have hK1 := (hb79.block D1 (Array.getElem?_eq_some_iff.1 hK17).1).trans hK17
        have hK2' := (hb79.block D2 (Array.getElem?_eq_some_iff.1 hK2).1).trans hK2
        have hb09 := hb07.trans (hb79.mono hb07.size)
        clear kk kS kP kK hb8 hb9 hb79 bS7 bP7 bI7 hI bR7 hK17 hK2 hb07 hn7 hz
        gi_wp2
        have hbf := hb09.setCell (p := ⟨w.heap.size + 1, 0, none⟩) (by simp) (.bool true)
        have bRf := bR9.set (.bool true)
        have hKf2 : (w9.setCell ⟨w.heap.size + 1, 0, none⟩ (.bool true)).heap[D2]? = some (.deferred (some [])) := (Below.heap_setCell w9 _ _ _ (Ne.symm hDr2)).trans hK2'
        have hKf1 : (w9.setCell ⟨w.heap.size + 1, 0, none⟩ (.bool true)).heap[D1]? = some (.deferred (some [])) := (Below.heap_setCell w9 _ _ _ (Ne.symm hDr1)).trans hK1
        generalize w9.setCell ⟨w.heap.size + 1, 0, none⟩ (.bool true) = Wf at *
        refine ⟨by simp, .inl ⟨_, _, rfl, run_takeDeferred hKf2, ?_⟩⟩
        have hKg1 := (World.putObj_heap_other (w := Wf) (o := .deferred none) hDD).trans hKf1
        have hbg := hbf.trans (belowK_b (w := w) (Nat.le_refl _) Wf D2 _ (.deferred none) hDw2 hKf2 rfl rfl)
        have bRg : Boxed (Wf.putObj D2 (.deferred none)) (w.heap.size + 1) 4 (.bool true) := (World.putObj_heap_other hDr2).trans bRf
        refine ⟨by simp, .inl ⟨_, _, rfl, run_takeDeferred hKg1, ?_⟩⟩
        have hbh := hbg.trans (belowK_b (w := w) (Nat.le_refl _) _ D1 _ (.deferred none) hDw1 hKg1 rfl rfl)
        have bRh : Boxed ((Wf.putObj D2 (.deferred none)).putObj D1 (.deferred none)) (w.heap.size + 1) 4 (.bool true) := (World.putObj_heap_other hDr1).trans bRg
        have kRh := bRh.cell
        refine ⟨.bool true, ?_, rfl, hbh⟩
        simp [results, Try.f5, go_sem, kRh]
      · skip
        have hz7 := hG.size
        have bS7 := grown_boxed hG bS6 (by omega)
        have bR7 := grown_boxed hG bR6 (by omega)
        have bP7 := grown_boxed hG bP6 (by omega)
        have bI7 := grown_boxed hG bI6 (by omega)
        have hK17 : W'.heap[D1]? = some (.deferred (some [])) := (hG.block D1 (by omega) (fun e => by injection e with e; omega)).trans hK6
        have hb07 := hb06.trans (grown_below hG (by omega) (by omega))
        have hn7 := (hn.below hb07).mono hb07.size
        have hDD : D1 ≠ D2 := by omega
        have hDr1 : w.heap.size + 1 ≠ D1 := by omega
        have hDr2 : w.heap.size + 1 ≠ D2 := by omega
        have hDw1 : w.heap.size ≤ D1 := by omega
        have hDw2 : w.heap.size ≤ D2 := by omega
        have kS := bS7.cell
        have kP := bP7.cell
        have kK := hI.cell
        have hYs : (Y.length : Int) ≤ 60 := by omega
        have HY := Lib.hid hY
        have HZ5 := Lib.hid hz5
        have HZ2 := Lib.hid hz2
        have HS0 := Lib.hid hs0'
        clear bS6 bR6 bP6 bI6 bK6 hb06 hs hcl hG hb03 hn hK6 hY hz5 hz2 hs0' hfn hfn2
        have hp1 : 0 ≤ stop := by omega
        gi_wp2_with fail
        refine ⟨trivial, ?_⟩
        refine (callsIn_wide.2 (count_any _ _ _ zs W' hzn (by omega) (by omega) hz hn7)).mono ?_
        rintro e w8 ⟨rfl, hb8⟩
        rw [HY.out]
        gi_wp2_with fail
        refine ⟨trivial, ?_⟩
        refine (callsIn_wide.2 (known_any w8)).mono ?_
        rintro e w9 ⟨rfl, hb9⟩
        have hb79 := hb8.trans (hb9.mono hb8.size)
        have kk : ∀ {b t v}, Boxed W' b t v → Boxed w9 b t v := fun h => (hb79.block _ h.lt).trans h
        have kI9 := (kk bI7).cell
        have kP9 := (kk bP7).cell
        have kK9 := (kk hI).cell
        have bR9 := kk bR7
        have kR9 := bR9.cell
        have fR9 := bR9.frozen
        have hK1 := (hb79.block D1 (Array.getElem?_eq_some_iff.1 hK17).1).trans hK17
        have hK2' := (hb79.block D2 (Array.getElem?_eq_some_iff.1 hK2).1).trans hK2
        have hb09 := hb07.trans (hb79.mono hb07.size)
        clear kk kS kP kK hb8 hb9 hb79 bS7 bP7 bI7 hI bR7 hK17 hK2 hb07 hn7 hz
        gi_wp2
        have hbf := hb09.setCell (p := ⟨w.heap.size + 1, 0, none⟩) (by simp) (.bool true)
        have bRf := bR9.set (.bool true)
        have hKf2 : (w9.setCell ⟨w.heap.size + 1, 0, none⟩ (.bool true)).heap[D2]? = some (.deferred (some [])) := (Below.heap_setCell w9 _ _ _ (Ne.symm hDr2)).trans hK2'
        have hKf1 : (w9.setCell ⟨w.heap.size + 1, 0, none⟩ (.bool true)).heap[D1]? = some (.deferred (some [])) := (Below.heap_setCell w9 _ _ _ (Ne.symm hDr1)).trans hK1
        generalize w9.setCell ⟨w.heap.size + 1, 0, none⟩ (.bool true) = Wf at *
        refine ⟨by simp, .inl ⟨_, _, rfl, run_takeDeferred hKf2, ?_⟩⟩
        have hKg1 := (World.putObj_heap_other (w := Wf) (o := .deferred none) hDD).trans hKf1
        have hbg := hbf.trans (belowK_b (w := w) (Nat.le_refl _) Wf D2 _ (.deferred none) hDw2 hKf2 rfl rfl)
        have bRg : Boxed (Wf.putObj D2 (.deferred none)) (w.heap.size + 1) 4 (.bool true) := (World.putObj_heap_other hDr2).trans bRf
        refine ⟨by simp, .inl ⟨_, _, rfl, run_takeDeferred hKg1, ?_⟩⟩
        have hbh := hbg.trans (belowK_b (w := w) (Nat.le_refl _) _ D1 _ (.deferred none) hDw1 hKg1 rfl rfl)
        have bRh : Boxed ((Wf.putObj D2 (.deferred none)).putObj D1 (.deferred none)) (w.heap.size + 1) 4 (.bool true) := (World.putObj_heap_other hDr1).trans bRg
        have kRh := bRh.cell
        refine ⟨.bool true, ?_, rfl, hbh⟩
        simp [results, Try.f5, go_sem, kRh]
    case stop2 =>
      rintro D2 cd pre W' hD2 hS2 ⟨⟨rfl, hp0, hp1⟩, hI, hG⟩ hK2
      have hple : pre.length ≤ Y.length := by
        obtain ⟨r, hr⟩ := hS2.1
        have := congrArg List.length hr
        rw [List.length_append, bare_length] at this
        omega
      have hpY : stop < (Y.length : Int) := by omega
      rw [hp1] at hI
      clear hp1 hple hS2
      have hz7 := hG.size
      have bS7 := grown_boxed hG bS6 (by omega)
      have bR7 := grown_boxed hG bR6 (by omega)
      have bP7 := grown_boxed hG bP6 (by omega)
      have bI7 := grown_boxed hG bI6 (by omega)
      have hK17 : W'.heap[D1]? = some (.deferred (some [])) := (hG.block D1 (by omega) (fun e => by injection e with e; omega)).trans hK6
      have hb07 := hb06.trans (grown_below hG (by omega) (by omega))
      have hn7 := (hn.below hb07).mono hb07.size
      have hDD : D1 ≠ D2 := by omega
      have hDr1 : w.heap.size + 1 ≠ D1 := by omega
      have hDr2 : w.heap.size + 1 ≠ D2 := by omega
      have hDw1 : w.heap.size ≤ D1 := by omega
      have hDw2 : w.heap.size ≤ D2 := by omega
      have kS := bS7.cell
      have kP := bP7.cell
      have kK := hI.cell
      have hYs : (Y.length : Int) ≤ 60 := by omega
      have HY := Lib.hid hY
      have HZ5 := Lib.hid hz5
      have HZ2 := Lib.hid hz2
      have HS0 := Lib.hid hs0'
      clear bS6 bR6 bP6 bI6 bK6 hb06 hs hcl hG hb03 hn hK6 hY hz5 hz2 hs0' hfn hfn2
      gi_wp2_with fail
      refine ⟨trivial, ?_⟩
      refine (callsIn_wide.2 (count_any _ _ _ zs W' hzn (by omega) (by omega) hz hn7)).mono ?_
      rintro e w8 ⟨rfl, hb8⟩
      rw [HY.out]
      gi_wp2_with fail
      refine ⟨trivial, ?_⟩
      refine (callsIn_wide.2 (known_any w8)).mono ?_
      rintro e w9 ⟨rfl, hb9⟩
      have hb79 := hb8.trans (hb9.mono hb8.size)
      have kk : ∀ {b t v}, Boxed W' b t v → Boxed w9 b t v := fun h => (hb79.block _ h.lt).trans h
      have kI9 := (kk bI7).cell
      have kP9 := (kk bP7).cell
      have kK9 := (kk hI).cell
      have bR9 := kk bR7
      have kR9 := bR9.cell
      have fR9 := bR9.frozen
      have hK1 := (hb79.block D1 (Array.getElem?_eq_some_iff.1 hK17).1).trans hK17
      have hK2' := (hb79.block D2 (Array.getElem?_eq_some_iff.1 hK2).1).trans hK2
      have hb09 := hb07.trans (hb79.mono hb07.size)
      clear kk kS kP kK hb8 hb9 hb79 bS7 bP7 bI7 hI bR7 hK17 hK2 hb07 hn7 hz
      gi_wp2
      have hbf := hb09.setCell (p := ⟨w.heap.size + 1, 0, none⟩) (by simp) (.bool true)
      have bRf := bR9.set (.bool true)
      have hKf2 : (w9.setCell ⟨w.heap.size + 1, 0, none⟩ (.bool true)).heap[D2]? = some (.deferred (some [])) := (Below.heap_setCell w9 _ _ _ (Ne.symm hDr2)).trans hK2'
      have hKf1 : (w9.setCell ⟨w.heap.size + 1, 0, none⟩ (.bool true)).heap[D1]? = some (.deferred (some [])) := (Below.heap_setCell w9 _ _ _ (Ne.symm hDr1)).trans hK1
      generalize w9.setCell ⟨w.heap.size + 1, 0, none⟩ (.bool true) = Wf at *
      refine ⟨by simp, .inl ⟨_, _, rfl, run_takeDeferred hKf2, ?_⟩⟩
      have hKg1 := (World.putObj_heap_other (w := Wf) (o := .deferred none) hDD).trans hKf1
      have hbg := hbf.trans (belowK_b (w := w) (Nat.le_refl _) Wf D2 _ (.deferred none) hDw2 hKf2 rfl rfl)
      have bRg : Boxed (Wf.putObj D2 (.deferred none)) (w.heap.size + 1) 4 (.bool true) := (World.putObj_heap_other hDr2).trans bRf
      refine ⟨by simp, .inl ⟨_, _, rfl, run_takeDeferred hKg1, ?_⟩⟩
      have hbh := hbg.trans (belowK_b (w := w) (Nat.le_refl _) _ D1 _ (.deferred none) hDw1 hKg1 rfl rfl)
      have bRh : Boxed ((Wf.putObj D2 (.deferred none)).putObj D1 (.deferred none)) (w.heap.size + 1) 4 (.bool true) := (World.putObj_heap_other hDr1).trans bRg
      have kRh := bRh.cell
      refine ⟨.bool true, ?_, rfl, hbh⟩
      simp [results, Try.f5, go_sem, kRh]
  case stop =>
    rintro D c pre W _ hS h _
    exact absurd hS.1 h

set_option maxHeartbeats 4000000 in
theorem all_gt (a0 : Option Addr) (cap0 : Nat) (es : List Int) (stop : Int) (w : World) (hs0 : -9223372036854775808 ≤ stop) (hs1 : stop ≤ 9223372036854775807) (hlc : es.length ≤ cap0) (hz : ∀ c ∈ es.take 60, 0 ≤ c ∧ c ≤ 255) (hn : Nums .u8 w w.heap.size a0 (es.take 60)) (h60 : 60 < es.length) :
    Calls Try.prog 5 #[.slice a0 es.length cap0, .int .i64 stop] w fun e w' => e = .returned (.bool true) ∧ Below w.heap.size w w' := by
  have hl : (es.take 60).length = min 60 es.length := List.length_take
  refine (callsIn_wide (n := 3)).1 ?_
  refine callsIn_of_wp_marks Try.func5 rfl trivial ?_ rfl
  simp only [Try.ntmps5, List.size_toArray, List.length_cons, List.length_nil, Nat.reduceAdd, Nat.reduceSub, Array.replicate_succ, Array.replicate_zero, List.push_toArray, List.append_toArray, List.nil_append, List.cons_append]
  gi_wp2_with fail
  refine ⟨trivial, ?_⟩
  have bS := (Boxed.new w 3 (.int .i64 stop)).alloc (.cells #[.bool false] 4)
  have bR := Boxed.new (w.alloc (.cells #[.int .i64 stop] 3)) 4 (.bool false)
  rw [World.size_alloc] at bR
  have hW0 : Below w.heap.size w ((w.alloc (.cells #[.int .i64 stop] 3)).alloc (.cells #[.bool false] 4)) := ((Below.refl _ w).alloc (Nat.le_refl _) _).alloc (by simp) _
  have hs0' : ((w.alloc (.cells #[.int .i64 stop] 3)).alloc (.cells #[.bool false] 4)).heap.size = w.heap.size + 2 := by simp
  generalize (w.alloc (.cells #[.int .i64 stop] 3)).alloc (.cells #[.bool false] 4) = W0 at *
  refine (callsIn_wide.2 (rall_len _ _ _ (es.take 60) W0 (by omega) (by omega) hz ((hn.below hW0).mono hW0.size))).mono ?_
  rintro e w1 ⟨A, c, A2, c2, rfl, hnP, hnN, hb1, hc, hc2⟩
  have bS1 : Boxed w1 w.heap.size 3 (.int .i64 stop) := (hb1.block _ (by omega)).trans bS
  have bR1 : Boxed w1 (w.heap.size + 1) 4 (.bool false) := (hb1.block _ (by omega)).trans bR
  have hb01 := hW0.trans (hb1.mono hW0.size)
  have hz1 := hb1.size
  clear bS bR hb1 hW0
  gi_wp2_with fail
  refine ⟨trivial, ?_⟩
  have hzl : (es.take 60).length ≤ 60 := by omega
  have hzn : (es.take 60).length = 60 := by omega
  have hYl := Vi.tl_length (es.take 60) 0
  clear hl
  generalize es.take 60 = zs at *
  generalize hY : Vi.tl zs 0 = Y at *
  have hb2 : Below w1.heap.size w1 (((w1.alloc (.cells #[.slice A Y.length c] 39)).alloc (.cells #[.slice A2 Y.length c2] 22)).alloc (.cells #[.int .i64 0] 3)) :=
    (((Below.refl _ w1).alloc (Nat.le_refl _) _).alloc (by simp) _).alloc (by simp; omega) _
  have bP := ((Boxed.new w1 39 (.slice A Y.length c)).alloc (.cells #[.slice A2 Y.length c2] 22)).alloc (.cells #[.int .i64 0] 3)
  have bN := (Boxed.new (w1.alloc (.cells #[.slice A Y.length c] 39)) 22 (.slice A2 Y.length c2)).alloc (.cells #[.int .i64 0] 3)
  have bI := Boxed.new ((w1.alloc (.cells #[.slice A Y.length c] 39)).alloc (.cells #[.slice A2 Y.length c2] 22)) 3 (.int .i64 0)
  have hz2 : (((w1.alloc (.cells #[.slice A Y.length c] 39)).alloc (.cells #[.slice A2 Y.length c2] 22)).alloc (.cells #[.int .i64 0] 3)).heap.size = w1.heap.size + 3 := by simp
  rw [World.size_alloc] at bN
  rw [World.size_alloc, World.size_alloc] at bI
  generalize ((w1.alloc (.cells #[.slice A Y.length c] 39)).alloc (.cells #[.slice A2 Y.length c2] 22)).alloc (.cells #[.int .i64 0] 3) = W2 at *
  have hb02 := hb01.trans (hb2.mono hb01.size)
  refine (callsIn_wide.2 (all_any _ _ _ zs W2 hzn (by omega) ((hn.below hb02).mono hb02.size))).mono ?_
  rintro e w3 ⟨Bs, Ac, cc, rfl, hs⟩
  have hb3 := hs.below
  have hz3 := hb3.size
  have bS3 : Boxed w3 w.heap.size 3 (.int .i64 stop) := (hb3.block _ (by omega)).trans ((hb2.block _ (by omega)).trans bS1)
  have bR3 : Boxed w3 (w.heap.size + 1) 4 (.bool false) := (hb3.block _ (by omega)).trans ((hb2.block _ (by omega)).trans bR1)
  have bP3 : Boxed w3 w1.heap.size 39 (.slice A Y.length c) := (hb3.block _ (by omega)).trans bP
  have bN3 : Boxed w3 (w1.heap.size + 1) 22 (.slice A2 Y.length c2) := (hb3.block _ (by omega)).trans bN
  have bI3 : Boxed w3 (w1.heap.size + 1 + 1) 3 (.int .i64 0) := (hb3.block _ (by omega)).trans bI
  have hnP3 : Nums .i64 w3 w1.heap.size A (places Y) := (hnP.below hb2).below (hb3.mono (by omega))
  have hnN3 : Nums .u64 w3 w1.heap.size A2 (numbers Y) := (hnN.below hb2).below (hb3.mono (by omega))
  have hb03 := hb02.trans (hb3.mono hb02.size)
  clear bS1 bR1 bP bN bI hnP hnN hb3 hb2 hb02 hb01
  have hfn := func_not_nil Bs
  gi_wp2_with fail
  have hcl := closure_stops (3 - 1) (by omega) W2 w3 zs Bs cc Ac (by omega) hz hs
  rw [hY] at hcl
  refine wpIn_rangeFunc_ownG rfl (by omega) (gf := 23) (lb := #[.pointer (some ⟨Bs, 0, none⟩)]) rfl trivial (enters_of Try.func23 (by kernel_rfl) rfl)
    hcl keeps_t (keeps_b (Nat.le_refl _)) (Below.refl _ _) (fun _ => rfl)
    (fun pre W => bare pre <+: Y ∧ Boxed W (w1.heap.size + 1 + 1) 3 (.int .i64 (pre.length : Nat)) ∧ w3.grownBy W (some (w1.heap.size + 1 + 1)))
    (fun _ pre _ => ¬ bare pre <+: Y)
    (OwnFrom.and (ownFrom_pure _ _) (OwnFrom.and (Own.from (boxed_own _ _ _) _) (ownFrom_grown rfl)))
    (fun _ => ownFrom_pure _ _)
    ⟨by simp [bare], bI3, World.grownBy.refl _ _⟩
    ?a1 ?assign ?body ?done ?stop
  case assign =>
    intro l x W K hK
    gi_wp2
    exact hK
  case body =>
    rintro l pre x W ⟨hpre, hI, hG⟩ hcnt
    have hfin : Hid (bare (pre ++ [x]) <+: Y → KeepsFrom w3.heap.size W (W.setCell ⟨w1.heap.size + 1 + 1, 0, none⟩ (.int .i64 ((pre.length : Int) + 1))) ∧ Keeps W2.heap.size w3.heap.size W (W.setCell ⟨w1.heap.size + 1 + 1, 0, none⟩ (.int .i64 ((pre.length : Int) + 1))) ∧
        bare (pre ++ [x]) <+: Y ∧ Boxed (W.setCell ⟨w1.heap.size + 1 + 1, 0, none⟩ (.int .i64 ((pre.length : Int) + 1))) (w1.heap.size + 1 + 1) 3 (.int .i64 ((pre ++ [x]).length : Nat)) ∧ w3.grownBy (W.setCell ⟨w1.heap.size + 1 + 1, 0, none⟩ (.int .i64 ((pre.length : Int) + 1))) (some (w1.heap.size + 1 + 1))) :=
      fun hx => ⟨(KeepsOthers.setCell _ _ _).from _, keeps_set (Keeps.refl _ _ _) (by omega) _, hx, by rw [List.length_append, List.length_singleton]; exact hI.set _, grown_set hG _⟩
    obtain ⟨y, hy⟩ : ∃ y, Y[pre.length]? = some y := ⟨_, List.getElem?_eq_getElem hcnt⟩
    have hyP : (places Y)[pre.length]? = some (y.1 : Int) := by simp [places, hy]
    have hyN : (numbers Y)[pre.length]? = some (y.2 : Int) := by simp [numbers, hy]
    obtain ⟨pb, po, rfl, hpb, hpc⟩ := (grown_nums hG hnP3 (by omega) (by omega)).open hyP
    obtain ⟨nb, no, rfl, hnb, hnc⟩ := (grown_nums hG hnN3 (by omega) (by omega)).open hyN
    have kI := hI.cell
    have fI := hI.frozen
    have kP := (grown_boxed hG bP3 (by omega)).cell
    have kN := (grown_boxed hG bN3 (by omega)).cell
    have kR := (grown_boxed hG bR3 (by omega)).cell
    have fR := (grown_boxed hG bR3 (by omega)).frozen
    have hiff : Hid (bare (pre ++ [x]) <+: Y ↔ x.1 = y) := by
      obtain ⟨t, ht⟩ := hpre
      have hl : (bare pre).length = pre.length := bare_length pre
      have e : Y[pre.length]? = t[0]? := by rw [← ht, List.getElem?_append_right (by omega), hl, Nat.sub_self]
      rw [hy] at e
      cases t with
      | nil => simp at e
      | cons t0 t =>
        simp only [List.getElem?_cons_zero, Option.some.injEq] at e
        subst e
        rw [bare_append, ← ht]
        constructor
        · rintro ⟨r, hr⟩
          rw [List.append_assoc] at hr
          have := List.append_cancel_left hr
          simp [bare] at this
          exact this.1
        · intro hx
          exact ⟨t, by simp [bare, hx]⟩
    obtain ⟨⟨x1, x2⟩, hx1, hx2⟩ := x
    obtain ⟨y1, y2⟩ := y
    simp only at hx1 hx2 hpc hnc hiff
    have hi : (pre.length : Int) < (Y.length : Int) := by omega
    have hYs : (Y.length : Int) ≤ 60 := by omega
    have HY := Lib.hid hY
    have HZ2 := Lib.hid hz2
    clear hz2 hy hyP hyN hY hI hG hnP3 hnN3 bS3 bR3 bP3 bN3 bI3 hs hcl hb03 hn hz
    by_cases e1 : x1 = y1
    · subst e1
      by_cases e2 : x2 = y2
      · subst e2
        have hF := Lib.hid (hfin.out (hiff.out.2 rfl))
        gi_wp2
        exact hF.out
      · have h2 : ((x2 : Int) != (y2 : Int)) = true := by simp; omega
        have hF : Hid (¬ bare (pre ++ [(⟨(x1, x2), hx1, hx2⟩ : PN)]) <+: Y) := fun h => e2 (by have := hiff.out.1 h; simpa using this)
        gi_wp2
        exact ⟨(KeepsOthers.setCell _ _ _).from _, hF.out⟩
    · have h2 : ((x1 : Int) != (y1 : Int)) = true := by simp; omega
      have hF : Hid (¬ bare (pre ++ [(⟨(x1, x2), hx1, hx2⟩ : PN)]) <+: Y) := fun h => e1 (by have := hiff.out.1 h; simp at this; exact this.1)
      gi_wp2
      exact ⟨(KeepsOthers.setCell _ _ _).from _, hF.out⟩
  case done =>
    rintro D1 ys W hD1 hYs ⟨_, hI, hG⟩ hK1
    have hys : ys.length = Y.length := by rw [← hYs, bare_length]
    rw [hys] at hI
    have hzW := hG.size
    have bS4 := grown_boxed hG bS3 (by omega)
    have bR4 := grown_boxed hG bR3 (by omega)
    have bP4 := grown_boxed hG bP3 (by omega)
    have hb04 := hb03.trans (grown_below hG (by omega) (by omega))
    have hn4 := (hn.below hb04).mono hb04.size
    clear hys hYs bS3 bR3 bP3 bN3 bI3 hG hs hcl hnP3 hnN3
    gi_wp2_with fail
    refine ⟨trivial, ?_⟩
    have hb5 : Below W.heap.size W (W.alloc (.cells #[.int .i64 0] 3)) := (Below.refl _ W).alloc (Nat.le_refl _) _
    have bK := Boxed.new W 3 (.int .i64 0)
    have hz5 : (W.alloc (.cells #[.int .i64 0] 3)).heap.size = W.heap.size + 1 := by simp
    generalize W.alloc (.cells #[.int .i64 0] 3) = W5 at *
    refine (callsIn_wide.2 (all_any _ _ _ zs W5 hzn (by omega) ((hn4.below hb5).mono hb5.size))).mono ?_
    rintro e w6 ⟨Bs2, Ac2, cc2, rfl, hs⟩
    have hb6 := hb5.trans (hs.below.mono hb5.size)
    have hz6 := hs.below.size
    have kk : ∀ {b t v}, Boxed W b t v → Boxed w6 b t v := fun h => (hb6.block _ h.lt).trans h
    have bS6 := kk bS4
    have bR6 := kk bR4
    have bP6 := kk bP4
    have bI6 := kk hI
    have hK6 : w6.heap[D1]? = some (.deferred (some [])) := (hb6.block _ (Array.getElem?_eq_some_iff.1 hK1).1).trans hK1
    have hD1b := (Array.getElem?_eq_some_iff.1 hK1).1
    have bK6 : Boxed w6 W.heap.size 3 (.int .i64 0) := (hs.below.block _ (by omega)).trans bK
    have hb06 := hb04.trans (hb6.mono hb04.size)
    clear bS4 bR4 bP4 hI kk hb6 hb5 bK hn4 hb04 hK1
    have hfn2 := func_not_nil Bs2
    gi_wp2_with fail
    have hcl := closure_stops (3 - 1) (by omega) W5 w6 zs Bs2 cc2 Ac2 (by omega) hz hs
    rw [hY] at hcl
    refine wpIn_rangeFunc_ownG rfl (by omega) (gf := 23) (lb := #[.pointer (some ⟨Bs2, 0, none⟩)]) rfl trivial (enters_of Try.func23 (by kernel_rfl) rfl)
      hcl keeps_t (keeps_b (Nat.le_refl _)) (Below.refl _ _) (fun _ => rfl)
      (fun pre W' => (stop < 0 ∨ (pre.length : Int) ≤ stop) ∧ Boxed W' W.heap.size 3 (.int .i64 (pre.length : Nat)) ∧ w6.grownBy W' (some W.heap.size))
      (fun cd pre W' => (cd = .exit 2 ∧ 0 ≤ stop ∧ (pre.length : Int) = stop + 1) ∧ Boxed W' W.heap.size 3 (.int .i64 (pre.length : Nat)) ∧ w6.grownBy W' (some W.heap.size))
      (OwnFrom.and (ownFrom_pure _ _) (OwnFrom.and (Own.from (boxed_own _ _ _) _) (ownFrom_grown rfl)))
      (fun _ => OwnFrom.and (ownFrom_pure _ _) (OwnFrom.and (Own.from (boxed_own _ _ _) _) (ownFrom_grown rfl)))
      ⟨by simp; omega, bK6, World.grownBy.refl _ _⟩
      ?a2 ?assign2 ?body2 ?done2 ?stop2
    case assign2 =>
      intro l x W' K hK
      gi_wp2
      exact hK
    case body2 =>
      rintro l pre x W' ⟨hp, hI, hG⟩ hcnt
      have kK := hI.cell
      have fK := hI.frozen
      have kS := ((grown_boxed hG bS6 (by omega)).other (B' := W.heap.size) (by omega) (.int .i64 ((pre.length : Int) + 1))).cell
      have hfin := Lib.hid (show KeepsFrom w6.heap.size W' (W'.setCell ⟨W.heap.size, 0, none⟩ (.int .i64 ((pre.length : Int) + 1))) ∧ Keeps W5.heap.size w6.heap.size W' (W'.setCell ⟨W.heap.size, 0, none⟩ (.int .i64 ((pre.length : Int) + 1))) ∧
          Boxed (W'.setCell ⟨W.heap.size, 0, none⟩ (.int .i64 ((pre.length : Int) + 1))) W.heap.size 3 (.int .i64 ((pre ++ [x]).length : Nat)) ∧ w6.grownBy (W'.setCell ⟨W.heap.size, 0, none⟩ (.int .i64 ((pre.length : Int) + 1))) (some W.heap.size) from
        ⟨(KeepsOthers.setCell _ _ _).from _, keeps_set (Keeps.refl _ _ _) (by omega) _, by rw [List.length_append, List.length_singleton]; exact hI.set _, grown_set hG _⟩)
      have hlen : (pre ++ [x]).length = pre.length + 1 := by simp
      have HL := Lib.hid hlen
      have hYs : (Y.length : Int) ≤ 60 := by omega
      have HZ5 := Lib.hid hz5
      have HZ2 := Lib.hid hz2
      have HYY := Lib.hid hY
      clear hlen hI hG hz5 hz2 hY bS6 bR6 bP6 bI6 bK6 hb06 hcl hs hK6 hb03 hn hz
      by_cases hst : (pre.length : Int) = stop
      · have e1 : ((pre.length : Int) == stop) = true := by simp; omega
        have hq : Hid (0 ≤ stop ∧ ((pre ++ [x]).length : Int) = stop + 1) := ⟨by omega, by rw [HL.out]; omega⟩
        have HST := Lib.hid hst
        clear hst
        gi_wp2
        exact ⟨hfin.out.1, ⟨rfl, hq.out⟩, hfin.out.2.2.1, hfin.out.2.2.2⟩
      · have e1 : ((pre.length : Int) == stop) = false := by simp; omega
        have hq : Hid (stop < 0 ∨ ((pre ++ [x]).length : Int) ≤ stop) := by show _ ∨ _; rw [HL.out]; omega
        gi_wp2
        exact ⟨hfin.out.1, hfin.out.2.1, hq.out, hfin.out.2.2.1, hfin.out.2.2.2⟩
    case done2 =>
      rintro D2 zs2 W' hD2 hY2 ⟨hp, hI, hG⟩ hK2
      have hys : zs2.length = Y.length := by rw [← hY2, bare_length]
      rw [hys] at hI hp
      clear hY2 hys
      rcases hp with hp | hp
      · skip
        have hz7 := hG.size
        have bS7 := grown_boxed hG bS6 (by omega)
        have bR7 := grown_boxed hG bR6 (by omega)
        have bP7 := grown_boxed hG bP6 (by omega)
        have bI7 := grown_boxed hG bI6 (by omega)
        have hK17 : W'.heap[D1]? = some (.deferred (some [])) := (hG.block D1 (by omega) (fun e => by injection e with e; omega)).trans hK6
        have hb07 := hb06.trans (grown_below hG (by omega) (by omega))
        have hn7 := (hn.below hb07).mono hb07.size
        have hDD : D1 ≠ D2 := by omega
        have hDr1 : w.heap.size + 1 ≠ D1 := by omega
        have hDr2 : w.heap.size + 1 ≠ D2 := by omega
        have hDw1 : w.heap.size ≤ D1 := by omega
        have hDw2 : w.heap.size ≤ D2 := by omega
        have kS := bS7.cell
        have kP := bP7.cell
        have kK := hI.cell
        have hYs : (Y.length : Int) ≤ 60 := by omega
        have HY := Lib.hid hY
        have HZ5 := Lib.hid hz5
        have HZ2 := Lib.hid hz2
        have HS0 := Lib.hid hs0'
        clear bS6 bR6 bP6 bI6 bK6 hb06 hs hcl hG hb03 hn hK6 hY hz5 hz2 hs0' hfn hfn2
        have hp1 : ¬ 0 ≤ stop := by omega
        gi_wp2_with fail
        refine ⟨trivial, ?_⟩
        refine (callsIn_wide.2 (count_any _ _ _ zs W' hzn (by omega) (by omega) hz hn7)).mono ?_
        rintro e w8 ⟨rfl, hb8⟩
        rw [HY.out]
        gi_wp2_with fail
        refine ⟨trivial, ?_⟩
        refine (callsIn_wide.2 (known_any w8)).mono ?_
        rintro e w9 ⟨rfl, hb9⟩
        have hb79 := hb8.trans (hb9.mono hb8.size)
        have kk : ∀ {b t v}, Boxed W' b t v → Boxed w9 b t v := fun h => (hb79.block _ h.lt).trans h
        have kI9 := (kk bI7).cell
        have kP9 := (kk bP7).cell
        have kK9 := (kk hI).cell
        have bR9 := kk bR7
        have kR9 := bR9.cell
        have fR9 := bR9.frozen
        have hK1 := (hb79.block D1 (Array.getElem?_eq_some_iff.1 hK17).1).trans hK17
        have hK2' := (hb79.block D2 (Array.getElem?_eq_some_iff.1 hK2).1).trans hK2
        have hb09 := hb07.trans (hb79.mono hb07.size)
        clear kk kS kP kK hb8 hb9 hb79 bS7 bP7 bI7 hI bR7 hK17 hK2 hb07 hn7 hz
        gi_wp2
        have hbf := hb09.setCell (p := ⟨w.heap.size + 1, 0, none⟩) (by simp) (.bool true)
        have bRf := bR9.set (.bool true)
        have hKf2 : (w9.setCell ⟨w.heap.size + 1, 0, none⟩ (.bool true)).heap[D2]? = some (.deferred (some [])) := (Below.heap_setCell w9 _ _ _ (Ne.symm hDr2)).trans hK2'
        have hKf1 : (w9.setCell ⟨w.heap.size + 1, 0, none⟩ (.bool true)).heap[D1]? = some (.deferred (some [])) := (Below.heap_setCell w9 _ _ _ (Ne.symm hDr1)).trans hK1
        generalize w9.setCell ⟨w.heap.size + 1, 0, none⟩ (.bool true) = Wf at *
        refine ⟨by simp, .inl ⟨_, _, rfl, run_takeDeferred hKf2, ?_⟩⟩
        have hKg1 := (World.putObj_heap_other (w := Wf) (o := .deferred none) hDD).trans hKf1
        have hbg := hbf.trans (belowK_b (w := w) (Nat.le_refl _) Wf D2 _ (.deferred none) hDw2 hKf2 rfl rfl)
        have bRg : Boxed (Wf.putObj D2 (.deferred none)) (w.heap.size + 1) 4 (.bool true) := (World.putObj_heap_other hDr2).trans bRf
        refine ⟨by simp, .inl ⟨_, _, rfl, run_takeDeferred hKg1, ?_⟩⟩
        have hbh := hbg.trans (belowK_b (w := w) (Nat.le_refl _) _ D1 _ (.deferred none) hDw1 hKg1 rfl rfl)
        have bRh : Boxed ((Wf.putObj D2 (.deferred none)).putObj D1 (.deferred none)) (w.heap.size + 1) 4 (.bool true) := (World.putObj_heap_other hDr1).trans bRg
        have kRh := bRh.cell
        refine ⟨.bool true, ?_, rfl, hbh⟩
        simp [results, Try.f5, go_sem, kRh]
      · skip
        have hz7 := hG.size
        have bS7 := grown_boxed hG bS6 (by omega)
        have bR7 := grown_boxed hG bR6 (by omega)
        have bP7 := grown_boxed hG bP6 (by omega)
        have bI7 := grown_boxed hG bI6 (by omega)
        have hK17 : W'.heap[D1]? = some (.deferred (some [])) := (hG.block D1 (by omega) (fun e => by injection e with e; omega)).trans hK6
        have hb07 := hb06.trans (grown_below hG (by omega) (by omega))
        have hn7 := (hn.below hb07).mono hb07.size
        have hDD : D1 ≠ D2 := by omega
        have hDr1 : w.heap.size + 1 ≠ D1 := by omega
        have hDr2 : w.heap.size + 1 ≠ D2 := by omega
        have hDw1 : w.heap.size ≤ D1 := by omega
        have hDw2 : w.heap.size ≤ D2 := by omega
        have kS := bS7.cell
        have kP := bP7.cell
        have kK := hI.cell
        have hYs : (Y.length : Int) ≤ 60 := by omega
        have HY := Lib.hid hY
        have HZ5 := Lib.hid hz5
        have HZ2 := Lib.hid hz2
        have HS0 := Lib.hid hs0'
        clear bS6 bR6 bP6 bI6 bK6 hb06 hs hcl hG hb03 hn hK6 hY hz5 hz2 hs0' hfn hfn2
        have hp1 : 0 ≤ stop := by omega
        gi_wp2_with fail
        refine ⟨trivial, ?_⟩
        refine (callsIn_wide.2 (count_any _ _ _ zs W' hzn (by omega) (by omega) hz hn7)).mono ?_
        rintro e w8 ⟨rfl, hb8⟩
        rw [HY.out]
        gi_wp2_with fail
        refine ⟨trivial, ?_⟩
        refine (callsIn_wide.2 (known_any w8)).mono ?_
        rintro e w9 ⟨rfl, hb9⟩
        have hb79 := hb8.trans (hb9.mono hb8.size)
        have kk : ∀ {b t v}, Boxed W' b t v → Boxed w9 b t v := fun h => (hb79.block _ h.lt).trans h
        have kI9 := (kk bI7).cell
        have kP9 := (kk bP7).cell
        have kK9 := (kk hI).cell
        have bR9 := kk bR7
        have kR9 := bR9.cell
        have fR9 := bR9.frozen
        have hK1 := (hb79.block D1 (Array.getElem?_eq_some_iff.1 hK17).1).trans hK17
        have hK2' := (hb79.block D2 (Array.getElem?_eq_some_iff.1 hK2).1).trans hK2
        have hb09 := hb07.trans (hb79.mono hb07.size)
        clear kk kS kP kK hb8 hb9 hb79 bS7 bP7 bI7 hI bR7 hK17 hK2 hb07 hn7 hz
        gi_wp2
        have hbf := hb09.setCell (p := ⟨w.heap.size + 1, 0, none⟩) (by simp) (.bool true)
        have bRf := bR9.set (.bool true)
        have hKf2 : (w9.setCell ⟨w.heap.size + 1, 0, none⟩ (.bool true)).heap[D2]? = some (.deferred (some [])) := (Below.heap_setCell w9 _ _ _ (Ne.symm hDr2)).trans hK2'
        have hKf1 : (w9.setCell ⟨w.heap.size + 1, 0, none⟩ (.bool true)).heap[D1]? = some (.deferred (some [])) := (Below.heap_setCell w9 _ _ _ (Ne.symm hDr1)).trans hK1
        generalize w9.setCell ⟨w.heap.size + 1, 0, none⟩ (.bool true) = Wf at *
        refine ⟨by simp, .inl ⟨_, _, rfl, run_takeDeferred hKf2, ?_⟩⟩
        have hKg1 := (World.putObj_heap_other (w := Wf) (o := .deferred none) hDD).trans hKf1
        have hbg := hbf.trans (belowK_b (w := w) (Nat.le_refl _) Wf D2 _ (.deferred none) hDw2 hKf2 rfl rfl)
        have bRg : Boxed (Wf.putObj D2 (.deferred none)) (w.heap.size + 1) 4 (.bool true) := (World.putObj_heap_other hDr2).trans bRf
        refine ⟨by simp, .inl ⟨_, _, rfl, run_takeDeferred hKg1, ?_⟩⟩
        have hbh := hbg.trans (belowK_b (w := w) (Nat.le_refl _) _ D1 _ (.deferred none) hDw1 hKg1 rfl rfl)
        have bRh : Boxed ((Wf.putObj D2 (.deferred none)).putObj D1 (.deferred none)) (w.heap.size + 1) 4 (.bool true) := (World.putObj_heap_other hDr1).trans bRg
        have kRh := bRh.cell
        refine ⟨.bool true, ?_, rfl, hbh⟩
        simp [results, Try.f5, go_sem, kRh]
    case stop2 =>
      rintro D2 cd pre W' hD2 hS2 ⟨⟨rfl, hp0, hp1⟩, hI, hG⟩ hK2
      have hple : pre.length ≤ Y.length := by
        obtain ⟨r, hr⟩ := hS2.1
        have := congrArg List.length hr
        rw [List.length_append, bare_length] at this
        omega
      have hpY : stop < (Y.length : Int) := by omega
      rw [hp1] at hI
      clear hp1 hple hS2
      have hz7 := hG.size
      have bS7 := grown_boxed hG bS6 (by omega)
      have bR7 := grown_boxed hG bR6 (by omega)
      have bP7 := grown_boxed hG bP6 (by omega)
      have bI7 := grown_boxed hG bI6 (by omega)
      have hK17 : W'.heap[D1]? = some (.deferred (some [])) := (hG.block D1 (by omega) (fun e => by injection e with e; omega)).trans hK6
      have hb07 := hb06.trans (grown_below hG (by omega) (by omega))
      have hn7 := (hn.below hb07).mono hb07.size
      have hDD : D1 ≠ D2 := by omega
      have hDr1 : w.heap.size + 1 ≠ D1 := by omega
      have hDr2 : w.heap.size + 1 ≠ D2 := by omega
      have hDw1 : w.heap.size ≤ D1 := by omega
      have hDw2 : w.heap.size ≤ D2 := by omega
      have kS := bS7.cell
      have kP := bP7.cell
      have kK := hI.cell
      have hYs : (Y.length : Int) ≤ 60 := by omega
      have HY := Lib.hid hY
      have HZ5 := Lib.hid hz5
      have HZ2 := Lib.hid hz2
      have HS0 := Lib.hid hs0'
      clear bS6 bR6 bP6 bI6 bK6 hb06 hs hcl hG hb03 hn hK6 hY hz5 hz2 hs0' hfn hfn2
      gi_wp2_with fail
      refine ⟨trivial, ?_⟩
      refine (callsIn_wide.2 (count_any _ _ _ zs W' hzn (by omega) (by omega) hz hn7)).mono ?_
      rintro e w8 ⟨rfl, hb8⟩
      rw [HY.out]
      gi_wp2_with fail
      refine ⟨trivial, ?_⟩
      refine (callsIn_wide.2 (known_any w8)).mono ?_
      rintro e w9 ⟨rfl, hb9⟩
      have hb79 := hb8.trans (hb9.mono hb8.size)
      have kk : ∀ {b t v}, Boxed W' b t v → Boxed w9 b t v := fun h => (hb79.block _ h.lt).trans h
      have kI9 := (kk bI7).cell
      have kP9 := (kk bP7).cell
      have kK9 := (kk hI).cell
      have bR9 := kk bR7
      have kR9 := bR9.cell
      have fR9 := bR9.frozen
      have hK1 := (hb79.block D1 (Array.getElem?_eq_some_iff.1 hK17).1).trans hK17
      have hK2' := (hb79.block D2 (Array.getElem?_eq_some_iff.1 hK2).1).trans hK2
      have hb09 := hb07.trans (hb79.mono hb07.size)
      clear kk kS kP kK hb8 hb9 hb79 bS7 bP7 bI7 hI bR7 hK17 hK2 hb07 hn7 hz
      gi_wp2
      have hbf := hb09.setCell (p := ⟨w.heap.size + 1, 0, none⟩) (by simp) (.bool true)
      have bRf := bR9.set (.bool true)
      have hKf2 : (w9.setCell ⟨w.heap.size + 1, 0, none⟩ (.bool true)).heap[D2]? = some (.deferred (some [])) := (Below.heap_setCell w9 _ _ _ (Ne.symm hDr2)).trans hK2'
      have hKf1 : (w9.setCell ⟨w.heap.size + 1, 0, none⟩ (.bool true)).heap[D1]? = some (.deferred (some [])) := (Below.heap_setCell w9 _ _ _ (Ne.symm hDr1)).trans hK1
      generalize w9.setCell ⟨w.heap.size + 1, 0, none⟩ (.bool true) = Wf at *
      refine ⟨by simp, .inl ⟨_, _, rfl, run_takeDeferred hKf2, ?_⟩⟩
      have hKg1 := (World.putObj_heap_other (w := Wf) (o := .deferred none) hDD).trans hKf1
      have hbg := hbf.trans (belowK_b (w := w) (Nat.le_refl _) Wf D2 _ (.deferred none) hDw2 hKf2 rfl rfl)
      have bRg : Boxed (Wf.putObj D2 (.deferred none)) (w.heap.size + 1) 4 (.bool true) := (World.putObj_heap_other hDr2).trans bRf
      refine ⟨by simp, .inl ⟨_, _, rfl, run_takeDeferred hKg1, ?_⟩⟩
      have hbh := hbg.trans (belowK_b (w := w) (Nat.le_refl _) _ D1 _ (.deferred none) hDw1 hKg1 rfl rfl)
      have bRh : Boxed ((Wf.putObj D2 (.deferred none)).putObj D1 (.deferred none)) (w.heap.size + 1) 4 (.bool true) := (World.putObj_heap_other hDr1).trans bRg
      have kRh := bRh.cell
      refine ⟨.bool true, ?_, rfl, hbh⟩
      simp [results, Try.f5, go_sem, kRh]
  case stop =>
    rintro D c pre W _ hS h _
    exact absurd hS.1 h

theorem walk_all (a0 : Option Addr) (len0 cap0 : Nat) (z0 : List Int) (a1 : Int) (w : World) (w0 : IsRow .u8 w a0 len0 cap0 z0) (w1 : (Lit.int .i64 a1).wf = true) :
    Calls Try.prog 5 #[.slice a0 len0 cap0, .int .i64 a1] w fun e w' => e = .returned (.bool true) ∧ Below w.heap.size w w' := by
  obtain ⟨es, rfl, hlc, hcm, hn, hw⟩ := w0.elems
  have hb := bounds_i64 w1
  have hz : ∀ c ∈ es.take 60, 0 ≤ c ∧ c ≤ 255 := fun c hc => bounds_u8 (hw c (List.mem_of_mem_take hc))
  rcases Nat.lt_trichotomy es.length 60 with h | h | h
  · exact all_lt a0 cap0 es a1 w hb.1 hb.2 hlc hz (hn.take 60) h
  · exact all_eq a0 cap0 es a1 w hb.1 hb.2 hlc hz (hn.take 60) (by omega) (by omega)
  · exact all_gt a0 cap0 es a1 w hb.1 hb.2 hlc hz (hn.take 60) h

end Go.Proofs.Ytcheojenmepgpaa
