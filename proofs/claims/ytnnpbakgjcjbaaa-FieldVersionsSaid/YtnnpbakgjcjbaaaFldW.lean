/-
  Contract of layer 16's Kind: a word's.
-/
import Derived.Test.YtnnpbakgjcjbaaaFldK
import Derived.Test.YtnnpbakgjcjbaaaLd
namespace Go.Proofs.Ytnnpbakgjcjbaaa
open Go.RowKit Go.Shelf
set_option maxRecDepth 100000
attribute [local go_sem] Oper.semAt_some

/-- the kind of a word -/
def kd (x : ByteArray) : Int := if x = wd 1 then 1 else if x = wd 2 then 2 else if x = wd 3 then 3 else if x = wd 4 then 4 else if x = wd 5 then 5 else 0
theorem kd_wd {j : Nat} (hj : j < 5) : kd (wd ((j : Int) + 1)) = (j : Int) + 1 := by
  obtain rfl | rfl | rfl | rfl | rfl : j = 0 ∨ j = 1 ∨ j = 2 ∨ j = 3 ∨ j = 4 := by omega
  all_goals decide
theorem kd_none {x : ByteArray} (h : ∀ j : Nat, j < 5 → wd ((j : Int) + 1) ≠ x) : kd x = 0 := by
  have h0 := h 0 (by omega); have h1 := h 1 (by omega); have h2 := h 2 (by omega); have h3 := h 3 (by omega); have h4 := h 4 (by omega)
  unfold kd
  rw [if_neg (fun e => h0 e.symm), if_neg (fun e => h1 e.symm), if_neg (fun e => h2 e.symm), if_neg (fun e => h3 e.symm), if_neg (fun e => h4 e.symm)]

set_option maxHeartbeats 2000000 in
theorem kind_any (x : ByteArray) (w : World) : Calls Try.prog 16 #[.string x] w fun e w' => e = .returned (.int .i64 (kd x)) ∧ Below w.heap.size w w' := by
  obtain ⟨w2, hw2⟩ : ∃ w2, w2 = (w.alloc (.cells #[.string x] 9)).alloc (.cells #[.int .i64 0] 3) := ⟨_, rfl⟩
  have hs2 : w2.heap.size = w.heap.size + 2 := by rw [hw2]; simp
  have bX : Boxed w2 w.heap.size 9 (.string x) := by rw [hw2]; exact (Below.heap_alloc _ _ _ (by simp)).trans (Boxed.new w 9 (.string x))
  have bF : Boxed w2 (w.heap.size + 1) 3 (.int .i64 0) := by
    rw [hw2]
    have := Boxed.new (w.alloc (.cells #[.string x] 9)) 3 (.int .i64 0)
    rwa [World.size_alloc] at this
  have hb2 : Below w.heap.size w w2 := by rw [hw2]; exact ((Below.refl _ w).alloc (Nat.le_refl _) _).alloc (by simp) _
  have HW := Lib.hid hw2
  clear hw2
  obtain ⟨K, hK⟩ : ∃ K, kd x = K := ⟨_, rfl⟩
  rw [hK]
  have HKD := Lib.hid hK
  clear hK
  refine (callsIn_wide (n := 9)).1 ?_
  refine callsIn_of_wp_marks Try.func16 rfl trivial ?_ rfl
  simp only [Try.ntmps16, List.size_toArray, List.length_cons, List.length_nil, Nat.reduceAdd, Nat.reduceSub, Array.replicate_succ, Array.replicate_zero, List.push_toArray, List.append_toArray, List.nil_append, List.cons_append]
  gi_wp2_with fail
  refine wpIn_wide.2 (wp_scope_straight ((wpIn_wide (n := 9)).1 ?_))
  gi_wp2_with fail
  apply wpIn_label
  gi_wp2_with fail
  refine ⟨trivial, ?_⟩
  rw [← HW.out]
  refine (callsIn_wide.2 (kinds_any w2)).mono ?_
  rintro e w1 ⟨rfl, rfl⟩
  clear HW
  gi_wp2_with fail
  refine range_stops rfl (by omega) (gf := 21) (lb := #[]) rfl trivial (enters_of Try.func21 (by kernel_rfl) rfl)
    (fun j : Nat => #[.int .i64 ((j : Int) + 1), .string (wd ((j : Int) + 1))]) (fun _ => rfl)
    (fun j x' V => x' = j ∧ (∀ i : Nat, i < j → wd ((i : Int) + 1) ≠ x) ∧ Below w2.heap.size w2 V)
    (fun j V => (∀ i : Nat, i < j → wd ((i : Int) + 1) ≠ x) ∧ Below w2.heap.size w2 V)
    (fun cd V => cd = .exit 0 ∧ ∃ j : Nat, j < 5 ∧ wd ((j : Int) + 1) = x ∧ Boxed V (w.heap.size + 1) 3 (.int .i64 ((j : Int) + 1)) ∧ Off (fun q => q = w.heap.size + 1) w2 V) (fun _ _ => True) 5
    (fun j x' V l o o' h hl ho hc' => ⟨h.1, h.2.1, h.2.2.trans (below_put V o' hl)⟩)
    (fun j V l o o' h hl ho hc' => ⟨h.1, h.2.trans (below_put V o' hl)⟩)
    (fun cd V l o o' h hl ho hc' => by
      obtain ⟨h1, j, h2, h3, h4, h5⟩ := h
      exact ⟨h1, j, h2, h3, (World.putObj_heap_other (by omega)).trans h4, off_below h5 (below_put V o' hl)⟩)
    (fun _ _ _ _ _ => trivial) (fun _ _ _ _ _ _ _ => trivial)
    (fun o => ⟨fun i hi => by omega, ((Below.refl w2.heap.size w2).alloc (Nat.le_refl _) _).alloc (by simp) _⟩) ?a1 ?assign ?body ?iter ?done ?stop
  case assign =>
    intro l x' V K' hK'
    gi_wp2
    exact hK'
  case body =>
    rintro l j x' V hl ⟨rfl, hn, hbV⟩ hj
    have dX : V.cell? ⟨w.heap.size, 0, none⟩ = some (.string x) := (hbV.cell (p := ⟨w.heap.size, 0, none⟩) (by show w.heap.size < _; omega)).trans bX.cell
    have bFV : Boxed V (w.heap.size + 1) 3 (.int .i64 0) := (hbV.block _ (by omega)).trans bF
    have e0 := bFV.cell
    have e1 := bFV.frozen
    by_cases h : wd ((x' : Int) + 1) = x
    · have hfin := Lib.hid (show _ ∧ _ ∧ _ from ⟨((KeepsOthers.setCell V ⟨w.heap.size + 1, 0, none⟩ (.int .i64 ((x' : Int) + 1))).from w2.heap.size : KeepsFrom w2.heap.size V _), bFV.set (.int .i64 ((x' : Int) + 1)), (off_below (Off.refl (fun q => q = w.heap.size + 1) w2) hbV).setCell (p := ⟨w.heap.size + 1, 0, none⟩) rfl (.int .i64 ((x' : Int) + 1))⟩)
      have HH := Lib.hid h
      clear hn hbV bFV
      rw [h]
      clear h
      gi_wp2
      exact ⟨hfin.out.1, rfl, x', hj, HH.out, hfin.out.2⟩
    · have hfin := Lib.hid (show _ ∧ _ ∧ _ from ⟨(⟨Nat.le_refl _, fun _ _ _ ho _ => ho⟩ : KeepsFrom w2.heap.size V V), (fun i hi => by
          rcases Nat.lt_or_ge i x' with h1 | h1
          · exact hn i h1
          · obtain rfl : i = x' := by omega
            exact h : ∀ i : Nat, i < x' + 1 → wd ((i : Int) + 1) ≠ x), hbV⟩)
      clear hn hbV bFV
      obtain ⟨y, hy⟩ : ∃ y, wd ((x' : Int) + 1) = y := ⟨_, rfl⟩
      rw [hy] at h ⊢
      have hyx := str_ne h
      clear hy
      gi_wp2
      exact ⟨hfin.out.1, hfin.out.2, trivial⟩
  case iter =>
    intro Bk X l V hBk hBlt hX hl hD hB hY
    exact kinds_in 8 (by omega) 7 l (fun j V => ((∀ i : Nat, i < j → wd ((i : Int) + 1) ≠ x) ∧ Below w2.heap.size w2 V) ∧ Bk V) X
      (fun j W h hj => (hY j j W ⟨rfl, h.1⟩ h.2 hj).mono (fun e W2 h => h.elim (fun h => .inl ⟨h.1, h.2.1⟩) (fun h => .inr ⟨h.1, h.2.1⟩)))
      V ⟨hD, hB⟩
  case done =>
    rintro D V hD ⟨hn, hbV⟩ hK
    have h0 : K = 0 := by rw [← HKD.out]; exact kd_none hn
    have e0 : V.cell? ⟨w.heap.size + 1, 0, none⟩ = some (.int .i64 0) := (show Boxed V (w.heap.size + 1) 3 (.int .i64 0) from (hbV.block _ (by omega)).trans bF).cell
    have HB := Lib.hid (hb2.trans (hbV.mono hb2.size))
    subst h0
    clear hn hbV
    gi_wp2
    simp only [Exit.noGoto]
    refine ⟨by simp, .inl ⟨_, _, rfl, run_takeDeferred hK, ?_⟩⟩
    refine ⟨.int .i64 0, ?_, rfl, HB.out.trans (below_put _ _ (by omega))⟩
    simp [results, Try.f16, go_sem]
  case stop =>
    rintro D cd V hD ⟨rfl, j, hj, hx, bV, hO⟩ hK
    have h0 : K = (j : Int) + 1 := by rw [← HKD.out, ← hx]; exact kd_wd hj
    have e0 := bV.cell
    have HB := Lib.hid (hb2.trans (hO.below (B := w.heap.size) (fun k hk => by omega) hb2.size))
    subst h0
    clear hx bV hO
    gi_wp2
    simp only [Exit.noGoto]
    refine ⟨by simp, .inl ⟨_, _, rfl, run_takeDeferred hK, ?_⟩⟩
    refine ⟨.int .i64 ((j : Int) + 1), ?_, rfl, HB.out.trans (below_put _ _ (by omega))⟩
    simp [results, Try.f16, go_sem]
end Go.Proofs.Ytnnpbakgjcjbaaa
