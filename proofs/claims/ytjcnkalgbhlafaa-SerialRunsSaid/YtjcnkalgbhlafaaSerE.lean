/-
  The walk of the law SerialRuns: it returns true.
-/
import Derived.Test.YtjcnkalgbhlafaaSerR
import Derived.Lib.MinMax
namespace Go.Proofs.Ytjcnkalgbhlafaa
open Go.RowKit Go.Shelf
set_option maxRecDepth 100000
attribute [local go_sem] Oper.semAt_some

set_option maxHeartbeats 8000000 in
theorem sruns_go (s n st k : Int) (w : World) (hs : 0 ≤ s ∧ s < 4294967296) (hn : -9223372036854775808 ≤ n ∧ n < 9223372036854775808) (hst : -9223372036854775808 ≤ st ∧ st < 9223372036854775808) (hk : min n 200 = k) :
    Calls Try.prog 5 #[.int .u32 s, .int .i64 n, .int .i64 st] w fun e w' => e = .returned (.bool true) ∧ Below w.heap.size w w' := by
  have hk2 : k ≤ 200 := by omega
  refine (callsIn_wide (n := 3)).1 ?_
  refine callsIn_of_wp_marks Try.func5 rfl trivial ?_ rfl
  simp only [Try.ntmps5, List.size_toArray, List.length_cons, List.length_nil, Nat.reduceAdd, Nat.reduceSub, Array.replicate_succ, Array.replicate_zero, List.push_toArray, List.append_toArray, List.nil_append, List.cons_append]
  gi_wp2_with fail
  refine ⟨trivial, ?_⟩
  refine (callsIn_wide.2 (run_any s k _)).mono ?_
  rintro e w2 ⟨rfl, hw2⟩
  simp only [World.size_alloc, Nat.add_assoc, Nat.reduceAdd]
  have bA : Boxed w2 w.heap.size 22 (.int .u32 s) := by rw [hw2]; exact (((((Boxed.new w _ _).alloc _).alloc _).alloc _).alloc _).alloc _
  have hs2 : w2.heap.size = w.heap.size + 6 := by rw [hw2]; simp
  have bT : Boxed w2 (w.heap.size + 1) 3 (.int .i64 st) := by
    have := (((((Boxed.new (w.alloc (.cells #[.int .u32 s] 22)) 3 (.int .i64 st)).alloc (.cells #[.bool false] 4)).alloc (.cells #[.int .i64 0] 3)).alloc (.cells #[.int .u32 s] 22)).alloc (.cells #[.int .i64 k] 3))
    rw [World.size_alloc] at this
    rw [hw2]; exact this
  have bR : Boxed w2 (w.heap.size + 2) 4 (.bool false) := by
    have := ((((Boxed.new ((w.alloc (.cells #[.int .u32 s] 22)).alloc (.cells #[.int .i64 st] 3)) 4 (.bool false)).alloc (.cells #[.int .i64 0] 3)).alloc (.cells #[.int .u32 s] 22)).alloc (.cells #[.int .i64 k] 3))
    simp only [World.size_alloc, Nat.add_assoc, Nat.reduceAdd] at this
    rw [hw2]; exact this
  have bI : Boxed w2 (w.heap.size + 3) 3 (.int .i64 ((0 : Nat) : Int)) := by
    have := (((Boxed.new (((w.alloc (.cells #[.int .u32 s] 22)).alloc (.cells #[.int .i64 st] 3)).alloc (.cells #[.bool false] 4)) 3 (.int .i64 ((0 : Nat) : Int))).alloc (.cells #[.int .u32 s] 22)).alloc (.cells #[.int .i64 k] 3))
    simp only [World.size_alloc, Nat.add_assoc, Nat.reduceAdd] at this
    rw [hw2]; exact this
  have bS : Boxed w2 (w.heap.size + 4) 22 (.int .u32 s) := by
    have := ((Boxed.new ((((w.alloc (.cells #[.int .u32 s] 22)).alloc (.cells #[.int .i64 st] 3)).alloc (.cells #[.bool false] 4)).alloc (.cells #[.int .i64 0] 3)) 22 (.int .u32 s)).alloc (.cells #[.int .i64 k] 3))
    simp only [World.size_alloc, Nat.add_assoc, Nat.reduceAdd] at this
    rw [hw2]; exact this
  have bK : Boxed w2 (w.heap.size + 5) 3 (.int .i64 k) := by
    have := (Boxed.new (((((w.alloc (.cells #[.int .u32 s] 22)).alloc (.cells #[.int .i64 st] 3)).alloc (.cells #[.bool false] 4)).alloc (.cells #[.int .i64 0] 3)).alloc (.cells #[.int .u32 s] 22)) 3 (.int .i64 k))
    simp only [World.size_alloc, Nat.add_assoc, Nat.reduceAdd] at this
    rw [hw2]; exact this
  have hb2 : Below w.heap.size w w2 := by rw [hw2]; exact ((((((Below.refl _ w).alloc (Nat.le_refl _) _).alloc (by simp) _).alloc (by simp; omega) _).alloc (by simp; omega) _).alloc (by simp; omega) _).alloc (by simp; omega) _
  clear hw2
  have hnil := run_not_nil (w.heap.size + 5) (w.heap.size + 4) w2
  have hbi : w.heap.size + 3 < w2.heap.size := by omega
  obtain ⟨N, hN⟩ : ∃ N : Nat, N = k.toNat := ⟨_, rfl⟩
  have hmx : max k 0 = (N : Int) := by omega
  have hmax := fun V => @Lib.run_max_ints Try.prog V #[3, 3] 3 .i64 .i64 k 0
  rw [hmx] at hmax
  clear hmx
  gi_wp2_with fail
  refine range_stops rfl (by omega) (gf := 24) (lb := #[.pointer (some ⟨w.heap.size + 5, 0, none⟩), .pointer (some ⟨w.heap.size + 4, 0, none⟩)]) rfl trivial (enters_of Try.func24 (by kernel_rfl) rfl)
    (fun x : Int => #[Value.int .u32 x]) (fun _ => rfl)
    (fun j x V => (Ld w2 (w.heap.size + 3) 3 j V ∧ ∀ i : Nat, i < j → (i : Int) ≠ st) ∧ x = Sr.add s j)
    (fun j V => Ld w2 (w.heap.size + 3) 3 j V ∧ ∀ i : Nat, i < j → (i : Int) ≠ st)
    (fun cd V => cd = .exit 0 ∧ ∃ j : Nat, (j : Int) = st ∧ j < N ∧ Ld w2 (w.heap.size + 3) 3 j V) (fun _ _ => True) N
    (fun j x V l o o' h hl ho hc' => ⟨⟨h.1.1.below hbi (below_put V o' hl), h.1.2⟩, h.2⟩)
    (fun j V l o o' h hl ho hc' => ⟨h.1.below hbi (below_put V o' hl), h.2⟩)
    (fun cd V l o o' h hl ho hc' => by
      obtain ⟨h1, j, h2, h3, h4⟩ := h
      exact ⟨h1, j, h2, h3, h4.below hbi (below_put V o' hl)⟩)
    (fun _ _ _ _ _ => trivial) (fun _ _ _ _ _ _ _ => trivial)
    (fun o => ⟨Ld.below ⟨bI, Off.refl _ _⟩ hbi (((Below.refl w2.heap.size w2).alloc (Nat.le_refl _) _).alloc (by simp) _), fun i h => absurd h (Nat.not_lt_zero i)⟩) ?a1 ?assign ?body ?iter ?done ?stop
  case assign =>
    intro l x V K hK
    gi_wp2
    exact hK
  case body =>
    rintro l j x V hl ⟨⟨hLd, hno⟩, rfl⟩ hj
    have kI := hLd.1.cell
    have fI := hLd.1.frozen
    have kA : V.cell? ⟨w.heap.size, 0, none⟩ = some (.int .u32 s) := (show Boxed V w.heap.size 22 (.int .u32 s) from (hLd.2.block _ (by omega) (by omega)).trans bA).cell
    have kT : V.cell? ⟨w.heap.size + 1, 0, none⟩ = some (.int .i64 st) := (show Boxed V (w.heap.size + 1) 3 (.int .i64 st) from (hLd.2.block _ (by omega) (by omega)).trans bT).cell
    have hj2 : (j : Int) ≤ 200 := by omega
    have K := sradd_any s j V hs (by omega)
    generalize Sr.add s j = x at *
    have hlu := Lib.hid hLd
    have hno' := Lib.hid hno
    clear hLd hno
    gi_wp2_with fail
    refine ⟨trivial, ?_⟩
    refine (callsIn_wide.2 K).mono ?_
    rintro e V1 ⟨rfl, rfl⟩
    rename World => V1
    by_cases hjs : (j : Int) = st
    · have hj3 : ((j : Int) == st) = true := by rw [beq_iff_eq]; exact hjs
      have HJ := Lib.hid hjs
      clear hjs
      gi_wp2
      exact ⟨⟨Nat.le_refl _, fun _ _ _ h _ => h⟩, rfl, j, HJ.out, hj, hlu.out⟩
    · have hj3 : ((j : Int) == st) = false := by rw [beq_eq_false_iff_ne]; exact hjs
      have HJ := Lib.hid hjs
      clear hjs
      gi_wp2
      refine ⟨(KeepsOthers.setCell V1 ⟨w.heap.size + 3, 0, none⟩ (.int .i64 ((j : Int) + 1))).from w2.heap.size, ⟨hlu.out.next hbi (Below.refl _ V1), fun i hi => ?_⟩, trivial⟩
      rcases Nat.lt_or_ge i j with h | h
      · exact hno'.out i h
      · have hij : i = j := by omega
        subst hij
        exact HJ.out
  case iter =>
    intro Bk X l V hBk hBlt hX hlw hD hB hY
    have hN' : k.toNat = N := hN.symm
    refine (run_in 2 (by omega) 1 l (w.heap.size + 5) (w.heap.size + 4) s k hs (by omega) (fun j V => (Ld w2 (w.heap.size + 3) 3 j V ∧ ∀ i : Nat, i < j → (i : Int) ≠ st) ∧ Bk V) X ?_ ?_ V ⟨hD, hB⟩).mono ?_
    · rintro j V1 ⟨⟨hLd, _⟩, _⟩
      exact ⟨(show Boxed V1 (w.heap.size + 4) 22 (.int .u32 s) from (hLd.2.block _ (by omega) (by omega)).trans bS).cell, (show Boxed V1 (w.heap.size + 5) 3 (.int .i64 k) from (hLd.2.block _ (by omega) (by omega)).trans bK).cell⟩
    · rintro j V1 ⟨h1, h2⟩ hj
      refine (hY j (Sr.add s j) V1 ⟨h1, rfl⟩ h2 (by omega)).mono ?_
      rintro e V2 (⟨rfl, hd, _, _⟩ | ⟨rfl, hx, _⟩)
      · exact .inl ⟨rfl, hd⟩
      · exact .inr ⟨rfl, hx⟩
    · rw [hN']
      exact fun _ _ h => h
  case' done =>
    rintro D V hD ⟨hLd, hno⟩ hK
    have kI := hLd.1.cell
    have kT : V.cell? ⟨w.heap.size + 1, 0, none⟩ = some (.int .i64 st) := (show Boxed V (w.heap.size + 1) 3 (.int .i64 st) from (hLd.2.block _ (by omega) (by omega)).trans bT).cell
    have bRV : Boxed V (w.heap.size + 2) 4 (.bool false) := (hLd.2.block _ (by omega) (by omega)).trans bR
    have hbV : Below w.heap.size w V := hb2.trans (hLd.2.below (fun k hk => by omega) (by omega))
    have bIV := hLd.1
    have hno' : 0 ≤ st → (N : Int) ≤ st := fun h => by
      rcases Int.lt_or_le st (N : Int) with h2 | h2
      · exact absurd (Int.toNat_of_nonneg h) (hno st.toNat (by omega))
      · exact h2
    have hDR : w.heap.size + 2 ≠ D := by omega
    have hwD : w.heap.size ≤ D := by omega
    clear hLd hno bA bT bR bI bS bK hb2 hn hs hk hk2 hnil hN hbi hs2 hst hD
    rcases Int.lt_or_le st 0 with h0 | h0
    case' inl =>
      clear hno'
      gi_wp2_with fail
    case' inr =>
      have h1 := hno' h0
      clear hno'
      gi_wp2_with fail
  case' stop =>
    rintro D cd V hD ⟨rfl, j, rfl, hj, hLd⟩ hK
    have kI := hLd.1.cell
    have kT : V.cell? ⟨w.heap.size + 1, 0, none⟩ = some (.int .i64 (j : Int)) := (show Boxed V (w.heap.size + 1) 3 (.int .i64 (j : Int)) from (hLd.2.block _ (by omega) (by omega)).trans bT).cell
    have bRV : Boxed V (w.heap.size + 2) 4 (.bool false) := (hLd.2.block _ (by omega) (by omega)).trans bR
    have hbV : Below w.heap.size w V := hb2.trans (hLd.2.below (fun k hk => by omega) (by omega))
    have bIV := hLd.1
    have h0 : (0 : Int) ≤ (j : Int) := by omega
    have h1 : (j : Int) < (N : Int) := by omega
    have hDR : w.heap.size + 2 ≠ D := by omega
    have hwD : w.heap.size ≤ D := by omega
    clear hLd bA bT bR bI bS bK hb2 hn hs hk hk2 hnil hN hbi hs2 hst hD
    gi_wp2_with fail
  all_goals (
    refine ⟨trivial, ?_⟩
    refine (callsIn_wide.2 (sknown_any V)).mono ?_
    rintro e V9 ⟨rfl, hb9⟩
    have kI9 := (show Boxed V9 (w.heap.size + 3) 3 _ from (hb9.block _ bIV.lt).trans bIV).cell
    have bR9 : Boxed V9 (w.heap.size + 2) 4 (.bool false) := (hb9.block _ bRV.lt).trans bRV
    have kR9 := bR9.cell
    have fR9 := bR9.frozen
    have hK9 := (hb9.block D (Array.getElem?_eq_some_iff.1 hK).1).trans hK
    have hbV9 := hbV.trans (hb9.mono hbV.size)
    clear bIV bRV hbV hb9 hK kI kT
    gi_wp2
    have hbf := hbV9.setCell (p := ⟨w.heap.size + 2, 0, none⟩) (by simp) (.bool true)
    have bRf := bR9.set (.bool true)
    have hKf : (V9.setCell ⟨w.heap.size + 2, 0, none⟩ (.bool true)).heap[D]? = some (.deferred (some [])) := (Below.heap_setCell V9 _ _ _ (Ne.symm hDR)).trans hK9
    generalize V9.setCell ⟨w.heap.size + 2, 0, none⟩ (.bool true) = Wf at *
    refine ⟨by simp, .inl ⟨_, _, rfl, run_takeDeferred hKf, ?_⟩⟩
    have hbh := hbf.trans (below_put (B := w.heap.size) Wf (.deferred none) hwD)
    have bRh : Boxed (Wf.putObj D (.deferred none)) (w.heap.size + 2) 4 (.bool true) := (World.putObj_heap_other hDR).trans bRf
    have kRh := bRh.cell
    refine ⟨.bool true, ?_, rfl, hbh⟩
    simp [results, Try.f5, go_sem, kRh])
theorem walk_sruns (a0 a1 a2 : Int) (w0 : (Lit.int .u32 a0).wf = true) (w1 : (Lit.int .i64 a1).wf = true) (w2 : (Lit.int .i64 a2).wf = true) (w : World) :
    Calls Try.prog 5 #[.int .u32 a0, .int .i64 a1, .int .i64 a2] w fun e w' => e = .returned (.bool true) ∧ Below w.heap.size w w' := by
  have h0 := bounds_u32 w0
  have h1 := bounds_i64 w1
  have h2 := bounds_i64 w2
  exact sruns_go a0 a1 a2 (min a1 200) w (by omega) (by omega) (by omega) rfl
end Go.Proofs.Ytjcnkalgbhlafaa
