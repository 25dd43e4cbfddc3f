/-
  Contracts of a window's look, Look and Mark.
-/
import Derived.Test.YtklkfajbfpihfaaWinM
namespace Go.Proofs.Ytklkfajbfpihfaa
open Go.RowKit
set_option maxRecDepth 100000

theorem wlk_nil (n : Int) (w : World) : Calls Try.prog 25 #[.pointer none, .int .u32 n] w fun e w' => e = .returned (.tuple #[rowV 0 0, .int .i64 1]) ∧ Below w.heap.size w w' := by
  go_enter Try.func25, Try.ntmps25
  go_wp2
  refine bodyPost_ret (by simp [results, Try.results25, go_sem]; try rfl) rfl ?_
  exact ⟨rfl, (Below.refl _ w).alloc (Nat.le_refl _) _⟩
theorem wlk_any {w : World} {b : Nat} {t : Int} {q : Nat} (h : WinAt w b t q) (n : Int) (ht : 0 ≤ t ∧ t < 4294967296) (hn : 0 ≤ n ∧ n < 4294967296) (hq : q < 18446744073709551616) :
    Calls Try.prog 25 #[.pointer (some ⟨b, 0, none⟩), .int .u32 n] w fun e w' =>
      (∃ t1 q1, e = .returned (.tuple #[rowV t1 q1, .int .i64 (Wn.look t q n)]) ∧ (Wn.look t q n = 0 → t1 = Wn.nt t n ∧ q1 = Wn.nq t q n)) ∧ Below w.heap.size w w' := by
  have KO := Lib.hid (fun w => wold_any t q n ht hn w)
  have KW := Lib.hid (fun hu w => wwith_any t q n ht hn hq hu w)
  have hA := h
  obtain ⟨c0, c1⟩ := h.cells
  have hlt := h.size
  clear h
  have HL : Hid (Wn.look t q n = if Sr.after n t = true then 0 else if 64 ≤ Sr.way n t then 15 else if q.testBit (Sr.way n t).toNat = true then 14 else 0) := rfl
  have HT : Hid (Wn.nt t n = if Sr.after n t = true then n else t) := rfl
  have HQ : Hid (Wn.nq t q n = if Sr.after n t = true then Wn.shl q (Sr.way t n).toNat ||| 1 else q ||| 2 ^ (Sr.way n t).toNat) := rfl
  have HN : Hid (Sr.after n t = true → n ≠ t) := fun h e => by
    subst e
    have := Wn.after_way h
    unfold Sr.way at this
    omega
  have hu := Sr.way_lt n t
  generalize Sr.after n t = a at *
  generalize Sr.way n t = u at *
  generalize Sr.way t n = v at *
  generalize Wn.nt t n = t' at *
  generalize Wn.nq t q n = q' at *
  generalize Wn.look t q n = L at *
  go_enter Try.func25, Try.ntmps25
  go_wp2_with fail
  refine (KO.out _).mono ?_
  rintro e w1 ⟨rfl, hb1⟩
  have hb01 : Below w.heap.size w w1 := ((Below.refl _ w).alloc (Nat.le_refl _) (.cells #[Value.int IntKind.u32 0, Value.int IntKind.u64 0] 54)).trans (hb1.mono (by simp))
  have r1 : w1.heap[w.heap.size]? = some (.cells #[Value.int IntKind.u32 0, Value.int IntKind.u64 0] 54 (0, 0)) := (hb1.block _ (by simp)).trans (World.alloc_heap_new _ _)
  have A1 := Lib.hid (hA.below hb01)
  have B1 := Lib.hid hb01
  have R1 := Lib.hid r1
  have hs1 : w.heap.size < w1.heap.size := (Array.getElem?_eq_some_iff.1 r1).1
  obtain ⟨r, hr⟩ : ∃ r, w.heap.size = r := ⟨_, rfl⟩
  rw [hr] at R1 hs1 hlt
  have HR := Lib.hid hr
  clear hb1 hb01 r1 c0 c1 KO hA
  by_cases ho : a = false ∧ 64 ≤ u
  · obtain ⟨rfl, h64⟩ := ho
    have hd : (!false && decide (64 ≤ u)) = true := by simp [h64]
    rw [hd, hr]
    have g0 : w1.cell? ⟨r, 0, none⟩ = some (.int .u32 0) := by simp [World.cell?, R1.out]
    have g1 : w1.cell? ⟨r, 1, none⟩ = some (.int .u64 0) := by simp [World.cell?, R1.out]
    have f0 : w1.frozen? ⟨r, 0, none⟩ = false := by simp [World.frozen?, R1.out]
    have f1 : w1.frozen? ⟨r, 1, none⟩ = false := by simp [World.frozen?, R1.out]
    have hL : L = 15 := by have := HL.out; simpa [h64] using this
    clear h64 hd
    go_wp2
    have hF := setCell_at (j := 1) (u := .int .u64 0) (setCell_at (j := 0) (u := .int .u32 0) R1.out)
    have hB := Lib.hid ((B1.out.setCell (p := ⟨r, 0, none⟩) (Nat.le_of_eq HR.out) (.int .u32 0)).setCell (p := ⟨r, 1, none⟩) (Nat.le_of_eq HR.out) (.int .u64 0))
    generalize (World.setCell w1 ⟨r, 0, none⟩ (.int .u32 0)).setCell ⟨r, 1, none⟩ (.int .u64 0) = W6 at *
    have k0 : W6.cell? ⟨r, 0, none⟩ = some (.int .u32 0) := by simp [World.cell?, hF]
    have k1 : W6.cell? ⟨r, 1, none⟩ = some (.int .u64 0) := by simp [World.cell?, hF]
    clear hF
    refine bodyPost_ret (by simp [results, Try.results25, go_sem, k0, k1]; try rfl) rfl ?_
    exact ⟨⟨0, 0, by rw [hL]; rfl, fun h => absurd (hL.symm.trans h) (by decide)⟩, hB.out⟩
  · have hau : a = true ∨ u < 64 := by
      cases a with
      | true => exact .inl rfl
      | false => exact .inr (by simp at ho; omega)
    have hd : (!a && decide (64 ≤ u)) = false := by
      cases a with
      | true => rfl
      | false => simp at ho; simp; omega
    rw [hd, hr]
    have KW2 := KW.out hau w1
    obtain ⟨e0, e1⟩ := A1.out.cells
    have hb1 := A1.out.size
    clear KW hd ho
    go_wp2_with fail
    refine KW2.mono ?_
    rintro e w2 ⟨rfl, hb2⟩
    clear KW2 e0 e1
    obtain ⟨w3, hw3⟩ : ∃ w3, w2.alloc (.cells #[Value.int .u32 t', Value.int .u64 (q' : Int)] 54) = w3 := ⟨_, rfl⟩
    have hs2 := hb2.size
    have hb23 : Below w2.heap.size w2 w3 := by rw [← hw3]; exact (Below.refl _ w2).alloc (Nat.le_refl _) _
    have hb13 : Below w1.heap.size w1 w3 := hb2.trans (hb23.mono hs2)
    have r3 : w3.heap[w2.heap.size]? = some (.cells #[Value.int .u32 t', Value.int .u64 (q' : Int)] 54 (0, 0)) := by rw [← hw3]; exact World.alloc_heap_new _ _
    have o3 : w3.heap[r]? = some (.cells #[Value.int IntKind.u32 0, Value.int IntKind.u64 0] 54 (0, 0)) := (hb13.block _ hs1).trans R1.out
    have a3 : WinAt w3 b t q := A1.out.below hb13
    have hB3 := Lib.hid (B1.out.trans (hb13.mono (by omega)))
    obtain ⟨m, hm⟩ : ∃ m, w2.heap.size = m := ⟨_, rfl⟩
    rw [hm] at r3
    unfold rowV
    go_wp2_with fail
    obtain ⟨c0, c1⟩ := a3.cells
    have d0 : w3.cell? ⟨m, 0, none⟩ = some (.int .u32 t') := by simp [World.cell?, r3]
    have d1 : w3.cell? ⟨m, 1, none⟩ = some (.int .u64 (q' : Int)) := by simp [World.cell?, r3]
    have O3 := Lib.hid o3
    have R3 := Lib.hid r3
    clear o3 r3 a3 hw3 hb2 hb23 hb13 hs2 hr
    cases a with
    | true =>
      have e1 : (t' == t) = false := by
        rw [beq_eq_false_iff_ne]
        have := HT.out
        rw [if_pos rfl] at this
        rw [this]
        exact HN.out rfl
      have hL : L = 0 := by have := HL.out; rwa [if_pos rfl] at this
      have HL2 := Lib.hid hL
      clear HL HT HQ HN hL hau
      go_quiet (fail)
      clear c0 c1 d0 d1
      have o4 : (w3.drewN nq).heap[r]? = some (.cells #[Value.int IntKind.u32 0, Value.int IntKind.u64 0] 54 (0, 0)) := O3.out
      have m4 : (w3.drewN nq).heap[m]? = some (.cells #[Value.int .u32 t', Value.int .u64 (q' : Int)] 54 (0, 0)) := R3.out
      have hB4 := Lib.hid (below_drewN hB3.out nq)
      generalize w3.drewN nq = w4 at *
      have g0 : w4.cell? ⟨r, 0, none⟩ = some (.int .u32 0) := by simp [World.cell?, o4]
      have g1 : w4.cell? ⟨r, 1, none⟩ = some (.int .u64 0) := by simp [World.cell?, o4]
      have f0 : w4.frozen? ⟨r, 0, none⟩ = false := by simp [World.frozen?, o4]
      have f1 : w4.frozen? ⟨r, 1, none⟩ = false := by simp [World.frozen?, o4]
      have h0 : w4.cell? ⟨m, 0, none⟩ = some (.int .u32 t') := by simp [World.cell?, m4]
      have h1 : w4.cell? ⟨m, 1, none⟩ = some (.int .u64 (q' : Int)) := by simp [World.cell?, m4]
      have O4 := Lib.hid o4
      clear o4 m4
      go_wp2
      have hF := setCell_at (j := 1) (u := .int .u64 (q' : Int)) (setCell_at (j := 0) (u := .int .u32 t') O4.out)
      have hB := Lib.hid ((hB4.out.setCell (p := ⟨r, 0, none⟩) (Nat.le_of_eq HR.out) (.int .u32 t')).setCell (p := ⟨r, 1, none⟩) (Nat.le_of_eq HR.out) (.int .u64 (q' : Int)))
      generalize (World.setCell w4 ⟨r, 0, none⟩ (.int .u32 t')).setCell ⟨r, 1, none⟩ (.int .u64 (q' : Int)) = W6 at *
      have k0 : W6.cell? ⟨r, 0, none⟩ = some (.int .u32 t') := by simp [World.cell?, hF]
      have k1 : W6.cell? ⟨r, 1, none⟩ = some (.int .u64 (q' : Int)) := by simp [World.cell?, hF]
      clear hF
      refine bodyPost_ret (by simp [results, Try.results25, go_sem, k0, k1]; try rfl) rfl ?_
      exact ⟨⟨t', q', by rw [HL2.out]; rfl, fun _ => ⟨rfl, rfl⟩⟩, hB.out⟩
    | false =>
      have hu64 : u < 64 := by simpa using hau
      have hT : t' = t := HT.out
      subst hT
      have hQ := HQ.out
      have hL := HL.out
      rw [if_neg (by decide)] at hQ hL
      rw [if_neg (by omega)] at hL
      cases hb : q.testBit u.toNat with
      | true =>
        have hq2 : q' = q := hQ.trans (Wn.or_same hb)
        subst hq2
        rw [hb, if_pos rfl] at hL
        have HL2 := Lib.hid hL
        clear HL HT HQ HN hL hau hQ hb
        go_quiet (fail)
        clear c0 c1 d0 d1
        have o4 : (w3.drewN nq).heap[r]? = some (.cells #[Value.int IntKind.u32 0, Value.int IntKind.u64 0] 54 (0, 0)) := O3.out
        have m4 : (w3.drewN nq).heap[m]? = some (.cells #[Value.int .u32 t', Value.int .u64 (q' : Int)] 54 (0, 0)) := R3.out
        have hB4 := Lib.hid (below_drewN hB3.out nq)
        generalize w3.drewN nq = w4 at *
        have g0 : w4.cell? ⟨r, 0, none⟩ = some (.int .u32 0) := by simp [World.cell?, o4]
        have g1 : w4.cell? ⟨r, 1, none⟩ = some (.int .u64 0) := by simp [World.cell?, o4]
        have f0 : w4.frozen? ⟨r, 0, none⟩ = false := by simp [World.frozen?, o4]
        have f1 : w4.frozen? ⟨r, 1, none⟩ = false := by simp [World.frozen?, o4]
        have h0 : w4.cell? ⟨m, 0, none⟩ = some (.int .u32 t') := by simp [World.cell?, m4]
        have h1 : w4.cell? ⟨m, 1, none⟩ = some (.int .u64 (q' : Int)) := by simp [World.cell?, m4]
        have O4 := Lib.hid o4
        clear o4 m4
        go_wp2
        have hF := setCell_at (j := 1) (u := .int .u64 0) (setCell_at (j := 0) (u := .int .u32 0) O4.out)
        have hB := Lib.hid ((hB4.out.setCell (p := ⟨r, 0, none⟩) (Nat.le_of_eq HR.out) (.int .u32 0)).setCell (p := ⟨r, 1, none⟩) (Nat.le_of_eq HR.out) (.int .u64 0))
        generalize (World.setCell w4 ⟨r, 0, none⟩ (.int .u32 0)).setCell ⟨r, 1, none⟩ (.int .u64 0) = W6 at *
        have k0 : W6.cell? ⟨r, 0, none⟩ = some (.int .u32 0) := by simp [World.cell?, hF]
        have k1 : W6.cell? ⟨r, 1, none⟩ = some (.int .u64 0) := by simp [World.cell?, hF]
        clear hF
        refine bodyPost_ret (by simp [results, Try.results25, go_sem, k0, k1]; try rfl) rfl ?_
        exact ⟨⟨0, 0, by rw [HL2.out]; rfl, fun h => absurd (HL2.out.symm.trans h) (by decide)⟩, hB.out⟩
      | false =>
        have hq2 : q' ≠ q := by rw [hQ]; exact Wn.or_other hb
        have e1 : ((q' : Int) == (q : Int)) = false := by rw [beq_eq_false_iff_ne]; omega
        rw [hb, if_neg (by decide)] at hL
        have HL2 := Lib.hid hL
        clear HL HT HQ HN hL hau hQ hb hq2
        go_quiet (fail)
        clear c0 c1 d0 d1
        have o4 : (w3.drewN nq).heap[r]? = some (.cells #[Value.int IntKind.u32 0, Value.int IntKind.u64 0] 54 (0, 0)) := O3.out
        have m4 : (w3.drewN nq).heap[m]? = some (.cells #[Value.int .u32 t', Value.int .u64 (q' : Int)] 54 (0, 0)) := R3.out
        have hB4 := Lib.hid (below_drewN hB3.out nq)
        generalize w3.drewN nq = w4 at *
        have g0 : w4.cell? ⟨r, 0, none⟩ = some (.int .u32 0) := by simp [World.cell?, o4]
        have g1 : w4.cell? ⟨r, 1, none⟩ = some (.int .u64 0) := by simp [World.cell?, o4]
        have f0 : w4.frozen? ⟨r, 0, none⟩ = false := by simp [World.frozen?, o4]
        have f1 : w4.frozen? ⟨r, 1, none⟩ = false := by simp [World.frozen?, o4]
        have h0 : w4.cell? ⟨m, 0, none⟩ = some (.int .u32 t') := by simp [World.cell?, m4]
        have h1 : w4.cell? ⟨m, 1, none⟩ = some (.int .u64 (q' : Int)) := by simp [World.cell?, m4]
        have O4 := Lib.hid o4
        clear o4 m4
        go_wp2
        have hF := setCell_at (j := 1) (u := .int .u64 (q' : Int)) (setCell_at (j := 0) (u := .int .u32 t') O4.out)
        have hB := Lib.hid ((hB4.out.setCell (p := ⟨r, 0, none⟩) (Nat.le_of_eq HR.out) (.int .u32 t')).setCell (p := ⟨r, 1, none⟩) (Nat.le_of_eq HR.out) (.int .u64 (q' : Int)))
        generalize (World.setCell w4 ⟨r, 0, none⟩ (.int .u32 t')).setCell ⟨r, 1, none⟩ (.int .u64 (q' : Int)) = W6 at *
        have k0 : W6.cell? ⟨r, 0, none⟩ = some (.int .u32 t') := by simp [World.cell?, hF]
        have k1 : W6.cell? ⟨r, 1, none⟩ = some (.int .u64 (q' : Int)) := by simp [World.cell?, hF]
        clear hF
        refine bodyPost_ret (by simp [results, Try.results25, go_sem, k0, k1]; try rfl) rfl ?_
        exact ⟨⟨t', q', by rw [HL2.out]; rfl, fun _ => ⟨rfl, rfl⟩⟩, hB.out⟩

theorem wLook_nil (n : Int) (w : World) : Calls Try.prog 12 #[.pointer none, .int .u32 n] w fun e w' => e = .returned (.int .i64 1) ∧ Below w.heap.size w w' := by
  have K := wlk_nil n w
  unfold rowV at K
  go_enter Try.func12, Try.ntmps12
  go_wp2_with fail
  refine K.mono ?_
  rintro e w1 ⟨rfl, hb1⟩
  go_wp2
  go_ret
  exact ⟨rfl, hb1.alloc hb1.size _⟩
theorem wMark_nil (n : Int) (w : World) : Calls Try.prog 13 #[.pointer none, .int .u32 n] w fun e w' => e = .returned (.int .i64 1) ∧ Below w.heap.size w w' := by
  have K := wlk_nil n w
  unfold rowV at K
  go_enter Try.func13, Try.ntmps13
  go_wp2_with fail
  refine K.mono ?_
  rintro e w1 ⟨rfl, hb1⟩
  go_wp2
  go_ret
  exact ⟨rfl, hb1.alloc hb1.size _⟩
theorem wLook_any {w : World} {b : Nat} {t : Int} {q : Nat} (h : WinAt w b t q) (n : Int) (ht : 0 ≤ t ∧ t < 4294967296) (hn : 0 ≤ n ∧ n < 4294967296) (hq : q < 18446744073709551616) :
    Calls Try.prog 12 #[.pointer (some ⟨b, 0, none⟩), .int .u32 n] w fun e w' => e = .returned (.int .i64 (Wn.look t q n)) ∧ Below w.heap.size w w' := by
  have K := wlk_any h n ht hn hq
  generalize Wn.look t q n = L at *
  generalize Wn.nt t n = t' at *
  generalize Wn.nq t q n = q' at *
  clear h
  go_enter Try.func12, Try.ntmps12
  go_wp2_with fail
  refine K.mono ?_
  rintro e w1 ⟨⟨t1, q1, rfl, _⟩, hb1⟩
  unfold rowV
  go_wp2
  go_ret
  exact ⟨rfl, hb1.alloc hb1.size _⟩
/-- what Mark leaves: of a new one the window that it comes to, else the window as it was -/
theorem wMark_any {w : World} {b : Nat} {t : Int} {q : Nat} (h : WinAt w b t q) (n : Int) (ht : 0 ≤ t ∧ t < 4294967296) (hn : 0 ≤ n ∧ n < 4294967296) (hq : q < 18446744073709551616) :
    Calls Try.prog 13 #[.pointer (some ⟨b, 0, none⟩), .int .u32 n] w fun e w' => e = .returned (.int .i64 (Wn.look t q n)) ∧
      WinAt w' b (if Wn.look t q n = 0 then Wn.nt t n else t) (if Wn.look t q n = 0 then Wn.nq t q n else q) ∧ Off (fun k => k = b) w w' := by
  have K := wlk_any h n ht hn hq
  generalize Wn.look t q n = L at *
  generalize Wn.nt t n = t' at *
  generalize Wn.nq t q n = q' at *
  have HA := Lib.hid h
  have hlt := h.size
  clear h
  go_enter Try.func13, Try.ntmps13
  go_wp2_with fail
  refine K.mono ?_
  rintro e w1 ⟨⟨t1, q1, rfl, hr⟩, hb1⟩
  have hA1 := HA.out.below hb1
  have hs1 := hb1.size
  obtain ⟨w2, hw2⟩ : ∃ w2, w1.alloc (.cells #[Value.int .u32 t1, Value.int .u64 (q1 : Int)] 54) = w2 := ⟨_, rfl⟩
  have hb12 : Below w1.heap.size w1 w2 := by rw [← hw2]; exact (Below.refl _ w1).alloc (Nat.le_refl _) _
  have hA2 := hA1.below hb12
  have r2 : w2.heap[w1.heap.size]? = some (.cells #[Value.int .u32 t1, Value.int .u64 (q1 : Int)] 54 (0, 0)) := by rw [← hw2]; exact World.alloc_heap_new _ _
  have hB := Lib.hid (hb1.trans (hb12.mono hs1))
  have d0 : w2.cell? ⟨w1.heap.size, 0, none⟩ = some (.int .u32 t1) := by simp [World.cell?, r2]
  have d1 : w2.cell? ⟨w1.heap.size, 1, none⟩ = some (.int .u64 (q1 : Int)) := by simp [World.cell?, r2]
  obtain ⟨c0, c1⟩ := hA2.cells
  have f0 := hA2.thaw 0
  have f1 := hA2.thaw 1
  have A2 := Lib.hid hA2
  have HR := Lib.hid hr
  clear r2 hA2 hA1 hb12 hb1 hr K
  unfold rowV
  by_cases hL : L = 0
  · subst hL
    obtain ⟨rfl, rfl⟩ := HR.out rfl
    go_wp2
    go_ret
    have h2 : w2.heap[b]? = _ := A2.out
    refine ⟨rfl, ?_, ((Off.of_below (S := fun k => k = b) hB.out).setCell (p := ⟨b, 0, none⟩) rfl _).setCell (p := ⟨b, 1, none⟩) rfl _⟩
    exact setCell_at (setCell_at h2)
  · have e1 : (L == 0) = false := by rw [beq_eq_false_iff_ne]; exact hL
    have hL' := Lib.hid hL
    clear hL
    go_wp2
    go_ret
    exact ⟨rfl, A2.out, Off.of_below hB.out⟩
end Go.Proofs.Ytklkfajbfpihfaa
