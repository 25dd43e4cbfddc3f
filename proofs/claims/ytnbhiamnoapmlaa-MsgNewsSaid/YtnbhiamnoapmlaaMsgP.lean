/-
  Contracts of layer 17: what is wrong with a path, with cells.
-/
import Derived.Test.YtnbhiamnoapmlaaMsgA
namespace Go.Proofs.Ytnbhiamnoapmlaa
open Go.RowKit Go.Shelf
set_option maxRecDepth 100000
attribute [local go_sem] Oper.semAt_some

/-- points as they lie -/
def fl2 : List (Int × Int) → List Int
  | [] => []
  | q :: r => q.1 :: q.2 :: fl2 r
theorem fl2_len : ∀ l : List (Int × Int), (fl2 l).length = l.length * 2
  | [] => rfl
  | q :: r => by
    rw [fl2, List.length_cons, List.length_cons, fl2_len r, List.length_cons]
    omega
theorem fl2_get : ∀ (l : List (Int × Int)) (j : Nat) (q : Int × Int), l[j]? = some q → (fl2 l)[j * 2]? = some q.1 ∧ (fl2 l)[j * 2 + 1]? = some q.2
  | [], _, _, h => by simp at h
  | g :: r, 0, q, h => by
    simp only [List.getElem?_cons_zero, Option.some.injEq] at h
    subst h
    exact ⟨rfl, rfl⟩
  | g :: r, j + 1, q, h => by
    have h1 := fl2_get r j q (by simpa using h)
    rw [fl2, show (j + 1) * 2 = j * 2 + 1 + 1 by omega]
    exact h1
theorem fl2_app (l m : List (Int × Int)) : fl2 (l ++ m) = fl2 l ++ fl2 m := by
  induction l with
  | nil => rfl
  | cons q r ih => rw [List.cons_append, fl2, ih]; rfl
theorem fl2_inj : ∀ l m : List (Int × Int), fl2 l = fl2 m → l = m
  | [], [], _ => rfl
  | [], _ :: _, h => by simp [fl2] at h
  | _ :: _, [], h => by simp [fl2] at h
  | (a, b) :: r, (c, d) :: s, h => by
    simp only [fl2, List.cons.injEq] at h
    obtain ⟨rfl, rfl, h⟩ := h
    rw [fl2_inj r s h]
/-- a point's cells -/
theorem pts_two {w : World} {B : Nat} {A : Option Addr} {l : List (Int × Int)} (h : Nums .i64 w B A (fl2 l)) {j : Nat} {q : Int × Int} (hj : l[j]? = some q) : ∃ b off, A = some ⟨b, off, none⟩ ∧ b < B ∧ w.cell? ⟨b, off + j * 2, none⟩ = some (.int .i64 q.1) ∧ w.cell? ⟨b, off + j * 2 + 1, none⟩ = some (.int .i64 q.2) := by
  obtain ⟨h1, h2⟩ := fl2_get l j q hj
  obtain ⟨b, off, e, hb, hc⟩ := h (by intro e; rw [e] at h1; simp at h1)
  exact ⟨b, off, e, hb, hc _ _ h1, hc _ _ h2⟩

theorem idx2 (x y : Int) (W : World) : (Instr.index 75 (.agg #[.int .i64 x, .int .i64 y]) (.int .i64 0)).run Try.prog W = .ok (.int .i64 x) W ∧ (Instr.index 75 (.agg #[.int .i64 x, .int .i64 y]) (.int .i64 1)).run Try.prog W = .ok (.int .i64 y) W := by
  refine ⟨?_, ?_⟩ <;> simp [Instr.index, run_underlying Try.underlying75, asIntOf, part, go_sem, Try.sizeOf3]

set_option maxHeartbeats 4000000 in
theorem wpath_any (A : Option Addr) (n cp : Nat) (l : List (Int × Int)) (mo : Int) (w : World) (hn : l.length = n) (hcp : n ≤ cp) (hmo : mo ≤ 1000000) (hA : Nums .i64 w w.heap.size A (fl2 l)) :
    Calls Try.prog 26 #[.slice A n cp, .int .i64 mo] w fun e w' => e = .returned (.int .i64 (wP l mo)) ∧ Below w.heap.size w w' := by
  obtain ⟨R, hR⟩ : ∃ R, wP l mo = R := ⟨_, rfl⟩
  rw [hR]
  unfold wP at hR
  rw [hn] at hR
  have HR := Lib.hid hR
  have HN := Lib.hid hn
  have HA := Lib.hid hA
  have KS := Lib.hid (wsize_any n mo)
  obtain ⟨s, hs⟩ : ∃ s, wS n mo = s := ⟨_, rfl⟩
  rw [hs] at KS HR
  have HS := Lib.hid hs
  clear hR hn hA hs
  go_enter Try.func26, Try.ntmps26
  go_wp2
  refine wp_scope_straight ?_
  go_wp2_with fail
  refine (KS.out w).mono ?_
  rintro e w1 ⟨rfl, rfl⟩
  clear KS
  by_cases h0 : s = 0
  · subst h0
    have hsm : n ≤ 1000000 := by
      have := HS.out
      unfold wS at this
      by_cases h1 : (n : Int) = 0
      · omega
      · by_cases h2 : mo < (n : Int)
        · rw [if_neg h1, if_pos h2] at this; omega
        · omega
    rw [if_neg (by omega)] at HR
    go_wp2
    refine wp_label ?_
    go_wp2
    go_loopw [5, 19] (fun x iv wr => ∃ j : Nat, j ≤ n ∧ x = .int .i64 0 ∧ iv = .int .i64 (j : Int) ∧ Hid (∀ q ∈ l.take j, ptOk q) ∧ Hid (Below w.heap.size w wr)) (fun _ iv _ => n - (intOf iv).toNat)
    case atStart => exact ⟨0, by omega, rfl, rfl, Lib.hid (by simp), Lib.hid (Below.refl _ _)⟩
    case round =>
      obtain ⟨j, hj, rfl, rfl, HP, HB⟩ := hrel
      rcases Nat.lt_or_ge j n with hlt | hge
      · obtain ⟨⟨x, y⟩, hq⟩ : ∃ q, l[j]? = some q := ⟨_, List.getElem?_eq_getElem (by rw [HN.out]; exact hlt)⟩
        obtain ⟨b, off, rfl, hb, c0, c1⟩ := pts_two (HA.out.below HB.out) hq
        have HQ := Lib.hid hq
        have HW := Lib.hid (HB.out.alloc HB.out.size (.cells #[.int .i64 x, .int .i64 y] 57))
        dsimp only at c0 c1
        clear hq
        go_wp2_with fail
        go_loopw [5, 28] (fun x' iv wr' => ∃ i : Nat, i ≤ 2 ∧ x' = .int .i64 0 ∧ iv = .int .i64 (i : Int) ∧ Hid ((0 < i → -1000000 ≤ x ∧ x ≤ 1000000) ∧ (1 < i → -1000000 ≤ y ∧ y ≤ 1000000)) ∧ Hid (Below w.heap.size w wr')) (fun _ iv _ => 2 - (intOf iv).toNat)
        case atStart => exact ⟨0, by omega, rfl, rfl, Lib.hid (by omega), HW⟩
        case round =>
          obtain ⟨i, hi, rfl, rfl, HI, HB2⟩ := hrel
          have hix := fun W => (idx2 x y W).1
          have hiy := fun W => (idx2 x y W).2
          obtain rfl | rfl | rfl : i = 0 ∨ i = 1 ∨ i = 2 := by omega
          · by_cases hv : -1000000 ≤ x ∧ x ≤ 1000000
            · have HI2 : Hid ((0 < 0 + 1 → -1000000 ≤ x ∧ x ≤ 1000000) ∧ (1 < 0 + 1 → -1000000 ≤ y ∧ y ≤ 1000000)) := Lib.hid ⟨fun _ => hv, fun h => by omega⟩
              have KN := Lib.hid (wnum_any x (-1000000) 1000000)
              rw [show wN x (-1000000) 1000000 = 0 from if_neg (by omega)] at KN
              go_wp2_with fail
              refine (KN.out _).mono ?_
              rintro e w2 ⟨rfl, rfl⟩
              clear KN
              go_wp2
              exact ⟨⟨0 + 1, by omega, rfl, rfl, HI2, HB2⟩, by simp only [intOf]; omega⟩
            · obtain rfl : R = 5 := by
                rw [← HR.out, if_neg (fun h => hv ⟨(h _ (List.mem_of_getElem? HQ.out)).1, (h _ (List.mem_of_getElem? HQ.out)).2.1⟩)]
              have KN := Lib.hid (wnum_any x (-1000000) 1000000)
              rw [show wN x (-1000000) 1000000 = 5 from if_pos (by omega)] at KN
              clear hv
              go_wp2_with fail
              refine (KN.out _).mono ?_
              rintro e w2 ⟨rfl, rfl⟩
              clear KN
              go_wp2
              try simp only [Exit.noGoto]
              go_ret
              exact ⟨rfl, HB2.out⟩
          · by_cases hv : -1000000 ≤ y ∧ y ≤ 1000000
            · have HI2 : Hid ((0 < 1 + 1 → -1000000 ≤ x ∧ x ≤ 1000000) ∧ (1 < 1 + 1 → -1000000 ≤ y ∧ y ≤ 1000000)) := Lib.hid ⟨fun _ => HI.out.1 (by omega), fun _ => hv⟩
              have KN := Lib.hid (wnum_any y (-1000000) 1000000)
              rw [show wN y (-1000000) 1000000 = 0 from if_neg (by omega)] at KN
              go_wp2_with fail
              refine (KN.out _).mono ?_
              rintro e w2 ⟨rfl, rfl⟩
              clear KN
              go_wp2
              exact ⟨⟨1 + 1, by omega, rfl, rfl, HI2, HB2⟩, by simp only [intOf]; omega⟩
            · obtain rfl : R = 5 := by
                rw [← HR.out, if_neg (fun h => hv ⟨(h _ (List.mem_of_getElem? HQ.out)).2.2.1, (h _ (List.mem_of_getElem? HQ.out)).2.2.2⟩)]
              have KN := Lib.hid (wnum_any y (-1000000) 1000000)
              rw [show wN y (-1000000) 1000000 = 5 from if_pos (by omega)] at KN
              clear hv
              go_wp2_with fail
              refine (KN.out _).mono ?_
              rintro e w2 ⟨rfl, rfl⟩
              clear KN
              go_wp2
              try simp only [Exit.noGoto]
              go_ret
              exact ⟨rfl, HB2.out⟩
          · have HP2 : Hid (∀ q ∈ l.take (j + 1), ptOk q) := Lib.hid (fun q hq => by
              rw [List.take_add_one, HQ.out, List.mem_append] at hq
              rcases hq with hq | hq
              · exact HP.out q hq
              · simp at hq
                subst hq
                have h1 := HI.out.1 (by omega)
                have h2 := HI.out.2 (by omega)
                exact ⟨h1.1, h1.2, h2.1, h2.2⟩)
            go_wp2
            go_roundw
            case rel => exact ⟨j + 1, by omega, rfl, by go_num, HP2, HB2⟩
            case measure => simp [intOf]; omega
      · obtain rfl : j = n := by omega
        obtain rfl : R = 0 := by
          rw [← HR.out, if_pos]
          have h1 := HP.out
          rwa [List.take_of_length_le (by rw [HN.out]; exact Nat.le_refl _)] at h1
        go_wp2
        try simp only [Exit.noGoto]
        go_ret
        exact ⟨rfl, HB.out⟩
  · rw [if_pos h0] at HR
    obtain rfl : s = R := HR.out
    have hs0 : (s != 0) = true := by simpa using h0
    go_wp2
    try simp only [Exit.noGoto]
    go_ret
    exact ⟨rfl, Below.refl _ _⟩

/-- behind j cells of a list, none of which is wrong, the rest is looked at behind the last one -/
theorem cE_at : ∀ (l : List Int) (a : Int) (j : Nat) (c : Int), l[j]? = some c → cE a (l.take j) = 0 → cE a l = cE (if j = 0 then a else l.getD (j - 1) 0) (l.drop j)
  | [], _, _, _, h, _ => by simp at h
  | x :: r, a, 0, c, _, _ => by simp
  | x :: r, a, j + 1, c, h, h0 => by
    rw [List.take_succ_cons, cE] at h0
    by_cases h1 : x < 0 ∨ 65535 < x
    · rw [if_pos h1] at h0; omega
    · by_cases h2 : x ≤ a
      · rw [if_neg h1, if_pos h2] at h0; omega
      · rw [if_neg h1, if_neg h2] at h0
        have e : (if j = 0 then x else r.getD (j - 1) 0) = (if j + 1 = 0 then a else (x :: r).getD (j + 1 - 1) 0) := by
          rw [if_neg (Nat.succ_ne_zero j)]
          rcases j with _ | j <;> simp
        rw [cE, if_neg h1, if_neg h2, cE_at r x j c (by simpa using h) h0, List.drop_succ_cons, e]
theorem cE_next : ∀ (l : List Int) (a : Int) (j : Nat) (c : Int), l[j]? = some c → cE a (l.take j) = 0 → 0 ≤ c → c ≤ 65535 → (if j = 0 then a else l.getD (j - 1) 0) < c → cE a (l.take (j + 1)) = 0
  | [], _, _, _, h, _, _, _, _ => by simp at h
  | x :: r, a, 0, c, h, _, h1, h2, h3 => by
    simp only [List.getElem?_cons_zero, Option.some.injEq] at h
    subst h
    rw [if_pos rfl] at h3
    rw [List.take_succ_cons, List.take_zero, cE, if_neg (by omega), if_neg (by omega), cE]
  | x :: r, a, j + 1, c, h, h0, h1, h2, h3 => by
    rw [List.take_succ_cons, cE] at h0
    by_cases g1 : x < 0 ∨ 65535 < x
    · rw [if_pos g1] at h0; omega
    · by_cases g2 : x ≤ a
      · rw [if_neg g1, if_pos g2] at h0; omega
      · rw [if_neg g1, if_neg g2] at h0
        rw [List.take_succ_cons, cE, if_neg g1, if_neg g2]
        refine cE_next r x j c (by simpa using h) h0 h1 h2 ?_
        rw [if_neg (by omega)] at h3
        rcases j with _ | j
        · simpa using h3
        · simpa using h3
/-- the one that a cell is held against -/
def ahd (l : List Int) (j : Nat) : Int := if j = 0 then -1 else l.getD (j - 1) 0
theorem cE_bad {l : List Int} {j : Nat} {c : Int} (h : l[j]? = some c) (h0 : cE (-1) (l.take j) = 0) : cE (-1) l = if c < 0 ∨ 65535 < c then 5 else if c ≤ ahd l j then 3 else cE c (l.drop (j + 1)) := by
  rw [cE_at l (-1) j c h h0]
  have hi := (List.getElem?_eq_some_iff.1 h).1
  rw [List.drop_eq_getElem_cons hi, (List.getElem?_eq_some_iff.1 h).2, cE]
  rfl

set_option maxHeartbeats 4000000 in
theorem wcells_any (A : Option Addr) (n cp : Nat) (l : List Int) (mo : Int) (w : World) (hn : l.length = n) (hcp : n ≤ cp) (hmo : mo ≤ 1000000) (hA : Nums .i64 w w.heap.size A l) :
    Calls Try.prog 27 #[.slice A n cp, .int .i64 mo] w fun e w' => e = .returned (.int .i64 (wC l mo)) ∧ w = w' := by
  obtain ⟨R, hR⟩ : ∃ R, wC l mo = R := ⟨_, rfl⟩
  rw [hR]
  unfold wC at hR
  rw [hn] at hR
  have HR := Lib.hid hR
  have HN := Lib.hid hn
  have HA := Lib.hid hA
  have KS := Lib.hid (wsize_any n mo)
  obtain ⟨s, hs⟩ : ∃ s, wS n mo = s := ⟨_, rfl⟩
  rw [hs] at KS HR
  have HS := Lib.hid hs
  clear hR hn hA hs
  go_enter Try.func27, Try.ntmps27
  go_wp2
  refine wp_scope_straight ?_
  go_wp2_with fail
  refine (KS.out w).mono ?_
  rintro e w1 ⟨rfl, rfl⟩
  clear KS
  by_cases h0 : s = 0
  · subst h0
    have hsm : n ≤ 1000000 := by
      have := HS.out
      unfold wS at this
      by_cases h1 : (n : Int) = 0
      · omega
      · by_cases h2 : mo < (n : Int)
        · rw [if_neg h1, if_pos h2] at this; omega
        · omega
    rw [if_neg (by omega)] at HR
    go_wp2
    refine wp_label ?_
    go_wp2
    go_loopw [5, 6, 18] (fun x y iv wr => ∃ (j : Nat) (a : Int), j ≤ n ∧ x = .int .i64 0 ∧ y = .int .i64 a ∧ iv = .int .i64 (j : Int) ∧ Hid (cE (-1) (l.take j) = 0) ∧ Hid (a = ahd l j) ∧ wr = w) (fun _ _ iv _ => n - (intOf iv).toNat)
    case atStart => exact ⟨0, -1, by omega, rfl, rfl, rfl, Lib.hid (by simp [cE]), Lib.hid rfl, rfl⟩
    case round =>
      obtain ⟨j, a, hj, rfl, rfl, rfl, HP, HD, rfl⟩ := hrel
      rcases Nat.lt_or_ge j n with hlt | hge
      · obtain ⟨c, hq⟩ : ∃ c, l[j]? = some c := ⟨_, List.getElem?_eq_getElem (by rw [HN.out]; exact hlt)⟩
        obtain ⟨b, off, rfl, hb, c0⟩ := HA.out.open hq
        have HQ := Lib.hid hq
        clear hq
        have KN := Lib.hid (wnum_any c 0 65535)
        have HB := Lib.hid (cE_bad HQ.out HP.out)
        rw [HR.out] at HB
        by_cases hv : c < 0 ∨ 65535 < c
        · rw [if_pos hv] at HB
          rw [show wN c 0 65535 = 5 from if_pos hv] at KN
          obtain rfl : R = 5 := HB.out
          clear hv
          go_wp2_with fail
          refine (KN.out _).mono ?_
          rintro e w2 ⟨rfl, rfl⟩
          clear KN
          go_wp2
          try simp only [Exit.noGoto]
          go_ret
          exact ⟨rfl, rfl⟩
        · rw [if_neg hv] at HB
          rw [show wN c 0 65535 = 0 from if_neg hv] at KN
          rw [← HD.out] at HB
          by_cases hc : c ≤ a
          · rw [if_pos hc] at HB
            obtain rfl : R = 3 := HB.out
            clear hv
            go_wp2_with fail
            refine (KN.out _).mono ?_
            rintro e w2 ⟨rfl, rfl⟩
            clear KN
            go_wp2
            try simp only [Exit.noGoto]
            go_ret
            exact ⟨rfl, rfl⟩
          · have HP2 : Hid (cE (-1) (l.take (j + 1)) = 0) := Lib.hid (cE_next l (-1) j c HQ.out HP.out (by omega) (by omega) (by have := HD.out; unfold ahd at this; omega))
            have HD2 : Hid (c = ahd l (j + 1)) := Lib.hid (by
              unfold ahd
              rw [if_neg (by omega), Nat.add_sub_cancel, List.getD, HQ.out]
              rfl)
            clear hv
            go_wp2_with fail
            refine (KN.out _).mono ?_
            rintro e w2 ⟨rfl, rfl⟩
            clear KN
            go_wp2
            exact ⟨⟨j + 1, c, by omega, rfl, rfl, by go_num, HP2, HD2, trivial⟩, by simp only [intOf]; omega⟩
      · obtain rfl : j = n := by omega
        obtain rfl : R = 0 := by
          rw [← HR.out]
          have h1 := HP.out
          rwa [List.take_of_length_le (by rw [HN.out]; exact Nat.le_refl _)] at h1
        go_wp2
        try simp only [Exit.noGoto]
        go_ret
        exact ⟨rfl, rfl⟩
  · rw [if_pos h0] at HR
    obtain rfl : s = R := HR.out
    have hs0 : (s != 0) = true := by simpa using h0
    go_wp2
    try simp only [Exit.noGoto]
    go_ret
    exact ⟨rfl, rfl⟩
end Go.Proofs.Ytnbhiamnoapmlaa
