/-
  A part of the texts of one proof, put together: MsgA, MsgP, MsgQ, MsgE, MsgB, App, ApK, ApN, FldR, FldM, MsgC, MsgD, MsgG, BdyP, BdyC, Grow, Pen, Part, Write, WriteW, Pens, Signed, BdyW, BdyY, BdyV, BdyD, MsgR, MsgS, MsgT, MsgF, Q3, Q11, Q8, Q15, Q21, MsgK, Q20, Q22.
-/
import Derived.Lib.MinMax
import Derived.Laws.StructEq
import Derived.ChangeKeysEq
import Derived.BigQuiet
import Derived.Deep.QuietTactic
import Derived.Deep.LoopGhost
import Derived.WalkMore
import Derived.Deep.Upon
import Derived.Lib.AppendZeros
import Derived.Maps.AppendAt
import Derived.OwnWalkIn
import Derived.RangeFuncBox
import Derived.RangeFuncWrites
import Derived.RangeFuncNested
import Derived.Laws.Tables
import Derived.Lib.AppendStr
import Derived.RowKit3
import Derived.Lib.SliceRun
import Derived.Outline
import Derived.Deep.OwnRows
import Derived.Lib.ConvBytes
import Derived.Deep.Slices
import Derived.ChangeMaps5
import Derived.OpenShut
import Derived.ChangeSame
import Derived.OrdersIn
import Derived.TacticsIn
import Derived.RangeFuncCalls
import Derived.Deep.WholeRow
import Derived.Deep.MidRow
import Derived.Laws.CopyRow
import Derived.Test.YtlbfibnfmijahaaMNlNilProof1
namespace Go.Proofs.Ytlbfibnfmijahaa
open Go.RowKit Go.Shelf
set_option maxRecDepth 100000
attribute [local go_sem] Oper.semAt_some

theorem wnum_any (n le mo : Int) (w : World) : Calls Try.prog 43 #[.int .i64 n, .int .i64 le, .int .i64 mo] w fun e w' => e = .returned (.int .i64 (wN n le mo)) ∧ w = w' := by
  by_cases h1 : n < le
  · rw [show wN n le mo = 5 from if_pos (.inl h1)]
    go_enter Try.func43, Try.ntmps43
    go_wp2
    go_ret
    exact ⟨rfl, rfl⟩
  · by_cases h2 : mo < n
    · rw [show wN n le mo = 5 from if_pos (.inr h2)]
      go_enter Try.func43, Try.ntmps43
      go_wp2
      go_ret
      exact ⟨rfl, rfl⟩
    · rw [show wN n le mo = 0 from if_neg (by omega)]
      go_enter Try.func43, Try.ntmps43
      go_wp2
      go_ret
      exact ⟨rfl, rfl⟩
theorem wsize_any (n mo : Int) (w : World) : Calls Try.prog 62 #[.int .i64 n, .int .i64 mo] w fun e w' => e = .returned (.int .i64 (wS n mo)) ∧ w = w' := by
  by_cases h1 : n = 0
  · subst h1
    rw [show wS 0 mo = 13 from rfl]
    go_enter Try.func62, Try.ntmps62
    go_wp2
    go_ret
    exact ⟨rfl, rfl⟩
  · have hb : (n == 0) = false := by simpa using h1
    by_cases h2 : mo < n
    · rw [show wS n mo = 6 by simp [wS, h1, h2]]
      go_enter Try.func62, Try.ntmps62
      go_wp2
      go_ret
      exact ⟨rfl, rfl⟩
    · rw [show wS n mo = 0 by simp [wS, h1, h2]]
      go_enter Try.func62, Try.ntmps62
      go_wp2
      go_ret
      exact ⟨rfl, rfl⟩
theorem byte_at (s : ByteArray) (j : Nat) (hj : j < s.size) : s.data.toList[j]? = some s[j] := by
  rw [Array.getElem?_toList]
  exact Array.getElem?_eq_getElem hj
set_option maxHeartbeats 2000000 in
theorem wtext_any (s : ByteArray) (mo : Int) (hs : s.size ≤ maxLen) (w : World) : Calls Try.prog 42 #[.string s, .int .i64 mo] w fun e w' => e = .returned (.int .i64 (wT s mo)) ∧ w = w' := by
  obtain ⟨n, hn⟩ : ∃ n, s.size = n := ⟨_, rfl⟩
  have hl : n ≤ 9223372036854775807 := by unfold maxLen at hs; omega
  clear hs
  by_cases h1 : mo < (n : Int)
  · rw [show wT s mo = 6 by unfold wT; rw [hn]; exact if_pos h1]
    go_enter Try.func42, Try.ntmps42
    go_wp2
    refine wp_scope_straight ?_
    go_wp2
    simp only [Exit.noGoto]
    go_ret
    exact ⟨rfl, rfl⟩
  · obtain ⟨R, hR⟩ : ∃ R, wT s mo = R := ⟨_, rfl⟩
    rw [hR]
    have HR := Lib.hid hR
    clear hR
    go_enter Try.func42, Try.ntmps42
    go_wp2
    refine wp_scope_straight ?_
    go_wp2
    refine wp_label ?_
    go_wp2
    go_loopw [5, 13] (fun x iv wr => ∃ j : Nat, j ≤ n ∧ x = .int .i64 0 ∧ iv = .int .i64 (j : Int) ∧ Hid (∀ b ∈ s.data.toList.take j, byOk b) ∧ wr = w) (fun _ iv _ => n - (intOf iv).toNat)
    case atStart => exact ⟨0, by omega, rfl, rfl, Lib.hid (by simp), rfl⟩
    case round =>
      obtain ⟨j, hj, rfl, rfl, HB, rfl⟩ := hrel
      rcases Nat.lt_or_ge j n with hlt | hge
      · have hg : s.data.toList[j]? = some (s[j]'(by omega)) := byte_at s j (by omega)
        by_cases hb : byOk (s[j]'(by omega))
        · have HB2 : Hid (∀ b ∈ s.data.toList.take (j + 1), byOk b) := Lib.hid (fun b hb2 => by
            rw [List.take_add_one, hg, List.mem_append] at hb2
            rcases hb2 with hb2 | hb2
            · exact HB.out b hb2
            · simp at hb2; subst hb2; exact hb)
          unfold byOk at hb
          clear hg
          go_wp2
          exact ⟨⟨j + 1, by omega, rfl, by go_num, HB2, trivial⟩, by simp only [intOf]; omega⟩
        · obtain rfl : R = 19 := by
            rw [← HR.out]
            unfold wT
            rw [hn, if_neg (by omega), if_neg (fun h => hb (h _ (List.mem_of_getElem? hg)))]
          unfold byOk at hb
          clear hg
          go_wp2
          all_goals
            try simp only [Exit.noGoto]
            go_ret
            exact ⟨rfl, rfl⟩
      · obtain rfl : j = n := by omega
        obtain rfl : R = 0 := by
          rw [← HR.out]
          unfold wT
          rw [hn, if_neg (by omega), if_pos]
          have h2 := HB.out
          rwa [List.take_of_length_le (by show s.data.toList.length ≤ j; rw [Array.length_toList]; exact Nat.le_of_eq hn)] at h2
        go_wp2
        simp only [Exit.noGoto]
        go_ret
        exact ⟨rfl, rfl⟩
end Go.Proofs.Ytlbfibnfmijahaa

namespace Go.Proofs.Ytlbfibnfmijahaa
open Go.RowKit Go.Shelf
set_option maxRecDepth 100000
attribute [local go_sem] Oper.semAt_some

/-- points as they lie -/
def fl2 : List (Int × Int) → List Int
  | [] => []
  | q :: r => q.1 :: q.2 :: fl2 r
theorem fl2_len : ∀ l : List (Int × Int), (fl2 l).length = l.length * 2
  | [] => rfl
  | q :: r => by
    rw [fl2, List.length_cons, List.length_cons, fl2_len r, List.length_cons]
    omega
theorem fl2_get : ∀ (l : List (Int × Int)) (j : Nat) (q : Int × Int), l[j]? = some q → (fl2 l)[j * 2]? = some q.1 ∧ (fl2 l)[j * 2 + 1]? = some q.2
  | [], _, _, h => by simp at h
  | g :: r, 0, q, h => by
    simp only [List.getElem?_cons_zero, Option.some.injEq] at h
    subst h
    exact ⟨rfl, rfl⟩
  | g :: r, j + 1, q, h => by
    have h1 := fl2_get r j q (by simpa using h)
    rw [fl2, show (j + 1) * 2 = j * 2 + 1 + 1 by omega]
    exact h1
/-- a point's cells -/
theorem pts_two {w : World} {B : Nat} {A : Option Addr} {l : List (Int × Int)} (h : Nums .i64 w B A (fl2 l)) {j : Nat} {q : Int × Int} (hj : l[j]? = some q) : ∃ b off, A = some ⟨b, off, none⟩ ∧ b < B ∧ w.cell? ⟨b, off + j * 2, none⟩ = some (.int .i64 q.1) ∧ w.cell? ⟨b, off + j * 2 + 1, none⟩ = some (.int .i64 q.2) := by
  obtain ⟨h1, h2⟩ := fl2_get l j q hj
  obtain ⟨b, off, e, hb, hc⟩ := h (by intro e; rw [e] at h1; simp at h1)
  exact ⟨b, off, e, hb, hc _ _ h1, hc _ _ h2⟩

theorem idx2 (x y : Int) (W : World) : (Instr.index 114 (.agg #[.int .i64 x, .int .i64 y]) (.int .i64 0)).run Try.prog W = .ok (.int .i64 x) W ∧ (Instr.index 114 (.agg #[.int .i64 x, .int .i64 y]) (.int .i64 1)).run Try.prog W = .ok (.int .i64 y) W := by
  refine ⟨?_, ?_⟩ <;> simp [Instr.index, run_underlying Try.underlying114, asIntOf, part, go_sem, Try.sizeOf3]

set_option maxHeartbeats 4000000 in
theorem wpath_any (A : Option Addr) (n cp : Nat) (l : List (Int × Int)) (mo : Int) (w : World) (hn : l.length = n) (hcp : n ≤ cp) (hmo : mo ≤ 1000000) (hA : Nums .i64 w w.heap.size A (fl2 l)) :
    Calls Try.prog 40 #[.slice A n cp, .int .i64 mo] w fun e w' => e = .returned (.int .i64 (wP l mo)) ∧ Below w.heap.size w w' := by
  obtain ⟨R, hR⟩ : ∃ R, wP l mo = R := ⟨_, rfl⟩
  rw [hR]
  unfold wP at hR
  rw [hn] at hR
  have HR := Lib.hid hR
  have HN := Lib.hid hn
  have HA := Lib.hid hA
  have KS := Lib.hid (wsize_any n mo)
  obtain ⟨s, hs⟩ : ∃ s, wS n mo = s := ⟨_, rfl⟩
  rw [hs] at KS HR
  have HS := Lib.hid hs
  clear hR hn hA hs
  go_enter Try.func40, Try.ntmps40
  go_wp2
  refine wp_scope_straight ?_
  go_wp2_with fail
  refine (KS.out w).mono ?_
  rintro e w1 ⟨rfl, rfl⟩
  clear KS
  by_cases h0 : s = 0
  · subst h0
    have hsm : n ≤ 1000000 := by
      have := HS.out
      unfold wS at this
      by_cases h1 : (n : Int) = 0
      · omega
      · by_cases h2 : mo < (n : Int)
        · rw [if_neg h1, if_pos h2] at this; omega
        · omega
    rw [if_neg (by omega)] at HR
    go_wp2
    refine wp_label ?_
    go_wp2
    go_loopw [5, 19] (fun x iv wr => ∃ j : Nat, j ≤ n ∧ x = .int .i64 0 ∧ iv = .int .i64 (j : Int) ∧ Hid (∀ q ∈ l.take j, ptOk q) ∧ Hid (Below w.heap.size w wr)) (fun _ iv _ => n - (intOf iv).toNat)
    case atStart => exact ⟨0, by omega, rfl, rfl, Lib.hid (by simp), Lib.hid (Below.refl _ _)⟩
    case round =>
      obtain ⟨j, hj, rfl, rfl, HP, HB⟩ := hrel
      rcases Nat.lt_or_ge j n with hlt | hge
      · obtain ⟨⟨x, y⟩, hq⟩ : ∃ q, l[j]? = some q := ⟨_, List.getElem?_eq_getElem (by rw [HN.out]; exact hlt)⟩
        obtain ⟨b, off, rfl, hb, c0, c1⟩ := pts_two (HA.out.below HB.out) hq
        have HQ := Lib.hid hq
        have HW := Lib.hid (HB.out.alloc HB.out.size (.cells #[.int .i64 x, .int .i64 y] 63))
        dsimp only at c0 c1
        clear hq
        go_wp2_with fail
        go_loopw [5, 28] (fun x' iv wr' => ∃ i : Nat, i ≤ 2 ∧ x' = .int .i64 0 ∧ iv = .int .i64 (i : Int) ∧ Hid ((0 < i → -1000000 ≤ x ∧ x ≤ 1000000) ∧ (1 < i → -1000000 ≤ y ∧ y ≤ 1000000)) ∧ Hid (Below w.heap.size w wr')) (fun _ iv _ => 2 - (intOf iv).toNat)
        case atStart => exact ⟨0, by omega, rfl, rfl, Lib.hid (by omega), HW⟩
        case round =>
          obtain ⟨i, hi, rfl, rfl, HI, HB2⟩ := hrel
          have hix := fun W => (idx2 x y W).1
          have hiy := fun W => (idx2 x y W).2
          obtain rfl | rfl | rfl : i = 0 ∨ i = 1 ∨ i = 2 := by omega
          · by_cases hv : -1000000 ≤ x ∧ x ≤ 1000000
            · have HI2 : Hid ((0 < 0 + 1 → -1000000 ≤ x ∧ x ≤ 1000000) ∧ (1 < 0 + 1 → -1000000 ≤ y ∧ y ≤ 1000000)) := Lib.hid ⟨fun _ => hv, fun h => by omega⟩
              have KN := Lib.hid (wnum_any x (-1000000) 1000000)
              rw [show wN x (-1000000) 1000000 = 0 from if_neg (by omega)] at KN
              go_wp2_with fail
              refine (KN.out _).mono ?_
              rintro e w2 ⟨rfl, rfl⟩
              clear KN
              go_wp2
              exact ⟨⟨0 + 1, by omega, rfl, rfl, HI2, HB2⟩, by simp only [intOf]; omega⟩
            · obtain rfl : R = 5 := by
                rw [← HR.out, if_neg (fun h => hv ⟨(h _ (List.mem_of_getElem? HQ.out)).1, (h _ (List.mem_of_getElem? HQ.out)).2.1⟩)]
              have KN := Lib.hid (wnum_any x (-1000000) 1000000)
              rw [show wN x (-1000000) 1000000 = 5 from if_pos (by omega)] at KN
              clear hv
              go_wp2_with fail
              refine (KN.out _).mono ?_
              rintro e w2 ⟨rfl, rfl⟩
              clear KN
              go_wp2
              try simp only [Exit.noGoto]
              go_ret
              exact ⟨rfl, HB2.out⟩
          · by_cases hv : -1000000 ≤ y ∧ y ≤ 1000000
            · have HI2 : Hid ((0 < 1 + 1 → -1000000 ≤ x ∧ x ≤ 1000000) ∧ (1 < 1 + 1 → -1000000 ≤ y ∧ y ≤ 1000000)) := Lib.hid ⟨fun _ => HI.out.1 (by omega), fun _ => hv⟩
              have KN := Lib.hid (wnum_any y (-1000000) 1000000)
              rw [show wN y (-1000000) 1000000 = 0 from if_neg (by omega)] at KN
              go_wp2_with fail
              refine (KN.out _).mono ?_
              rintro e w2 ⟨rfl, rfl⟩
              clear KN
              go_wp2
              exact ⟨⟨1 + 1, by omega, rfl, rfl, HI2, HB2⟩, by simp only [intOf]; omega⟩
            · obtain rfl : R = 5 := by
                rw [← HR.out, if_neg (fun h => hv ⟨(h _ (List.mem_of_getElem? HQ.out)).2.2.1, (h _ (List.mem_of_getElem? HQ.out)).2.2.2⟩)]
              have KN := Lib.hid (wnum_any y (-1000000) 1000000)
              rw [show wN y (-1000000) 1000000 = 5 from if_pos (by omega)] at KN
              clear hv
              go_wp2_with fail
              refine (KN.out _).mono ?_
              rintro e w2 ⟨rfl, rfl⟩
              clear KN
              go_wp2
              try simp only [Exit.noGoto]
              go_ret
              exact ⟨rfl, HB2.out⟩
          · have HP2 : Hid (∀ q ∈ l.take (j + 1), ptOk q) := Lib.hid (fun q hq => by
              rw [List.take_add_one, HQ.out, List.mem_append] at hq
              rcases hq with hq | hq
              · exact HP.out q hq
              · simp at hq
                subst hq
                have h1 := HI.out.1 (by omega)
                have h2 := HI.out.2 (by omega)
                exact ⟨h1.1, h1.2, h2.1, h2.2⟩)
            go_wp2
            go_roundw
            case rel => exact ⟨j + 1, by omega, rfl, by go_num, HP2, HB2⟩
            case measure => simp [intOf]; omega
      · obtain rfl : j = n := by omega
        obtain rfl : R = 0 := by
          rw [← HR.out, if_pos]
          have h1 := HP.out
          rwa [List.take_of_length_le (by rw [HN.out]; exact Nat.le_refl _)] at h1
        go_wp2
        try simp only [Exit.noGoto]
        go_ret
        exact ⟨rfl, HB.out⟩
  · rw [if_pos h0] at HR
    obtain rfl : s = R := HR.out
    have hs0 : (s != 0) = true := by simpa using h0
    go_wp2
    try simp only [Exit.noGoto]
    go_ret
    exact ⟨rfl, Below.refl _ _⟩

/-- behind j cells of a list, none of which is wrong, the rest is looked at behind the last one -/
theorem cE_at : ∀ (l : List Int) (a : Int) (j : Nat) (c : Int), l[j]? = some c → cE a (l.take j) = 0 → cE a l = cE (if j = 0 then a else l.getD (j - 1) 0) (l.drop j)
  | [], _, _, _, h, _ => by simp at h
  | x :: r, a, 0, c, _, _ => by simp
  | x :: r, a, j + 1, c, h, h0 => by
    rw [List.take_succ_cons, cE] at h0
    by_cases h1 : x < 0 ∨ 65535 < x
    · rw [if_pos h1] at h0; omega
    · by_cases h2 : x ≤ a
      · rw [if_neg h1, if_pos h2] at h0; omega
      · rw [if_neg h1, if_neg h2] at h0
        have e : (if j = 0 then x else r.getD (j - 1) 0) = (if j + 1 = 0 then a else (x :: r).getD (j + 1 - 1) 0) := by
          rw [if_neg (Nat.succ_ne_zero j)]
          rcases j with _ | j <;> simp
        rw [cE, if_neg h1, if_neg h2, cE_at r x j c (by simpa using h) h0, List.drop_succ_cons, e]
theorem cE_next : ∀ (l : List Int) (a : Int) (j : Nat) (c : Int), l[j]? = some c → cE a (l.take j) = 0 → 0 ≤ c → c ≤ 65535 → (if j = 0 then a else l.getD (j - 1) 0) < c → cE a (l.take (j + 1)) = 0
  | [], _, _, _, h, _, _, _, _ => by simp at h
  | x :: r, a, 0, c, h, _, h1, h2, h3 => by
    simp only [List.getElem?_cons_zero, Option.some.injEq] at h
    subst h
    rw [if_pos rfl] at h3
    rw [List.take_succ_cons, List.take_zero, cE, if_neg (by omega), if_neg (by omega), cE]
  | x :: r, a, j + 1, c, h, h0, h1, h2, h3 => by
    rw [List.take_succ_cons, cE] at h0
    by_cases g1 : x < 0 ∨ 65535 < x
    · rw [if_pos g1] at h0; omega
    · by_cases g2 : x ≤ a
      · rw [if_neg g1, if_pos g2] at h0; omega
      · rw [if_neg g1, if_neg g2] at h0
        rw [List.take_succ_cons, cE, if_neg g1, if_neg g2]
        refine cE_next r x j c (by simpa using h) h0 h1 h2 ?_
        rw [if_neg (by omega)] at h3
        rcases j with _ | j
        · simpa using h3
        · simpa using h3
/-- the one that a cell is held against -/
def ahd (l : List Int) (j : Nat) : Int := if j = 0 then -1 else l.getD (j - 1) 0
theorem cE_bad {l : List Int} {j : Nat} {c : Int} (h : l[j]? = some c) (h0 : cE (-1) (l.take j) = 0) : cE (-1) l = if c < 0 ∨ 65535 < c then 5 else if c ≤ ahd l j then 3 else cE c (l.drop (j + 1)) := by
  rw [cE_at l (-1) j c h h0]
  have hi := (List.getElem?_eq_some_iff.1 h).1
  rw [List.drop_eq_getElem_cons hi, (List.getElem?_eq_some_iff.1 h).2, cE]
  rfl

set_option maxHeartbeats 4000000 in
theorem wcells_any (A : Option Addr) (n cp : Nat) (l : List Int) (mo : Int) (w : World) (hn : l.length = n) (hcp : n ≤ cp) (hmo : mo ≤ 1000000) (hA : Nums .i64 w w.heap.size A l) :
    Calls Try.prog 41 #[.slice A n cp, .int .i64 mo] w fun e w' => e = .returned (.int .i64 (wC l mo)) ∧ w = w' := by
  obtain ⟨R, hR⟩ : ∃ R, wC l mo = R := ⟨_, rfl⟩
  rw [hR]
  unfold wC at hR
  rw [hn] at hR
  have HR := Lib.hid hR
  have HN := Lib.hid hn
  have HA := Lib.hid hA
  have KS := Lib.hid (wsize_any n mo)
  obtain ⟨s, hs⟩ : ∃ s, wS n mo = s := ⟨_, rfl⟩
  rw [hs] at KS HR
  have HS := Lib.hid hs
  clear hR hn hA hs
  go_enter Try.func41, Try.ntmps41
  go_wp2
  refine wp_scope_straight ?_
  go_wp2_with fail
  refine (KS.out w).mono ?_
  rintro e w1 ⟨rfl, rfl⟩
  clear KS
  by_cases h0 : s = 0
  · subst h0
    have hsm : n ≤ 1000000 := by
      have := HS.out
      unfold wS at this
      by_cases h1 : (n : Int) = 0
      · omega
      · by_cases h2 : mo < (n : Int)
        · rw [if_neg h1, if_pos h2] at this; omega
        · omega
    rw [if_neg (by omega)] at HR
    go_wp2
    refine wp_label ?_
    go_wp2
    go_loopw [5, 6, 18] (fun x y iv wr => ∃ (j : Nat) (a : Int), j ≤ n ∧ x = .int .i64 0 ∧ y = .int .i64 a ∧ iv = .int .i64 (j : Int) ∧ Hid (cE (-1) (l.take j) = 0) ∧ Hid (a = ahd l j) ∧ wr = w) (fun _ _ iv _ => n - (intOf iv).toNat)
    case atStart => exact ⟨0, -1, by omega, rfl, rfl, rfl, Lib.hid (by simp [cE]), Lib.hid rfl, rfl⟩
    case round =>
      obtain ⟨j, a, hj, rfl, rfl, rfl, HP, HD, rfl⟩ := hrel
      rcases Nat.lt_or_ge j n with hlt | hge
      · obtain ⟨c, hq⟩ : ∃ c, l[j]? = some c := ⟨_, List.getElem?_eq_getElem (by rw [HN.out]; exact hlt)⟩
        obtain ⟨b, off, rfl, hb, c0⟩ := HA.out.open hq
        have HQ := Lib.hid hq
        clear hq
        have KN := Lib.hid (wnum_any c 0 65535)
        have HB := Lib.hid (cE_bad HQ.out HP.out)
        rw [HR.out] at HB
        by_cases hv : c < 0 ∨ 65535 < c
        · rw [if_pos hv] at HB
          rw [show wN c 0 65535 = 5 from if_pos hv] at KN
          obtain rfl : R = 5 := HB.out
          clear hv
          go_wp2_with fail
          refine (KN.out _).mono ?_
          rintro e w2 ⟨rfl, rfl⟩
          clear KN
          go_wp2
          try simp only [Exit.noGoto]
          go_ret
          exact ⟨rfl, rfl⟩
        · rw [if_neg hv] at HB
          rw [show wN c 0 65535 = 0 from if_neg hv] at KN
          rw [← HD.out] at HB
          by_cases hc : c ≤ a
          · rw [if_pos hc] at HB
            obtain rfl : R = 3 := HB.out
            clear hv
            go_wp2_with fail
            refine (KN.out _).mono ?_
            rintro e w2 ⟨rfl, rfl⟩
            clear KN
            go_wp2
            try simp only [Exit.noGoto]
            go_ret
            exact ⟨rfl, rfl⟩
          · have HP2 : Hid (cE (-1) (l.take (j + 1)) = 0) := Lib.hid (cE_next l (-1) j c HQ.out HP.out (by omega) (by omega) (by have := HD.out; unfold ahd at this; omega))
            have HD2 : Hid (c = ahd l (j + 1)) := Lib.hid (by
              unfold ahd
              rw [if_neg (by omega), Nat.add_sub_cancel, List.getD, HQ.out]
              rfl)
            clear hv
            go_wp2_with fail
            refine (KN.out _).mono ?_
            rintro e w2 ⟨rfl, rfl⟩
            clear KN
            go_wp2
            exact ⟨⟨j + 1, c, by omega, rfl, rfl, by go_num, HP2, HD2, trivial⟩, by simp only [intOf]; omega⟩
      · obtain rfl : j = n := by omega
        obtain rfl : R = 0 := by
          rw [← HR.out]
          have h1 := HP.out
          rwa [List.take_of_length_le (by rw [HN.out]; exact Nat.le_refl _)] at h1
        go_wp2
        try simp only [Exit.noGoto]
        go_ret
        exact ⟨rfl, rfl⟩
  · rw [if_pos h0] at HR
    obtain rfl : s = R := HR.out
    have hs0 : (s != 0) = true := by simpa using h0
    go_wp2
    try simp only [Exit.noGoto]
    go_ret
    exact ⟨rfl, rfl⟩
end Go.Proofs.Ytlbfibnfmijahaa

namespace Go.Proofs.Ytlbfibnfmijahaa
open Go.RowKit
set_option maxRecDepth 100000

theorem run_item (d : Nat) (xs ys : Array Value) (x y : Int) (i : Nat) (is : List Nat) (W : World) (hx : xs[i]? = some (.int .i64 x)) (hy : ys[i]? = some (.int .i64 y)) :
    (Op.eqItems (d + 1) 3 (Try.prog.cellsOf 3) xs ys (i :: is)).run Try.prog W = if x = y then (Op.eqItems (d + 1) 3 (Try.prog.cellsOf 3) xs ys is).run Try.prog W else .ok false W := by
  have hc : Try.prog.cellsOf 3 = 1 := by kernel_rfl
  rw [Op.eqItems, hc]
  have h1 : (part 3 xs (i * 1)).run Try.prog W = .ok (.int .i64 x) W := by simp [part, go_sem, hx, Try.sizeOf3]
  have h2 : (part 3 ys (i * 1)).run Try.prog W = .ok (.int .i64 y) W := by simp [part, go_sem, hy, Try.sizeOf3]
  simp only [Sem.run_bind, h1, h2, Result.andThen_ok, run_equalIn_int W d 3 .i64 .i64 x y Try.underlying3]
  by_cases h : x = y
  · subst h; simp
  · simp [h]
theorem run_items (d : Nat) (W : World) : ∀ (is : List Nat) (xs ys : Array Value) (us vs : List Int), (∀ i ∈ is, xs[i]? = (us[i]?).map (Value.int .i64) ∧ i < us.length) → (∀ i ∈ is, ys[i]? = (vs[i]?).map (Value.int .i64) ∧ i < vs.length) →
    (Op.eqItems (d + 1) 3 (Try.prog.cellsOf 3) xs ys is).run Try.prog W = .ok (decide (∀ i ∈ is, us[i]? = vs[i]?)) W
  | [], xs, ys, us, vs, _, _ => by simp [Op.eqItems]
  | i :: is, xs, ys, us, vs, hx, hy => by
    have h1 := hx i (List.mem_cons_self ..)
    have h2 := hy i (List.mem_cons_self ..)
    have e1 : us[i]? = some us[i] := List.getElem?_eq_getElem h1.2
    have e2 : vs[i]? = some vs[i] := List.getElem?_eq_getElem h2.2
    rw [run_item d xs ys us[i] vs[i] i is W (by rw [h1.1, e1]; rfl) (by rw [h2.1, e2]; rfl), run_items d W is xs ys us vs (fun j hj => hx j (List.mem_cons_of_mem _ hj)) (fun j hj => hy j (List.mem_cons_of_mem _ hj))]
    by_cases h : us[i] = vs[i]
    · rw [if_pos h]
      congr 1
      have : us[i]? = vs[i]? := by rw [e1, e2, h]
      simp [this]
    · rw [if_neg h]
      congr 1
      have : us[i]? ≠ vs[i]? := by rw [e1, e2]; exact fun e => h (Option.some.inj e)
      simp [this]
theorem run_arr (t : TypeId) (n : Nat) (hu : Try.prog.underlying t = some (.array n 3)) (us vs : List Int) (h1 : us.length = n) (h2 : vs.length = n) (W : World) :
    (Op.equalIn 10000 t (.agg (us.map (Value.int .i64)).toArray) (.agg (vs.map (Value.int .i64)).toArray)).run Try.prog W = .ok (decide (us = vs)) W := by
  obtain ⟨i, hi⟩ : ∃ i, Try.prog.info? 3 = some i := Option.isSome_iff_exists.1 (by kernel_rfl)
  rw [show (10000 : Nat) = 9999 + 1 from rfl, run_equalIn_array W 9999 _ _ hu hi, show (9999 : Nat) = 9998 + 1 from rfl, run_items 9998 W (List.range n) _ _ us vs (fun j hj => ⟨by simp, by rw [List.mem_range] at hj; omega⟩) (fun j hj => ⟨by simp, by rw [List.mem_range] at hj; omega⟩)]
  congr 1
  refine decide_eq_decide.2 ⟨fun h => List.ext_getElem? fun j => ?_, fun h => by subst h; simp⟩
  rcases Nat.lt_or_ge j n with hj | hj
  · exact h j (List.mem_range.2 hj)
  · rw [List.getElem?_eq_none (by omega), List.getElem?_eq_none (by omega)]
/-- arrays of six -/
theorem eql_six (a0 a1 a2 a3 a4 a5 b0 b1 b2 b3 b4 b5 : Int) (W : World) : (binOp .eql 29 (.agg #[.int .i64 a0, .int .i64 a1, .int .i64 a2, .int .i64 a3, .int .i64 a4, .int .i64 a5]) (.agg #[.int .i64 b0, .int .i64 b1, .int .i64 b2, .int .i64 b3, .int .i64 b4, .int .i64 b5])).run Try.prog W =
    .ok (.bool (decide ([a0, a1, a2, a3, a4, a5] = [b0, b1, b2, b3, b4, b5]))) W := by
  have := run_arr 29 6 Try.underlying29 [a0, a1, a2, a3, a4, a5] [b0, b1, b2, b3, b4, b5] rfl rfl W
  rw [run_eql_struct]
  simp only [List.map_cons, List.map_nil] at this
  rw [this]
  rfl
/-- points -/
theorem neq_pt (a0 a1 b0 b1 : Int) (W : World) : (binOp .neq 63 (.agg #[.int .i64 a0, .int .i64 a1]) (.agg #[.int .i64 b0, .int .i64 b1])).run Try.prog W = .ok (.bool (!decide ([a0, a1] = [b0, b1]))) W := by
  rw [run_neq_struct, show (10000 : Nat) = 9999 + 1 from rfl, run_equalIn_agg W 9999 63 _ _ (by kernel_rfl) (by kernel_rfl)]
  by_cases h1 : a0 = b0
  · by_cases h2 : a1 = b1
    · simp [Program.fieldsOf, Try.underlying63, Op.eqFields, part, go_sem, Try.sizeOf3, h1, h2]
    · simp [Program.fieldsOf, Try.underlying63, Op.eqFields, part, go_sem, Try.sizeOf3, h1, h2]
  · simp [Program.fieldsOf, Try.underlying63, Op.eqFields, part, go_sem, Try.sizeOf3, h1]
end Go.Proofs.Ytlbfibnfmijahaa

namespace Go.Proofs.Ytlbfibnfmijahaa
open Go.RowKit
set_option maxRecDepth 100000

theorem eqi_lens (a1 a2 : Option Addr) (n1 n2 c1 c2 : Nat) (w : World) (h : n1 ≠ n2) :
    Calls Try.prog 21 #[.slice a1 n1 c1, .slice a2 n2 c2] w fun e w' => e = .returned (.bool false) ∧ ∃ n, w' = w.drewN n := by
  have h2 : ((n1 : Int) != (n2 : Int)) = true := by simp; omega
  have h3 : ¬ (n1 : Int) = (n2 : Int) := by omega
  go_enter Try.func21, Try.ntmps21
  go_wp2
  go_ret
  exact ⟨rfl, 0, rfl⟩
theorem eqi_any (B : Nat) (a1 a2 : Option Addr) (n1 n2 c1 c2 : Nat) (xs ys : List Int) (w : World) (e1 : xs.length = n1) (e2 : ys.length = n2) (l1 : n1 ≤ 9223372036854775807) (h1 : Nums .i64 w B a1 xs) (h2 : Nums .i64 w B a2 ys) :
    Calls Try.prog 21 #[.slice a1 n1 c1, .slice a2 n2 c2] w fun e w' => e = .returned (.bool (decide (xs = ys))) ∧ ∃ n, w' = w.drewN n := by
  by_cases hl : n1 = n2
  · subst hl
    have HE1 := Lib.hid e1
    have HE2 := Lib.hid e2
    clear e1 e2
    go_enter Try.func21, Try.ntmps21
    go_wp2
    go_loopw [13] (fun i wr => ∃ k : Nat, k ≤ n1 ∧ i = .int .i64 k ∧ Hid (xs.take k = ys.take k) ∧ ∃ n, wr = w.drewN n) (fun i _ => n1 - (intOf i).toNat)
    case atStart => exact ⟨0, by omega, rfl, rfl, 0, rfl⟩
    case round =>
      obtain ⟨k, hk, rfl, HT, n, rfl⟩ := hrel
      by_cases hlt : k < n1
      · obtain ⟨x, hx⟩ : ∃ x, xs[k]? = some x := ⟨_, List.getElem?_eq_getElem (by rw [HE1.out]; exact hlt)⟩
        obtain ⟨y, hy⟩ : ∃ y, ys[k]? = some y := ⟨_, List.getElem?_eq_getElem (by rw [HE2.out]; exact hlt)⟩
        obtain ⟨b1, o1, rfl, hb1, hc1⟩ := h1.open hx
        obtain ⟨b2, o2, rfl, hb2, hc2⟩ := h2.open hy
        have HX := Lib.hid hx
        have HY := Lib.hid hy
        clear h1 h2 hx hy
        have hlt' : (k : Int) < (n1 : Int) := by omega
        by_cases hxy : x = y
        · have hq : (x != y) = false := by simp [hxy]
          have HQ : Hid (xs.take (k + 1) = ys.take (k + 1)) := by
            show _ = _
            rw [List.take_add_one, List.take_add_one, HT.out, HX.out, HY.out, hxy]
          subst hxy
          go_wp2
          go_quiet (fail)
          go_wp2
          go_roundw
          case rel => exact ⟨k + 1, by omega, by go_num, HQ, _, rfl⟩
          case measure => simp [intOf]; omega
        · have hq : (x != y) = true := by simp [hxy]
          have HQ : Hid (¬ xs = ys) := fun e => hxy (by
            have h3 := HX.out
            rw [e, HY.out] at h3
            exact (Option.some.inj h3).symm)
          clear hxy
          go_wp2
          go_quiet (fail)
          go_wp2
          go_ret
          exact ⟨by rw [decide_eq_false HQ.out]; rfl, n + nq, by simp [World.drewN, Nat.add_assoc]⟩
      · have hk' : k = n1 := by omega
        have HQ : Hid (xs = ys) := by
          have h3 := HT.out
          rw [List.take_of_length_le (by rw [HE1.out]; omega), List.take_of_length_le (by rw [HE2.out]; omega)] at h3
          exact h3
        go_wp2
        go_ret
        exact ⟨by rw [decide_eq_true HQ.out]; rfl, n, rfl⟩
  · refine (eqi_lens a1 a2 n1 n2 c1 c2 w hl).mono ?_
    rintro e w' ⟨rfl, hd⟩
    exact ⟨by rw [decide_eq_false (fun e => hl (by rw [← e1, ← e2, e]))], hd⟩
theorem eqp_lens (a1 a2 : Option Addr) (n1 n2 c1 c2 : Nat) (w : World) (h : n1 ≠ n2) :
    Calls Try.prog 20 #[.slice a1 n1 c1, .slice a2 n2 c2] w fun e w' => e = .returned (.bool false) ∧ ∃ n, w' = w.drewN n := by
  have h2 : ((n1 : Int) != (n2 : Int)) = true := by simp; omega
  have h3 : ¬ (n1 : Int) = (n2 : Int) := by omega
  go_enter Try.func20, Try.ntmps20
  go_wp2
  go_ret
  exact ⟨rfl, 0, rfl⟩
theorem eqp_any (B : Nat) (a1 a2 : Option Addr) (n1 n2 c1 c2 : Nat) (xs ys : List (Int × Int)) (w : World) (e1 : xs.length = n1) (e2 : ys.length = n2) (l1 : n1 ≤ 9223372036854775807) (h1 : Nums .i64 w B a1 (fl2 xs)) (h2 : Nums .i64 w B a2 (fl2 ys)) :
    Calls Try.prog 20 #[.slice a1 n1 c1, .slice a2 n2 c2] w fun e w' => e = .returned (.bool (decide (xs = ys))) ∧ ∃ n, w' = w.drewN n := by
  by_cases hl : n1 = n2
  · subst hl
    have HE1 := Lib.hid e1
    have HE2 := Lib.hid e2
    clear e1 e2
    go_enter Try.func20, Try.ntmps20
    go_wp2
    go_loopw [13] (fun i wr => ∃ k : Nat, k ≤ n1 ∧ i = .int .i64 k ∧ Hid (xs.take k = ys.take k) ∧ ∃ n, wr = w.drewN n) (fun i _ => n1 - (intOf i).toNat)
    case atStart => exact ⟨0, by omega, rfl, rfl, 0, rfl⟩
    case round =>
      obtain ⟨k, hk, rfl, HT, n, rfl⟩ := hrel
      by_cases hlt : k < n1
      · obtain ⟨⟨x, x2⟩, hx⟩ : ∃ x, xs[k]? = some x := ⟨_, List.getElem?_eq_getElem (by rw [HE1.out]; exact hlt)⟩
        obtain ⟨⟨y, y2⟩, hy⟩ : ∃ y, ys[k]? = some y := ⟨_, List.getElem?_eq_getElem (by rw [HE2.out]; exact hlt)⟩
        obtain ⟨b1, o1, rfl, hb1, hc1, hd1⟩ := pts_two h1 hx
        obtain ⟨b2, o2, rfl, hb2, hc2, hd2⟩ := pts_two h2 hy
        have HX := Lib.hid hx
        have HY := Lib.hid hy
        dsimp only at hc1 hd1 hc2 hd2
        clear h1 h2 hx hy
        have hlt' : (k : Int) < (n1 : Int) := by omega
        by_cases hxy : x = y ∧ x2 = y2
        · obtain ⟨rfl, rfl⟩ := hxy
          have hnp : ∀ W, (binOp .neq 63 (.agg #[.int .i64 x, .int .i64 x2]) (.agg #[.int .i64 x, .int .i64 x2])).run Try.prog W = .ok (.bool false) W := fun W => by rw [neq_pt]; simp
          have HQ : Hid (xs.take (k + 1) = ys.take (k + 1)) := by
            show _ = _
            rw [List.take_add_one, List.take_add_one, HT.out, HX.out, HY.out]
          go_wp2
          go_quiet (fail)
          go_wp2
          go_roundw
          case rel => exact ⟨k + 1, by omega, by go_num, HQ, _, rfl⟩
          case measure => simp [intOf]; omega
        · have hnp : ∀ W, (binOp .neq 63 (.agg #[.int .i64 x, .int .i64 x2]) (.agg #[.int .i64 y, .int .i64 y2])).run Try.prog W = .ok (.bool true) W := fun W => by rw [neq_pt, decide_eq_false (by simpa using hxy)]; rfl
          have HQ : Hid (¬ xs = ys) := fun e => hxy (by
            have h3 := HX.out
            rw [e, HY.out] at h3
            simp at h3
            exact ⟨h3.1.symm, h3.2.symm⟩)
          clear hxy
          go_wp2
          go_quiet (fail)
          go_wp2
          go_ret
          exact ⟨by rw [decide_eq_false HQ.out]; rfl, n + nq, by simp [World.drewN, Nat.add_assoc]⟩
      · have hk' : k = n1 := by omega
        have HQ : Hid (xs = ys) := by
          have h3 := HT.out
          rw [List.take_of_length_le (by rw [HE1.out]; omega), List.take_of_length_le (by rw [HE2.out]; omega)] at h3
          exact h3
        go_wp2
        go_ret
        exact ⟨by rw [decide_eq_true HQ.out]; rfl, n, rfl⟩
  · refine (eqp_lens a1 a2 n1 n2 c1 c2 w hl).mono ?_
    rintro e w' ⟨rfl, hd⟩
    exact ⟨by rw [decide_eq_false (fun e => hl (by rw [← e1, ← e2, e]))], hd⟩
end Go.Proofs.Ytlbfibnfmijahaa

namespace Go.Proofs.Ytlbfibnfmijahaa
open Go.RowKit Go.Shelf
set_option maxRecDepth 100000
attribute [local go_sem] Oper.semAt_some

/-- a message's cells, its lists' slices given -/
def mC (M : Mg) (P C : Value) : Array Value := #[.int .i64 M.k, .int .i64 M.n0, .int .i64 M.n1, .int .i64 M.n2, .int .i64 M.n3, .int .i64 M.n4, .int .i64 M.n5, P, C, .string M.tx, .string M.tg]
def mV (M : Mg) (P C : Value) : Value := .agg (mC M P C)
/-- its lists lie below B -/
structure MAt (w : World) (B : Nat) (M : Mg) (P C : Value) : Prop where
  p : ∃ a c, P = .slice a M.p.length c ∧ M.p.length ≤ c ∧ Nums .i64 w B a (fl2 M.p)
  c : ∃ a c, C = .slice a M.c.length c ∧ M.c.length ≤ c ∧ Nums .i64 w B a M.c
/-- it isn't large -/
structure Msm (M : Mg) : Prop where
  p : M.p.length ≤ 40
  c : M.c.length ≤ 40
  tx : M.tx.size ≤ 80
  tg : M.tg.size ≤ 80
section
variable {w w' : World} {B B' : Nat} {M : Mg} {P C : Value}
theorem MAt.below (h : MAt w B M P C) (hb : Below B w w') : MAt w' B M P C := by
  obtain ⟨⟨a, c, h1, h2, h3⟩, ⟨a', c', h4, h5, h6⟩⟩ := h
  exact ⟨⟨a, c, h1, h2, h3.below hb⟩, ⟨a', c', h4, h5, h6.below hb⟩⟩
theorem MAt.mono (h : MAt w B M P C) (hB : B ≤ B') : MAt w B' M P C := by
  obtain ⟨⟨a, c, h1, h2, h3⟩, ⟨a', c', h4, h5, h6⟩⟩ := h
  exact ⟨⟨a, c, h1, h2, h3.mono hB⟩, ⟨a', c', h4, h5, h6.mono hB⟩⟩
theorem MAt.later (h : MAt w w.heap.size M P C) (hb : Below w.heap.size w w') : MAt w' w'.heap.size M P C := (h.below hb).mono hb.size
end

theorem row_cell {w : World} {b : Nat} {cs : Array Value} {t : TypeId} (h : w.heap[b]? = some (.cells cs t (0, 0))) (j : Nat) (x : Value) (hx : cs[j]? = some x) : w.cell? ⟨b, j, none⟩ = some x := by simp [World.cell?, h, hx]
theorem below_of_drewN {B : Nat} (w : World) (n : Nat) : Below B w (w.drewN n) := below_drewN (Below.refl B w) n
set_option maxHeartbeats 4000000 in
theorem msame_any (M M' : Mg) (P C P' C' : Value) (w : World) (hs : Msm M) (h1 : MAt w w.heap.size M P C) (h2 : MAt w w.heap.size M' P' C') :
    Calls Try.prog 11 #[mV M P C, mV M' P' C'] w fun e w' => e = .returned (.bool (decide (M = M'))) ∧ Below w.heap.size w w' := by
  obtain ⟨w2, hw2⟩ : ∃ w2, w2 = (w.alloc (.cells (mC M P C) 33)).alloc (.cells (mC M' P' C') 33) := ⟨_, rfl⟩
  have hb2 : Below w.heap.size w w2 := by rw [hw2]; exact ((Below.refl _ w).alloc (Nat.le_refl _) _).alloc (by simp) _
  have HW := Lib.hid hw2
  have g1 := (h1.below hb2).mono hb2.size
  have g2 := (h2.below hb2).mono hb2.size
  obtain ⟨k, n0, n1, n2, n3, n4, n5, p, c, tx, tg⟩ := M
  obtain ⟨k', n0', n1', n2', n3', n4', n5', p', c', tx', tg'⟩ := M'
  obtain ⟨⟨a, cp, rfl, hcp, ha⟩, ⟨b, cb, rfl, hcb, hb⟩⟩ := g1
  obtain ⟨⟨a', cp', rfl, hcp', ha'⟩, ⟨b', cb', rfl, hcb', hb'⟩⟩ := g2
  dsimp only at *
  have hl1 := hs.p
  have hl2 := hs.c
  dsimp only at hl1 hl2
  obtain ⟨np, hnp⟩ : ∃ np, p.length = np := ⟨_, rfl⟩
  obtain ⟨nc, hnc⟩ : ∃ nc, c.length = nc := ⟨_, rfl⟩
  obtain ⟨np', hnp'⟩ : ∃ np', p'.length = np' := ⟨_, rfl⟩
  obtain ⟨nc', hnc'⟩ : ∃ nc', c'.length = nc' := ⟨_, rfl⟩
  rw [hnp] at hcp hl1
  rw [hnc] at hcb hl2
  rw [hnp'] at hcp'
  rw [hnc'] at hcb'
  have KP := Lib.hid (eqp_any w2.heap.size a a' np np' cp cp' p p' w2 hnp hnp' (by omega) ha ha')
  have KC := fun W (hW : Below w2.heap.size w2 W) => eqi_any w2.heap.size b b' nc nc' cb cb' c c' W hnc hnc' (by omega) (hb.below hW) (hb'.below hW)
  obtain ⟨DC, hDC⟩ : ∃ DC, decide (c = c') = DC := ⟨_, rfl⟩
  rw [hDC] at KC
  have KC := Lib.hid KC
  unfold mV
  unfold mC at HW ⊢
  dsimp only at HW ⊢
  rw [hnp, hnc, hnp', hnc'] at HW ⊢
  clear hw2 h1 h2 hb2 ha ha' hb hb' hs hnp hnc hnp' hnc'
  have hfin : ∀ W, Below w2.heap.size w2 W → Hid (Below w.heap.size w W) := fun W hW => by
    have hb2 : Below w.heap.size w w2 := by rw [HW.out]; exact ((Below.refl _ w).alloc (Nat.le_refl _) _).alloc (by simp) _
    exact Lib.hid (hb2.trans (hW.mono hb2.size))
  obtain ⟨D, hD⟩ : ∃ D, decide ((⟨k, n0, n1, n2, n3, n4, n5, p, c, tx, tg⟩ : Mg) = ⟨k', n0', n1', n2', n3', n4', n5', p', c', tx', tg'⟩) = D := ⟨_, rfl⟩
  rw [hD]
  by_cases hk : k = k'
  case neg =>
    have hk1 : (k == k') = false := by simpa using hk
    obtain rfl : D = false := by rw [← hD, decide_eq_false (fun e => hk (congrArg Mg.k e))]
    have HB := hfin w2 (Below.refl _ _)
    rw [HW.out] at HB
    clear hD KP KC hfin HW
    go_enter Try.func11, Try.ntmps11
    go_wp2
    go_ret
    exact ⟨rfl, HB.out⟩
  subst hk
  by_cases hN : [n0, n1, n2, n3, n4, n5] = [n0', n1', n2', n3', n4', n5']
  case neg =>
    have he : ∀ W, (binOp .eql 29 (.agg #[.int .i64 n0, .int .i64 n1, .int .i64 n2, .int .i64 n3, .int .i64 n4, .int .i64 n5]) (.agg #[.int .i64 n0', .int .i64 n1', .int .i64 n2', .int .i64 n3', .int .i64 n4', .int .i64 n5'])).run Try.prog W = .ok (.bool false) W := fun W => by rw [eql_six, decide_eq_false hN]
    obtain rfl : D = false := by
      rw [← hD, decide_eq_false (fun e => hN (by injection e with e0 e1 e2 e3 e4 e5 e6; rw [e1, e2, e3, e4, e5, e6]))]
    have HB := hfin w2 (Below.refl _ _)
    rw [HW.out] at HB
    clear hD KP KC hfin HW hN
    go_enter Try.func11, Try.ntmps11
    go_wp2
    go_ret
    exact ⟨rfl, HB.out⟩
  simp only [List.cons.injEq, and_true] at hN
  obtain ⟨rfl, rfl, rfl, rfl, rfl, rfl⟩ := hN
  have he : ∀ W, (binOp .eql 29 (.agg #[.int .i64 n0, .int .i64 n1, .int .i64 n2, .int .i64 n3, .int .i64 n4, .int .i64 n5]) (.agg #[.int .i64 n0, .int .i64 n1, .int .i64 n2, .int .i64 n3, .int .i64 n4, .int .i64 n5])).run Try.prog W = .ok (.bool true) W := fun W => by rw [eql_six, decide_eq_true rfl]
  have q1 : w2.heap[w.heap.size]? = some (.cells #[.int .i64 k, .int .i64 n0, .int .i64 n1, .int .i64 n2, .int .i64 n3, .int .i64 n4, .int .i64 n5, .slice a np cp, .slice b nc cb, .string tx, .string tg] 33 (0, 0)) := by
    rw [HW.out, Below.heap_alloc _ _ _ (by simp)]; exact World.alloc_heap_new _ _
  have q2 : w2.heap[w.heap.size + 1]? = some (.cells #[.int .i64 k, .int .i64 n0, .int .i64 n1, .int .i64 n2, .int .i64 n3, .int .i64 n4, .int .i64 n5, .slice a' np' cp', .slice b' nc' cb', .string tx', .string tg'] 33 (0, 0)) := by
    rw [HW.out, show w.heap.size + 1 = (w.alloc (.cells #[.int .i64 k, .int .i64 n0, .int .i64 n1, .int .i64 n2, .int .i64 n3, .int .i64 n4, .int .i64 n5, .slice a np cp, .slice b nc cb, .string tx, .string tg] 33)).heap.size by simp]; exact World.alloc_heap_new _ _
  have k1 := fun j x hx => row_cell q1 j x hx
  have k2 := fun j x hx => row_cell q2 j x hx
  have c8 := k1 8 _ rfl; have c9 := k1 9 _ rfl; have c10 := k1 10 _ rfl
  have d8 := k2 8 _ rfl; have d9 := k2 9 _ rfl; have d10 := k2 10 _ rfl
  clear k1 k2 q1 q2
  by_cases hp : p = p'
  case neg =>
    rw [decide_eq_false hp] at KP
    obtain rfl : D = false := by rw [← hD, decide_eq_false (fun e => hp (congrArg Mg.p e))]
    clear hD KC hp hDC
    go_enter Try.func11, Try.ntmps11
    go_wp2_with fail
    rw [← HW.out]
    refine KP.out.mono ?_
    rintro e W1 ⟨rfl, m1, rfl⟩
    go_wp2
    go_ret
    exact ⟨rfl, (hfin _ (below_of_drewN _ _)).out⟩
  rw [decide_eq_true hp] at KP
  subst hp
  by_cases hc : c = c'
  case neg =>
    obtain rfl : DC = false := by rw [← hDC, decide_eq_false hc]
    obtain rfl : D = false := by rw [← hD, decide_eq_false (fun e => hc (congrArg Mg.c e))]
    clear hD hc hDC
    go_enter Try.func11, Try.ntmps11
    go_wp2_with fail
    rw [← HW.out]
    refine KP.out.mono ?_
    rintro e W1 ⟨rfl, m1, rfl⟩
    go_wp2_with fail
    refine (KC.out _ (below_of_drewN _ _)).mono ?_
    rintro e W2 ⟨rfl, m2, rfl⟩
    go_wp2
    go_ret
    exact ⟨rfl, (hfin _ (below_of_drewN w2 _)).out⟩
  obtain rfl : DC = true := by rw [← hDC, decide_eq_true hc]
  subst hc
  clear hDC
  by_cases ht : tx = tx'
  case neg =>
    have hs := str_ne ht
    obtain rfl : D = false := by rw [← hD, decide_eq_false (fun e => ht (congrArg Mg.tx e))]
    clear hD ht
    go_enter Try.func11, Try.ntmps11
    go_wp2_with fail
    rw [← HW.out]
    refine KP.out.mono ?_
    rintro e W1 ⟨rfl, m1, rfl⟩
    go_wp2_with fail
    refine (KC.out _ (below_of_drewN _ _)).mono ?_
    rintro e W2 ⟨rfl, m2, rfl⟩
    go_wp2
    go_ret
    exact ⟨rfl, (hfin _ (below_of_drewN w2 _)).out⟩
  subst ht
  by_cases hg : tg = tg'
  case neg =>
    have hs := str_ne hg
    obtain rfl : D = false := by rw [← hD, decide_eq_false (fun e => hg (congrArg Mg.tg e))]
    clear hD hg
    go_enter Try.func11, Try.ntmps11
    go_wp2_with fail
    rw [← HW.out]
    refine KP.out.mono ?_
    rintro e W1 ⟨rfl, m1, rfl⟩
    go_wp2_with fail
    refine (KC.out _ (below_of_drewN _ _)).mono ?_
    rintro e W2 ⟨rfl, m2, rfl⟩
    go_wp2
    go_ret
    exact ⟨rfl, (hfin _ (below_of_drewN w2 _)).out⟩
  subst hg
  obtain rfl : D = true := by rw [← hD, decide_eq_true rfl]
  clear hD
  go_enter Try.func11, Try.ntmps11
  go_wp2_with fail
  rw [← HW.out]
  refine KP.out.mono ?_
  rintro e W1 ⟨rfl, m1, rfl⟩
  go_wp2_with fail
  refine (KC.out _ (below_of_drewN _ _)).mono ?_
  rintro e W2 ⟨rfl, m2, rfl⟩
  go_wp2
  go_ret
  exact ⟨rfl, (hfin _ (below_of_drewN w2 _)).out⟩
end Go.Proofs.Ytlbfibnfmijahaa

namespace Go.Proofs.Ytlbfibnfmijahaa
open Go.RowKit

section
variable {e : TypeId} {k : IntKind} {w w1 w2 : World} {L zs : List Int} {v v' : Value}
theorem MadeK.more (h : MadeK e k w w1 L v) (hown : w2.ownsRow w.heap.size e 1 v' (L.length + zs.length) (L.map (Value.int k) ++ zs.map (Value.int k))) (hg : w1.grownBy w2 v.ownBlock) : MadeK e k w w2 (L ++ zs) v' :=
  ⟨by simpa using hown, h.2.grown hg (by have := h.2.size; omega) (fun g hk => (h.own_ge hk).1)⟩
/-- a store elsewhere, above -/
theorem MadeK.store {q : Addr} (h : MadeK e k w w1 L v) (hq : ∀ g, v.ownBlock = some g → g ≠ q.block) (hw : w.heap.size ≤ q.block) (u : Value) : MadeK e k w (w1.setCell q u) L v := by
  refine ⟨h.1.kept (row := some q.block) ⟨rfl, rfl, rfl, by simp [World.setCell], fun j _ hj => Below.heap_setCell _ _ _ _ (fun e => hj (by rw [e]))⟩ ?_, h.2.setCell hw u⟩
  right
  intro he
  exact hq _ he rfl
theorem MadeK.since {w0 : World} (h : MadeK e k w w1 L v) (hb : Below w0.heap.size w0 w) : MadeK e k w0 w1 L v := by
  have hs := hb.size
  refine ⟨⟨h.1.1, ?_⟩, hb.trans (h.2.mono hs)⟩
  rcases h.1.2 with h | ⟨g, cap, cur, hv, hg, rest⟩
  · exact .inl h
  · exact .inr ⟨g, cap, cur, hv, by omega, rest⟩
end
end Go.Proofs.Ytlbfibnfmijahaa

namespace Go.Proofs.Ytlbfibnfmijahaa
open Go.RowKit

theorem wpList_append_szd {P : Program} {w : World} {ops : Array Oper} {rest : List Oper} {o : Oper} {a : Act} {Q : Exit → Act → World → Prop} (hwt : Region.wanted o (yielded ops a.tmps) = true) (s x : Operand) (t : TypeId)
    (ho : o.op = .call { callee := .builtin .append, args := #[s, x], argTypes := #[t, t] })
    (base : Nat) (e : TypeId) (i : TypeInfo) (z : Value) (size bytes : Nat) (ht : P.underlying t = some (.slice e)) (hi : P.info? e = some i) (hz : i.zero = some z) (hsize : i.size = size) (hby : i.bytes = bytes) (hzs : z.cells.size = size) (hsz : 0 < size)
    (k : IntKind) (n : Nat) (xs : List Value) (zs : List Int) (v : Value) (hs : a.eval s = v) (hown : w.ownsRow base e size v n xs) (A : Option Addr) (m c B : Nat) (hx : a.eval x = .slice A m c) (hm : zs.length = m * size) (hn : Nums k w B A zs)
    (h63 : n + m ≤ maxLen) (hbytes : (n + m) * bytes ≤ 140737488355328) (hbase : base ≤ w.heap.size)
    (h : ∀ v' w', w'.ownsRow base e size v' (n + m) (xs ++ zs.map (Value.int k)) → w.grownBy w' v.ownBlock → wpList P ops Q rest (a.put o.dst v') w') : wpList P ops Q (o :: rest) a w := by
  simp only [wpList, hwt, if_true]
  left
  by_cases hz0 : zs = []
  · subst hz0
    obtain rfl : m = 0 := by
      have h1 : m * size = 0 := by simpa using hm.symm
      rcases Nat.mul_eq_zero.1 h1 with h | h <;> omega
    have hv : ∃ b n cap, v = .slice b n cap ∧ n ≤ cap := by
      rcases hown.2 with ⟨rfl, _⟩ | ⟨g, cap, cur, rfl, _, _, hle, _⟩
      · exact ⟨_, _, _, rfl, Nat.le_refl _⟩
      · exact ⟨_, _, _, rfl, hle⟩
    obtain ⟨b, q, cap, rfl, hle⟩ := hv
    refine Lib.wp_append_run w s x t t ho _ _ hs hx _ w (run_append_nothing w t t o.type e i ht hi b q cap hle _ ?_) (h _ _ (by simpa using hown) ⟨rfl, rfl, rfl, Nat.le_refl _, fun _ _ _ => rfl⟩)
    cases A with
    | none => exact ⟨.inl ⟨e, ht⟩, fun _ => rfl, run_firstCells_none w i.size 0 0 c, run_firstCells_none w.drew i.size 0 0 c, by simp, fun _ h => by cases h⟩
    | some ad => exact Src.ofSlice w ht ad 0 c [] (by simp) (by simp) (fun _ h => by cases h)
  · obtain ⟨b1, o1, rfl, hb1, hc⟩ := hn hz0
    refine wp_append_own w s x t ho base e i z size bytes ht hi hz hsize hby hzs hsz v n xs hs hown ⟨b1, o1, none⟩ m c (zs.map (Value.int k)) hx (by simpa using hm) (fun j u hj => ?_) (fun u hu => by obtain ⟨y, _, rfl⟩ := List.mem_map.1 hu; rfl) h63 hbytes hbase fun v' w' h1 h2 _ => h v' w' h1 h2
    rw [List.getElem?_map] at hj
    obtain ⟨y, hy, rfl⟩ := Option.map_eq_some_iff.1 hj
    rw [Addr.add_lit]
    exact hc j y hy
/-- numbers of a row that the call made, elements of any size -/
theorem nums_of_own {w : World} {base e size n : Nat} {k : IntKind} {v : Value} {zs : List Int} (h : w.ownsRow base e size v n (zs.map (Value.int k))) (_hsz : 0 < size) : ∃ A c, v = .slice A n c ∧ n ≤ c ∧ Nums k w w.heap.size A zs := by
  have h1 := h.2
  rcases h1 with ⟨rfl, h0⟩ | ⟨g, cap, cur, rfl, hg, hh, hn, _⟩
  · subst h0
    have h2 := h.1
    rw [Nat.zero_mul] at h2
    have : zs = [] := by simpa using h2
    subst this
    exact ⟨none, 0, rfl, Nat.le_refl _, Nums.nil⟩
  · refine ⟨_, cap, rfl, hn, fun _ => ⟨g, 0, rfl, (Array.getElem?_eq_some_iff.1 hh).1, fun j c hj => ?_⟩⟩
    have := h.cells (g := g) rfl j (.int k c) (by rw [List.getElem?_map, hj]; rfl)
    rwa [Addr.add_lit] at this
end Go.Proofs.Ytlbfibnfmijahaa

namespace Go.Proofs.Ytlbfibnfmijahaa
open Go.RowKit

end Go.Proofs.Ytlbfibnfmijahaa

namespace Go.Proofs.Ytlbfibnfmijahaa
open Go.RowKit Go.Shelf
set_option maxRecDepth 100000
attribute [local go_sem] Oper.semAt_some

/-- fields that lie in a row, at lo or above -/
def FdsIn (lo : Nat) (w : World) (A : Option Addr) (L : List Fd) : Prop := ∀ (j : Nat) (f : Fd), L[j]? = some f → ∃ g, A = some ⟨g, 0, none⟩ ∧ lo ≤ g ∧ g < w.heap.size ∧ ∀ (q : Nat) (u : Value), f.cs[q]? = some u → w.cell? ⟨g, j * 7 + q, none⟩ = some u
def OfI (L : List Fd) (w : World) (e : Ending) (w' : World) : Prop := ∃ A c, e = .returned (.slice A L.length c) ∧ L.length ≤ c ∧ FdsIn w.heap.size w' A L ∧ Below w.heap.size w w'
theorem FRow.lt {T : TypeId} {w : World} {g : Nat} {L : List Fd} (h : FRow T w g L) : g < w.heap.size := (Array.getElem?_eq_some_iff.1 h).1
theorem FRow.seven {T : TypeId} {w : World} {g : Nat} {L : List Fd} (h : FRow T w g L) {j : Nat} {f : Fd} (hj : L[j]? = some f) :
    w.cell? ⟨g, j * 7, none⟩ = some (.string f.nm) ∧ w.cell? ⟨g, j * 7 + 1, none⟩ = some (.int .i64 f.so) ∧ w.cell? ⟨g, j * 7 + 2, none⟩ = some (.int .i64 f.pl) ∧ w.cell? ⟨g, j * 7 + 3, none⟩ = some (.int .i64 f.le) ∧ w.cell? ⟨g, j * 7 + 4, none⟩ = some (.int .i64 f.mo) ∧ w.cell? ⟨g, j * 7 + 5, none⟩ = some (.int .i64 f.si) ∧ w.cell? ⟨g, j * 7 + 6, none⟩ = some (.int .i64 f.ab) :=
  ⟨h.cell hj (q := 0) (by omega), h.cell hj (q := 1) (by omega), h.cell hj (q := 2) (by omega), h.cell hj (q := 3) (by omega), h.cell hj (q := 4) (by omega), h.cell hj (q := 5) (by omega), h.cell hj (q := 6) (by omega)⟩
theorem own_below7 {W W' : World} {base e size n : Nat} {v : Value} {xs : List Value} (h : W.ownsRow base e size v n xs) (hb : Below W.heap.size W W') : W'.ownsRow base e size v n xs := by
  refine ⟨h.1, h.2.imp id ?_⟩
  rintro ⟨g, cap, cur, hv, hg, hh, r⟩
  exact ⟨g, cap, cur, hv, hg, (hb.block g (Array.getElem?_eq_some_iff.1 hh).1).trans hh, r⟩
theorem OfR.in {T : TypeId} {L : List Fd} {w w' : World} {e : Ending} (h : OfR T L w e w') : OfI L w e w' := by
  obtain ⟨A, c, rfl, hc, hA, hb⟩ := h
  refine ⟨A, c, rfl, hc, fun j f hj => ?_, hb⟩
  obtain ⟨g, rfl, hg, hF⟩ := hA (by intro e; subst e; simp at hj)
  refine ⟨g, rfl, hg, hF.lt, fun q u hq => ?_⟩
  have hq7 : q < 7 := by
    have := (Array.getElem?_eq_some_iff.1 hq).1
    simpa [Fd.cs] using this
  rw [hF.cell hj hq7]
  exact hq

end Go.Proofs.Ytlbfibnfmijahaa

namespace Go.Proofs.Ytlbfibnfmijahaa
open Go.RowKit Go.Shelf
set_option maxRecDepth 100000
attribute [local go_sem] Oper.semAt_some

/-- a box B with a list of names, its row at base or above -/
structure Nm (tn ts : TypeId) (B base : Nat) (w4 : World) (l : List ByteArray) (V : World) : Prop where
  box : ∃ u n X, V.heap[B]? = some (.cells #[u] ts (0, 0)) ∧ V.ownsRow base tn 1 u n X ∧ n = l.length ∧ X = l.map Value.string
  off : Off (fun q => q = B) w4 V
section
variable {tn ts tf ti : TypeId} {B base g s n : Nat} {X : List Value} {w4 V V' W4 : World} {l : List ByteArray} {u v' : Value} {o : Obj} {x : ByteArray}
theorem Nm.putObj {q : Nat} {o o' : Obj} (h : Nm tn ts B base w4 l V) (hw : w4.heap.size ≤ q) (ho : V.heap[q]? = some o) (hc : o.isCells = false) : Nm tn ts B base w4 l (V.putObj q o') := by
  obtain ⟨u, n, X, h1, h2, h3⟩ := h.box
  refine ⟨⟨u, n, X, (World.putObj_heap_other (fun e => ?_)).trans h1, ownsRow_putObj h2 _ ho hc, h3⟩, off_below h.off (below_put V o' hw)⟩
  subst e
  rw [h1] at ho
  injection ho with ho
  subst ho
  cases hc
theorem Nm.later (h : Nm tn ts B base w4 l V) (hb : Below V.heap.size V V') : Nm tn ts B base w4 l V' := by
  obtain ⟨u, n, X, h1, h2, h3⟩ := h.box
  exact ⟨⟨u, n, X, (hb.block _ (Array.getElem?_eq_some_iff.1 h1).1).trans h1, own_below7 h2 hb, h3⟩, off_below h.off (hb.mono h.off.size)⟩
theorem Nm.start (h : w4.heap[B]? = some (.cells #[.slice none 0 0] ts (0, 0))) (o1 o2 : Obj) : Nm tn ts B base w4 [] ((w4.alloc o1).alloc o2) :=
  Nm.later (Nm.later (V := w4) ⟨⟨_, 0, [], h, World.ownsRow_nil _ _ _ _, rfl, rfl⟩, Off.refl _ _⟩ ((Below.refl _ w4).alloc (Nat.le_refl _) _)) ((Below.refl _ _).alloc (Nat.le_refl _) _)
theorem Nm.push (hB : B < base) (hbase : w4.heap.size ≤ base) (hBg : B < g) (hf : tn ≠ tf) (hi : tn ≠ ti) (h1 : V.heap[B]? = some (.cells #[u] ts (0, 0))) (h2 : V.ownsRow base tn 1 u n X) (hn : n = l.length) (hX : X = l.map Value.string) (hO : Off (fun q => q = B) w4 V)
    (h4 : W4.ownsRow base tn 1 v' (n + 1) (X ++ [.string x])) (hgr : (V.alloc o).grownBy W4 u.ownBlock) :
    W4.heap[B]? = some (.cells #[u] ts (0, 0)) ∧ Nm tn ts B base w4 (l ++ [x]) (W4.setCell ⟨B, 0, none⟩ v') ∧ KeepsFrom s V (W4.setCell ⟨B, 0, none⟩ v') ∧ KeT tf ti g V (W4.setCell ⟨B, 0, none⟩ v') := by
  have hlt := h2.lt
  have hsz := hgr.size
  rw [World.size_alloc] at hsz
  have hrow : ∀ q, u.ownBlock = some q → ∃ cur, V.heap[q]? = some (.cells cur tn (0, 0)) := fun q e => by
    rcases h2.2 with ⟨rfl, _⟩ | ⟨g, cap, cu, rfl, _, hh, _⟩
    · simp [Value.ownBlock] at e
    · simp only [Value.ownBlock, Option.some.injEq] at e
      subst e
      exact ⟨cu, hh⟩
  have hgq : ∀ q, q < V.heap.size → u.ownBlock ≠ some q → W4.heap[q]? = V.heap[q]? := fun q h6 h7 =>
    (hgr.block q (by rw [World.size_alloc]; omega) (fun e => h7 e.symm)).trans (Below.heap_alloc _ _ q h6)
  have key : ∀ q, q < V.heap.size → q ≠ B → u.ownBlock ≠ some q → (W4.setCell ⟨B, 0, none⟩ v').heap[q]? = V.heap[q]? := fun q h6 h7 h8 => (Below.heap_setCell W4 ⟨B, 0, none⟩ v' q h7).trans (hgq q h6 h8)
  have hBlt := (Array.getElem?_eq_some_iff.1 h1).1
  have b4 : W4.heap[B]? = some (.cells #[u] ts (0, 0)) := (hgq B hBlt (fun e => by have := (hlt B e).1; omega)).trans h1
  have hz : V.heap.size ≤ (W4.setCell ⟨B, 0, none⟩ v').heap.size := by simp only [World.setCell, Array.size_modify]; omega
  refine ⟨b4, ⟨⟨v', _, _, ?_, ownsRow_setCell_below h4 (a := ⟨B, 0, none⟩) hB v', by simp [hn], by simp [hX]⟩, ⟨?_, ?_, ?_, Nat.le_trans hO.size hz, fun q hq hne => ?_⟩⟩, ⟨hz, fun q o2 hs ho hc => ?_⟩, ⟨hz, fun q cs t hq ht hV => ?_⟩⟩
  · rw [setCell_at b4]; rfl
  · exact hgr.os.trans hO.os
  · exact hgr.tape.trans hO.tape
  · exact hgr.output.trans hO.output
  · exact (key q (by have := hO.size; omega) hne (fun e => by have := (hlt q e).1; omega)).trans (hO.block q hq hne)
  · refine (key q (Array.getElem?_eq_some_iff.1 ho).1 (fun e => ?_) (fun e => ?_)).trans ho
    · subst e; rw [h1] at ho; injection ho with ho; subst ho; cases hc
    · obtain ⟨cur, h⟩ := hrow q e; rw [h] at ho; injection ho with ho; subst ho; cases hc
  · refine key q (Array.getElem?_eq_some_iff.1 hV).1 (by omega) (fun e => ?_)
    obtain ⟨cur, h⟩ := hrow q e
    rw [h] at hV
    injection hV with hV
    injection hV with _ ht2
    rcases ht with rfl | rfl
    · exact hf ht2
    · exact hi ht2
end

theorem FdsIn.seven {lo : Nat} {w : World} {A : Option Addr} {L : List Fd} (h : FdsIn lo w A L) {j : Nat} {f : Fd} (hj : L[j]? = some f) : ∃ g, A = some ⟨g, 0, none⟩ ∧ lo ≤ g ∧ g < w.heap.size ∧
    w.cell? ⟨g, j * 7, none⟩ = some (.string f.nm) ∧ w.cell? ⟨g, j * 7 + 1, none⟩ = some (.int .i64 f.so) ∧ w.cell? ⟨g, j * 7 + 2, none⟩ = some (.int .i64 f.pl) ∧ w.cell? ⟨g, j * 7 + 3, none⟩ = some (.int .i64 f.le) ∧ w.cell? ⟨g, j * 7 + 4, none⟩ = some (.int .i64 f.mo) ∧ w.cell? ⟨g, j * 7 + 5, none⟩ = some (.int .i64 f.si) ∧ w.cell? ⟨g, j * 7 + 6, none⟩ = some (.int .i64 f.ab) := by
  obtain ⟨g, hA, hlo, hlt, hc⟩ := h j f hj
  exact ⟨g, hA, hlo, hlt, hc 0 _ rfl, hc 1 _ rfl, hc 2 _ rfl, hc 3 _ rfl, hc 4 _ rfl, hc 5 _ rfl, hc 6 _ rfl⟩
theorem FdsIn.off {lo : Nat} {S : Nat → Prop} {w w' : World} {A : Option Addr} {L : List Fd} (h : FdsIn lo w A L) (ho : Off S w w') (hS : ∀ k, lo ≤ k → ¬ S k) : FdsIn lo w' A L := fun j f hj => by
  obtain ⟨g, hA, hlo, hlt, hc⟩ := h j f hj
  exact ⟨g, hA, hlo, Nat.lt_of_lt_of_le hlt ho.size, fun q u hq => ho.cell (hc q u hq) (hS g hlo)⟩

end Go.Proofs.Ytlbfibnfmijahaa

namespace Go.Proofs.Ytlbfibnfmijahaa
open Go.RowKit Go.Shelf
set_option maxRecDepth 100000
attribute [local go_sem] Oper.semAt_some

theorem mgInfo : (Try.prog.info? 33).map (·.size) = some 11 := by kernel_rfl
theorem ptInfo : (Try.prog.info? 63).map (fun i => (i.zero, i.size, i.bytes)) = some (some (.agg #[.int .i64 0, .int .i64 0]), 2, 16) := by kernel_rfl
theorem i64Info : (Try.prog.info? 3).map (fun i => (i.zero, i.size, i.bytes)) = some (some (.int .i64 0), 1, 8) := by kernel_rfl
theorem mg_one (M : Mg) (A1 A2 : Option Addr) (n1 n2 c1 c2 : Nat) : (mC M (.slice A1 n1 c1) (.slice A2 n2 c2)).all (·.oneCell') = true := by simp [mC, Value.oneCell']
theorem mg_block {W : World} {b : Nat} {M : Mg} {P C : Value} {t : TypeId} (h : W.heap[b]? = some (.cells (mC M P C) t (0, 0))) :
    W.cell? ⟨b, 0, none⟩ = some (.int .i64 M.k) ∧ W.cell? ⟨b, 1, none⟩ = some (.int .i64 M.n0) ∧ W.cell? ⟨b, 2, none⟩ = some (.int .i64 M.n1) ∧ W.cell? ⟨b, 3, none⟩ = some (.int .i64 M.n2) ∧ W.cell? ⟨b, 4, none⟩ = some (.int .i64 M.n3) ∧ W.cell? ⟨b, 5, none⟩ = some (.int .i64 M.n4) ∧ W.cell? ⟨b, 6, none⟩ = some (.int .i64 M.n5) ∧
      W.cell? ⟨b, 7, none⟩ = some P ∧ W.cell? ⟨b, 8, none⟩ = some C ∧ W.cell? ⟨b, 9, none⟩ = some (.string M.tx) ∧ W.cell? ⟨b, 10, none⟩ = some (.string M.tg) := by
  simp [World.cell?, h, mC]
theorem own_offM {S : Nat → Prop} {w w' : World} {base size n : Nat} {T : TypeId} {v : Value} {xs : List Value} (h : w.ownsRow base T size v n xs) (hf : Off S w w') (hn : ∀ g, v.ownBlock = some g → ¬ S g) : w'.ownsRow base T size v n xs := by
  refine ⟨h.1, h.2.imp id ?_⟩
  rintro ⟨g, cap, cur, hv, hg, hh, r⟩
  exact ⟨g, cap, cur, hv, hg, (hf.block g (Array.getElem?_eq_some_iff.1 hh).1 (hn g (by rw [hv]; rfl))).trans hh, r⟩
theorem off_grown {w w' : World} (h : w.grownBy w' (Value.slice none 0 0).ownBlock) : Off (fun _ => False) w w' := ⟨h.os, h.tape, h.output, h.size, fun k hk _ => h.block k hk (by simp [Value.ownBlock])⟩
/-- its lists lie in rows that were made at base or above -/
structure MOwn (base : Nat) (w : World) (M : Mg) (P C : Value) : Prop where
  p : w.ownsRow base 63 2 P M.p.length ((fl2 M.p).map (Value.int .i64))
  c : w.ownsRow base 3 1 C M.c.length (M.c.map (Value.int .i64))
section
variable {w w' : World} {base : Nat} {M : Mg} {P C : Value}
theorem MOwn.at (h : MOwn base w M P C) : MAt w w.heap.size M P C := by
  obtain ⟨a, c, h1, h2, h3⟩ := nums_of_own h.p (by omega)
  obtain ⟨a', c', h4, h5, h6⟩ := nums_of_own h.c (by omega)
  exact ⟨⟨a, c, h1, h2, h3⟩, ⟨a', c', h4, h5, h6⟩⟩
theorem MOwn.later (h : MOwn base w M P C) (hb : Below w.heap.size w w') : MOwn base w' M P C := ⟨own_below7 h.p hb, own_below7 h.c hb⟩
/-- blocks that are no row of its lists may turn -/
theorem MOwn.off {S : Nat → Prop} (h : MOwn base w M P C) (hf : Off S w w') (hp : ∀ g, P.ownBlock = some g → ¬ S g) (hc : ∀ g, C.ownBlock = some g → ¬ S g) : MOwn base w' M P C := ⟨own_offM h.p hf hp, own_offM h.c hf hc⟩
theorem MOwn.less {base' : Nat} (h : MOwn base w M P C) (hb : base' ≤ base) : MOwn base' w M P C := by
  refine ⟨⟨h.p.1, h.p.2.imp id ?_⟩, ⟨h.c.1, h.c.2.imp id ?_⟩⟩
  · rintro ⟨g, cap, cur, hv, hg, r⟩
    exact ⟨g, cap, cur, hv, by omega, r⟩
  · rintro ⟨g, cap, cur, hv, hg, r⟩
    exact ⟨g, cap, cur, hv, by omega, r⟩
end
/-- what a call answers that hands back a message in new memory -/
def MR (w : World) (M : Mg) (e : Ending) (w' : World) : Prop := ∃ P C, e = .returned (mV M P C) ∧ MOwn w.heap.size w' M P C ∧ Below w.heap.size w w'

set_option maxHeartbeats 4000000 in
theorem mcopy_any (M : Mg) (P C : Value) (w : World) (hs : Msm M) (h1 : MAt w w.heap.size M P C) : Calls Try.prog 26 #[mV M P C] w fun e w' => MR w M e w' := by
  obtain ⟨ip, hip, hzp, hzp1, hzp2⟩ := info_parts ptInfo
  obtain ⟨ii, hii, hzi, hzi1, hzi2⟩ := info_parts i64Info
  obtain ⟨w2, hw2⟩ : ∃ w2, w2 = (w.alloc (.cells (mC M P C) 33)).alloc (.cells (mC (Mg.zero 0) (.slice none 0 0) (.slice none 0 0)) 33) := ⟨_, rfl⟩
  have hs2 : w2.heap.size = w.heap.size + 2 := by rw [hw2]; simp
  have hb2 : Below w.heap.size w w2 := by rw [hw2]; exact ((Below.refl _ w).alloc (Nat.le_refl _) _).alloc (by simp) _
  have q1 : w2.heap[w.heap.size]? = some (.cells (mC M P C) 33 (0, 0)) := by
    rw [hw2, Below.heap_alloc _ _ _ (by simp)]; exact World.alloc_heap_new _ _
  have q2 : w2.heap[w.heap.size + 1]? = some (.cells (mC (Mg.zero 0) (.slice none 0 0) (.slice none 0 0)) 33 (0, 0)) := by
    have := World.alloc_heap_new (w.alloc (.cells (mC M P C) 33)) (.cells (mC (Mg.zero 0) (.slice none 0 0) (.slice none 0 0)) 33)
    rw [World.size_alloc] at this
    rw [hw2]; exact this
  obtain ⟨⟨a, cp, rfl, hcp, ha⟩, ⟨b, cb, rfl, hcb, hb⟩⟩ := h1
  have ha := ha.below hb2
  have hl1 := hs.p
  have hl2 := hs.c
  have hlen := fl2_len M.p
  simp only [mC, Mg.zero] at hw2 q1 q2
  subst hw2
  have HA := Lib.hid ha
  have HB := Lib.hid hb
  have HB2 := Lib.hid hb2
  have HQ := Lib.hid (And.intro q1 q2)
  obtain ⟨np, hnp⟩ : ∃ np, M.p.length = np := ⟨_, rfl⟩
  obtain ⟨nc, hnc⟩ : ∃ nc, M.c.length = nc := ⟨_, rfl⟩
  have HNP := Lib.hid hnp
  have HNC := Lib.hid hnc
  rw [hnp] at hl1 hlen
  rw [hnc] at hl2
  have HL := Lib.hid hlen
  clear ha hb hb2 q1 q2 hs hcp hcb hs2
  unfold MR mV mC
  simp only [hnp, hnc] at HA HB HB2 HQ ⊢
  clear hnp hnc hlen
  go_enter Try.func26, Try.ntmps26
  go_wp2_with (at_builtin; refine wpList_append_szd (by rfl) (.const (.slice none 0 0)) (.tmp 4) 30 rfl (w.heap.size + 2) 63 ip _ 2 16 Try.underlying30 hip hzp hzp1 hzp2 rfl (by decide) .i64 0 [] (fl2 M.p) (.slice none 0 0) rfl (World.ownsRow_nil _ _ _ _) a np cp _ rfl HL.out HA.out (by unfold maxLen; omega) (by omega) (by simp) ?_)
  intro v' W4 hown hgr
  obtain ⟨A', c', rfl, hc', hA'⟩ := nums_of_own hown (by omega)
  have ho4 := off_grown hgr
  have hs4 : w.heap.size + 2 ≤ W4.heap.size := by have := ho4.size; simpa using this
  have q1 := (ho4.block w.heap.size (by simp; omega) id).trans HQ.out.1
  have q2 := (ho4.block (w.heap.size + 1) (by simp) id).trans HQ.out.2
  have hb4 : Below w.heap.size w W4 := HB2.out.trans (ho4.below (fun k hk => hk.elim) (by simp; omega))
  have HV := Lib.hid (hb4.setCell (p := ⟨w.heap.size, 7, none⟩) (Nat.le_refl _) (.slice A' np c'))
  have HO := Lib.hid (ownsRow_setCell_below hown (a := ⟨w.heap.size, 7, none⟩) (by show w.heap.size < _; omega) (.slice A' np c'))
  have HQ1 := Lib.hid (setCell_at (j := 7) (u := .slice A' np c') q1)
  have HQ2 := Lib.hid ((Below.heap_setCell W4 ⟨w.heap.size, 7, none⟩ (.slice A' np c') (w.heap.size + 1) (by show _ ≠ w.heap.size; omega)).trans q2)
  have HSV := Lib.hid (show w.heap.size + 2 ≤ (W4.setCell ⟨w.heap.size, 7, none⟩ (.slice A' np c')).heap.size by simpa [World.setCell] using hs4)
  have HN := Lib.hid (HB.out.below HV.out)
  have e7 := row_cell q1 7 _ rfl
  have e8 := row_cell q1 8 _ rfl
  have z7 := frozen_of_row W4 w.heap.size 7 _ _ q1
  clear hown hgr ho4 q1 q2 hb4 hA' hs4 HQ HB2 HA
  go_wp2_with (at_builtin; refine wpList_append_szd (by rfl) (.const (.slice none 0 0)) (.tmp 8) 31 rfl (w.heap.size + 2) 3 ii _ 1 8 Try.underlying31 hii hzi hzi1 hzi2 rfl (by decide) .i64 0 [] M.c (.slice none 0 0) rfl (World.ownsRow_nil _ _ _ _) b nc cb _ rfl (HNC.out.trans (Nat.mul_one nc).symm) HN.out (by unfold maxLen; omega) (by omega) HSV.out ?_)
  intro v' W6 hown hgr
  obtain ⟨B', d', rfl, hd', hB'⟩ := nums_of_own hown (by omega)
  have ho6 := off_grown hgr
  have q1 := (ho6.block w.heap.size (by have := HSV.out; omega) id).trans HQ1.out
  have q2 := (ho6.block (w.heap.size + 1) (by have := HSV.out; omega) id).trans HQ2.out
  have hs6 : w.heap.size + 2 ≤ W6.heap.size := Nat.le_trans HSV.out ho6.size
  have hb6 : Below w.heap.size w W6 := HV.out.trans (ho6.below (fun k hk => hk.elim) (by have := HSV.out; omega))
  have hop := own_offM HO.out ho6 (fun g _ h => h)
  simp only [List.setIfInBounds_toArray, List.set_cons_succ, List.set_cons_zero] at q1
  obtain ⟨W7, hW7⟩ : ∃ W7, W7 = W6.setCell ⟨w.heap.size, 8, none⟩ (.slice B' nc d') := ⟨_, rfl⟩
  have r1 : W7.heap[w.heap.size]? = some (.cells #[.int .i64 M.k, .int .i64 M.n0, .int .i64 M.n1, .int .i64 M.n2, .int .i64 M.n3, .int .i64 M.n4, .int .i64 M.n5, .slice A' np c', .slice B' nc d', .string M.tx, .string M.tg] 33 (0, 0)) := by
    rw [hW7, setCell_at q1]; rfl
  have r2 : W7.heap[w.heap.size + 1]? = some (.cells #[.int .i64 0, .int .i64 0, .int .i64 0, .int .i64 0, .int .i64 0, .int .i64 0, .int .i64 0, .slice none 0 0, .slice none 0 0, .string ⟨#[]⟩, .string ⟨#[]⟩] 33 (0, 0)) := by
    rw [hW7]; exact (Below.heap_setCell W6 ⟨w.heap.size, 8, none⟩ (.slice B' nc d') (w.heap.size + 1) (by show _ ≠ w.heap.size; omega)).trans q2
  have hb7 : Below w.heap.size w W7 := by rw [hW7]; exact hb6.setCell (p := ⟨w.heap.size, 8, none⟩) (Nat.le_refl _) _
  have hop7 : W7.ownsRow (w.heap.size + 2) 63 2 (.slice A' np c') np ((fl2 M.p).map (Value.int .i64)) := by rw [hW7]; exact ownsRow_setCell_below hop (a := ⟨w.heap.size, 8, none⟩) (by show w.heap.size < _; omega) _
  have hoc7 : W7.ownsRow (w.heap.size + 2) 3 1 (.slice B' nc d') nc (M.c.map (Value.int .i64)) := by rw [hW7]; exact ownsRow_setCell_below hown (a := ⟨w.heap.size, 8, none⟩) (by show w.heap.size < _; omega) _
  have e8 := row_cell q1 8 _ rfl
  have z8 := frozen_of_row W6 w.heap.size 8 _ _ q1
  have HW := Lib.hid hW7
  have f := fun j x hx => row_cell r1 j x hx
  have f0 := f 0 _ rfl; have f1 := f 1 _ rfl; have f2 := f 2 _ rfl; have f3 := f 3 _ rfl; have f4 := f 4 _ rfl; have f5 := f 5 _ rfl
  have f6 := f 6 _ rfl; have f7 := f 7 _ rfl; have f8 := f 8 _ rfl; have f9 := f 9 _ rfl; have f10 := f 10 _ rfl
  rw [hW7] at f0 f1 f2 f3 f4 f5 f6 f7 f8 f9 f10
  have HR2 := Lib.hid (hW7 ▸ r2)
  clear f hW7 q1 q2 hown hgr ho6 hop hb6 hs6 hB' HV HO HQ1 HQ2 HSV HN HB
  go_wp2_with (refine wpList_store_row rfl 33 (.tmp 2) (.tmp 11) rfl (w.heap.size + 1) #[.int .i64 M.k, .int .i64 M.n0, .int .i64 M.n1, .int .i64 M.n2, .int .i64 M.n3, .int .i64 M.n4, .int .i64 M.n5, .slice A' np c', .slice B' nc d', .string M.tx, .string M.tg] rfl rfl 33 _ HR2.out mgInfo rfl (by simp [Value.oneCell']) ?_)
  rw [← HW.out]
  have hfin := setRow_heap W7 (w.heap.size + 1) _ #[.int .i64 M.k, .int .i64 M.n0, .int .i64 M.n1, .int .i64 M.n2, .int .i64 M.n3, .int .i64 M.n4, .int .i64 M.n5, .slice A' np c', .slice B' nc d', .string M.tx, .string M.tg] _ _ r2
  have hoff := Off.setRow (S := fun k => k = w.heap.size + 1) (Off.refl _ W7) rfl #[.int .i64 M.k, .int .i64 M.n0, .int .i64 M.n1, .int .i64 M.n2, .int .i64 M.n3, .int .i64 M.n4, .int .i64 M.n5, .slice A' np c', .slice B' nc d', .string M.tx, .string M.tg]
  have hbf := hb7.trans (hoff.below (B := w.heap.size) (fun k hk => by omega) hb7.size)
  have hpf := own_offM hop7 hoff (fun g hg e => by have := (hop7.lt g hg).1; omega)
  have hcf := own_offM hoc7 hoff (fun g hg e => by have := (hoc7.lt g hg).1; omega)
  generalize W7.setRow (w.heap.size + 1) _ = Wf at *
  have f := fun j x hx => row_cell hfin j x hx
  have y0 := f 0 _ rfl; have y1 := f 1 _ rfl; have y2 := f 2 _ rfl; have y3 := f 3 _ rfl; have y4 := f 4 _ rfl; have y5 := f 5 _ rfl
  have y6 := f 6 _ rfl; have y7 := f 7 _ rfl; have y8 := f 8 _ rfl; have y9 := f 9 _ rfl; have y10 := f 10 _ rfl
  refine bodyPost_ret (v := .agg #[.int .i64 M.k, .int .i64 M.n0, .int .i64 M.n1, .int .i64 M.n2, .int .i64 M.n3, .int .i64 M.n4, .int .i64 M.n5, .slice A' np c', .slice B' nc d', .string M.tx, .string M.tg]) (by simp [results, Try.results26, go_sem, y0, y1, y2, y3, y4, y5, y6, y7, y8, y9, y10]) rfl ?_
  refine ⟨_, _, rfl, MOwn.less (base := w.heap.size + 2) ⟨?_, ?_⟩ (by omega), hbf⟩
  · rw [HNP.out]; exact hpf
  · rw [HNC.out]; exact hcf
end Go.Proofs.Ytlbfibnfmijahaa

namespace Go.Proofs.Ytlbfibnfmijahaa
open Go.RowKit Go.Shelf
set_option maxRecDepth 100000
attribute [local go_sem] Oper.semAt_some

end Go.Proofs.Ytlbfibnfmijahaa

namespace Go.Proofs.Ytlbfibnfmijahaa
open Go.RowKit Go.Shelf
set_option maxRecDepth 100000
attribute [local go_sem] Oper.semAt_some

theorem mC_put {j : Nat} (hj : j < 6) (M : Mg) (P C : Value) (v : Int) : (mC M P C).setIfInBounds (1 + j) (.int .i64 v) = mC (M.put j v) P C := by
  rcases j with _ | _ | _ | _ | _ | _ | j <;> first | rfl | omega
theorem mC_at {j : Nat} (hj : j < 6) (M : Mg) (P C : Value) : (mC M P C)[1 + j]? = some (.int .i64 (M.at' j)) := by
  rcases j with _ | _ | _ | _ | _ | _ | j <;> first | rfl | omega
theorem mg_at {W : World} {b : Nat} {M : Mg} {P C : Value} {t : TypeId} (h : W.heap[b]? = some (.cells (mC M P C) t (0, 0))) {j : Nat} (hj : j < 6) : W.cell? ⟨b, 1 + j, none⟩ = some (.int .i64 (M.at' j)) := row_cell h _ _ (mC_at hj M P C)
end Go.Proofs.Ytlbfibnfmijahaa

namespace Go.Proofs.Ytlbfibnfmijahaa
open Go.RowKit Go.Shelf
set_option maxRecDepth 100000
attribute [local go_sem] Oper.semAt_some

theorem Made.later {w w1 w2 : World} {L : List Int} {v : Value} (h : Made w w1 L v) (hb : Below w1.heap.size w1 w2) : Made w w2 L v := ⟨own_below7 h.1 hb, h.2.trans (hb.mono h.2.size)⟩
theorem Made.more {w w1 w2 : World} {L zs : List Int} {v v' : Value} (h : Made w w1 L v) (hown : w2.ownsRow w.heap.size 5 1 v' (L.length + zs.length) (L.map (Value.int .u8) ++ zs.map (Value.int .u8))) (hg : w1.grownBy w2 v.ownBlock) : Made w w2 (L ++ zs) v' :=
  MadeK.more (e := 5) (k := .u8) h hown hg

end Go.Proofs.Ytlbfibnfmijahaa

namespace Go.Proofs.Ytlbfibnfmijahaa
open Go.RowKit Go.Shelf
set_option maxRecDepth 100000
attribute [local go_sem] Oper.semAt_some

end Go.Proofs.Ytlbfibnfmijahaa

namespace Go.Proofs.Ytlbfibnfmijahaa
open Go.RowKit
set_option maxRecDepth 100000

end Go.Proofs.Ytlbfibnfmijahaa

namespace Go.Proofs.Ytlbfibnfmijahaa
open Go.RowKit
set_option maxRecDepth 100000

/-- block b is a pen of that room, that wrote L; its bytes lie in block g, if anywhere -/
def PenAt (w : World) (b g : Nat) (room : Int) (L : List Int) (full : Bool) : Prop :=
  ∃ A cap cur, w.heap[b]? = some (.cells #[.int .i64 room, .slice A L.length cap, .bool full] 99 (0, 0)) ∧ KRow 5 .u8 w A cap cur ∧ L.length ≤ cap ∧ cur.take L.length = L ∧ ((A = none ∧ g = b) ∨ (A = some ⟨g, 0, none⟩ ∧ g ≠ b))
/-- the blocks of a pen -/
def penS (b g : Nat) : Nat → Prop := fun k => k = b ∨ k = g
section
variable {w w' : World} {b g : Nat} {room : Int} {L : List Int} {full : Bool}
theorem PenAt.lt (h : PenAt w b g room L full) : b < w.heap.size := by
  obtain ⟨A, cap, cur, hb, _⟩ := h
  exact (Array.getElem?_eq_some_iff.1 hb).1
theorem PenAt.off {S : Nat → Prop} (h : PenAt w b g room L full) (hf : Off S w w') (h1 : ¬ S b) (h2 : ¬ S g) : PenAt w' b g room L full := by
  obtain ⟨A, cap, cur, hb, hk, hl, ht, hA⟩ := h
  refine ⟨A, cap, cur, ?_, hk.off hf ?_, hl, ht, hA⟩
  · rw [hf.block b (Array.getElem?_eq_some_iff.1 hb).1 h1]; exact hb
  · rintro q ⟨o, s, rfl⟩
    rcases hA with ⟨hA, _⟩ | ⟨hA, _⟩
    · simp at hA
    · injection hA with hA; injection hA with e; subst e; exact h2
theorem PenAt.below (h : PenAt w b g room L full) (hf : Below w.heap.size w w') : PenAt w' b g room L full :=
  h.off (Off.of_below (S := fun _ => False) hf) (fun h => h) (fun h => h)
theorem PenAt.open (h : PenAt w b g room L full) : ∃ A cap cur, w.heap[b]? = some (.cells #[.int .i64 room, .slice A L.length cap, .bool full] 99 (0, 0)) ∧ w.cell? ⟨b, 0, none⟩ = some (.int .i64 room) ∧ w.cell? ⟨b, 1, none⟩ = some (.slice A L.length cap) ∧ w.cell? ⟨b, 2, none⟩ = some (.bool full) ∧
    KRow 5 .u8 w A cap cur ∧ L.length ≤ cap ∧ cur.take L.length = L ∧ ((A = none ∧ g = b) ∨ (A = some ⟨g, 0, none⟩ ∧ g ≠ b)) := by
  obtain ⟨A, cap, cur, hb, hk, hl, ht, hA⟩ := h
  exact ⟨A, cap, cur, hb, by simp [World.cell?, hb], by simp [World.cell?, hb], by simp [World.cell?, hb], hk, hl, ht, hA⟩
end

end Go.Proofs.Ytlbfibnfmijahaa

namespace Go.Proofs.Ytlbfibnfmijahaa
open Go.RowKit
set_option maxRecDepth 100000

theorem frozen_of {w : World} {b j : Nat} {cs : Array Value} {t : TypeId} (h : w.heap[b]? = some (.cells cs t (0, 0))) : w.frozen? ⟨b, j, none⟩ = false := by
  simp [World.frozen?, h]

end Go.Proofs.Ytlbfibnfmijahaa

namespace Go.Proofs.Ytlbfibnfmijahaa
open Go.RowKit
set_option maxRecDepth 100000

/-- is the pen full behind a write of n bytes? -/
def fullNext (room : Int) (L : List Int) (full : Bool) (n : Nat) : Bool := full || decide (room < (L.length : Int) + n)
/-- what it wrote then -/
def bytesNext (room : Int) (L : List Int) (full : Bool) (new : List Int) : List Int := if fullNext room L full new.length then L else L ++ new
/-- the number of a write's error -/
def codeOf (full : Bool) : Int := if full then 2 else 0
/-- what a write answers -/
def WroteR (b g : Nat) (room : Int) (L : List Int) (full : Bool) (new : List Int) (w : World) (e : Ending) (w' : World) : Prop :=
  e = .returned (.int .i64 (codeOf (fullNext room L full new.length))) ∧ ∃ g', PenAt w' b g' room (bytesNext room L full new) (fullNext room L full new.length) ∧ Off (penS b g) w w' ∧ (g' = g ∨ w.heap.size ≤ g')

theorem ptake_more' {α : Type} {zs : List α} {k : Nat} {z : α} (h : zs[k]? = some z) : zs.take (k + 1) = zs.take k ++ [z] := by
  have hk : k < zs.length := (List.getElem?_eq_some_iff.1 h).1
  rw [List.getElem?_eq_getElem hk] at h
  injection h with h
  rw [List.take_succ_eq_append_getElem hk, h]
theorem flat_more {ps : List (List Int)} {k : Nat} {z : List Int} (h : ps[k]? = some z) : (ps.take (k + 1)).flatten = (ps.take k).flatten ++ z := by
  rw [ptake_more' h]; simp
theorem flat_le (ps : List (List Int)) (k : Nat) : (ps.take k).flatten.length ≤ ps.flatten.length := by
  have h : ps.flatten = (ps.take k).flatten ++ (ps.drop k).flatten := by rw [← List.flatten_append, List.take_append_drop]
  rw [h, List.length_append]; omega
/-- so many bytes the first k parts have -/
def flen (ps : List (List Int)) (k : Nat) : Nat := (ps.take k).flatten.length
theorem flen_zero (ps : List (List Int)) : flen ps 0 = 0 := rfl
theorem flen_more {ps : List (List Int)} {k : Nat} {z : List Int} (h : ps[k]? = some z) : flen ps (k + 1) = flen ps k + z.length := by
  unfold flen; rw [flat_more h, List.length_append]
theorem flen_le (ps : List (List Int)) (k : Nat) : flen ps k ≤ ps.flatten.length := flat_le ps k
theorem flen_all (ps : List (List Int)) {k : Nat} (h : ps.length ≤ k) : flen ps k = ps.flatten.length := by unfold flen; rw [List.take_of_length_le h]

/-- the parts lie there, apart from the pen -/
def Parts (w : World) (b g pb po : Nat) (ps : List (List Int)) : Prop :=
  ∀ k z, ps[k]? = some z → ∃ a c, w.cell? ⟨pb, po + k, none⟩ = some (.slice a z.length c) ∧ Nums .u8 w w.heap.size a z ∧ (z ≠ [] → ∀ q, blockOf a q → ¬ penS b g q)
theorem Parts.off {w w' : World} {b g pb po : Nat} {ps : List (List Int)} (h : Parts w b g pb po ps) (hp : ¬ penS b g pb) (hf : Off (penS b g) w w') {k : Nat} {z : List Int} (hk : ps[k]? = some z) :
    ∃ a c, w'.cell? ⟨pb, po + k, none⟩ = some (.slice a z.length c) ∧ Nums .u8 w' w.heap.size a z := by
  obtain ⟨a, c, hc, hn, hq⟩ := h k z hk
  exact ⟨a, c, hf.cell hc hp, hn.off hf hq⟩

/-- the first k parts are copied -/
def WSt (b g : Nat) (room : Int) (L : List Int) (g' cap : Nat) (ps : List (List Int)) (k : Nat) (P : Option Addr) (w wr : World) : Prop :=
  ∃ cur : List Int, wr.heap[b]? = some (.cells #[.int .i64 room, .slice (some ⟨g', 0, none⟩) (L.length + ps.flatten.length : Nat) cap, .bool false] 99 (0, 0)) ∧ wr.heap[g']? = some (.cells (cur.map (Value.int .u8)).toArray 5 (0, 0)) ∧ cur.length = cap ∧
    cur.take (L.length + flen ps k) = L ++ (ps.take k).flatten ∧ Off (penS b g) w wr ∧ (flen ps k < ps.flatten.length → P = some ⟨g', L.length + flen ps k, none⟩) ∧ g' ≠ b ∧ (g' = g ∨ w.heap.size ≤ g') ∧ L.length + ps.flatten.length ≤ cap ∧ cap ≤ maxLen
section
variable {b g g' cap k : Nat} {room : Int} {L : List Int} {ps : List (List Int)} {P P' : Option Addr} {w wr : World} {z : List Int}
theorem WSt.copied (h : WSt b g room L g' cap ps k P w wr) (hk : ps[k]? = some z) (hP : flen ps k + z.length < ps.flatten.length → P' = P.map (·.add z.length)) :
    ∃ cur : List Int, wr.heap[g']? = some (.cells (cur.map (Value.int .u8)).toArray 5 (0, 0)) ∧ L.length + flen ps k + z.length ≤ cur.length ∧
      WSt b g room L g' cap ps (k + 1) P' w (wr.setRow g' ((cur.map (Value.int .u8)).take (L.length + flen ps k) ++ (z.map (Value.int .u8) ++ (cur.map (Value.int .u8)).drop (L.length + flen ps k + z.length))).toArray) := by
  obtain ⟨cur, h1, h2, h3, h4, h5, h6, h7, h8, h9, h10⟩ := h
  have e := flen_more hk
  have hle := flen_le ps (k + 1)
  refine ⟨cur, h2, by omega, cur.take (L.length + flen ps k) ++ (z ++ cur.drop (L.length + flen ps k + z.length)), ?_, ?_, ?_, ?_, ?_, ?_, h7, h8, h9, h10⟩
  · rw [setRow_other _ _ _ _ (Ne.symm h7)]; exact h1
  · rw [setRow_heap _ _ _ _ _ _ h2]; simp
  · simp only [List.length_append, List.length_take, List.length_drop]; omega
  · rw [e, h4, flat_more hk, ← List.append_assoc, ← List.append_assoc]
    have hl : (L ++ (ps.take k).flatten ++ z).length = L.length + (flen ps k + z.length) := by simp [flen]
    rw [← hl, List.take_left']
    rfl
  · refine h5.trans ((Off.refl (fun j => j = g') wr).setRow rfl _) ?_
    rintro j hj rfl
    rcases h8 with h8 | h8
    · exact .inr h8
    · omega
  · intro hlt
    rw [e] at hlt ⊢
    rw [hP hlt, h6 (by omega), Option.map_some, Addr.add_lit, Nat.add_assoc]
theorem WSt.start {N n : Nat} {A : Option Addr} {cur : List Int} (hN : ps.flatten.length = N) (hb : wr.heap[b]? = some (.cells #[.int .i64 room, .slice A (L.length + N : Nat) cap, .bool false] 99 (0, 0))) (hk : KRow 5 .u8 wr A cap cur) (hc : L.length + N ≤ cap) (ht : cur.take L.length = L)
    (hO : Off (penS b g) (w.drewN n) wr) (h0 : 0 < N) (hP : (A = none ∧ g = b) ∨ ∃ g', A = some ⟨g', 0, none⟩ ∧ g' ≠ b ∧ (g' = g ∨ (w.drewN n).heap.size ≤ g') ∧ (0 < N → P = some ⟨g', L.length, none⟩)) : ∃ g', WSt b g room L g' cap ps 0 P w wr := by
  rcases hk.2 with ⟨_, h⟩ | ⟨q, h, hm, hh⟩
  · omega
  · rcases hP with ⟨hP, _⟩ | ⟨g', hP, hgb, hg, hPP⟩
    · rw [hP] at h; simp at h
    · rw [hP] at h; injection h with h; injection h with h; subst h
      subst hP hN
      exact ⟨g', cur, hb, hh, hk.1, by rw [flen_zero, Nat.add_zero, ht]; simp, ⟨hO.os, hO.tape, hO.output, hO.size, hO.block⟩, fun _ => by rw [flen_zero, Nat.add_zero]; exact hPP h0, hgb, hg, hc, hm⟩
theorem WSt.frame (h : WSt b g room L g' cap ps k P w wr) : Off (penS b g) w wr := by
  obtain ⟨cur, h1, h2, h3, h4, h5, h6, h7⟩ := h
  exact h5
theorem WSt.pen (h : WSt b g room L g' cap ps k P w wr) (hk : ps.length ≤ k) : PenAt wr b g' room (L ++ ps.flatten) false ∧ Off (penS b g) w wr ∧ (g' = g ∨ w.heap.size ≤ g') := by
  obtain ⟨cur, h1, h2, h3, h4, h5, h6, h7, h8, h9, h10⟩ := h
  rw [flen_all ps hk, List.take_of_length_le hk] at h4
  refine ⟨⟨some ⟨g', 0, none⟩, cap, cur, by rw [List.length_append]; exact h1, ⟨h3, .inr ⟨g', rfl, h10, h2⟩⟩, by rw [List.length_append]; exact h9, by rw [List.length_append]; exact h4, .inr ⟨rfl, h7⟩⟩, h5, h8⟩
end
end Go.Proofs.Ytlbfibnfmijahaa

namespace Go.Proofs.Ytlbfibnfmijahaa
open Go.RowKit
set_option maxRecDepth 100000

theorem fullNext_no {room : Int} {L : List Int} {n : Nat} (h : (L.length : Int) + n ≤ room) : fullNext room L false n = false := by
  unfold fullNext; rw [decide_eq_false (by omega)]; rfl
end Go.Proofs.Ytlbfibnfmijahaa

namespace Go.Proofs.Ytlbfibnfmijahaa
open Go.RowKit
set_option maxRecDepth 100000

theorem WroteR.later {b g : Nat} {room : Int} {L new : List Int} {full : Bool} {w w1 w' : World} {e : Ending} (h : WroteR b g room L full new w1 e w') (hb : Below w.heap.size w w1) : WroteR b g room L full new w e w' := by
  obtain ⟨he, g', h1, h2, h3⟩ := h
  have := hb.size
  refine ⟨he, g', h1, (Off.of_below hb).trans h2 (fun _ _ h => h), ?_⟩
  rcases h3 with h3 | h3
  · exact .inl h3
  · exact .inr (by omega)
section
variable (b g : Nat) (room : Int) (L : List Int) (full : Bool) (w : World)

end
end Go.Proofs.Ytlbfibnfmijahaa

namespace Go.Proofs.Ytlbfibnfmijahaa
open Go.RowKit Go.Deep
set_option maxRecDepth 100000

/-- a signed number's zigzag -/
def zigZ (z : Int) : Int := if 0 ≤ z then 2 * z else -2 * z - 1
theorem madeCells_int (k : IntKind) (n : Nat) : madeCells #[.int k 0] n = ((List.replicate n (0 : Int)).map (Value.int k)).toArray := by
  apply Array.ext
  · simp [madeCells]
  · intro i h1 h2
    simp [madeCells, Nat.mod_one]
theorem KRow.made (T : TypeId) (k : IntKind) (w : World) (n : Nat) (hm : n ≤ maxLen) : KRow T k (w.alloc (.cells (madeCells #[.int k 0] n) T)) (some ⟨w.heap.size, 0, none⟩) n (List.replicate n 0) :=
  ⟨by simp, .inr ⟨_, rfl, hm, by rw [madeCells_int]; exact heap_alloc_new w _⟩⟩
theorem KRow.set {T : TypeId} {k : IntKind} {w : World} {g cap j : Nat} {cur : List Int} (h : KRow T k w (some ⟨g, 0, none⟩) cap cur) (y : Int) : KRow T k (w.setCell ⟨g, j, none⟩ (.int k y)) (some ⟨g, 0, none⟩) cap (cur.set j y) := by
  rcases h.2 with ⟨h0, _⟩ | ⟨q, e, hm, hh⟩
  · simp at h0
  · injection e with e; injection e with e; subst e
    refine ⟨by rw [List.length_set]; exact h.1, .inr ⟨g, rfl, hm, ?_⟩⟩
    rw [setCell_at hh]
    simp [List.map_set]
theorem set_take {zs : List Int} {j : Nat} {y : Int} (h : j < zs.length) : (zs.set j y).take (j + 1) = zs.take j ++ [y] := by
  rw [List.take_succ_eq_append_getElem (by simpa using h)]
  simp [List.take_set_of_le]

/-- the first k zigzags are laid -/
def SSt (g n k : Nat) (zs : List Int) (w wr : World) : Prop := ∃ cur, KRow 101 .u64 wr (some ⟨g, 0, none⟩) n cur ∧ cur.take k = (zs.take k).map zigZ ∧ Below w.heap.size w wr
theorem SSt.step {g n k : Nat} {zs : List Int} {w wr : World} {z : Int} (h : SSt g n k zs w wr) (hk : zs[k]? = some z) (hg : w.heap.size ≤ g) (hkn : k < n) : SSt g n (k + 1) zs w (wr.setCell ⟨g, k, none⟩ (.int .u64 (zigZ z))) := by
  obtain ⟨cur, h1, h2, h3⟩ := h
  refine ⟨cur.set k (zigZ z), h1.set _, ?_, h3.setCell hg _⟩
  rw [set_take (by rw [h1.1]; exact hkn), h2, ptake_more hk, List.map_append]
  rfl
theorem SSt.cell {g n k : Nat} {zs : List Int} {w wr : World} (h : SSt g n k zs w wr) (hkn : k < n) : (∃ u, wr.cell? ⟨g, k, none⟩ = some (.int .u64 u)) ∧ wr.frozen? ⟨g, k, none⟩ = false := by
  obtain ⟨cur, h1, h2, h3⟩ := h
  obtain ⟨_, hh⟩ := h1.cells rfl
  exact ⟨⟨_, h1.cell rfl (List.getElem?_eq_getElem (by rw [h1.1]; exact hkn))⟩, frozen_of hh⟩

end Go.Proofs.Ytlbfibnfmijahaa

namespace Go.Proofs.Ytlbfibnfmijahaa
open Go.RowKit Go.Shelf
set_option maxRecDepth 100000
attribute [local go_sem] Oper.semAt_some

/-- rows of other types than bytes and pens are as they were -/
structure PenK (W W' : World) : Prop where
  size : W.heap.size ≤ W'.heap.size
  same : ∀ (q : Nat) (cs : Array Value) (t : TypeId), t ≠ 5 → t ≠ 99 → W.heap[q]? = some (.cells cs t (0, 0)) → W'.heap[q]? = W.heap[q]?
section
variable {W W' W'' : World}
theorem PenK.refl (W : World) : PenK W W := ⟨Nat.le_refl _, fun _ _ _ _ _ _ => rfl⟩
theorem PenK.trans (h : PenK W W') (k : PenK W' W'') : PenK W W'' := ⟨Nat.le_trans h.size k.size, fun q cs t h1 h2 h3 => (k.same q cs t h1 h2 ((h.same q cs t h1 h2 h3).trans h3)).trans (h.same q cs t h1 h2 h3)⟩
theorem PenK.of_below (h : Below W.heap.size W W') : PenK W W' := ⟨h.size, fun q _ _ _ _ hq => h.block q (Array.getElem?_eq_some_iff.1 hq).1⟩
theorem PenK.row (h : PenK W W') {q : Nat} {cs : Array Value} {t : TypeId} (hq : W.heap[q]? = some (.cells cs t (0, 0))) (h1 : t ≠ 5) (h2 : t ≠ 99) : W'.heap[q]? = some (.cells cs t (0, 0)) := (h.same q cs t h1 h2 hq).trans hq
end
theorem PenAt.kept {W W' : World} {b g : Nat} {room : Int} {L : List Int} {full : Bool} (h : PenAt W b g room L full) (ho : Off (penS b g) W W') : PenK W W' := by
  refine ⟨ho.size, fun q cs t h1 h2 hq => ho.block q (Array.getElem?_eq_some_iff.1 hq).1 ?_⟩
  obtain ⟨A, cap, cur, hb, hk, -, -, hA⟩ := h
  rintro (rfl | rfl)
  · rw [hb] at hq
    injection hq with hq
    injection hq with _ hq
    exact h2 hq.symm
  · rcases hA with ⟨-, rfl⟩ | ⟨rfl, -⟩
    · rw [hb] at hq
      injection hq with hq
      injection hq with _ hq
      exact h2 hq.symm
    · have hr := (hk.cells rfl).2
      rw [hr] at hq
      injection hq with hq
      injection hq with _ hq
      exact h1 hq.symm
/-- block b is a pen with room for 192 bytes that isn't full and holds L; beside it only the block g0 of w4 has been turned -/
def PenV (w4 : World) (b g0 : Nat) (L : List Int) (W : World) : Prop := ∃ g, PenAt W b g 192 L false ∧ (g = g0 ∨ w4.heap.size ≤ g) ∧ Off (penS b g0) w4 W ∧ PenK w4 W
section
variable {w4 W W' : World} {b g g0 : Nat} {L new : List Int} {e : Ending}
theorem PenV.start (h : PenAt W b g0 192 L false) : PenV W b g0 L W := ⟨g0, h, .inl rfl, Off.refl _ _, PenK.refl _⟩
theorem PenV.later (h : PenV w4 b g0 L W) (hb : Below W.heap.size W W') : PenV w4 b g0 L W' := by
  obtain ⟨g, h1, h2, h3, h4⟩ := h
  exact ⟨g, h1.below hb, h2, h3.trans (Off.of_below (S := penS b g0) hb) (fun _ _ h => h), h4.trans (PenK.of_below hb)⟩
theorem PenV.since (h : PenV W b g0 L W') {w4 : World} (hb : Below w4.heap.size w4 W) : PenV w4 b g0 L W' := by
  obtain ⟨g, h1, h2, h3, h4⟩ := h
  have := hb.size
  exact ⟨g, h1, by omega, (Off.of_below hb).trans h3 (fun _ _ h => h), (PenK.of_below hb).trans h4⟩
theorem PenV.below {B : Nat} (h : PenV w4 b g0 L W) (h1 : B ≤ b) (h2 : B ≤ g0) (h3 : B ≤ w4.heap.size) : Below B w4 W := by
  obtain ⟨g, -, -, ho, -⟩ := h
  exact ho.below (fun k hk => by rcases hk with rfl | rfl <;> assumption) h3
theorem PenV.size (h : PenV w4 b g0 L W) : w4.heap.size ≤ W.heap.size := by
  obtain ⟨g, -, -, ho, -⟩ := h
  exact ho.size
theorem PenV.wrote (hg : g = g0 ∨ w4.heap.size ≤ g) (ho : Off (penS b g0) w4 W) (hk : PenK w4 W) (hw : PenAt W b g 192 L false) (hr : WroteR b g 192 L false new W e W') (hl : L.length + new.length ≤ 192) :
    e = .returned (.int .i64 0) ∧ PenV w4 b g0 (L ++ new) W' ∧ PenK W W' := by
  obtain ⟨he, g', h1, h2, h3⟩ := hr
  have hf : fullNext 192 L false new.length = false := fullNext_no (by omega)
  have hbn : bytesNext 192 L false new = L ++ new := by unfold bytesNext; rw [hf]; rfl
  rw [hf] at he h1
  rw [hbn] at h1
  have hkk := hw.kept h2
  refine ⟨he, ⟨g', h1, ?_, ho.trans h2 ?_, hk.trans hkk⟩, hkk⟩
  · have := ho.size
    omega
  · rintro j hj (rfl | rfl)
    · exact .inl rfl
    · rcases hg with rfl | hg
      · exact .inr rfl
      · omega
end
end Go.Proofs.Ytlbfibnfmijahaa

namespace Go.Proofs.Ytlbfibnfmijahaa
open Go.RowKit Go.Shelf
set_option maxRecDepth 100000
attribute [local go_sem] Oper.semAt_some

end Go.Proofs.Ytlbfibnfmijahaa

namespace Go.Proofs.Ytlbfibnfmijahaa
open Go.RowKit Go.Shelf
set_option maxRecDepth 100000
attribute [local go_sem] Oper.semAt_some

end Go.Proofs.Ytlbfibnfmijahaa

namespace Go.Proofs.Ytlbfibnfmijahaa
open Go.RowKit Go.Shelf
set_option maxRecDepth 100000
attribute [local go_sem] Oper.semAt_some

end Go.Proofs.Ytlbfibnfmijahaa

namespace Go.Proofs.Ytlbfibnfmijahaa
open Go.RowKit Go.Shelf
set_option maxRecDepth 100000
attribute [local go_sem] Oper.semAt_some

end Go.Proofs.Ytlbfibnfmijahaa

namespace Go.Proofs.Ytlbfibnfmijahaa
open Go.RowKit Go.Shelf
set_option maxRecDepth 100000
attribute [local go_sem] Oper.semAt_some

end Go.Proofs.Ytlbfibnfmijahaa

namespace Go.Proofs.Ytlbfibnfmijahaa
open Go.RowKit Go.Shelf
set_option maxRecDepth 100000
attribute [local go_sem] Oper.semAt_some

end Go.Proofs.Ytlbfibnfmijahaa

namespace Go.Proofs.Ytlbfibnfmijahaa
open Go.RowKit Go.ChangeShapes Go.WideShapes Go.Deep Go.ChangeMaps
set_option maxRecDepth 100000

section
variable {H : Type} {enc : TypeId × Value → H} {w : World}
theorem row_of {T E : TypeId} {k : IntKind} {fuel : Nat} {v : Value} {x : DataW H × List MemPlace} (ht : Try.prog.underlying T = some (.slice E)) (he : Try.prog.underlying E = some (.int k)) (hc : Try.prog.cellsOf E = 1)
    (h : DataW.trod enc Try.prog w 0 (fun _ => true) true fuel T [v] = some x) : ∃ a n c es, v = .slice a n c ∧ es.length = n ∧ n ≤ c ∧ Nums k w w.heap.size a es ∧ ∀ z ∈ es, (Lit.int k z).wf = true := by
  rcases open_ints ht he hc h with ⟨hcs, _⟩ | ⟨a, l, c, zs, hcs, _, hl, hm, hz, _, hcell, hwz⟩
  · injection hcs with hcs
    exact ⟨none, 0, 0, [], hcs, rfl, Nat.le_refl _, Nums.nil, fun z hz => by cases hz⟩
  · injection hcs with hcs
    obtain ⟨es, h1, h2, h3, h4, h5⟩ := IsRow.elems (k := k) (w := w) (a := some a) (len := l) (cap := c) (zs := zs) (.inr ⟨_, rfl, hl, hm, by simpa using hz, hcell, hwz⟩)
    exact ⟨some a, l, c, es, hcs, h1, h2, h4, h5⟩
theorem fl2_nums {w : World} {b : Nat} : ∀ (l : List (Int × Int)) (o : Nat), (∀ (j : Nat) q, l[j]? = some q → w.cell? ⟨b, o + j * 2, none⟩ = some (.int .i64 q.1) ∧ w.cell? ⟨b, o + j * 2 + 1, none⟩ = some (.int .i64 q.2)) →
    ∀ (j : Nat) z, (fl2 l)[j]? = some z → w.cell? ⟨b, o + j, none⟩ = some (.int .i64 z)
  | [], _, _, _, _, h => by simp [fl2] at h
  | q :: r, o, hq, 0, z, h => by
    simp only [fl2, List.getElem?_cons_zero, Option.some.injEq] at h
    have := (hq 0 q rfl).1
    rw [h] at this
    simpa using this
  | q :: r, o, hq, 1, z, h => by
    simp only [fl2, List.getElem?_cons_succ, List.getElem?_cons_zero, Option.some.injEq] at h
    have := (hq 0 q rfl).2
    rw [h] at this
    simpa using this
  | q :: r, o, hq, j + 2, z, h => by
    simp only [fl2, List.getElem?_cons_succ] at h
    have := fl2_nums r (o + 2) (fun j q hj => by
      have := hq (j + 1) q (by simpa using hj)
      rw [show o + 2 + j * 2 = o + (j + 1) * 2 by omega]
      exact this) j z h
    rw [show o + (j + 2) = o + 2 + j by omega]
    exact this
theorem pts_of {fuel : Nat} {v : Value} {x : DataW H × List MemPlace} (h : DataW.trod enc Try.prog w 0 (fun _ => true) true fuel 30 [v] = some x) :
    ∃ a c, ∃ l : List (Int × Int), v = .slice a l.length c ∧ l.length ≤ c ∧ Nums .i64 w w.heap.size a (fl2 l) := by
  rcases open_slice Try.underlying30 h with ⟨hcs, _⟩ | ⟨a, len, cap, m, n, D, Pl, hcs, _, hl, _, hmm, _, hx⟩
  · injection hcs with hcs
    exact ⟨none, 0, [], hcs, Nat.le_refl _, Nums.nil⟩
  · injection hcs with hcs
    have hmc : m = cap := by simpa using hmm
    have h2 : Try.prog.cellsOf 63 = 2 := by kernel_rfl
    have k0 : Try.prog.cellsOf 3 = 1 := by kernel_rfl
    have key : ∀ i, ∃ q : Int × Int, i < len → w.cell? (a.add (i * 2)) = some (.int .i64 q.1) ∧ w.cell? ((a.add (i * 2)).add 1) = some (.int .i64 q.2) := by
      intro i
      by_cases hil : i < len
      · obtain ⟨cs', hc', ht'⟩ := hx i (by omega)
        rw [h2] at hc'
        obtain ⟨_, hlen, hcell⟩ := World.cells?_some hc'
        obtain ⟨xs, n', _, _, _, hxl, hf⟩ := DataW.trod_struct Try.underlying63 ht'
        match cs', hlen with
        | [v0, v1], _ =>
          have hy : ∀ i, i < 2 → ∃ y, xs[i]? = some y := fun i hi => ⟨_, List.getElem?_eq_getElem (by rw [hxl]; exact hi)⟩
          obtain ⟨y0, e0⟩ := hy 0 (by decide)
          obtain ⟨y1, e1⟩ := hy 1 (by decide)
          have f0 : DataW.trod enc Try.prog w 0 (fun _ => true) true n' 3 (([v0, v1].drop 0).take (Try.prog.cellsOf 3)) = some y0 := (hf 0 _ rfl).trans e0
          rw [k0] at f0
          have f1 : DataW.trod enc Try.prog w 0 (fun _ => true) true n' 3 (([v0, v1].drop 1).take (Try.prog.cellsOf 3)) = some y1 := (hf 1 _ rfl).trans e1
          rw [k0] at f1
          obtain ⟨z0, g0, _⟩ := DataW.trod_int Try.underlying3 f0
          obtain ⟨z1, g1, _⟩ := DataW.trod_int Try.underlying3 f1
          injection g0 with g0
          injection g1 with g1
          subst g0 g1
          have c0 := hcell 0 (by decide)
          have c1 := hcell 1 (by decide)
          have hadd : ∀ a : Addr, a.add 0 = a := fun a => by unfold Addr.add; rw [if_pos rfl]
          rw [hadd] at c0
          exact ⟨(z0, z1), fun _ => ⟨c0, c1⟩⟩
      · exact ⟨(0, 0), fun h => absurd h hil⟩
    obtain ⟨g, hg⟩ := Classical.axiomOfChoice key
    refine ⟨some a, cap, (List.range len).map g, by simpa using hcs, by simpa using hl, fun hn => ?_⟩
    have hpos : 0 < len := by
      rcases Nat.eq_zero_or_pos len with h | h
      · subst h; simp [fl2] at hn
      · exact h
    have hz := (hg 0 hpos).1
    have hadd : ∀ a : Addr, a.add 0 = a := fun a => by unfold Addr.add; rw [if_pos rfl]
    rw [Nat.zero_mul, hadd] at hz
    obtain ⟨b, o, sp⟩ := a
    have hsp : sp = none := World.cell?_spot hz
    subst hsp
    have hb := block_of_cell hz
    refine ⟨b, o, rfl, hb, fun j c hj => fl2_nums _ o (fun j q hq => ?_) j c hj⟩
    rw [List.getElem?_map] at hq
    obtain ⟨i, hi, rfl⟩ := Option.map_eq_some_iff.1 hq
    have hil : j < len := by
      rcases Nat.lt_or_ge j len with h | h
      · exact h
      · rw [List.getElem?_eq_none (by simpa using h)] at hi; simp at hi
    rw [List.getElem?_range hil] at hi
    injection hi with hi
    subst hi
    have := hg j hil
    rw [Addr.add_lit, Addr.add_lit] at this
    exact this
/-- a message's cells -/
theorem msg_of {fuel : Nat} {cs : List Value} {x : DataW H × List MemPlace} (h : DataW.trod enc Try.prog w 0 (fun _ => true) true fuel 33 cs = some x) :
    ∃ (M : Mg) (P C : Value), cs = (mC M P C).toList ∧ MAt w w.heap.size M P C := by
  obtain ⟨xs, n, _, _, hlen, hxl, hf⟩ := DataW.trod_struct Try.underlying33 h
  have h11 : Try.prog.cellsOf 33 = 11 := by kernel_rfl
  have k0 : Try.prog.cellsOf 3 = 1 := by kernel_rfl
  have k1 : Try.prog.cellsOf 29 = 6 := by kernel_rfl
  have k2 : Try.prog.cellsOf 30 = 1 := by kernel_rfl
  have k3 : Try.prog.cellsOf 31 = 1 := by kernel_rfl
  have k4 : Try.prog.cellsOf 9 = 1 := by kernel_rfl
  rw [h11] at hlen
  match cs, hlen with
  | [c0, c1, c2, c3, c4, c5, c6, c7, c8, c9, c10], _ =>
    have hx : ∀ i, i < 6 → ∃ y, xs[i]? = some y := fun i hi => ⟨_, List.getElem?_eq_getElem (by rw [hxl]; exact hi)⟩
    obtain ⟨y0, e0⟩ := hx 0 (by decide)
    obtain ⟨y1, e1⟩ := hx 1 (by decide)
    obtain ⟨y2, e2⟩ := hx 2 (by decide)
    obtain ⟨y3, e3⟩ := hx 3 (by decide)
    obtain ⟨y4, e4⟩ := hx 4 (by decide)
    obtain ⟨y5, e5⟩ := hx 5 (by decide)
    have f0 : DataW.trod enc Try.prog w 0 (fun _ => true) true n 3 (([c0, c1, c2, c3, c4, c5, c6, c7, c8, c9, c10].drop 0).take (Try.prog.cellsOf 3)) = some y0 := (hf 0 _ rfl).trans e0
    rw [k0] at f0
    have f1 : DataW.trod enc Try.prog w 0 (fun _ => true) true n 29 (([c0, c1, c2, c3, c4, c5, c6, c7, c8, c9, c10].drop 1).take (Try.prog.cellsOf 29)) = some y1 := (hf 1 _ rfl).trans e1
    rw [k1] at f1
    have f2 : DataW.trod enc Try.prog w 0 (fun _ => true) true n 30 (([c0, c1, c2, c3, c4, c5, c6, c7, c8, c9, c10].drop 7).take (Try.prog.cellsOf 30)) = some y2 := (hf 2 _ rfl).trans e2
    rw [k2] at f2
    have f3 : DataW.trod enc Try.prog w 0 (fun _ => true) true n 31 (([c0, c1, c2, c3, c4, c5, c6, c7, c8, c9, c10].drop 8).take (Try.prog.cellsOf 31)) = some y3 := (hf 3 _ rfl).trans e3
    rw [k3] at f3
    have f4 : DataW.trod enc Try.prog w 0 (fun _ => true) true n 9 (([c0, c1, c2, c3, c4, c5, c6, c7, c8, c9, c10].drop 9).take (Try.prog.cellsOf 9)) = some y4 := (hf 4 _ rfl).trans e4
    rw [k4] at f4
    have f5 : DataW.trod enc Try.prog w 0 (fun _ => true) true n 9 (([c0, c1, c2, c3, c4, c5, c6, c7, c8, c9, c10].drop 10).take (Try.prog.cellsOf 9)) = some y5 := (hf 5 _ rfl).trans e5
    rw [k4] at f5
    obtain ⟨k, g0, _, _⟩ := DataW.trod_int Try.underlying3 f0
    obtain ⟨zs, m, _, _, hzl, hzx, hz⟩ := DataW.trod_array Try.underlying29 f1
    rw [k0] at hz
    have num : ∀ i, i < 6 → ∃ z, ((((([c0, c1, c2, c3, c4, c5, c6, c7, c8, c9, c10].drop 1).take 6)).drop (i * 1)).take 1) = [Value.int .i64 z] := fun i hi => by
      have h := hz i hi
      rw [List.getElem?_eq_getElem (by rw [hzx]; exact hi)] at h
      obtain ⟨z, g, _⟩ := DataW.trod_int Try.underlying3 h
      exact ⟨z, g⟩
    obtain ⟨z0, q0⟩ := num 0 (by decide)
    obtain ⟨z1, q1⟩ := num 1 (by decide)
    obtain ⟨z2, q2⟩ := num 2 (by decide)
    obtain ⟨z3, q3⟩ := num 3 (by decide)
    obtain ⟨z4, q4⟩ := num 4 (by decide)
    obtain ⟨z5, q5⟩ := num 5 (by decide)
    simp only [List.drop_zero, List.drop_succ_cons, List.take_succ_cons, List.take_zero, List.cons.injEq, and_true, Nat.mul_one] at g0 q0 q1 q2 q3 q4 q5 f2 f3 f4 f5
    subst g0 q0 q1 q2 q3 q4 q5
    obtain ⟨a, c, l, rfl, hl, hn⟩ := pts_of f2
    obtain ⟨a', n', c', es, rfl, r1, r2, r3, _⟩ := row_of Try.underlying31 Try.underlying3 (by kernel_rfl) f3
    obtain ⟨tx, s4, _, _⟩ := DataW.trod_string Try.underlying9 f4
    obtain ⟨tg, s5, _, _⟩ := DataW.trod_string Try.underlying9 f5
    injection s4 with s4
    injection s5 with s5
    subst s4 s5 r1
    exact ⟨⟨k, z0, z1, z2, z3, z4, z5, l, es, tx, tg⟩, .slice a l.length c, .slice a' es.length c', rfl, ⟨⟨a, c, rfl, hl, hn⟩, ⟨a', c', rfl, r2, r3⟩⟩⟩
theorem open_msg {r : Reach} {b0 : Nat} {x : Value} {d : DataW H} {p : List MemPlace} (hv : Value.okWide Try.prog w r b0 33 x) (h : DataW.Trod enc Try.prog w 0 (fun _ => true) true 33 x d p) :
    ∃ (M : Mg) (P C : Value), x = mV M P C ∧ MAt w w.heap.size M P C := by
  obtain ⟨⟨cs⟩, rfl, hsz⟩ := okWide_struct Try.underlying33 hv
  obtain ⟨fuel, hf⟩ := h
  obtain ⟨M, P, C, e, h1⟩ := msg_of hf
  simp only [Value.cells] at e
  refine ⟨M, P, C, ?_, h1⟩
  rw [e]
  rfl
end
end Go.Proofs.Ytlbfibnfmijahaa

namespace Go.Proofs.Ytlbfibnfmijahaa
section
variable {P : Program} {ops : Array Oper} {md : Region.Mode}

/-- 0: it looks at no memory and enters no function; 1: a load; 2: a store; 3: all others -/
def kind3 (o : Oper) : Nat :=
  if pureOp o then 0 else match o.op with
    | .load _ _ => 1
    | .store _ _ _ => 2
    | _ => 3
theorem kind3_pure {o : Oper} (h : kind3 o = 0) : kindOf o = 0 := by
  unfold kind3 at h
  unfold kindOf
  split at h
  · rename_i hp; rw [if_pos hp]
  · split at h <;> simp at h
theorem kind3_load {o : Oper} (h : kind3 o = 1) : ∃ t x, o.op = .load t x := by
  unfold kind3 at h
  split at h
  · simp at h
  · split at h
    · exact ⟨_, _, by assumption⟩
    · simp at h
    · simp at h
theorem load_no_enter {o : Oper} {t : TypeId} {x : Operand} (ho : o.op = .load t x) (ρ : Operand → Value) (w w' : World) (f : FuncId) (args : Array Value) : (execOp ρ o).run P w ≠ .ok (.enter f args) w' := by
  unfold execOp
  simp only [ho]
  exact run_value _ _ _ _ _
theorem yields_load {o : Oper} {v : Value} {a : Act} {C D : World → Prop} (hk : kind3 o = 1) (h : YieldsIn P ops C o v a) (hD : ∀ w, D w → C w) : YieldsIn P ops D o v a := by
  obtain ⟨t, x, ho⟩ := kind3_load hk
  rcases h with ⟨hw, h⟩ | h
  · refine .inl ⟨hw, fun w hwD => ?_⟩
    have h1 := h w (hD w hwD)
    have h2 := load_no_enter (P := P) ho a.eval w
    unfold Oper.quietAt at h1 ⊢
    generalize (execOp a.eval o).run P w = r at h1 h2
    cases r with
    | ok n w' =>
      cases n with
      | enter f args => exact absurd rfl (h2 w' f args)
      | _ => exact h1
    | halt x w' => exact h1
  · exact .inr h

def famUpon (P : Program) (V : Value → Prop) (C' : Value → World → Prop) : Result Next → Prop
  | .ok (.value u) w' => V u ∧ C' u w'
  | .ok (.enter f args) w' => Calls P f args w' fun e w'' => ∃ v, e = .returned v ∧ V v ∧ C' v w''
  | _ => False
/-- one operation, in a class of worlds -/
def Step3 (P : Program) (ops : Array Oper) (o : Oper) (a : Act) (C : World → Prop) (K : (World → Prop) → Act → Prop) : Prop :=
  (kind3 o = 0 ∧ ∃ v, YieldsIn P ops (fun _ => True) o v a ∧ K C (a.put o.dst v)) ∨
  (kind3 o = 1 ∧ ∃ v, YieldsIn P ops C o v a ∧ K C (a.put o.dst v)) ∨
  (kind3 o = 2 ∧ ∃ v C', StepsIn P ops C C' o v a ∧ K C' (a.put o.dst v)) ∨
  (kind3 o = 3 ∧ ((Region.wanted o (yielded ops a.tmps) = false ∧ K C (a.put o.dst undef)) ∨ (Region.wanted o (yielded ops a.tmps) = true ∧ ∃ (V : Value → Prop) (C' : Value → World → Prop), (∀ v w, C' v w → C w) ∧ (∀ w, C w → famUpon P V C' ((execOp a.eval o).run P w)) ∧ ∀ v, V v → K (C' v) (a.put o.dst v))))

theorem Step3.wpOp {C : World → Prop} {i : Nat} {o : Oper} {a : Act} {K : (World → Prop) → Act → Prop} {K' : Act → World → Prop} {Q' : Exit → Act → World → Prop} {w : World} (hi : ops[i]? = some o) (h : Step3 P ops o a C K) (hC : C w) (hK : ∀ (C' : World → Prop) a' w', C' w' → K C' a' → K' a' w') : wpOp P ops Q' i K' a w := by
  rcases h with ⟨hk, v, hy, hn⟩ | ⟨hk, v, hy, hn⟩ | ⟨hk, v, C', hy, hn⟩ | ⟨hk, h⟩
  · exact OpR.wpOp (C := C) (C' := C) hi (.inl ⟨kind3_pure hk, rfl, hy⟩) hC fun w' hw' => hK C _ w' hw' hn
  · have hk1 : kindOf o = 1 := by
      obtain ⟨t, x, ho⟩ := kind3_load hk
      simp [kindOf, pureOp, ho]
    exact OpR.wpOp (C := C) (C' := C) hi (.inr (.inl ⟨hk1, rfl, hy⟩)) hC fun w' hw' => hK C _ w' hw' hn
  · have hk2 : kindOf o = 2 := by
      unfold kind3 at hk
      unfold kindOf
      split at hk
      · simp at hk
      · rename_i hp
        rw [if_neg hp]
        split at hk
        · simp at hk
        · rename_i heq; simp [heq]
        · simp at hk
    exact OpR.wpOp (C := C) (C' := C') hi (.inr (.inr ⟨hk2, hy⟩)) hC fun w' hw' => hK C' _ w' hw' hn
  · unfold Go.wpOp
    simp only [hi]
    rcases h with ⟨hw, hn⟩ | ⟨hw, V, C', _, hv, hn⟩
    · simp only [hw, Bool.false_eq_true, if_false]
      exact hK C _ w hC hn
    · simp only [hw, if_true]
      left
      have h1 := hv w hC
      unfold Oper.wp
      generalize (execOp a.eval o).run P w = r at h1
      cases r with
      | ok n w' =>
        cases n <;> simp only [famUpon] at h1 <;> simp only [Oper.upon]
        case value u => exact hK (C' u) _ w' h1.2 (hn u h1.1)
        case enter f args =>
          refine h1.mono fun e w'' ⟨v, he, hV, hc⟩ => ?_
          subst he
          exact hK (C' v) _ w'' hc (hn v hV)
      | halt x w' => simp only [famUpon] at h1
/-- what waits for k, through others too -/
def blocked (md : Region.Mode) (ops : Array Oper) (k : Nat) : Array Bool :=
  (List.range ops.size).foldl (fun u j => u.push (j == k || (match ops[j]? with | some oj => oj.after.any (fun e => Region.binds md e && u.getD e.on false) | none => false))) #[]
structure Free3 (md : Region.Mode) (ops : Array Oper) (listed : Array Bool) (i : Nat) (oi : Oper) (U : Array Bool) : Prop where
  size : U.size = ops.size
  own : U.getD i false = true
  wait : ∀ j oj, ops[j]? = some oj → U.getD j false = true → j ≠ i → ∃ e ∈ oj.after, Region.binds md e = true ∧ U.getD e.on false = true
  un : ∀ j, U.getD j false = true → listed.getD j false = false
  free : ∀ j oj, ops[j]? = some oj → U.getD j false = false → listed.getD j true = false → oi.apart ops oj = true ∧ (kind3 oi = 0 ∨ (kind3 oi = 1 ∧ kind3 oj ≠ 2))
theorem Free3.ready {i j : Nat} {oi oj : Oper} {listed U : Array Bool} (h : Free3 md ops listed i oi U) (hj : ops[j]? = some oj) (hji : j ≠ i) (hall : ∀ e ∈ oj.after, Region.binds md e = true → listed.getD e.on false = true) : U.getD j false = false := by
  cases hu : U.getD j false with
  | false => rfl
  | true =>
    obtain ⟨e, he, hb, hue⟩ := h.wait j oj hj hu hji
    have h1 := hall e he hb
    rw [h.un e.on hue] at h1
    cases h1
theorem Free3.set {i j : Nat} {oi : Oper} {listed U : Array Bool} (h : Free3 md ops listed i oi U) (hu : U.getD j false = false) : Free3 md ops (listed.setIfInBounds j true) i oi U := by
  refine ⟨h.size, h.own, h.wait, fun k hk => ?_, fun k ok hk hku hun => h.free k ok hk hku ?_⟩
  · have hne : j ≠ k := fun e => by subst e; rw [hu] at hk; cases hk
    rw [getD_set_ne false hne]; exact h.un k hk
  · by_cases hjk : j = k
    · subst hjk
      rcases Nat.lt_or_ge j listed.size with h' | h'
      · simp [h'] at hun
      · simp [Array.getElem?_eq_none (show (listed.setIfInBounds j true).size ≤ j by simpa using h')] at hun
    · rw [getD_set_ne true hjk] at hun; exact hun
/-- an operation apart: its step is the same whether another's value is in its slot or not -/
theorem Step3.put {oi oj : Oper} {v : Value} {a : Act} {C : World → Prop} {K1 K2 : (World → Prop) → Act → Prop} (hap : oi.apart ops oj = true) (hsj : ∀ cs b, oj.op ≠ .select cs b)
    (hK : ∀ (C' : World → Prop) u, (C' = C ∨ (kind3 oj = 3 ∧ ∀ w, C' w → C w) ∨ kind3 oj = 2) → K1 C' ((a.put oi.dst v).put oj.dst u) → K2 C' (a.put oj.dst u)) (h : Step3 P ops oj (a.put oi.dst v) C K1) : Step3 P ops oj a C K2 := by
  obtain ⟨p1, p2, p3⟩ := Oper.apart_spec hap
  have he := execOp_put oj hsj a oi.dst v p1
  have hw := wanted_put oj a oi.dst v p1
  rcases h with ⟨hk, u, hy, hn⟩ | ⟨hk, u, hy, hn⟩ | ⟨hk, u, C', hy, hn⟩ | ⟨hk, h⟩
  · exact .inl ⟨hk, u, hy.of_same he.symm hw.symm, hK C u (.inl rfl) hn⟩
  · exact .inr (.inl ⟨hk, u, hy.of_same he.symm hw.symm, hK C u (.inl rfl) hn⟩)
  · refine .inr (.inr (.inl ⟨hk, u, C', ?_, hK C' u (.inr (.inr hk)) hn⟩))
    unfold StepsIn at hy ⊢
    rwa [he, hw] at hy
  · refine .inr (.inr (.inr ⟨hk, ?_⟩))
    rcases h with ⟨hwf, hn⟩ | ⟨hwt, V, C', hsub, hv, hn⟩
    · exact .inl ⟨by rw [← hw]; exact hwf, hK C undef (.inl rfl) hn⟩
    · exact .inr ⟨by rw [← hw]; exact hwt, V, C', hsub, by rwa [he] at hv, fun u hu => hK (C' u) u (.inr (.inl ⟨hk, hsub u⟩)) (hn u hu)⟩
theorem Step3.mono {o : Oper} {a : Act} {C : World → Prop} {K K' : (World → Prop) → Act → Prop} (h : Step3 P ops o a C K) (hK : ∀ C a, K C a → K' C a) : Step3 P ops o a C K' := by
  rcases h with ⟨hk, v, hy, hn⟩ | ⟨hk, v, hy, hn⟩ | ⟨hk, v, C', hy, hn⟩ | ⟨hk, h⟩
  · exact .inl ⟨hk, v, hy, hK _ _ hn⟩
  · exact .inr (.inl ⟨hk, v, hy, hK _ _ hn⟩)
  · exact .inr (.inr (.inl ⟨hk, v, C', hy, hK _ _ hn⟩))
  · refine .inr (.inr (.inr ⟨hk, ?_⟩))
    rcases h with ⟨hw, hn⟩ | ⟨hw, V, C', hs, hv, hn⟩
    · exact .inl ⟨hw, hK _ _ hn⟩
    · exact .inr ⟨hw, V, C', hs, hv, fun v hV => hK _ _ (hn v hV)⟩
/-! one operation of the walk -/
theorem yields_of_quiet {o : Oper} {C : World → Prop} {a : Act} {K : Act → Prop} (h : wpQuiet P ops C K [o] a) : ∃ v, YieldsIn P ops C o v a ∧ K (a.put o.dst v) := by
  unfold wpQuiet at h
  by_cases hw : Region.wanted o (yielded ops a.tmps) = true
  · simp only [hw, if_true] at h
    obtain ⟨v, h1, h2⟩ := h
    exact ⟨v, .inl ⟨hw, h1⟩, h2⟩
  · simp only [hw] at h
    exact ⟨undef, .inr ⟨by simpa using hw, rfl⟩, h⟩
/-! the same, the region's operations as a list: so each operation comes written out -/
section
variable {l : List Oper} {Q : (World → Prop) → Act → Prop} {o : Oper} {k : Nat} {r : List Nat} {C : World → Prop} {a : Act}
theorem at_list (ho : l[k]? = some o) : l.toArray[k]? = some o := by simpa using ho
end
end
end Go.Proofs.Ytlbfibnfmijahaa

namespace Go.Proofs.Ytlbfibnfmijahaa
section
variable {P : Program} {ops : Array Oper} {md : Region.Mode} {I : World → Prop}

/-- one operation, in a class of worlds -/
def Step4 (P : Program) (ops : Array Oper) (I : World → Prop) (o : Oper) (a : Act) (C : World → Prop) (K : (World → Prop) → Act → Prop) : Prop :=
  (kind3 o = 0 ∧ ∃ v, YieldsIn P ops (fun _ => True) o v a ∧ K C (a.put o.dst v)) ∨
  (kind3 o = 1 ∧ ∃ v, YieldsIn P ops I o v a ∧ K C (a.put o.dst v)) ∨
  (kind3 o = 2 ∧ ∃ v C', (∀ w, C' w → I w) ∧ StepsIn P ops C C' o v a ∧ K C' (a.put o.dst v)) ∨
  (kind3 o = 3 ∧ ((Region.wanted o (yielded ops a.tmps) = false ∧ K C (a.put o.dst undef)) ∨ (Region.wanted o (yielded ops a.tmps) = true ∧ ∃ (V : Value → Prop) (C' : Value → World → Prop), (∀ v w, C' v w → I w) ∧ (∀ w, C w → famUpon P V C' ((execOp a.eval o).run P w)) ∧ ∀ v, V v → K (C' v) (a.put o.dst v))))

theorem Step4.wpOp {C : World → Prop} {i : Nat} {o : Oper} {a : Act} {K : (World → Prop) → Act → Prop} {K' : Act → World → Prop} {Q' : Exit → Act → World → Prop} {w : World} (hi : ops[i]? = some o) (h : Step4 P ops I o a C K) (hC : C w) (hCI : ∀ w, C w → I w) (hK : ∀ (C' : World → Prop) a' w', C' w' → (∀ w, C' w → I w) → K C' a' → K' a' w') : wpOp P ops Q' i K' a w := by
  rcases h with ⟨hk, v, hy, hn⟩ | ⟨hk, v, hy, hn⟩ | ⟨hk, v, C', hI, hy, hn⟩ | ⟨hk, h⟩
  · exact OpR.wpOp (C := C) (C' := C) hi (.inl ⟨kind3_pure hk, rfl, hy⟩) hC fun w' hw' => hK C _ w' hw' hCI hn
  · have hk1 : kindOf o = 1 := by
      obtain ⟨t, x, ho⟩ := kind3_load hk
      simp [kindOf, pureOp, ho]
    exact OpR.wpOp (C := C) (C' := C) hi (.inr (.inl ⟨hk1, rfl, yields_load hk hy hCI⟩)) hC fun w' hw' => hK C _ w' hw' hCI hn
  · have hk2 : kindOf o = 2 := by
      unfold kind3 at hk
      unfold kindOf
      split at hk
      · simp at hk
      · rename_i hp
        rw [if_neg hp]
        split at hk
        · simp at hk
        · rename_i heq; simp [heq]
        · simp at hk
    exact OpR.wpOp (C := C) (C' := C') hi (.inr (.inr ⟨hk2, hy⟩)) hC fun w' hw' => hK C' _ w' hw' hI hn
  · unfold Go.wpOp
    simp only [hi]
    rcases h with ⟨hw, hn⟩ | ⟨hw, V, C', hI, hv, hn⟩
    · simp only [hw, Bool.false_eq_true, if_false]
      exact hK C _ w hC hCI hn
    · simp only [hw, if_true]
      left
      have h1 := hv w hC
      unfold Oper.wp
      generalize (execOp a.eval o).run P w = r at h1
      cases r with
      | ok n w' =>
        cases n <;> simp only [famUpon] at h1 <;> simp only [Oper.upon]
        case value u => exact hK (C' u) _ w' h1.2 (hI u) (hn u h1.1)
        case enter f args =>
          refine h1.mono fun e w'' ⟨v, he, hV, hc⟩ => ?_
          subst he
          exact hK (C' v) _ w'' hc (hI v) (hn v hV)
      | halt x w' => simp only [famUpon] at h1
/-- an operation apart: its step is the same whether another's value is in its slot or not -/
theorem Step4.put {oi oj : Oper} {v : Value} {a : Act} {C : World → Prop} {K1 K2 : (World → Prop) → Act → Prop} (hap : oi.apart ops oj = true) (hsj : ∀ cs b, oj.op ≠ .select cs b)
    (hK : ∀ (C' : World → Prop) u, K1 C' ((a.put oi.dst v).put oj.dst u) → K2 C' (a.put oj.dst u)) (h : Step4 P ops I oj (a.put oi.dst v) C K1) : Step4 P ops I oj a C K2 := by
  obtain ⟨p1, p2, p3⟩ := Oper.apart_spec hap
  have he := execOp_put oj hsj a oi.dst v p1
  have hw := wanted_put oj a oi.dst v p1
  rcases h with ⟨hk, u, hy, hn⟩ | ⟨hk, u, hy, hn⟩ | ⟨hk, u, C', hI, hy, hn⟩ | ⟨hk, h⟩
  · exact .inl ⟨hk, u, hy.of_same he.symm hw.symm, hK C u hn⟩
  · exact .inr (.inl ⟨hk, u, hy.of_same he.symm hw.symm, hK C u hn⟩)
  · refine .inr (.inr (.inl ⟨hk, u, C', hI, ?_, hK C' u hn⟩))
    unfold StepsIn at hy ⊢
    rwa [he, hw] at hy
  · refine .inr (.inr (.inr ⟨hk, ?_⟩))
    rcases h with ⟨hwf, hn⟩ | ⟨hwt, V, C', hsub, hv, hn⟩
    · exact .inl ⟨by rw [← hw]; exact hwf, hK C undef hn⟩
    · exact .inr ⟨by rw [← hw]; exact hwt, V, C', hsub, by rwa [he] at hv, fun u hu => hK (C' u) u (hn u hu)⟩
/-! as XQ3's, but a load is free of stores too: they stay in I -/
structure Free4 (md : Region.Mode) (ops : Array Oper) (listed : Array Bool) (i : Nat) (oi : Oper) (U : Array Bool) : Prop where
  size : U.size = ops.size
  own : U.getD i false = true
  wait : ∀ j oj, ops[j]? = some oj → U.getD j false = true → j ≠ i → ∃ e ∈ oj.after, Region.binds md e = true ∧ U.getD e.on false = true
  un : ∀ j, U.getD j false = true → listed.getD j false = false
  free : ∀ j oj, ops[j]? = some oj → U.getD j false = false → listed.getD j true = false → oi.apart ops oj = true ∧ (kind3 oi = 0 ∨ kind3 oi = 1)
theorem Free4.ready {i j : Nat} {oi oj : Oper} {listed U : Array Bool} (h : Free4 md ops listed i oi U) (hj : ops[j]? = some oj) (hji : j ≠ i) (hall : ∀ e ∈ oj.after, Region.binds md e = true → listed.getD e.on false = true) : U.getD j false = false := by
  cases hu : U.getD j false with
  | false => rfl
  | true =>
    obtain ⟨e, he, hb, hue⟩ := h.wait j oj hj hu hji
    have h1 := hall e he hb
    rw [h.un e.on hue] at h1
    cases h1
theorem Free4.set {i j : Nat} {oi : Oper} {listed U : Array Bool} (h : Free4 md ops listed i oi U) (hu : U.getD j false = false) : Free4 md ops (listed.setIfInBounds j true) i oi U := by
  refine ⟨h.size, h.own, h.wait, fun k hk => ?_, fun k ok hk hku hun => h.free k ok hk hku ?_⟩
  · have hne : j ≠ k := fun e => by subst e; rw [hu] at hk; cases hk
    rw [getD_set_ne false hne]; exact h.un k hk
  · by_cases hjk : j = k
    · subst hjk
      rcases Nat.lt_or_ge j listed.size with h' | h'
      · simp [h'] at hun
      · simp [Array.getElem?_eq_none (show (listed.setIfInBounds j true).size ≤ j by simpa using h')] at hun
    · rw [getD_set_ne true hjk] at hun; exact hun
theorem Step4.mono {o : Oper} {a : Act} {C : World → Prop} {K K' : (World → Prop) → Act → Prop} (h : Step4 P ops I o a C K) (hK : ∀ C a, K C a → K' C a) : Step4 P ops I o a C K' := by
  rcases h with ⟨hk, v, hy, hn⟩ | ⟨hk, v, hy, hn⟩ | ⟨hk, v, C', hI, hy, hn⟩ | ⟨hk, h⟩
  · exact .inl ⟨hk, v, hy, hK _ _ hn⟩
  · exact .inr (.inl ⟨hk, v, hy, hK _ _ hn⟩)
  · exact .inr (.inr (.inl ⟨hk, v, C', hI, hy, hK _ _ hn⟩))
  · refine .inr (.inr (.inr ⟨hk, ?_⟩))
    rcases h with ⟨hw, hn⟩ | ⟨hw, V, C', hs, hv, hn⟩
    · exact .inl ⟨hw, hK _ _ hn⟩
    · exact .inr ⟨hw, V, C', hs, hv, fun v hV => hK _ _ (hn v hV)⟩
end
/-! one operation of the walk -/
section
variable {P : Program} {I : World → Prop} {l : List Oper} {Q : (World → Prop) → Act → Prop} {o : Oper} {k : Nat} {r : List Nat} {C : World → Prop} {a : Act}
end
end Go.Proofs.Ytlbfibnfmijahaa

namespace Go.Proofs.Ytlbfibnfmijahaa
open Go.RowKit
section
variable {P : Program} {ops : Array Oper} {Q : Exit → Act → World → Prop} {md : Region.Mode}
/-- Orders.lean's, with no way out by what an operation asks for -/
def wpOpS (P : Program) (ops : Array Oper) (Q : Exit → Act → World → Prop) (i : Nat) (K : Act → World → Prop) (a : Act) (w : World) : Prop :=
  match ops[i]? with
  | none => K a w
  | some o => if Region.wanted o (yielded ops a.tmps) then o.wp P a w K Q else K (a.put o.dst undef) w
def wpAnyS (P : Program) (md : Region.Mode) (ops : Array Oper) (Q : Exit → Act → World → Prop) : Nat → Array Bool → Act → World → Prop
  | 0, listed, a, w => Region.ready md ops listed = [] ∧ Q .normal a w
  | fuel + 1, listed, a, w =>
    (Region.ready md ops listed = [] → Q .normal a w) ∧
    ∀ i ∈ Region.ready md ops listed, wpOpS P ops Q i (wpAnyS P md ops Q fuel (listed.setIfInBounds i true)) a w
theorem oper_in {lr n : Nat} {o : Oper} {a : Act} {w : World} {K K' : Act → World → Prop} (hd : ∀ c, o.op ≠ .defer c) (hK : ∀ a w, K a w → K' a w) (h : o.wp P a w K Q) : o.wpIn (Fence.wide.inRound lr) n P a w K' Q := by
  refine ⟨fun _ _ => trivial, ?_⟩
  rw [Fence.inRound_round, Oper.semAt_some lr a.eval o hd]
  unfold Oper.wp at h
  generalize (execOp a.eval o).run P w = r at h
  cases r with
  | ok x w' =>
    cases x <;> simp only [Oper.upon, Oper.uponIn] at h ⊢
    case value v => exact hK _ _ h
    case skip => exact hK _ _ h
    case defer d => exact hK _ _ h
    case enter f args =>
      refine ⟨fun hh => by simp [Fence.wide] at hh, CallsIn.inRound lr (callsIn_wide.2 h |>.mono fun e w'' he => ?_)⟩
      cases e <;> first | exact hK _ _ he | exact he
    case row row args => exact ⟨fun hh => by simp [Fence.wide] at hh, fun c cs _ => let ⟨v, w3, r, s⟩ := h c cs; ⟨v, w3, hK _ _ r, stepsIn_wide.2 s⟩⟩
  | halt x w' => cases x <;> simp only [Oper.upon, Oper.uponIn] at h ⊢ <;> exact h
theorem wpAnyIn_of_S {lr n : Nat} (hd : ∀ (j : Nat) o, ops[j]? = some o → ∀ c, o.op ≠ .defer c) : ∀ (fuel : Nat) (listed : Array Bool) (a : Act) (w : World), wpAnyS P md ops Q fuel listed a w → wpAnyIn (Fence.wide.inRound lr) n P md ops Q fuel listed a w
  | 0, _, _, _, h => h
  | fuel + 1, listed, a, w, h => by
    refine ⟨h.1, fun i hi => ?_⟩
    have h1 := h.2 i hi
    unfold wpOpS at h1
    unfold wpOpIn
    cases ho : ops[i]? with
    | none => rw [ho] at h1; exact wpAnyIn_of_S hd fuel _ _ _ h1
    | some o =>
      rw [ho] at h1
      simp only at h1 ⊢
      split
      · rename_i hw
        rw [if_pos hw] at h1
        exact oper_in (hd i o ho) (fun a w hk => wpAnyIn_of_S hd fuel _ a w hk) h1
      · rename_i hw
        rw [if_neg hw] at h1
        exact ⟨fun _ _ => trivial, wpAnyIn_of_S hd fuel _ _ _ h1⟩
end
section
variable {P : Program} {l : List Oper} {vs : List Value} {fs : List Tmp} {FS : Tmp → Value → World → Prop} {I : World → Prop} {a0 : Act}
end
/-- where the post lets nothing out there is no way out -/
theorem wpAnyS_of {P : Program} {md : Region.Mode} {ops : Array Oper} {Q : Exit → Act → World → Prop} (hno : ¬ LetsOut Q) : ∀ (fuel : Nat) (listed : Array Bool) (a : Act) (w : World), wpAny P md ops Q fuel listed a w → wpAnyS P md ops Q fuel listed a w
  | 0, _, _, _, h => h
  | fuel + 1, listed, a, w, h => by
    refine ⟨h.1, fun i hi => ?_⟩
    have h1 := h.2 i hi
    unfold Go.wpOp at h1
    unfold wpOpS
    cases ho : ops[i]? with
    | none => rw [ho] at h1; exact wpAnyS_of hno fuel _ _ _ h1
    | some o =>
      rw [ho] at h1
      simp only at h1 ⊢
      split
      · rename_i hw
        rw [if_pos hw] at h1
        rcases h1 with h1 | ⟨_, h1⟩
        · exact Oper.wp_mono (fun a w hk => wpAnyS_of hno fuel _ a w hk) h1
        · exact absurd h1 hno
      · rename_i hw
        rw [if_neg hw] at h1
        exact wpAnyS_of hno fuel _ _ _ h1
end Go.Proofs.Ytlbfibnfmijahaa

namespace Go.Proofs.Ytlbfibnfmijahaa
open Go.RowKit
section
variable {P : Program} {ops : Array Oper} {Q : Exit → Act → World → Prop} {md : Region.Mode}
end
section
variable {P : Program} {l : List Oper} {vs : List Value} {fs : List Tmp} {FS : Tmp → Value → World → Prop} {I : World → Prop} {a0 : Act}
end
end Go.Proofs.Ytlbfibnfmijahaa

namespace Go.Proofs.Ytlbfibnfmijahaa
section
variable {P : Program} {ops : Array Oper} {md : Region.Mode} {I : World → Prop}

/-- one operation, in a class of worlds -/
def Step7 (b : Bool) (P : Program) (ops : Array Oper) (I : World → Prop) (o : Oper) (a : Act) (C : World → Prop) (K : (World → Prop) → Act → Prop) : Prop :=
  ((b = false ∧ kind3 o = 0) ∧ ∃ v, YieldsIn P ops (fun _ => True) o v a ∧ K C (a.put o.dst v)) ∨
  ((b = false ∧ kind3 o = 1) ∧ ∃ v, YieldsIn P ops I o v a ∧ K C (a.put o.dst v)) ∨
  (kind3 o = 2 ∧ ∃ v C', (∀ w, C' w → I w) ∧ StepsIn P ops C C' o v a ∧ K C' (a.put o.dst v)) ∨
  ((b = true ∨ kind3 o = 3) ∧ ((Region.wanted o (yielded ops a.tmps) = false ∧ K C (a.put o.dst undef)) ∨ (Region.wanted o (yielded ops a.tmps) = true ∧ ∃ (V : Value → Prop) (C' : Value → World → Prop), (∀ v w, C' v w → I w) ∧ (∀ w, C w → famUpon P V C' ((execOp a.eval o).run P w)) ∧ ∀ v, V v → K (C' v) (a.put o.dst v))))

def wpAny7 (P : Program) (md : Region.Mode) (ops : Array Oper) (I : World → Prop) (Q : (World → Prop) → Act → Prop) : Nat → Array Bool → (World → Prop) → Act → Prop
  | 0, listed, C, a => Region.ready md ops listed = [] ∧ Q C a
  | fuel + 1, listed, C, a =>
    (Region.ready md ops listed = [] → Q C a) ∧
    ∀ i ∈ Region.ready md ops listed, ∀ o, ops[i]? = some o → ∃ b, Step7 b P ops I o a C (wpAny7 P md ops I Q fuel (listed.setIfInBounds i true))
theorem Step7.wpOp {b : Bool} {C : World → Prop} {i : Nat} {o : Oper} {a : Act} {K : (World → Prop) → Act → Prop} {K' : Act → World → Prop} {Q' : Exit → Act → World → Prop} {w : World} (hi : ops[i]? = some o) (h : Step7 b P ops I o a C K) (hC : C w) (hCI : ∀ w, C w → I w) (hK : ∀ (C' : World → Prop) a' w', C' w' → (∀ w, C' w → I w) → K C' a' → K' a' w') : wpOp P ops Q' i K' a w := by
  rcases h with ⟨hk, v, hy, hn⟩ | ⟨hk, v, hy, hn⟩ | ⟨hk, v, C', hI, hy, hn⟩ | ⟨hk, h⟩
  · exact OpR.wpOp (C := C) (C' := C) hi (.inl ⟨kind3_pure hk.2, rfl, hy⟩) hC fun w' hw' => hK C _ w' hw' hCI hn
  · have hk1 : kindOf o = 1 := by
      obtain ⟨t, x, ho⟩ := kind3_load hk.2
      simp [kindOf, pureOp, ho]
    exact OpR.wpOp (C := C) (C' := C) hi (.inr (.inl ⟨hk1, rfl, yields_load hk.2 hy hCI⟩)) hC fun w' hw' => hK C _ w' hw' hCI hn
  · have hk2 : kindOf o = 2 := by
      unfold kind3 at hk
      unfold kindOf
      split at hk
      · simp at hk
      · rename_i hp
        rw [if_neg hp]
        split at hk
        · simp at hk
        · rename_i heq; simp [heq]
        · simp at hk
    exact OpR.wpOp (C := C) (C' := C') hi (.inr (.inr ⟨hk2, hy⟩)) hC fun w' hw' => hK C' _ w' hw' hI hn
  · unfold Go.wpOp
    simp only [hi]
    rcases h with ⟨hw, hn⟩ | ⟨hw, V, C', hI, hv, hn⟩
    · simp only [hw, Bool.false_eq_true, if_false]
      exact hK C _ w hC hCI hn
    · simp only [hw, if_true]
      left
      have h1 := hv w hC
      unfold Oper.wp
      generalize (execOp a.eval o).run P w = r at h1
      cases r with
      | ok n w' =>
        cases n <;> simp only [famUpon] at h1 <;> simp only [Oper.upon]
        case value u => exact hK (C' u) _ w' h1.2 (hI u) (hn u h1.1)
        case enter f args =>
          refine h1.mono fun e w'' ⟨v, he, hV, hc⟩ => ?_
          subst he
          exact hK (C' v) _ w'' hc (hI v) (hn v hV)
      | halt x w' => simp only [famUpon] at h1
theorem wpAny_of_7 {Q : (World → Prop) → Act → Prop} {Q' : Exit → Act → World → Prop} (hQ : ∀ (C : World → Prop) a w, C w → Q C a → Q' .normal a w) : ∀ (fuel : Nat) (listed : Array Bool) (C : World → Prop) (a : Act) (w : World), C w → (∀ w, C w → I w) →
    wpAny7 P md ops I Q fuel listed C a → wpAny P md ops Q' fuel listed a w
  | 0, _, _, _, _, hw, _, h => ⟨h.1, hQ _ _ _ hw h.2⟩
  | fuel + 1, _, _, _, _, hw, hI, h => ⟨fun h0 => hQ _ _ _ hw (h.1 h0), fun i hi => by
      obtain ⟨_, o, ho, _⟩ := mem_ready.1 hi
      obtain ⟨_, h2⟩ := h.2 i hi o ho
      exact h2.wpOp ho hw hI fun C' a' w' hw' hI' hn => wpAny_of_7 hQ fuel _ C' a' w' hw' hI' hn⟩
/-- an operation apart: its step is the same whether another's value is in its slot or not -/
theorem Step7.put {b : Bool} {oi oj : Oper} {v : Value} {a : Act} {C : World → Prop} {K1 K2 : (World → Prop) → Act → Prop} (hap : oi.apart ops oj = true) (hsj : ∀ cs b, oj.op ≠ .select cs b)
    (hK : ∀ (C' : World → Prop) u, K1 C' ((a.put oi.dst v).put oj.dst u) → K2 C' (a.put oj.dst u)) (h : Step7 b P ops I oj (a.put oi.dst v) C K1) : Step7 b P ops I oj a C K2 := by
  obtain ⟨p1, p2, p3⟩ := Oper.apart_spec hap
  have he := execOp_put oj hsj a oi.dst v p1
  have hw := wanted_put oj a oi.dst v p1
  rcases h with ⟨hk, u, hy, hn⟩ | ⟨hk, u, hy, hn⟩ | ⟨hk, u, C', hI, hy, hn⟩ | ⟨hk, h⟩
  · exact .inl ⟨hk, u, hy.of_same he.symm hw.symm, hK C u hn⟩
  · exact .inr (.inl ⟨hk, u, hy.of_same he.symm hw.symm, hK C u hn⟩)
  · refine .inr (.inr (.inl ⟨hk, u, C', hI, ?_, hK C' u hn⟩))
    unfold StepsIn at hy ⊢
    rwa [he, hw] at hy
  · refine .inr (.inr (.inr ⟨hk, ?_⟩))
    rcases h with ⟨hwf, hn⟩ | ⟨hwt, V, C', hsub, hv, hn⟩
    · exact .inl ⟨by rw [← hw]; exact hwf, hK C undef hn⟩
    · exact .inr ⟨by rw [← hw]; exact hwt, V, C', hsub, by rwa [he] at hv, fun u hu => hK (C' u) u (hn u hu)⟩
/-! as XQ3's, but a load is free of stores too: they stay in I -/
def free7 (md : Region.Mode) (ops : Array Oper) (listed : Array Bool) (k : Nat) (b : Bool) : Bool :=
  let U := blocked md ops k
  U.getD k false && U.size == ops.size &&
  match ops[k]? with
  | none => false
  | some ok => (List.range ops.size).all fun j =>
    match ops[j]? with
    | some oj =>
      if U.getD j false then !listed.getD j false && (j == k || oj.after.any (fun e => Region.binds md e && U.getD e.on false))
      else listed.getD j true || (!b && ok.apart ops oj && (kind3 ok == 0 || kind3 ok == 1))
    | none => true
structure Free7 (b : Bool) (md : Region.Mode) (ops : Array Oper) (listed : Array Bool) (i : Nat) (oi : Oper) (U : Array Bool) : Prop where
  size : U.size = ops.size
  own : U.getD i false = true
  wait : ∀ j oj, ops[j]? = some oj → U.getD j false = true → j ≠ i → ∃ e ∈ oj.after, Region.binds md e = true ∧ U.getD e.on false = true
  un : ∀ j, U.getD j false = true → listed.getD j false = false
  free : ∀ j oj, ops[j]? = some oj → U.getD j false = false → listed.getD j true = false → b = false ∧ oi.apart ops oj = true ∧ (kind3 oi = 0 ∨ kind3 oi = 1)
theorem free7_spec {b : Bool} {i : Nat} {oi : Oper} {listed : Array Bool} (hi : ops[i]? = some oi) (h : free7 md ops listed i b = true) : Free7 b md ops listed i oi (blocked md ops i) := by
  simp only [free7, hi, List.all_eq_true, List.mem_range, Bool.and_eq_true, beq_iff_eq] at h
  obtain ⟨⟨hown, hsz⟩, h⟩ := h
  have at_ : ∀ j oj, ops[j]? = some oj → (if (blocked md ops i).getD j false = true then (!listed.getD j false && (j == i || oj.after.any (fun e => Region.binds md e && (blocked md ops i).getD e.on false))) = true
      else (listed.getD j true || (!b && oi.apart ops oj && (kind3 oi == 0 || kind3 oi == 1))) = true) := fun j oj hj => by
    have h1 := h j (Array.getElem?_eq_some_iff.1 hj).1
    simp only [hj] at h1
    split at h1 <;> rename_i hu
    · rw [if_pos hu]; exact h1
    · rw [if_neg hu]; exact h1
  refine ⟨hsz, hown, fun j oj hj hu hne => ?_, fun j hu => ?_, fun j oj hj hu hun => ?_⟩
  · have h1 := at_ j oj hj
    rw [if_pos hu] at h1
    simp only [Bool.and_eq_true, Bool.or_eq_true, beq_iff_eq, hne, false_or] at h1
    obtain ⟨e, he, hb⟩ := Array.any_eq_true'.1 h1.2
    simp only [Bool.and_eq_true] at hb
    exact ⟨e, he, hb.1, hb.2⟩
  · have hlt : j < ops.size := by
      rw [← hsz]
      rcases Nat.lt_or_ge j (blocked md ops i).size with h' | h'
      · exact h'
      · simp [Array.getElem?_eq_none h'] at hu
    have h1 := at_ j _ (Array.getElem?_eq_getElem hlt)
    rw [if_pos hu] at h1
    simp only [Bool.and_eq_true, Bool.not_eq_true'] at h1
    exact h1.1
  · have h1 := at_ j oj hj
    rw [if_neg (by rw [hu]; exact Bool.false_ne_true)] at h1
    simp only [hun, Bool.or_eq_true, Bool.false_eq_true, false_or, Bool.and_eq_true, beq_iff_eq, Bool.not_eq_true'] at h1
    exact ⟨h1.1.1, h1.1.2, h1.2⟩
theorem Free7.ready {b : Bool} {i j : Nat} {oi oj : Oper} {listed U : Array Bool} (h : Free7 b md ops listed i oi U) (hj : ops[j]? = some oj) (hji : j ≠ i) (hall : ∀ e ∈ oj.after, Region.binds md e = true → listed.getD e.on false = true) : U.getD j false = false := by
  cases hu : U.getD j false with
  | false => rfl
  | true =>
    obtain ⟨e, he, hb, hue⟩ := h.wait j oj hj hu hji
    have h1 := hall e he hb
    rw [h.un e.on hue] at h1
    cases h1
theorem Free7.set {b : Bool} {i j : Nat} {oi : Oper} {listed U : Array Bool} (h : Free7 b md ops listed i oi U) (hu : U.getD j false = false) : Free7 b md ops (listed.setIfInBounds j true) i oi U := by
  refine ⟨h.size, h.own, h.wait, fun k hk => ?_, fun k ok hk hku hun => h.free k ok hk hku ?_⟩
  · have hne : j ≠ k := fun e => by subst e; rw [hu] at hk; cases hk
    rw [getD_set_ne false hne]; exact h.un k hk
  · by_cases hjk : j = k
    · subst hjk
      rcases Nat.lt_or_ge j listed.size with h' | h'
      · simp [h'] at hun
      · simp [Array.getElem?_eq_none (show (listed.setIfInBounds j true).size ≤ j by simpa using h')] at hun
    · rw [getD_set_ne true hjk] at hun; exact hun
/-- may the operations be walked in this order? -/
def orderB7 (md : Region.Mode) (ops : Array Oper) : List (Nat × Bool) → Array Bool → Bool
  | [], listed => (Region.ready md ops listed).isEmpty
  | k :: r, listed => (Region.ready md ops listed).contains k.1 && free7 md ops listed k.1 k.2 && orderB7 md ops r (listed.setIfInBounds k.1 true)
def order7 (md : Region.Mode) (ops : Array Oper) (ks : List (Nat × Bool)) : Bool := Region.noSelect ops && ks.length == ops.size && orderB7 md ops ks (Array.replicate ops.size false)
theorem wpAny7_first {b : Bool} {Q : (World → Prop) → Act → Prop} {i : Nat} {oi : Oper} (hi : ops[i]? = some oi) (hsel : ∀ (j : Nat) (o : Oper) cs b, ops[j]? = some o → o.op ≠ .select cs b) :
    ∀ (fuel : Nat) (listed : Array Bool) (C : World → Prop) (a : Act) (U : Array Bool), Free7 b md ops listed i oi U → i ∈ Region.ready md ops listed →
      Step7 b P ops I oi a C (wpAny7 P md ops I Q fuel (listed.setIfInBounds i true)) → wpAny7 P md ops I Q (fuel + 1) listed C a := by
  intro fuel
  induction fuel with
  | zero =>
    intro listed C a U hfree hr H
    refine ⟨fun h => (by rw [h] at hr; cases hr), fun j hj o ho => ?_⟩
    by_cases hji : j = i
    · subst hji
      have : o = oi := Option.some.inj (ho.symm.trans hi)
      subst this
      exact ⟨b, H⟩
    · exfalso
      have hmono := ready_mono hj hji
      obtain ⟨hjun, oj', hoj', hall⟩ := mem_ready.1 hj
      have hju := hfree.ready hoj' hji hall
      obtain ⟨hbf, _, hkind⟩ := hfree.free j oj' hoj' hju hjun
      have nil : ∀ {C' : World → Prop} {a' : Act}, wpAny7 P md ops I Q 0 (listed.setIfInBounds i true) C' a' → False := fun h => by
        rw [h.1] at hmono; cases hmono
      rcases H with ⟨_, _, _, hn⟩ | ⟨_, _, _, hn⟩ | ⟨hk, _⟩ | ⟨hk, _⟩
      · exact nil hn
      · exact nil hn
      · rcases hkind with h | h <;> rw [hk] at h <;> simp at h
      · rcases hk with hk | hk
        · rw [hbf] at hk; cases hk
        · rcases hkind with h | h <;> rw [hk] at h <;> simp at h
  | succ fuel ih =>
    intro listed C a U hfree hr H
    refine ⟨fun h => (by rw [h] at hr; cases hr), fun j hj oj hoj => ?_⟩
    by_cases hji : j = i
    · subst hji
      have : oj = oi := Option.some.inj (hoj.symm.trans hi)
      subst this
      exact ⟨b, H⟩
    · obtain ⟨hjun, oj', hoj', hall⟩ := mem_ready.1 hj
      have : oj' = oj := Option.some.inj (hoj'.symm.trans hoj)
      subst this
      have hju := hfree.ready hoj' hji hall
      obtain ⟨hbf, hap, hkind⟩ := hfree.free j oj' hoj hju hjun
      obtain ⟨p1, p2, p3⟩ := Oper.apart_spec hap
      have hsi : ∀ cs b, oi.op ≠ .select cs b := fun cs b => hsel i oi cs b hi
      have hsj : ∀ cs b, oj'.op ≠ .select cs b := fun cs b => hsel j oj' cs b hoj
      have hfree' := hfree.set hju
      have hr' := ready_mono hr (Ne.symm hji)
      have next : ∀ v, (kind3 oi = 0 ∧ YieldsIn P ops (fun _ => True) oi v a ∨ kind3 oi = 1 ∧ YieldsIn P ops I oi v a) → wpAny7 P md ops I Q (fuel + 1) (listed.setIfInBounds i true) C (a.put oi.dst v) → ∃ b', Step7 b' P ops I oj' a C (wpAny7 P md ops I Q (fuel + 1) (listed.setIfInBounds j true)) := by
        intro v hy hn
        obtain ⟨b', hst⟩ := hn.2 j (ready_mono hj hji) oj' hoj
        refine ⟨b', Step7.put (v := v) hap hsj (fun C' u h3 => ih _ C' _ U hfree' hr' ?_) hst⟩
        have h4 : wpAny7 P md ops I Q fuel ((listed.setIfInBounds j true).setIfInBounds i true) C' ((a.put oj'.dst u).put oi.dst v) := by
          rw [Array.setIfInBounds_comm _ _ hji]
          rw [Act.put_comm a v u p2] at h3
          exact h3
        have hs1 := execOp_put oi hsi a oj'.dst u p3
        have hs2 := wanted_put oi a oj'.dst u p3
        rcases hy with ⟨hk, hy⟩ | ⟨hk, hy⟩
        · exact .inl ⟨⟨hbf, hk⟩, v, hy.of_same hs1 hs2, h4⟩
        · exact .inr (.inl ⟨⟨hbf, hk⟩, v, hy.of_same hs1 hs2, h4⟩)
      rcases H with ⟨hk, v, hy, hn⟩ | ⟨hk, v, hy, hn⟩ | ⟨hk, _⟩ | ⟨hk, _⟩
      · exact next v (.inl ⟨hk.2, hy⟩) hn
      · exact next v (.inr ⟨hk.2, hy⟩) hn
      · rcases hkind with h | h <;> rw [hk] at h <;> simp at h
      · rcases hk with hk | hk
        · rw [hbf] at hk; cases hk
        · rcases hkind with h | h <;> rw [hk] at h <;> simp at h

/-- the walk in that order -/
def wpO7 (P : Program) (ops : Array Oper) (I : World → Prop) (Q : (World → Prop) → Act → Prop) : List (Nat × Bool) → (World → Prop) → Act → Prop
  | [], C, a => Q C a
  | k :: r, C, a => ∃ o, ops[k.1]? = some o ∧ Step7 k.2 P ops I o a C (wpO7 P ops I Q r)
theorem Step7.mono {b : Bool} {o : Oper} {a : Act} {C : World → Prop} {K K' : (World → Prop) → Act → Prop} (h : Step7 b P ops I o a C K) (hK : ∀ C a, K C a → K' C a) : Step7 b P ops I o a C K' := by
  rcases h with ⟨hk, v, hy, hn⟩ | ⟨hk, v, hy, hn⟩ | ⟨hk, v, C', hI, hy, hn⟩ | ⟨hk, h⟩
  · exact .inl ⟨hk, v, hy, hK _ _ hn⟩
  · exact .inr (.inl ⟨hk, v, hy, hK _ _ hn⟩)
  · exact .inr (.inr (.inl ⟨hk, v, C', hI, hy, hK _ _ hn⟩))
  · refine .inr (.inr (.inr ⟨hk, ?_⟩))
    rcases h with ⟨hw, hn⟩ | ⟨hw, V, C', hs, hv, hn⟩
    · exact .inl ⟨hw, hK _ _ hn⟩
    · exact .inr ⟨hw, V, C', hs, hv, fun v hV => hK _ _ (hn v hV)⟩
theorem wpAny7_order {Q : (World → Prop) → Act → Prop} (hs : Region.noSelect ops = true) : ∀ (ks : List (Nat × Bool)) (listed : Array Bool) (C : World → Prop) (a : Act),
    orderB7 md ops ks listed = true → wpO7 P ops I Q ks C a → wpAny7 P md ops I Q ks.length listed C a
  | [], _, _, _, hB, h => ⟨by simpa [orderB7] using hB, h⟩
  | k :: r, listed, C, a, hB, h => by
    obtain ⟨o, ho, h⟩ := h
    simp only [orderB7, Bool.and_eq_true] at hB
    obtain ⟨⟨hr, hf⟩, hB'⟩ := hB
    exact wpAny7_first ho (Region.noSelect_spec hs) r.length listed C a _ (free7_spec ho hf) (by simpa using hr) (h.mono fun C' a' hn => wpAny7_order hs r _ C' a' hB' hn)
theorem wpIn_region_order7 {lr n : Nat} {id : Nat} {Q : Exit → Act → World → Prop} {a : Act} {w : World} {l : List Oper} (ks : List (Nat × Bool)) (I : World → Prop) {C : World → Prop} (hm : P.follows .mixedOrders = true) (hno : ¬ LetsOut Q) (hdf : (l.all fun o => match o.op with | .defer _ => false | _ => true) = true) (hB : order7 .any l.toArray ks = true) (hC : C w.drew) (hI : ∀ w, C w → I w)
    (h : wpO7 P l.toArray I (fun C a' => ∀ w', C w' → Q .normal a' w') ks C a) : (Code.region id l.toArray true).wpIn (Fence.wide.inRound lr) n P Q a w := by
  simp only [order7, Bool.and_eq_true, beq_iff_eq] at hB
  refine wpIn_region_any hm (wpAnyIn_of_S (fun j o ho c hc => ?_) _ _ _ _ (wpAnyS_of hno _ _ _ _ (wpAny_of_7 (I := I) (Q := fun C a' => ∀ w', C w' → Q .normal a' w') (fun C a w' hw' h => h w' hw') _ _ C _ _ hC hI ?_)))
  · have hmem : o ∈ l := List.mem_of_getElem? (by simpa using ho)
    rw [List.all_eq_true] at hdf
    have := hdf o hmem
    rw [hc] at this
    cases this
  · have := wpAny7_order (md := .any) hB.1.1 ks (Array.replicate l.toArray.size false) C a hB.2 h
    rwa [hB.1.2] at this
end
/-! one operation of the walk -/
section
variable {P : Program} {I : World → Prop} {l : List Oper} {Q : (World → Prop) → Act → Prop} {o : Oper} {k : Nat} {r : List (Nat × Bool)} {C : World → Prop} {a : Act}
theorem wpO7_pure (ho : l[k]? = some o) (hk : kind3 o = 0) (h : wpQuiet P l.toArray (fun _ => True) (fun a' => wpO7 P l.toArray I Q r C a') [o] a) : wpO7 P l.toArray I Q ((k, false) :: r) C a :=
  ⟨o, at_list ho, .inl ⟨⟨rfl, hk⟩, yields_of_quiet h⟩⟩
theorem wpO7_load {t : TypeId} {x : Operand} {ad : Addr} (v : Value) (ho : l[k]? = some o) (hop : o.op = .load t x) (hw : Region.wanted o (yielded l.toArray a.tmps) = true) (hx : a.eval x = .pointer (some ad))
    (hrun : ∀ w, I w → (Instr.loadAt t (.pointer (some ad))).run P w = .ok v w) (h : wpO7 P l.toArray I Q r C (a.put o.dst v)) : wpO7 P l.toArray I Q ((k, false) :: r) C a := by
  refine ⟨o, at_list ho, .inr (.inl ⟨⟨rfl, by simp [kind3, pureOp, hop]⟩, v, .inl ⟨hw, fun w hC => ?_⟩, h⟩)⟩
  unfold Oper.quietAt execOp
  simp only [hop, hx]
  rw [Sem.run_bind, hrun w hC]
  exact ⟨rfl, rfl⟩
theorem wpO7_call (V : Value → Prop) (C' : Value → World → Prop) {f : FuncId} {args : Array Value} (ho : l[k]? = some o) (hk : kind3 o = 3) (hw : Region.wanted o (yielded l.toArray a.tmps) = true) (hsub : ∀ v w, C' v w → I w)
    (hrun : ∀ w, (execOp a.eval o).run P w = .ok (.enter f args) w) (hc : ∀ w, C w → Calls P f args w fun e w'' => ∃ v, e = .returned v ∧ V v ∧ C' v w'') (h : ∀ v, V v → wpO7 P l.toArray I Q r (C' v) (a.put o.dst v)) : wpO7 P l.toArray I Q ((k, false) :: r) C a :=
  ⟨o, at_list ho, .inr (.inr (.inr ⟨.inr hk, .inr ⟨hw, V, C', hsub, fun w hC => by rw [hrun w]; exact hc w hC, h⟩⟩))⟩
theorem wpO7_store (C' : World → Prop) {t : TypeId} {x y : Operand} (ho : l[k]? = some o) (hop : o.op = .store t x y) (hd : o.dst = none) (hg : o.guard = none) (ad : Addr) (v : Value) (hx : a.eval x = .pointer (some ad)) (hy : a.eval y = v) (hsub : ∀ w, C' w → I w)
    (hrun : ∀ w, C w → ∃ w', (Instr.storeAt t (.pointer (some ad)) v).run P w = .ok () w' ∧ C' w') (h : wpO7 P l.toArray I Q r C' a) : wpO7 P l.toArray I Q ((k, false) :: r) C a := by
  refine ⟨o, at_list ho, .inr (.inr (.inl ⟨by simp [kind3, pureOp, hop], undef, C', hsub, .inl ⟨by simp [Region.wanted, hg], fun w hw => ?_⟩, ?_⟩))⟩
  · obtain ⟨w', hr, hc⟩ := hrun w hw
    unfold execOp
    simp only [hop, hx, hy]
    rw [Sem.run_bind, hr]
    exact ⟨rfl, hc⟩
  · rw [hd]; exact h
/-- a bound load: by the class at its turn -/
theorem wpO7_look {t : TypeId} {x : Operand} {ad : Addr} (v : Value) (ho : l[k]? = some o) (hop : o.op = .load t x) (hw : Region.wanted o (yielded l.toArray a.tmps) = true) (hx : a.eval x = .pointer (some ad)) (hsub : ∀ w, C w → I w)
    (hrun : ∀ w, C w → (Instr.loadAt t (.pointer (some ad))).run P w = .ok v w) (h : wpO7 P l.toArray I Q r C (a.put o.dst v)) : wpO7 P l.toArray I Q ((k, true) :: r) C a := by
  refine ⟨o, at_list ho, .inr (.inr (.inr ⟨.inl rfl, .inr ⟨hw, fun u => u = v, fun _ => C, fun _ => hsub, fun w hC => ?_, fun u hu => by subst hu; exact h⟩⟩))⟩
  unfold execOp
  simp only [hop, hx]
  rw [Sem.run_bind, hrun w hC]
  exact ⟨rfl, hC⟩
end
end Go.Proofs.Ytlbfibnfmijahaa

namespace Go.Proofs.Ytlbfibnfmijahaa
open Go.RowKit Go.Shelf
set_option maxRecDepth 100000
attribute [local go_sem] Oper.semAt_some

/-- a message's box b0 and an error's box behind it -/
structure CkB (b0 : Nat) (w4 : World) (M : Mg) (E : Int) (V : World) : Prop where
  m : ∃ P C, V.heap[b0]? = some (.cells (mC M P C) 33 (0, 0)) ∧ MAt V b0 M P C
  e : V.heap[b0 + 1]? = some (.cells #[.int .i64 E] 23 (0, 0))
  off : Off (fun q => q = b0 ∨ q = b0 + 1) w4 V
section
variable {b0 : Nat} {w4 V V' : World} {M M' : Mg} {E E' : Int}
theorem MAt.kept {w w' : World} {B : Nat} {M : Mg} {P C : Value} (h : MAt w B M P C) (hk : ∀ p : Addr, p.block < B → w'.cell? p = w.cell? p) : MAt w' B M P C := by
  obtain ⟨⟨a, c, h1, h2, h3⟩, ⟨a', c', h4, h5, h6⟩⟩ := h
  exact ⟨⟨a, c, h1, h2, h3.kept hk⟩, ⟨a', c', h4, h5, h6.kept hk⟩⟩
theorem CkB.later (h : CkB b0 w4 M E V) (hb : Below V.heap.size V V') : CkB b0 w4 M E V' := by
  obtain ⟨P, C, h1, h2⟩ := h.m
  have hl := (Array.getElem?_eq_some_iff.1 h1).1
  exact ⟨⟨P, C, (hb.block _ hl).trans h1, h2.kept fun p hp => hb.cell (by omega)⟩, (hb.block _ (Array.getElem?_eq_some_iff.1 h.e).1).trans h.e, off_below h.off (hb.mono h.off.size)⟩
theorem CkB.putObj {l : Nat} {o' : Obj} (h : CkB b0 w4 M E V) (hw : w4.heap.size ≤ l) (hw4 : b0 + 1 < w4.heap.size) : CkB b0 w4 M E (V.putObj l o') := by
  obtain ⟨P, C, h1, h2⟩ := h.m
  have hp : Below l V (V.putObj l o') := below_put V o' (Nat.le_refl _)
  exact ⟨⟨P, C, (World.putObj_heap_other (by omega)).trans h1, h2.kept fun p hp' => hp.cell (by omega)⟩, (World.putObj_heap_other (by omega)).trans h.e, off_below h.off (below_put V o' hw)⟩
/-- an error is told, and a cell of the message turned -/
theorem CkB.set (h : CkB b0 w4 M E V) (E' : Int) (j : Nat) (u : Value) (hM : ∀ P C, V.heap[b0]? = some (.cells (mC M P C) 33 (0, 0)) → MAt V b0 M P C → ∃ P' C', (mC M P C).setIfInBounds j u = mC M' P' C' ∧ MAt V b0 M' P' C') :
    CkB b0 w4 M' E' ((V.setCell ⟨b0 + 1, 0, none⟩ (.int .i64 E')).setCell ⟨b0, j, none⟩ u) := by
  obtain ⟨P, C, h1, h2⟩ := h.m
  obtain ⟨P', C', h3, h4⟩ := hM P C h1 h2
  have h5 : (V.setCell ⟨b0 + 1, 0, none⟩ (.int .i64 E')).heap[b0]? = some (.cells (mC M P C) 33 (0, 0)) := (Below.heap_setCell _ _ _ _ (by show b0 ≠ b0 + 1; omega)).trans h1
  have h6 : Below b0 V ((V.setCell ⟨b0 + 1, 0, none⟩ (.int .i64 E')).setCell ⟨b0, j, none⟩ u) := ((Below.refl b0 V).setCell (p := ⟨b0 + 1, 0, none⟩) (by show b0 ≤ b0 + 1; omega) _).setCell (p := ⟨b0, j, none⟩) (Nat.le_refl _) _
  refine ⟨⟨P', C', by rw [setCell_at h5, h3], h4.kept fun p hp => h6.cell hp⟩, ?_, ?_⟩
  · rw [Below.heap_setCell _ _ _ _ (by show b0 + 1 ≠ b0; omega), setCell_at h.e]
    rfl
  · exact (h.off.setCell (p := ⟨b0 + 1, 0, none⟩) (.inr rfl) _).setCell (p := ⟨b0, j, none⟩) (.inl rfl) _
end
theorem kf_two {V W : World} {b s : Nat} (h : Off (fun q => q = b ∨ q = b + 1) V W) (hb : b + 1 < s) : KeepsFrom s V W := ⟨h.size, fun q o hq ho _ => (h.block q (Array.getElem?_eq_some_iff.1 ho).1 (by omega)).trans ho⟩
theorem ket_two {V W : World} {b : Nat} {tf ti : TypeId} (h : Off (fun q => q = b ∨ q = b + 1) V W) : KeT tf ti (b + 2) V W := ⟨h.size, fun q cs t hq _ hA => h.block q (Array.getElem?_eq_some_iff.1 hA).1 (by omega)⟩
theorem Msm.strip {M : Mg} (h : Msm M) (f : Fd) : Msm (strip M f) := by
  unfold Proofs.Ytlbfibnfmijahaa.strip
  repeat' split
  · exact ⟨by simp, h.c, h.tx, h.tg⟩
  · exact ⟨h.p, by simp, h.tx, h.tg⟩
  · exact ⟨h.p, h.c, by show (ByteArray.mk #[]).size ≤ 80; decide, h.tg⟩
  · exact ⟨h.p, h.c, h.tx, by show (ByteArray.mk #[]).size ≤ 80; decide⟩
  · exact ⟨by rw [Mg.put_p]; exact h.p, by rw [Mg.put_c]; exact h.c, by rw [Mg.put_tx]; exact h.tx, by rw [Mg.put_tg]; exact h.tg⟩
theorem Msm.fold {M : Mg} (h : Msm M) : ∀ L : List Fd, Msm (L.foldl Proofs.Ytlbfibnfmijahaa.strip M) := by
  intro L
  induction L generalizing M with
  | nil => exact h
  | cons f r ih => exact ih (h.strip f)

set_option maxHeartbeats 16000000 in
theorem mcheck_any (M : Mg) (P C : Value) (w : World) (hs : Msm M) (h1 : MAt w w.heap.size M P C) : Calls Try.prog 22 #[mV M P C] w fun e w' => e = .returned (.int .i64 (mck M)) ∧ Below w.heap.size w w' := by
  have KW := Lib.hid (word_any M.k)
  obtain ⟨R, hR⟩ : ∃ R, mck M = R := ⟨_, rfl⟩
  rw [hR]
  unfold mck at hR
  obtain ⟨⟨ap, cp, rfl, hcp, ha⟩, ⟨ac, cc, rfl, hcc, hc⟩⟩ := h1
  by_cases hk : wd M.k = ⟨#[]⟩
  · rw [if_pos ((FD_nil _).2 hk)] at hR
    subst hR
    rw [hk] at KW
    have HB := Lib.hid ((Below.refl _ w).alloc (Nat.le_refl _) (.cells (mC M (.slice ap M.p.length cp) (.slice ac M.c.length cc)) 33))
    unfold mV mC at *
    clear ha hc hcp hcc hs hk
    go_enter Try.func22, Try.ntmps22
    go_wp2
    refine wp_scope_straight ?_
    go_wp2_with fail
    refine (KW.out _).mono ?_
    rintro e w1 ⟨rfl, rfl⟩
    go_wp2
    try simp only [Exit.noGoto]
    go_ret
    exact ⟨rfl, HB.out⟩
  · rw [if_neg (fun e => hk ((FD_nil _).1 e))] at hR
    have hwne := str_nil hk
    have hwn2 : (wd M.k).toList.isEmpty = false := by simpa using hwne
    obtain ⟨w3, hw3⟩ : ∃ w3, w3 = (w.alloc (.cells (mC M (.slice ap M.p.length cp) (.slice ac M.c.length cc)) 33)).alloc (.cells #[.int .i64 0] 23) := ⟨_, rfl⟩
    have hs3 : w3.heap.size = w.heap.size + 2 := by rw [hw3]; simp
    have hb3 : Below w.heap.size w w3 := by rw [hw3]; exact ((Below.refl _ w).alloc (Nat.le_refl _) _).alloc (by simp) _
    have p0 : w3.heap[w.heap.size]? = some (.cells (mC M (.slice ap M.p.length cp) (.slice ac M.c.length cc)) 33 (0, 0)) := by
      rw [hw3, Below.heap_alloc _ _ _ (by simp)]; exact World.alloc_heap_new _ _
    have p1 : w3.heap[w.heap.size + 1]? = some (.cells #[.int .i64 0] 23 (0, 0)) := by
      have := World.alloc_heap_new (w.alloc (.cells (mC M (.slice ap M.p.length cp) (.slice ac M.c.length cc)) 33)) (.cells #[.int .i64 0] 23)
      rw [World.size_alloc] at this
      rw [hw3]; exact this
    have hC3 : CkB w.heap.size w3 M 0 w3 := ⟨⟨_, _, p0, ⟨_, _, rfl, hcp, ha.below hb3⟩, ⟨_, _, rfl, hcc, hc.below hb3⟩⟩, p1, Off.refl _ _⟩
    obtain ⟨np, hnp⟩ : ∃ np, M.p.length = np := ⟨_, rfl⟩
    obtain ⟨nc, hnc⟩ : ∃ nc, M.c.length = nc := ⟨_, rfl⟩
    rw [hnp, hnc] at hw3
    unfold mV mC at *
    rw [hnp, hnc]
    have HW := Lib.hid hw3
    clear hw3 p0 p1 ha hc hcp hcc hnp hnc
    refine (callsIn_wide (n := 9)).1 ?_
    refine callsIn_of_wp_marks Try.func22 rfl trivial ?_ rfl
    simp only [Try.ntmps22, List.size_toArray, List.length_cons, List.length_nil, Nat.reduceAdd, Nat.reduceSub, Array.replicate_succ, Array.replicate_zero, List.push_toArray, List.append_toArray, List.nil_append, List.cons_append]
    gi_wp2_with fail
    refine wpIn_wide.2 (wp_scope_straight ((wpIn_wide (n := 9)).1 ?_))
    gi_wp2_with fail
    refine ⟨trivial, (callsIn_wide.2 (KW.out _)).mono ?_⟩
    rintro e w1 ⟨rfl, rfl⟩
    clear KW
    gi_wp2_with fail
    apply wpIn_label
    gi_wp2_with fail
    refine ⟨trivial, ?_⟩
    rw [← HW.out]
    refine (callsIn_wide.2 (fall_any M.k 2 w3)).mono ?_
    rintro e w4 ⟨rfl, hg0, hg1, hb4⟩
    clear HW
    rw [hs3] at hg0 hg1
    have hs4 := (Array.getElem?_eq_some_iff.1 hg1).1
    have hC4 := hC3.later hb4
    have hb04 := hb3.trans (hb4.mono (by omega))
    have hC4 : CkB w.heap.size w4 M 0 w4 := ⟨hC4.m, hC4.e, Off.refl _ _⟩
    clear hb4 hb3 hC3
    have KA := Lib.hid (FDv_two M.k)
    have KF := Lib.hid (FD_fdok M.k)
    have KE := Lib.hid (fun (j : Nat) (f : Fd) (hj : (FD M.k)[j]? = some f) => fE_at hj M)
    have KS := Lib.hid (fun (j : Nat) => fold_strip_k ((FD M.k).take j) M)
    obtain ⟨L, hL⟩ : ∃ L, FD M.k = L := ⟨_, rfl⟩
    rw [hL] at hR KA KF KE KS
    have HR := Lib.hid hR
    clear hL hR
    gi_wp2_with fail
    refine range_stopb rfl (by omega) (gf := 44) (lb := #[.pointer (some ⟨w.heap.size + 2, 0, none⟩), .pointer (some ⟨w.heap.size + 2 + 1, 0, none⟩)]) rfl trivial (enters_of Try.func44 (by kernel_rfl) rfl)
      (fun f : Fd => #[f.v]) (fun _ => rfl)
      (fun j f V => L[j]? = some f ∧ (∀ g ∈ L.take j, fE M g = 0) ∧ CkB w.heap.size w4 ((L.take j).foldl strip M) 0 V)
      (fun j f q V => (L[j]? = some f ∧ (∀ g ∈ L.take j, fE M g = 0) ∧ CkB w.heap.size w4 ((L.take j).foldl strip M) 0 V) ∧ w4.heap.size ≤ q ∧ V.heap[q]? = some (.cells f.cs 75 (0, 0)))
      (fun j V => (∀ g ∈ L.take j, fE M g = 0) ∧ CkB w.heap.size w4 ((L.take j).foldl strip M) 0 V)
      (fun cd V => cd = .exit 0 ∧ ∃ (E : Int) (M' : Mg), E ≠ 0 ∧ firstE M L = E ∧ CkB w.heap.size w4 M' E V)
      (KeT 75 3 (w.heap.size + 2)) L.length
      (fun j f q V l o o' h hl ho hc' => ⟨⟨h.1.1, h.1.2.1, h.1.2.2.putObj hl (by omega)⟩, h.2.1, (World.putObj_heap_other (fun e => by subst e; rw [h.2.2] at ho; injection ho with ho; subst ho; cases hc')).trans h.2.2⟩)
      (fun j V l o o' h hl ho hc' => ⟨h.1, h.2.putObj hl (by omega)⟩)
      (fun cd V l o o' h hl ho hc' => by
        obtain ⟨h1, E, M', h2, h3, h4⟩ := h
        exact ⟨h1, E, M', h2, h3, h4.putObj hl (by omega)⟩)
      (fun _ _ _ h k => h.trans k) (fun V l o o' hl ho hc' => KeT.putObj ho hc')
      (fun o => ⟨fun g hg => by simp at hg, (hC4.later ((Below.refl _ w4).alloc (Nat.le_refl _) _)).later ((Below.refl _ _).alloc (Nat.le_refl _) _)⟩) ?round ?iter ?done ?stop
    case round =>
      rintro l j f V K ⟨hf, hz, hC⟩ hj hK
      have HK := Lib.hid hK
      have hsz := hC.off.size
      clear hK
      unfold Fd.v Fd.cs
      gi_wp2_with fail
      refine HK.out _ V.heap.size _ ⟨⟨hf, hz, hC.later ((Below.refl _ V).alloc (Nat.le_refl _) _)⟩, hsz, World.alloc_heap_new _ _⟩ ⟨by simp, fun q o _ ho _ => (Below.heap_alloc _ _ _ (Array.getElem?_eq_some_iff.1 ho).1).trans ho⟩ (KeT.of_below ((Below.refl _ V).alloc (Nat.le_refl _) _)) ?_
      clear HK hC hz
      rintro l V2 hl ⟨⟨_, hz, hC⟩, hq, hc⟩
      obtain ⟨qb, hqb⟩ : ∃ qb, V.heap.size = qb := ⟨_, rfl⟩
      rw [hqb] at hq hc ⊢
      clear hqb
      obtain ⟨d0, d1, d2, d3, d4, d5, d6⟩ := fd_block hc
      have hqlt := (Array.getElem?_eq_some_iff.1 hc).1
      have ok := KF.out f (List.mem_of_getElem? hf)
      have hE := KE.out j f hf
      have hst := fold_take hf strip M
      have hsm := hs.fold (L.take j)
      obtain ⟨Mj, hMj⟩ : ∃ Mj, (L.take j).foldl strip M = Mj := ⟨_, rfl⟩
      rw [hMj] at hC hE hst hsm
      obtain ⟨E, hEd⟩ : ∃ E, fE M f = E := ⟨_, rfl⟩
      rw [hEd] at hE
      have HF := Lib.hid hf
      have HZ0 := Lib.hid hz
      have HEd := Lib.hid hEd
      have HST := Lib.hid hst
      clear hf hz hst hEd hMj
      obtain ⟨P, C, m1, ⟨a, cpp, rfl, hcpp, hpa⟩, ⟨b, ccc, rfl, hccc, hcb⟩⟩ := hC.m
      obtain ⟨c0, c1, c2, c3, c4, c5, c6, c7, c8, c9, c10⟩ := mg_block m1
      have ce := row_cell hC.e 0 _ rfl
      have ze := frozen_of_row V2 (w.heap.size + 1) 0 _ _ hC.e
      have hb2 := (Array.getElem?_eq_some_iff.1 hC.e).1
      obtain ⟨np', hnp'⟩ : ∃ np', Mj.p.length = np' := ⟨_, rfl⟩
      obtain ⟨nc', hnc'⟩ : ∃ nc', Mj.c.length = nc' := ⟨_, rfl⟩
      rw [hnp'] at hcpp c7
      rw [hnc'] at hccc c8
      have hNE : w.heap.size ≠ w.heap.size + 1 := by omega
      have hso := ok.so
      by_cases h3 : f.so = 3
      · have hfe : fE Mj f = wP Mj.p f.mo := by unfold fE; rw [if_pos h3]
        have hstF : strip Mj f = { Mj with p := [] } := by unfold strip; rw [if_pos h3]
        rw [h3] at d1
        have KW := Lib.hid (wpath_any a np' cpp Mj.p f.mo V2 hnp' hcpp ok.le.2.2.2.1 (hpa.mono (B' := V2.heap.size) (by omega)))
        rw [← hfe, hE] at KW
        clear hfe d0 d2 d3 d5 d6 c0 c1 c2 c3 c4 c5 c6 c8 c9 c10
        gi_wp2_with fail
        refine ⟨trivial, ((callsIn_wide.2 KW.out).inRound l).mono ?_⟩
        rintro e V3 ⟨rfl, hb3⟩
        have hC3 := hC.later hb3
        have e7 := (hb3.cell (p := ⟨w.heap.size, 7, none⟩) (by show w.heap.size < _; omega)).trans c7
        have ee := (hb3.cell (p := ⟨w.heap.size + 1, 0, none⟩) (by show w.heap.size + 1 < _; omega)).trans ce
        obtain ⟨_, _, m3, _⟩ := hC3.m
        have z7 := frozen_of_row V3 w.heap.size 7 _ _ m3
        have zee := frozen_of_row V3 (w.heap.size + 1) 0 _ _ hC3.e
        have hC5 := hC3.set (M' := strip Mj f) E 7 (.slice none 0 0) (fun P C h1 h2 => ⟨.slice none 0 0, C, by rw [hstF]; rfl, by rw [hstF]; exact ⟨⟨none, 0, rfl, Nat.le_refl _, Nums.nil⟩, h2.c⟩⟩)
        clear KW hC hC3 m1 m3 hstF hpa hcb hc hsm ok hE d1 d4 c7 ce ze
        have hoff : Off (fun q => q = w.heap.size ∨ q = w.heap.size + 1) V2 ((V3.setCell ⟨w.heap.size + 1, 0, none⟩ (.int .i64 E)).setCell ⟨w.heap.size, 7, none⟩ (.slice none 0 0)) := ((Off.of_below hb3).setCell (p := ⟨w.heap.size + 1, 0, none⟩) (.inr rfl) _).setCell (p := ⟨w.heap.size, 7, none⟩) (.inl rfl) _
        have HKF := Lib.hid (kf_two hoff (s := w4.heap.size) (by omega))
        have HKE := Lib.hid (ket_two (tf := 75) (ti := 3) hoff)
        have HC5 := Lib.hid hC5
        clear hoff hC5 hb3
        by_cases hE0 : E = 0
        · subst hE0
          have HZ : Hid (∀ g ∈ L.take (j + 1), fE M g = 0) := Lib.hid (take_zero HF.out HZ0.out HEd.out)
          gi_wp2
          exact ⟨HKF.out, ⟨HZ.out, by rw [HST.out]; exact HC5.out⟩, HKE.out⟩
        · have hEn : (E != 0) = true := by simpa using hE0
          have HFE : Hid (firstE M L = E) := Lib.hid ((firstE_at L M j f HF.out HZ0.out (by rw [HEd.out]; exact hE0)).trans HEd.out)
          gi_wp2
          exact ⟨HKF.out, rfl, E, _, hE0, HFE.out, HC5.out⟩
      by_cases h4 : f.so = 4
      · have hfe : fE Mj f = wC Mj.c f.mo := by unfold fE; rw [if_neg (by omega), if_pos h4]
        have hstF : strip Mj f = { Mj with c := [] } := by unfold strip; rw [if_neg (by omega), if_pos h4]
        rw [h4] at d1
        have KW := Lib.hid ((wcells_any b nc' ccc Mj.c f.mo V2 hnc' hccc ok.le.2.2.2.1 (hcb.mono (B' := V2.heap.size) (by omega))).mono (fun e w' h => (⟨h.1, h.2 ▸ Below.refl _ _⟩ : e = .returned (.int .i64 (wC Mj.c f.mo)) ∧ Below V2.heap.size V2 w')))
        rw [← hfe, hE] at KW
        clear hfe d0 d2 d3 d5 d6 c0 c1 c2 c3 c4 c5 c6 c7 c9 c10
        gi_wp2_with fail
        refine ⟨trivial, ((callsIn_wide.2 KW.out).inRound l).mono ?_⟩
        rintro e V3 ⟨rfl, hb3⟩
        have hC3 := hC.later hb3
        have e7 := (hb3.cell (p := ⟨w.heap.size, 8, none⟩) (by show w.heap.size < _; omega)).trans c8
        have ee := (hb3.cell (p := ⟨w.heap.size + 1, 0, none⟩) (by show w.heap.size + 1 < _; omega)).trans ce
        obtain ⟨_, _, m3, _⟩ := hC3.m
        have z7 := frozen_of_row V3 w.heap.size 8 _ _ m3
        have zee := frozen_of_row V3 (w.heap.size + 1) 0 _ _ hC3.e
        have hC5 := hC3.set (M' := strip Mj f) E 8 (.slice none 0 0) (fun P C h1 h2 => ⟨P, .slice none 0 0, by rw [hstF]; rfl, by rw [hstF]; exact ⟨h2.p, ⟨none, 0, rfl, Nat.le_refl _, Nums.nil⟩⟩⟩)
        clear KW hC hC3 m1 m3 hstF hpa hcb hc hsm ok hE d1 d4 c8 ce ze
        have hoff : Off (fun q => q = w.heap.size ∨ q = w.heap.size + 1) V2 ((V3.setCell ⟨w.heap.size + 1, 0, none⟩ (.int .i64 E)).setCell ⟨w.heap.size, 8, none⟩ (.slice none 0 0)) := ((Off.of_below hb3).setCell (p := ⟨w.heap.size + 1, 0, none⟩) (.inr rfl) _).setCell (p := ⟨w.heap.size, 8, none⟩) (.inl rfl) _
        have HKF := Lib.hid (kf_two hoff (s := w4.heap.size) (by omega))
        have HKE := Lib.hid (ket_two (tf := 75) (ti := 3) hoff)
        have HC5 := Lib.hid hC5
        clear hoff hC5 hb3
        by_cases hE0 : E = 0
        · subst hE0
          have HZ : Hid (∀ g ∈ L.take (j + 1), fE M g = 0) := Lib.hid (take_zero HF.out HZ0.out HEd.out)
          gi_wp2
          exact ⟨HKF.out, ⟨HZ.out, by rw [HST.out]; exact HC5.out⟩, HKE.out⟩
        · have hEn : (E != 0) = true := by simpa using hE0
          have HFE : Hid (firstE M L = E) := Lib.hid ((firstE_at L M j f HF.out HZ0.out (by rw [HEd.out]; exact hE0)).trans HEd.out)
          gi_wp2
          exact ⟨HKF.out, rfl, E, _, hE0, HFE.out, HC5.out⟩
      by_cases h5 : f.so = 5
      · have hfe : fE Mj f = wT Mj.tx f.mo := by unfold fE; rw [if_neg (by omega), if_neg (by omega), if_pos h5]
        have hstF : strip Mj f = { Mj with tx := ⟨#[]⟩ } := by unfold strip; rw [if_neg (by omega), if_neg (by omega), if_pos h5]
        rw [h5] at d1
        have KW := Lib.hid ((wtext_any Mj.tx f.mo (by have := hsm.tx; unfold maxLen; omega) V2).mono (fun e w' h => (⟨h.1, h.2 ▸ Below.refl _ _⟩ : e = .returned (.int .i64 (wT Mj.tx f.mo)) ∧ Below V2.heap.size V2 w')))
        rw [← hfe, hE] at KW
        clear hfe d0 d2 d3 d5 d6 c0 c1 c2 c3 c4 c5 c6 c7 c8 c10
        gi_wp2_with fail
        refine ⟨trivial, ((callsIn_wide.2 KW.out).inRound l).mono ?_⟩
        rintro e V3 ⟨rfl, hb3⟩
        have hC3 := hC.later hb3
        have e7 := (hb3.cell (p := ⟨w.heap.size, 9, none⟩) (by show w.heap.size < _; omega)).trans c9
        have ee := (hb3.cell (p := ⟨w.heap.size + 1, 0, none⟩) (by show w.heap.size + 1 < _; omega)).trans ce
        obtain ⟨_, _, m3, _⟩ := hC3.m
        have z7 := frozen_of_row V3 w.heap.size 9 _ _ m3
        have zee := frozen_of_row V3 (w.heap.size + 1) 0 _ _ hC3.e
        have hC5 := hC3.set (M' := strip Mj f) E 9 (.string ⟨#[]⟩) (fun P C h1 h2 => ⟨P, C, by rw [hstF]; rfl, by rw [hstF]; exact ⟨h2.p, h2.c⟩⟩)
        clear KW hC hC3 m1 m3 hstF hpa hcb hc hsm ok hE d1 d4 c9 ce ze
        have hoff : Off (fun q => q = w.heap.size ∨ q = w.heap.size + 1) V2 ((V3.setCell ⟨w.heap.size + 1, 0, none⟩ (.int .i64 E)).setCell ⟨w.heap.size, 9, none⟩ (.string ⟨#[]⟩)) := ((Off.of_below hb3).setCell (p := ⟨w.heap.size + 1, 0, none⟩) (.inr rfl) _).setCell (p := ⟨w.heap.size, 9, none⟩) (.inl rfl) _
        have HKF := Lib.hid (kf_two hoff (s := w4.heap.size) (by omega))
        have HKE := Lib.hid (ket_two (tf := 75) (ti := 3) hoff)
        have HC5 := Lib.hid hC5
        clear hoff hC5 hb3
        by_cases hE0 : E = 0
        · subst hE0
          have HZ : Hid (∀ g ∈ L.take (j + 1), fE M g = 0) := Lib.hid (take_zero HF.out HZ0.out HEd.out)
          gi_wp2
          exact ⟨HKF.out, ⟨HZ.out, by rw [HST.out]; exact HC5.out⟩, HKE.out⟩
        · have hEn : (E != 0) = true := by simpa using hE0
          have HFE : Hid (firstE M L = E) := Lib.hid ((firstE_at L M j f HF.out HZ0.out (by rw [HEd.out]; exact hE0)).trans HEd.out)
          gi_wp2
          exact ⟨HKF.out, rfl, E, _, hE0, HFE.out, HC5.out⟩
      by_cases h6 : f.so = 6
      · have hfe : fE Mj f = wT Mj.tg f.mo := by unfold fE; rw [if_neg (by omega), if_neg (by omega), if_neg (by omega), if_pos h6]
        have hstF : strip Mj f = { Mj with tg := ⟨#[]⟩ } := by unfold strip; rw [if_neg (by omega), if_neg (by omega), if_neg (by omega), if_pos h6]
        rw [h6] at d1
        have KW := Lib.hid ((wtext_any Mj.tg f.mo (by have := hsm.tg; unfold maxLen; omega) V2).mono (fun e w' h => (⟨h.1, h.2 ▸ Below.refl _ _⟩ : e = .returned (.int .i64 (wT Mj.tg f.mo)) ∧ Below V2.heap.size V2 w')))
        rw [← hfe, hE] at KW
        clear hfe d0 d2 d3 d5 d6 c0 c1 c2 c3 c4 c5 c6 c7 c8 c9
        gi_wp2_with fail
        refine ⟨trivial, ((callsIn_wide.2 KW.out).inRound l).mono ?_⟩
        rintro e V3 ⟨rfl, hb3⟩
        have hC3 := hC.later hb3
        have e7 := (hb3.cell (p := ⟨w.heap.size, 10, none⟩) (by show w.heap.size < _; omega)).trans c10
        have ee := (hb3.cell (p := ⟨w.heap.size + 1, 0, none⟩) (by show w.heap.size + 1 < _; omega)).trans ce
        obtain ⟨_, _, m3, _⟩ := hC3.m
        have z7 := frozen_of_row V3 w.heap.size 10 _ _ m3
        have zee := frozen_of_row V3 (w.heap.size + 1) 0 _ _ hC3.e
        have hC5 := hC3.set (M' := strip Mj f) E 10 (.string ⟨#[]⟩) (fun P C h1 h2 => ⟨P, C, by rw [hstF]; rfl, by rw [hstF]; exact ⟨h2.p, h2.c⟩⟩)
        clear KW hC hC3 m1 m3 hstF hpa hcb hc hsm ok hE d1 d4 c10 ce ze
        have hoff : Off (fun q => q = w.heap.size ∨ q = w.heap.size + 1) V2 ((V3.setCell ⟨w.heap.size + 1, 0, none⟩ (.int .i64 E)).setCell ⟨w.heap.size, 10, none⟩ (.string ⟨#[]⟩)) := ((Off.of_below hb3).setCell (p := ⟨w.heap.size + 1, 0, none⟩) (.inr rfl) _).setCell (p := ⟨w.heap.size, 10, none⟩) (.inl rfl) _
        have HKF := Lib.hid (kf_two hoff (s := w4.heap.size) (by omega))
        have HKE := Lib.hid (ket_two (tf := 75) (ti := 3) hoff)
        have HC5 := Lib.hid hC5
        clear hoff hC5 hb3
        by_cases hE0 : E = 0
        · subst hE0
          have HZ : Hid (∀ g ∈ L.take (j + 1), fE M g = 0) := Lib.hid (take_zero HF.out HZ0.out HEd.out)
          gi_wp2
          exact ⟨HKF.out, ⟨HZ.out, by rw [HST.out]; exact HC5.out⟩, HKE.out⟩
        · have hEn : (E != 0) = true := by simpa using hE0
          have HFE : Hid (firstE M L = E) := Lib.hid ((firstE_at L M j f HF.out HZ0.out (by rw [HEd.out]; exact hE0)).trans HEd.out)
          gi_wp2
          exact ⟨HKF.out, rfl, E, _, hE0, HFE.out, HC5.out⟩
      obtain ⟨jn, hjn, hpl⟩ := ok.pl (by omega)
      have hfe : fE Mj f = wN (Mj.at' jn) f.le f.mo := by unfold fE; rw [if_neg h3, if_neg h4, if_neg h5, if_neg h6, hpl, Int.toNat_natCast]
      have hstF : strip Mj f = Mj.put jn 0 := by unfold strip; rw [if_neg h3, if_neg h4, if_neg h5, if_neg h6, hpl, Int.toNat_natCast]
      have cn := mg_at m1 hjn
      rw [hpl] at d2
      obtain ⟨nv, hnv⟩ : ∃ nv, Mj.at' jn = nv := ⟨_, rfl⟩
      rw [hnv] at cn hfe
      have KW := Lib.hid (wnum_any nv f.le f.mo)
      rw [← hfe, hE] at KW
      have q3 : (f.so == 3) = false := by simp; omega
      have q4 : (f.so == 4) = false := by simp; omega
      have q5 : (f.so == 5) = false := by simp; omega
      have q6 : (f.so == 6) = false := by simp; omega
      clear hfe hpl hnv c0 c1 c2 c3 c4 c5 c6 c7 c8 c9 c10
      have hj6 : (jn : Int) < 6 := by omega
      gi_wp2_with fail
      have lP : ∀ W, W.heap[qb]? = some (.cells f.cs 75 (0, 0)) → (Instr.loadAt 3 (.pointer (some ⟨qb, 2, none⟩))).run Try.prog W = .ok (.int .i64 (jn : Int)) W := fun W hW => by
        have hx : W.cell? ⟨qb, 2, none⟩ = some (.int .i64 (jn : Int)) := by
          rw [← d2]
          simp [World.cell?, hW, hc]
        simp [Instr.loadAt, go_sem, hx]
      have lL : ∀ W, W.heap[qb]? = some (.cells f.cs 75 (0, 0)) → (Instr.loadAt 3 (.pointer (some ⟨qb, 3, none⟩))).run Try.prog W = .ok (.int .i64 f.le) W := fun W hW => by
        obtain ⟨_, _, _, hx, _⟩ := fd_block hW
        simp [Instr.loadAt, go_sem, hx]
      have lM : ∀ W, W.heap[qb]? = some (.cells f.cs 75 (0, 0)) → (Instr.loadAt 3 (.pointer (some ⟨qb, 4, none⟩))).run Try.prog W = .ok (.int .i64 f.mo) W := fun W hW => by
        obtain ⟨_, _, _, _, hx, _⟩ := fd_block hW
        simp [Instr.loadAt, go_sem, hx]
      have hne0 : qb ≠ w.heap.size := by omega
      have hne1 : qb ≠ w.heap.size + 1 := by omega
      refine wpIn_region_order7 ((0, false) :: (1, false) :: (2, false) :: (3, false) :: (4, false) :: (5, false) :: (7, false) :: (8, false) :: (9, false) :: (10, false) :: (13, false) :: (6, true) :: (11, false) :: (12, false) :: (14, false) :: (15, false) :: []) (fun W => W.heap[qb]? = some (.cells f.cs 75 (0, 0))) (C := fun W => Below V2.heap.size V2 W) (by kernel_rfl) (fun ⟨_, _, h⟩ => h) (by kernel_rfl) (by kernel_rfl) (Below.refl _ _).drew (fun W hW => (hW.block _ hqlt).trans hc) ?_
      repeat (refine wpO7_pure rfl rfl ?_; go_big_quiet_step (fail); refine wpQuiet_nil ?_)
      refine wpO7_load (ad := ⟨qb, 2, none⟩) (.int .i64 (jn : Int)) rfl rfl rfl (by rfl) lP ?_
      simp only [Act.put, List.setIfInBounds_toArray, List.set_cons_succ, List.set_cons_zero]
      repeat (refine wpO7_pure rfl rfl ?_; go_big_quiet_step (fail); refine wpQuiet_nil ?_)
      refine wpO7_load (ad := ⟨qb, 2, none⟩) (.int .i64 (jn : Int)) rfl rfl rfl (by rfl) lP ?_
      simp only [Act.put, List.setIfInBounds_toArray, List.set_cons_succ, List.set_cons_zero]
      repeat (refine wpO7_pure rfl rfl ?_; go_big_quiet_step (fail); refine wpQuiet_nil ?_)
      refine wpO7_load (ad := ⟨qb, 3, none⟩) (.int .i64 f.le) rfl rfl rfl (by rfl) lL ?_
      simp only [Act.put, List.setIfInBounds_toArray, List.set_cons_succ, List.set_cons_zero]
      repeat (refine wpO7_pure rfl rfl ?_; go_big_quiet_step (fail); refine wpQuiet_nil ?_)
      refine wpO7_load (ad := ⟨qb, 4, none⟩) (.int .i64 f.mo) rfl rfl rfl (by rfl) lM ?_
      simp only [Act.put, List.setIfInBounds_toArray, List.set_cons_succ, List.set_cons_zero]
      repeat (refine wpO7_pure rfl rfl ?_; go_big_quiet_step (fail); refine wpQuiet_nil ?_)
      refine wpO7_look (ad := ⟨w.heap.size, 1 + jn, none⟩) (.int .i64 nv) rfl rfl rfl (by rfl) (fun W hW => (hW.block _ hqlt).trans hc) (fun W hW => ?_) ?_
      · have hx := (hW.cell (p := ⟨w.heap.size, 1 + jn, none⟩) (by show w.heap.size < _; omega)).trans cn
        simp [Instr.loadAt, go_sem, hx]
      simp only [Act.put, List.setIfInBounds_toArray, List.set_cons_succ, List.set_cons_zero]
      refine wpO7_call (fun v => v = .int .i64 E) (fun _ W => Below V2.heap.size V2 W) (f := 43) (args := #[.int .i64 nv, .int .i64 f.le, .int .i64 f.mo]) rfl rfl rfl (fun _ W hW => (hW.block _ hqlt).trans hc) (fun x => by first | rfl | (simp [go_sem]; done)) (fun W hW => (KW.out W).mono (fun e w' h => ⟨_, h.1, rfl, h.2 ▸ hW⟩)) ?_
      rintro v rfl
      simp only [Act.put, List.setIfInBounds_toArray, List.set_cons_succ, List.set_cons_zero]
      refine wpO7_store (fun W => ∃ W0, Below V2.heap.size V2 W0 ∧ W = W0.setCell ⟨w.heap.size + 1, 0, none⟩ (.int .i64 E)) rfl rfl rfl rfl ⟨w.heap.size + 1, 0, none⟩ (.int .i64 E) (by rfl) (by rfl) (fun W hW => ?_) (fun W hW => ?_) ?_
      · obtain ⟨W0, h1, rfl⟩ := hW
        exact (Below.heap_setCell _ _ _ _ hne1).trans ((h1.block _ hqlt).trans hc)
      · have k0 := (hW.cell (p := ⟨w.heap.size + 1, 0, none⟩) (by show w.heap.size + 1 < _; omega)).trans ce
        have k1 := frozen_of_row W (w.heap.size + 1) 0 _ _ ((hW.block _ hb2).trans hC.e)
        exact ⟨_, by simp [Instr.storeAt, go_sem, k0, k1], W, hW, rfl⟩
      repeat (refine wpO7_pure rfl rfl ?_; go_big_quiet_step (fail); refine wpQuiet_nil ?_)
      refine wpO7_store (fun W => ∃ W0, Below V2.heap.size V2 W0 ∧ W = (W0.setCell ⟨w.heap.size + 1, 0, none⟩ (.int .i64 E)).setCell ⟨w.heap.size, 1 + jn, none⟩ (.int .i64 0)) rfl rfl rfl rfl ⟨w.heap.size, 1 + jn, none⟩ (.int .i64 0) (by rfl) (by rfl) (fun W hW => ?_) (fun W hW => ?_) ?_
      · obtain ⟨W0, h1, rfl⟩ := hW
        exact (Below.heap_setCell _ _ _ _ hne0).trans ((Below.heap_setCell _ _ _ _ hne1).trans ((h1.block _ hqlt).trans hc))
      · obtain ⟨W0, h1, rfl⟩ := hW
        have m5 := (Below.heap_setCell W0 ⟨w.heap.size + 1, 0, none⟩ (.int .i64 E) w.heap.size hNE).trans ((h1.block _ (by omega)).trans m1)
        have k0 := mg_at m5 hjn
        have k1 := frozen_of_row _ w.heap.size (1 + jn) _ _ m5
        exact ⟨_, by simp [Instr.storeAt, go_sem, k0, k1], W0, h1, rfl⟩
      rintro V6 ⟨V3, hb3, rfl⟩
      have hC5 := (hC.later hb3).set (M' := strip Mj f) E (1 + jn) (.int .i64 0) (fun P C h1 h2 => ⟨P, C, by rw [hstF, mC_put hjn], by rw [hstF]; exact ⟨by rw [Mg.put_p]; exact h2.p, by rw [Mg.put_c]; exact h2.c⟩⟩)
      have ee := row_cell hC5.e 0 _ rfl
      clear KW hC m1 hstF hpa hcb hc hsm ok hE d0 d1 d2 d3 d4 d5 d6 ce ze lP lL lM cn
      have hoff : Off (fun q => q = w.heap.size ∨ q = w.heap.size + 1) V2 ((V3.setCell ⟨w.heap.size + 1, 0, none⟩ (.int .i64 E)).setCell ⟨w.heap.size, 1 + jn, none⟩ (.int .i64 0)) := ((Off.of_below hb3).setCell (p := ⟨w.heap.size + 1, 0, none⟩) (.inr rfl) _).setCell (p := ⟨w.heap.size, 1 + jn, none⟩) (.inl rfl) _
      have HKF := Lib.hid (kf_two hoff (s := w4.heap.size) (by omega))
      have HKE := Lib.hid (ket_two (tf := 75) (ti := 3) hoff)
      have HC5 := Lib.hid hC5
      clear hoff hC5 hb3
      by_cases hE0 : E = 0
      · subst hE0
        have HZ : Hid (∀ g ∈ L.take (j + 1), fE M g = 0) := Lib.hid (take_zero HF.out HZ0.out HEd.out)
        gi_wp2
        exact ⟨HKF.out, ⟨HZ.out, by rw [HST.out]; exact HC5.out⟩, HKE.out⟩
      · have hEn : (E != 0) = true := by simpa using hE0
        have HFE : Hid (firstE M L = E) := Lib.hid ((firstE_at L M j f HF.out HZ0.out (by rw [HEd.out]; exact hE0)).trans HEd.out)
        gi_wp2
        exact ⟨HKF.out, rfl, E, _, hE0, HFE.out, HC5.out⟩
    case iter =>
      intro Bk X l V hBk hBlt hX hl hD hB hY
      have h := fall_in 8 (by omega) 7 l (w.heap.size + 2) M.k 2 (fun j V => ((∀ g ∈ L.take j, fE M g = 0) ∧ CkB w.heap.size w4 ((L.take j).foldl strip M) 0 V) ∧ Bk V) X
        (fun j A B h hb => ⟨⟨h.1.1, h.1.2.later hb⟩, hBk A _ h.2 hb.size (fun q h1 h2 => by have := hBlt A h.2; exact hb.block q (by omega))⟩)
        (fun j f W h hf => by
          rw [KA.out] at hf
          exact (hY j f W ⟨hf, h.1⟩ h.2 (List.getElem?_eq_some_iff.1 hf).1).mono (fun e W2 h => h.elim (fun h => .inl ⟨h.1, h.2.1, h.2.2.1⟩) (fun h => .inr ⟨h.1, h.2.1⟩)))
        V ((hD.2.off.block _ (by omega) (by omega)).trans hg0) ((hD.2.off.block _ (by omega) (by omega)).trans hg1) ⟨hD, hB⟩
      rw [KA.out] at h
      exact h
    case done =>
      rintro D V hD ⟨hz, hC⟩ hK
      rw [List.take_length] at hz hC
      have hf0 := (firstE_zero L M).1 hz
      have hR := HR.out
      rw [if_neg (by simp [hf0])] at hR
      have hsm := hs.fold L
      have hkk := KS.out L.length
      rw [List.take_length] at hkk
      obtain ⟨Ms, hMs⟩ : ∃ Ms, L.foldl strip M = Ms := ⟨_, rfl⟩
      rw [hMs] at hR hC hsm hkk
      obtain ⟨P, C, m1, m2⟩ := hC.m
      have KW := msame_any Ms (Mg.zero M.k) P C (.slice none 0 0) (.slice none 0 0) V hsm (m2.mono (by have := (Array.getElem?_eq_some_iff.1 hC.e).1; omega)) ⟨⟨none, 0, rfl, Nat.le_refl _, Nums.nil⟩, ⟨none, 0, rfl, Nat.le_refl _, Nums.nil⟩⟩
      obtain ⟨Q, hQ⟩ : ∃ Q, decide (Ms = Mg.zero M.k) = Q := ⟨_, rfl⟩
      rw [hQ] at KW
      simp only [mV, mC, Mg.zero] at KW
      obtain ⟨c0, c1, c2, c3, c4, c5, c6, c7, c8, c9, c10⟩ := mg_block m1
      rw [hkk] at c0 KW
      have ce := row_cell hC.e 0 _ rfl
      have HC := Lib.hid hC
      have KW := Lib.hid KW
      have HB := Lib.hid (hb04.trans (hC.off.below (B := w.heap.size) (fun k hk => by omega) hb04.size))
      have HKD := Lib.hid hK
      have hDlt := (Array.getElem?_eq_some_iff.1 hK).1
      have hb1lt := (Array.getElem?_eq_some_iff.1 hC.e).1
      have hQR : R = if Q = true then 0 else 3 := by
        rw [← hR, ← hQ]
        by_cases h : Ms = Mg.zero M.k
        · rw [if_pos h, if_pos (decide_eq_true h)]
        · rw [if_neg h, if_neg (by simpa using h)]
      clear hC m1 m2 hz hf0 hR hsm hMs hK hQ
      gi_wp2_with fail
      refine ⟨trivial, (callsIn_wide.2 KW.out).mono ?_⟩
      rintro e V2 ⟨rfl, hb2⟩
      have ee := (hb2.cell (p := ⟨w.heap.size + 1, 0, none⟩) hb1lt).trans ce
      have zee := frozen_of_row V2 (w.heap.size + 1) 0 _ _ ((hb2.block _ hb1lt).trans HC.out.e)
      have HK2 := Lib.hid ((hb2.block _ hDlt).trans HKD.out)
      have HB2 := Lib.hid (HB.out.trans (hb2.mono HB.out.size))
      have hV2 := hb2.size
      clear KW hb2 ce c0 c1 c2 c3 c4 c5 c6 c7 c8 c9 c10 HC
      cases Q
      · obtain rfl : R = 3 := hQR
        have HX := Lib.hid ((Below.heap_setCell V2 ⟨w.heap.size + 1, 0, none⟩ (.int .i64 3) D (by show _ ≠ w.heap.size + 1; omega)).trans HK2.out)
        have HY := Lib.hid (HB2.out.setCell (p := ⟨w.heap.size + 1, 0, none⟩) (Nat.le_succ _) (.int .i64 3))
        gi_wp2
        simp only [Exit.noGoto]
        refine ⟨by simp, .inl ⟨_, _, rfl, run_takeDeferred HX.out, ?_⟩⟩
        refine ⟨_, ?_, rfl, HY.out.trans (below_put _ _ (by omega))⟩
        simp [results, Try.f22, go_sem]
      · obtain rfl : R = 0 := hQR
        gi_wp2
        simp only [Exit.noGoto]
        refine ⟨by simp, .inl ⟨_, _, rfl, run_takeDeferred HK2.out, ?_⟩⟩
        refine ⟨_, ?_, rfl, HB2.out.trans (below_put _ _ (by omega))⟩
        simp [results, Try.f22, go_sem]
    case stop =>
      rintro D cd V hD ⟨rfl, E, M', hne, hfe, hC⟩ hK
      have hR := HR.out
      rw [hfe, if_pos hne] at hR
      subst hR
      have ce := row_cell hC.e 0 _ rfl
      have hEn : (E == 0) = false := by simpa using hne
      have HB := Lib.hid (hb04.trans (hC.off.below (B := w.heap.size) (fun k hk => by omega) hb04.size))
      have HKD := Lib.hid hK
      clear hC hK hfe
      gi_wp2
      refine ⟨trivial, ?_⟩
      gi_wp2
      simp only [Exit.noGoto]
      refine ⟨by simp, .inl ⟨_, _, rfl, run_takeDeferred HKD.out, ?_⟩⟩
      refine ⟨_, ?_, rfl, HB.out.trans (below_put _ _ (by omega))⟩
      simp [results, Try.f22, go_sem]
end Go.Proofs.Ytlbfibnfmijahaa

namespace Go.Proofs.Ytlbfibnfmijahaa
open Go.RowKit
section
variable {P : Program} {ops : Array Oper} {rest : List Oper} {op : Oper} {a : Act} {w w' : World} {Q : Exit → Act → World → Prop}
theorem wpList_load_run (hgd : op.guard = none) (ty : TypeId) (x : Operand) (ho : op.op = .load ty x) (ad : Option Addr) (hx : a.eval x = .pointer ad) (v : Value) (hr : (Instr.loadAt ty (.pointer ad)).run P w = .ok v w)
    (h : wpList P ops Q rest (a.put op.dst v) w) : wpList P ops Q (op :: rest) a w :=
  wpList_plain hgd fun _ hK => by
    unfold Oper.wp execOp
    simp only [ho, hx, Sem.run_bind, hr, Result.andThen_ok]
    exact hK _ _ h
theorem wpList_store_run (hgd : op.guard = none) (ty : TypeId) (x y : Operand) (ho : op.op = .store ty x y) (ad : Option Addr) (hx : a.eval x = .pointer ad) (v : Value) (hy : a.eval y = v) (hr : (Instr.storeAt ty (.pointer ad) v).run P w = .ok () w')
    (h : wpList P ops Q rest (a.put op.dst undef) w') : wpList P ops Q (op :: rest) a w :=
  wpList_plain hgd fun _ hK => by
    unfold Oper.wp execOp
    simp only [ho, hx, hy, Sem.run_bind, hr, Result.andThen_ok]
    exact hK _ _ h
end
end Go.Proofs.Ytlbfibnfmijahaa

namespace Go.Proofs.Ytlbfibnfmijahaa
open Go.RowKit
section
variable {F : Fence} {nF : Nat} {P : Program} {w w' : World} {ops : Array Oper} {rest : List Oper} {o : Oper} {a : Act} {Q : Exit → Act → World → Prop}
theorem wpListIn_store_run (hg : o.guard = none) (t : TypeId) (x y : Operand) (hop : o.op = .store t x y) (ad : Option Addr) (hx : a.eval x = .pointer ad) (v : Value) (hy : a.eval y = v) (hr : (Instr.storeAt t (.pointer ad) v).run P w = .ok () w')
    (hK : wpListIn F nF P ops Q rest (a.put o.dst undef) w') : wpListIn F nF P ops Q (o :: rest) a w := by
  refine wpListIn_plain hg fun K hK' => ?_
  unfold Oper.wpIn
  refine ⟨?_, ?_⟩
  · simp [Oper.about, hop]
  · rw [Oper.semAt_plain F _ _ (by rw [hop]; intro c hc'; cases hc')]
    simp [execOp, hop, hx, hy, hr, Result.andThen]
    exact hK' _ _ hK
theorem wpListIn_load_run (hg : o.guard = none) (t : TypeId) (x : Operand) (hop : o.op = .load t x) (ad : Option Addr) (hx : a.eval x = .pointer ad) (v : Value) (hr : (Instr.loadAt t (.pointer ad)).run P w = .ok v w)
    (hK : wpListIn F nF P ops Q rest (a.put o.dst v) w) : wpListIn F nF P ops Q (o :: rest) a w := by
  refine wpListIn_plain hg fun K hK' => ?_
  unfold Oper.wpIn
  refine ⟨?_, ?_⟩
  · simp [Oper.about, hop]
  · rw [Oper.semAt_plain F _ _ (by rw [hop]; intro c hc'; cases hc')]
    simp [execOp, hop, hx, hr, Result.andThen]
    exact hK' _ _ hK
end
end Go.Proofs.Ytlbfibnfmijahaa
