/-
  The document's window: Look, Bits.
-/
import Derived.Test.YtklkfajbfpihfaaWinV
namespace Go.Proofs.Ytklkfajbfpihfaa
open Go.RowKit
set_option maxRecDepth 100000

/-- a window of the document's by value -/
def refV (t : Int) (q : Nat) : Value := .agg (wC t q.testBit)
theorem way_back {t n : Int} {k : Nat} (hn : 0 ≤ n ∧ n < 4294967296) (hk : k < 64) : Sr.add t (-(k : Int)) = n ↔ Sr.way n t = (k : Int) := by
  unfold Sr.add Sr.way
  omega

set_option maxHeartbeats 1000000 in
theorem rlook_any (t : Int) (q : Nat) (n : Int) (ht : 0 ≤ t ∧ t < 4294967296) (hn : 0 ≤ n ∧ n < 4294967296) (w : World) :
    Calls Try.prog 14 #[refV t q, .int .u32 n] w fun e w' => e = .returned (.int .i64 (Wn.look t q n)) ∧ Below w.heap.size w w' := by
  have KA := Lib.hid (fun w => rafter_any n t w hn ht)
  have KD := Lib.hid (fun (k : Nat) (hk : k < 64) w => sradd_any t (-(k : Int)) w ht (by omega))
  have HWB := Lib.hid (fun k hk => @way_back t n k hn hk)
  have HL : Hid (Wn.look t q n = if Sr.after n t = true then 0 else if 64 ≤ Sr.way n t then 15 else if q.testBit (Sr.way n t).toNat = true then 14 else 0) := rfl
  have hw := Sr.way_lt n t
  generalize Wn.look t q n = L at *
  generalize Sr.after n t = a at *
  generalize Sr.way n t = u at *
  have h0 := wC_top t q.testBit
  have hat := wC_at t q.testBit
  unfold refV
  generalize wC t q.testBit = C at *
  obtain ⟨w1, hw1⟩ : ∃ w1, w.alloc (.cells C 28) = w1 := ⟨_, rfl⟩
  have hb1 : w1.heap[w.heap.size]? = some (.cells C 28 (0, 0)) := by rw [← hw1]; exact heap_alloc_new _ _
  have hB : Below w.heap.size w w1 := by rw [← hw1]; exact (Below.refl _ w).alloc (Nat.le_refl _) _
  have c0 : w1.cell? ⟨w.heap.size, 0, none⟩ = some (.int .u32 t) := by rw [cell_of_row w1 _ 0 _ _ _ hb1]; exact h0
  have HAT : Hid (∀ k, k < 64 → w1.cell? ⟨w.heap.size, 1 + k, none⟩ = some (.bool (q.testBit k))) := fun k hk => by rw [cell_of_row w1 _ (1 + k) _ _ _ hb1]; exact hat k hk
  have HB := Lib.hid hB
  clear hat h0 hb1 hB
  go_enter Try.func14, Try.ntmps14
  go_wp2_with fail
  refine (KA.out _).mono ?_
  rintro e V ⟨rfl, hV⟩
  rw [hV]
  clear hV KA
  cases a with
  | true =>
    have hL : L = 0 := by have := HL.out; rwa [if_pos rfl] at this
    have HL2 := Lib.hid hL
    clear hL hw1 HL
    go_wp2
    go_ret
    exact ⟨ret_int HL2.out.symm, HB.out⟩
  | false =>
    have hL : L = if 64 ≤ u then 15 else if q.testBit u.toNat = true then 14 else 0 := by have := HL.out; rwa [if_neg (by decide)] at this
    have HL2 := Lib.hid hL
    clear hL HL
    go_wp2
    go_loopw [5] (fun i wr => ∃ k : Nat, k ≤ 64 ∧ i = .int .i64 (k : Int) ∧ wr = w1 ∧ Hid (∀ j : Nat, j < k → u ≠ (j : Int))) (fun i _ => 64 - (intOf i).toNat)
    case atStart => exact ⟨0, by omega, rfl, rfl, fun j hj => absurd hj (Nat.not_lt_zero j)⟩
    case round =>
      obtain ⟨k, hk, rfl, rfl, HK⟩ := hrel
      rename World => w1
      rcases Nat.lt_or_ge k 64 with h4 | h4
      · have h5 : (k : Int) < 64 := by omega
        have K := KD.out k h4 w1
        have hwb := HWB.out k h4
        have hck := HAT.out k h4
        generalize Sr.add t (-(k : Int)) = x at *
        by_cases hx : x = n
        · have huk := hwb.1 hx
          have e1 : (x == n) = true := by rw [beq_iff_eq]; exact hx
          have hL : L = if q.testBit k = true then 14 else 0 := by
            have := HL2.out
            rw [huk, if_neg (by omega)] at this
            exact this
          have HL3 := Lib.hid hL
          clear hL hx huk hwb
          cases hb : q.testBit k with
          | true =>
            rw [hb] at hck HL3
            clear hb
            go_wp2_with fail
            refine K.mono ?_
            rintro e V ⟨rfl, hV⟩
            rw [hV]
            clear hV K
            go_wp2
            go_ret
            exact ⟨ret_int (by rw [HL3.out]; rfl), HB.out⟩
          | false =>
            rw [hb] at hck HL3
            clear hb
            go_wp2_with fail
            refine K.mono ?_
            rintro e V ⟨rfl, hV⟩
            rw [hV]
            clear hV K
            go_wp2
            go_ret
            exact ⟨ret_int (by rw [HL3.out]; rfl), HB.out⟩
        · have huk : u ≠ (k : Int) := fun h => hx (hwb.2 h)
          have e1 : (x == n) = false := by rw [beq_eq_false_iff_ne]; exact hx
          have HN : Hid (∀ j : Nat, j < k + 1 → u ≠ (j : Int)) := fun j hj => by
            rcases Nat.lt_or_ge j k with h | h
            · exact HK.out j h
            · have : j = k := by omega
              subst this; exact huk
          clear hx huk hwb hck
          go_wp2_with fail
          refine K.mono ?_
          rintro e V ⟨rfl, hV⟩
          rw [hV]
          clear hV K
          go_wp2
          go_roundw
          case rel => exact ⟨k + 1, by omega, by go_num, trivial, HN⟩
          case measure => simp [intOf]; omega
      · obtain rfl : 64 = k := by omega
        have hu64 : 64 ≤ u := by
          rcases Int.lt_or_le u 64 with h | h
          · exact absurd (Int.toNat_of_nonneg hw.1).symm (HK.out u.toNat (by omega))
          · exact h
        have hL : L = 15 := by have := HL2.out; rwa [if_pos hu64] at this
        have HL3 := Lib.hid hL
        clear hL hu64
        go_wp2
        go_ret
        exact ⟨ret_int HL3.out.symm, HB.out⟩
theorem bit_step (q k : Nat) : q / 2 ^ k = 2 * (q / 2 ^ (k + 1)) + (if q.testBit k = true then 1 else 0) := by
  rw [Nat.pow_succ, ← Nat.div_div_eq_div_mul, Nat.testBit_eq_decide_div_mod_eq]
  rcases Nat.mod_two_eq_zero_or_one (q / 2 ^ k) with h | h
  · rw [if_neg (by rw [h]; decide)]; omega
  · rw [if_pos (by rw [h]; decide)]; omega
set_option maxHeartbeats 1000000 in
theorem rbits_any (t : Int) (q : Nat) (hq : q < 18446744073709551616) (w : World) :
    Calls Try.prog 22 #[refV t q] w fun e w' => e = .returned (.int .u64 (q : Int)) ∧ Below w.heap.size w w' := by
  have hat := wC_at t q.testBit
  unfold refV
  generalize wC t q.testBit = C at *
  obtain ⟨w1, hw1⟩ : ∃ w1, w.alloc (.cells C 28) = w1 := ⟨_, rfl⟩
  have hb1 : w1.heap[w.heap.size]? = some (.cells C 28 (0, 0)) := by rw [← hw1]; exact heap_alloc_new _ _
  have hB : Below w.heap.size w w1 := by rw [← hw1]; exact (Below.refl _ w).alloc (Nat.le_refl _) _
  have HAT : Hid (∀ k, k < 64 → w1.cell? ⟨w.heap.size, 1 + k, none⟩ = some (.bool (q.testBit k))) := fun k hk => by rw [cell_of_row w1 _ (1 + k) _ _ _ hb1]; exact hat k hk
  have HB := Lib.hid hB
  clear hat hb1 hB
  go_enter Try.func22, Try.ntmps22
  go_wp2
  go_loopw [3, 4] (fun x i wr => ∃ k N : Nat, k ≤ 64 ∧ i = .int .i64 ((k : Int) - 1) ∧ x = .int .u64 (N : Int) ∧ Hid (N = q / 2 ^ k) ∧ wr = w1) (fun _ i _ => (intOf i + 1).toNat)
  case atStart => exact ⟨64, 0, by omega, rfl, rfl, by show 0 = _; rw [Nat.div_eq_of_lt (by simpa using hq)], rfl⟩
  case round =>
    obtain ⟨k, N, hk, rfl, rfl, HN, rfl⟩ := hrel
    rename World => w1
    cases k with
    | succ j =>
      have h2 : ((j + 1 : Nat) : Int) - 1 = (j : Int) := by omega
      have hck := HAT.out j (by omega)
      have hs := bit_step q j
      have hlt : q / 2 ^ j < 18446744073709551616 := Nat.lt_of_le_of_lt (Nat.div_le_self _ _) hq
      rw [← HN.out] at hs
      have h64 : (j : Int) < 64 := by omega
      rw [h2]
      cases hb : q.testBit j with
      | true =>
        rw [hb] at hck hs
        rw [if_pos rfl] at hs
        have HS := Lib.hid hs
        have hlt2 : 2 * (N : Int) + 1 < 18446744073709551616 := by omega
        clear hb hs hlt h2
        go_wp2
        go_roundw
        case rel => exact ⟨j, 2 * N + 1, by omega, rfl, by go_num, HS.out.symm, trivial⟩
        case measure => simp [intOf]
      | false =>
        rw [hb] at hck hs
        rw [if_neg (by decide), Nat.add_zero] at hs
        have HS := Lib.hid hs
        have hlt2 : 2 * (N : Int) < 18446744073709551616 := by omega
        clear hb hs hlt h2
        go_wp2
        go_roundw
        case rel => exact ⟨j, 2 * N, by omega, rfl, by go_num, HS.out.symm, trivial⟩
        case measure => simp [intOf]
    | zero =>
      have h2 : ((0 : Nat) : Int) - 1 = -1 := by omega
      rw [h2]
      clear h2
      go_wp2
      go_ret
      exact ⟨ret_int (by rw [HN.out, Nat.pow_zero, Nat.div_one]), HB.out⟩
end Go.Proofs.Ytklkfajbfpihfaa
