/-
  Contracts of layer 5's Stuffed, Most, and of the law's known.
-/
import Derived.Test.YtljacfhkjhhbgaaCobD
import Derived.Test.YtljacfhkjhhbgaaSamA
namespace Go.Proofs.Ytljacfhkjhhbgaa
open Go.RowKit
set_option maxRecDepth 100000

theorem stuffed_any (a : Option Addr) (n c : Nat) (zs : List Int) (w : World) (hn : zs.length = n) (hc : n ≤ c) (hl : n ≤ 1000000) (hz : Bytes zs) (h1 : Nums .u8 w w.heap.size a zs) :
    Calls Try.prog 12 #[.slice a n c] w fun e w' => e = .returned (.bool (Cb.dec false zs).isSome) ∧ Below w.heap.size w w' := by
  have D := decode_any a n c zs w hn hc hl hz h1
  clear h1 hz
  cases hd : Cb.dec false zs with
  | none =>
    rw [hd] at D
    clear hd
    go_enter Try.func12, Try.ntmps12
    go_wp2_with (go_at_call 9; refine D.mono ?_; rintro e w1 ⟨rfl, hb⟩)
    go_ret
    exact ⟨rfl, hb⟩
  | some x =>
    rw [hd] at D
    clear hd
    go_enter Try.func12, Try.ntmps12
    go_wp2_with (go_at_call 9; refine D.mono ?_; rintro e w1 ⟨v, rfl, hm⟩; have hb := hm.2; clear hm)
    go_ret
    exact ⟨rfl, hb⟩

theorem most_any (n : Nat) (w : World) (hl : n ≤ 1000000000) :
    Calls Try.prog 17 #[.int .i64 n] w fun e w' => e = .returned (.int .i64 ((n + max 1 ((n + 253) / 254) : Nat) : Int)) ∧ w' = w := by
  have h0 : ¬ (n : Int) < 0 := by omega
  go_enter Try.func17, Try.ntmps17
  go_wp2
  go_ret
  exact ⟨ret_int (by omega), rfl⟩
theorem most_neg (n : Int) (w : World) (hl : n < 0) :
    Calls Try.prog 17 #[.int .i64 n] w fun e w' => e = .returned (.int .i64 0) ∧ w' = w := by
  go_enter Try.func17, Try.ntmps17
  go_wp2
  go_ret
  exact ⟨rfl, rfl⟩

theorem enc0 : Cb.enc [] = [1] := by rw [Cb.enc_last (fun c hc => by simp at hc) (by simp)]; rfl
theorem enc1 : Cb.enc [0] = [1, 1] := by
  rw [show ([0] : List Int) = [] ++ 0 :: [] from rfl, Cb.enc_nought (fun c hc => by simp at hc) (by simp), enc0]; rfl
theorem enc3 : Cb.enc [5, 0, 6] = [2, 5, 2, 6] := by
  rw [show ([5, 0, 6] : List Int) = [5] ++ 0 :: [6] from rfl, Cb.enc_nought (fun c hc => by simp at hc; omega) (by simp), Cb.enc_last (fun c hc => by simp at hc; omega) (by simp)]; rfl

set_option maxHeartbeats 1000000 in
theorem known_any (w : World) : Calls Try.prog 15 #[] w fun e w' => e = .returned (.bool true) ∧ Below w.heap.size w w' := by
  go_enter Try.func15, Try.ntmps15
  go_wp2_with fail
  refine (encode_any none 0 0 [] w rfl (by omega) (by omega) (fun z hz => by simp at hz) Nums.nil).mono ?_
  rintro e w1 ⟨v, rfl, hm⟩
  rw [enc0] at hm
  obtain ⟨A1, c1, rfl, _, hn1⟩ := hm.slice
  have hb1 := hm.2
  clear hm
  have HN1 := Lib.hid hn1
  clear hn1
  go_wp2_with fail
  have hx1 := hb1.alloc hb1.size (.cells #[.int .u8 1] 5)
  have E1 := same_len (w1.heap.size + 1) A1 (some ⟨w1.heap.size, 0, none⟩) 1 1 c1 1 [1] [1] _ rfl rfl rfl (by omega) ((HN1.out.below ((Below.refl _ w1).alloc (Nat.le_refl _) (.cells #[.int .u8 1] 5))).mono (by omega)) (Nums.new .u8 w1 5 [1] _ rfl)
  refine E1.mono ?_
  rintro e w2 ⟨rfl, d, hw2⟩
  have hb2 : Below w.heap.size w w2 := by rw [hw2]; exact below_drewN hx1 d
  clear hw2 E1 hx1 HN1 hb1
  go_wp2_with fail
  have hx2 := hb2.alloc hb2.size (.cells #[.int .u8 0] 5)
  have K2 := encode_any (some ⟨w2.heap.size, 0, none⟩) 1 1 [0] (w2.alloc (.cells #[.int .u8 0] 5)) rfl (by omega) (by omega) (fun z hz => by simp at hz; omega) ((Nums.new .u8 w2 5 [0] _ rfl).mono (by simp))
  refine K2.mono ?_
  rintro e w3 ⟨v, rfl, hm⟩
  clear K2
  rw [enc1] at hm
  obtain ⟨A3, c3, rfl, _, hn3⟩ := hm.slice
  have hb3 := hx2.trans (hm.2.mono hx2.size)
  have HN3 := Lib.hid hn3
  clear hm hn3 hx2 hb2
  go_wp2_with fail
  have hx3 := hb3.alloc hb3.size (.cells #[.int .u8 1, .int .u8 1] 5)
  have E3 := same_len (w3.heap.size + 1) A3 (some ⟨w3.heap.size, 0, none⟩) 2 2 c3 2 [1, 1] [1, 1] _ rfl rfl rfl (by omega) ((HN3.out.below ((Below.refl _ w3).alloc (Nat.le_refl _) (.cells #[.int .u8 1, .int .u8 1] 5))).mono (by omega)) (Nums.new .u8 w3 5 [1, 1] _ rfl)
  refine E3.mono ?_
  rintro e w4 ⟨rfl, d4, hw4⟩
  have hb4 : Below w.heap.size w w4 := by rw [hw4]; exact below_drewN hx3 d4
  clear hw4 E3 hx3 HN3 hb3
  go_wp2_with fail
  have hx4 := hb4.alloc hb4.size (.cells #[.int .u8 5, .int .u8 0, .int .u8 6] 5)
  have K4 := encode_any (some ⟨w4.heap.size, 0, none⟩) 3 3 [5, 0, 6] (w4.alloc (.cells #[.int .u8 5, .int .u8 0, .int .u8 6] 5)) rfl (by omega) (by omega) (fun z hz => by simp at hz; omega) ((Nums.new .u8 w4 5 [5, 0, 6] _ rfl).mono (by simp))
  refine K4.mono ?_
  rintro e w5 ⟨v, rfl, hm⟩
  clear K4
  rw [enc3] at hm
  obtain ⟨A5, c5, rfl, _, hn5⟩ := hm.slice
  have hb5 := hx4.trans (hm.2.mono hx4.size)
  have HN5 := Lib.hid hn5
  clear hm hn5 hx4 hb4
  go_wp2_with fail
  have hx5 := hb5.alloc hb5.size (.cells #[.int .u8 2, .int .u8 5, .int .u8 2, .int .u8 6] 5)
  have E5 := same_len (w5.heap.size + 1) A5 (some ⟨w5.heap.size, 0, none⟩) 4 4 c5 4 [2, 5, 2, 6] [2, 5, 2, 6] _ rfl rfl rfl (by omega) ((HN5.out.below ((Below.refl _ w5).alloc (Nat.le_refl _) (.cells #[.int .u8 2, .int .u8 5, .int .u8 2, .int .u8 6] 5))).mono (by omega)) (Nums.new .u8 w5 5 [2, 5, 2, 6] _ rfl)
  refine E5.mono ?_
  rintro e w6 ⟨rfl, d6, hw6⟩
  have hb6 : Below w.heap.size w w6 := by rw [hw6]; exact below_drewN hx5 d6
  clear hw6 E5 hx5 HN5 hb5
  go_wp2
  go_ret
  exact ⟨rfl, hb6⟩
end Go.Proofs.Ytljacfhkjhhbgaa
