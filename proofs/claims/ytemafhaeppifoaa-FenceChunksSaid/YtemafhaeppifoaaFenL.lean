/-
  Contracts of the law's Lists and known.
-/
import Derived.Test.YtemafhaeppifoaaFenS
import Derived.Test.YtemafhaeppifoaaSamA
namespace Go.Proofs.Ytemafhaeppifoaa
open Go.RowKit Go.Shelf
set_option maxRecDepth 100000
attribute [local go_sem] Oper.semAt_some

set_option maxHeartbeats 1000000 in
/-- Lists, of lists that are the same. It only reads. -/
theorem lists_eq (B : Nat) (A1 A2 : Option Addr) (n c1 c2 : Nat) (bl : List (List Int)) (w : World) (hn : bl.length = n) (hl : n ≤ 1000000000) (hm : ∀ b ∈ bl, b.length ≤ 1000000000) (l1 : n ≤ c1) (l2 : n ≤ c2) (h1 : ListAt .u8 w B A1 bl) (h2 : ListAt .u8 w B A2 bl) :
    Calls Try.prog 12 #[.slice A1 n c1, .slice A2 n c2] w fun e w' => e = .returned (.bool true) ∧ ∃ n, w' = w.drewN n := by
  have HL := Lib.hid hn
  clear hn
  go_enter Try.func12, Try.ntmps12
  go_wp2
  go_loopw [5] (fun i wr => ∃ k : Nat, k ≤ n ∧ i = .int .i64 k ∧ ∃ q, wr = w.drewN q) (fun i _ => n - (intOf i).toNat)
  case atStart => exact ⟨0, by omega, rfl, 0, rfl⟩
  case round =>
    obtain ⟨k, hk, rfl, q, hwr⟩ := hrel
    have hb0 : Below B w wr := by rw [hwr]; exact below_drewN (Below.refl _ _) q
    have HW := Lib.hid hwr
    replace h1 := h1.below hb0
    replace h2 := h2.below hb0
    clear hwr hb0
    by_cases hlt : k < n
    · obtain ⟨b, hb⟩ : ∃ b, bl[k]? = some b := ⟨_, List.getElem?_eq_getElem (by rw [HL.out]; exact hlt)⟩
      have hbl := hm b (List.mem_of_getElem? hb)
      obtain ⟨g1, B1, d1, rfl, hg1, k1, hd1, n1⟩ := h1 k b hb
      obtain ⟨g2, B2, d2, rfl, hg2, k2, hd2, n2⟩ := h2 k b hb
      have HS : Hid (∀ j, Calls Try.prog 10 #[.slice B1 b.length d1, .slice B2 b.length d2] (wr.drewN j) fun e w' => e = .returned (.bool true) ∧ ∃ m, w' = wr.drewN m) := fun j =>
        (same_eq B B1 B2 d1 d2 b (wr.drewN j) (by omega) (n1.below (below_drewN (Below.refl _ _) j)) (n2.below (below_drewN (Below.refl _ _) j))).mono fun e w' ⟨h3, m, h4⟩ => ⟨h3, j + m, by rw [h4]; simp [World.drewN, Nat.add_assoc]⟩
      clear h1 h2 hb n1 n2
      have hlt' : (k : Int) < (n : Int) := by omega
      have hc1 : (n : Int) ≤ (c1 : Int) := by omega
      have hc2 : (n : Int) ≤ (c2 : Int) := by omega
      go_wp2
      go_quiet ((go_at_call 10; exact HS.out _))
      go_wp2
      go_roundw
      case rel => exact ⟨k + 1, by omega, by go_num, q + nq, by rw [HW.out]; simp [World.drewN, Nat.add_assoc]⟩
      case measure => simp [intOf]; omega
    · clear h1 h2
      go_wp2
      go_ret
      exact ⟨rfl, q, HW.out⟩

theorem segs0 : Fc.segs [5, 0, 0, 6, 7, 0, 8] = [[5], [6, 7]] := by decide
theorem opn0 : Fc.opn [] [5, 0, 0, 6, 7, 0, 8] = [8] := by decide

set_option maxHeartbeats 1000000 in
theorem known_any (w : World) : Calls Try.prog 11 #[] w fun e w' => e = .returned (.bool true) ∧ Below w.heap.size w w' := by
  have K1 := split_any (some ⟨w.heap.size, 0, none⟩) 7 7 [5, 0, 0, 6, 7, 0, 8] (w.alloc (.cells #[.int .u8 5, .int .u8 0, .int .u8 0, .int .u8 6, .int .u8 7, .int .u8 0, .int .u8 8] 5)) rfl (by omega) (fun z hz => by simp at hz; omega) ((Nums.new .u8 w 5 [5, 0, 0, 6, 7, 0, 8] _ rfl).mono (by simp))
  have hb0 : Below w.heap.size w (w.alloc (.cells #[.int .u8 5, .int .u8 0, .int .u8 0, .int .u8 6, .int .u8 7, .int .u8 0, .int .u8 8] 5)) := (Below.refl _ w).alloc (Nat.le_refl _) _
  go_enter Try.func11, Try.ntmps11
  go_wp2_with fail
  refine K1.mono ?_
  rintro e w1 ⟨A1, c1, A2, c2, rfl, hc1, hc2, hL, hN, hb⟩
  clear K1
  rw [segs0] at hL hc1 ⊢
  rw [opn0] at hN hc2 ⊢
  have hb1 := hb0.trans (hb.mono hb0.size)
  obtain ⟨g1, B1, d1, rfl, hg1, k1, hd1, n1⟩ := hL 0 [5] rfl
  obtain ⟨g2, B2, d2, hge, hg2, k2, hd2, n2⟩ := hL 1 [6, 7] rfl
  injection hge with hge; injection hge with hge; subst hge
  simp only [List.length_cons, List.length_nil, Nat.zero_add, Nat.reduceAdd] at *
  clear hL hb hb0 hg2
  go_wp2_with fail
  have hx1 := hb1.alloc hb1.size (.cells #[.int .u8 5] 5)
  have E1 := same_len (w1.heap.size + 1) B1 (some ⟨w1.heap.size, 0, none⟩) 1 1 d1 1 [5] [5] _ rfl rfl rfl (by omega) ((n1.below ((Below.refl _ w1).alloc (Nat.le_refl _) (.cells #[.int .u8 5] 5))).mono (by omega)) (Nums.new .u8 w1 5 [5] _ rfl)
  refine E1.mono ?_
  rintro e w2 ⟨rfl, d, hw2⟩
  have hb12 : Below w1.heap.size w1 w2 := by rw [hw2]; exact below_drewN ((Below.refl _ w1).alloc (Nat.le_refl _) _) d
  have hb2 := hb1.trans (hb12.mono hb1.size)
  have k22 : w2.cell? ⟨g1, 1, none⟩ = some (.slice B2 2 d2) := (hb12.cell (p := ⟨g1, 1, none⟩) hg1).trans k2
  have n22 := (n2.below hb12).mono hb12.size
  have hN2 := (hN.below hb12).mono hb12.size
  clear hw2 E1 hx1 hb12 n1 n2 hN k1 k2 hb1
  go_wp2_with fail
  have E2 := same_len (w2.heap.size + 1) B2 (some ⟨w2.heap.size, 0, none⟩) 2 2 d2 2 [6, 7] [6, 7] _ rfl rfl rfl (by omega) ((n22.below ((Below.refl _ w2).alloc (Nat.le_refl _) (.cells #[.int .u8 6, .int .u8 7] 5))).mono (by omega)) (Nums.new .u8 w2 5 [6, 7] _ rfl)
  refine E2.mono ?_
  rintro e w3 ⟨rfl, d3, hw3⟩
  have hb23 : Below w2.heap.size w2 w3 := by rw [hw3]; exact below_drewN ((Below.refl _ w2).alloc (Nat.le_refl _) _) d3
  have hb3 := hb2.trans (hb23.mono hb2.size)
  have hN3 := (hN2.below hb23).mono hb23.size
  clear hw3 E2 hb23 n22 hN2 k22 hb2
  go_wp2_with fail
  have E3 := same_len (w3.heap.size + 1) A2 (some ⟨w3.heap.size, 0, none⟩) 1 1 c2 1 [8] [8] _ rfl rfl rfl (by omega) ((hN3.below ((Below.refl _ w3).alloc (Nat.le_refl _) (.cells #[.int .u8 8] 5))).mono (by omega)) (Nums.new .u8 w3 5 [8] _ rfl)
  refine E3.mono ?_
  rintro e w4 ⟨rfl, d4, hw4⟩
  have hb4 : Below w.heap.size w w4 := by rw [hw4]; exact below_drewN (hb3.alloc hb3.size _) d4
  clear hw4 E3 hN3 hb3
  go_wp2
  go_ret
  exact ⟨rfl, hb4⟩
end Go.Proofs.Ytemafhaeppifoaa
