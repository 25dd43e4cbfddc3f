/-
  The document's words as bits: Shift.
-/
import Derived.Test.YtbhdffefjphphaaRfB
namespace Go.Proofs.Ytbhdffefjphphaa
open Go.RowKit
set_option maxRecDepth 100000

/-- three rows: the word, the result's, the polynomial's (block q) -/
structure S3 (w wr : World) (q : Nat) (cs R P : Array Value) : Prop where
  h0 : wr.heap[w.heap.size]? = some (.cells cs 30 (0, 0))
  h1 : wr.heap[w.heap.size + 1]? = some (.cells R 30 (0, 0))
  h2 : wr.heap[q]? = some (.cells P 30 (0, 0))
  hq : w.heap.size + 2 ≤ q
  b : Below w.heap.size w wr
theorem S3.set {w wr : World} {q : Nat} {cs R P : Array Value} (h : S3 w wr q cs R P) (j : Nat) (v : Value) : S3 w (wr.setCell ⟨w.heap.size, j, none⟩ v) q (cs.setIfInBounds j v) R P := by
  have := h.hq
  exact ⟨setCell_at h.h0, (heap_setCell_other _ _ _ _ (by simp)).trans h.h1, (heap_setCell_other _ _ _ _ (by simp; omega)).trans h.h2, h.hq, h.b.setCell (Nat.le_refl _) _⟩
theorem S3.row {w wr : World} {q : Nat} {cs R P : Array Value} (h : S3 w wr q cs R P) (C : Array Value) : S3 w (wr.setRow w.heap.size C) q C R P := by
  have := h.hq
  exact ⟨setRow_heap _ _ _ _ _ _ h.h0, (setRow_other _ _ _ _ (by omega)).trans h.h1, (setRow_other _ _ _ _ (by omega)).trans h.h2, h.hq, ⟨h.b.os, h.b.tape, h.b.output, by simp [h.b.size], fun k hk => (setRow_other _ _ _ _ (by omega)).trans (h.b.block k hk)⟩⟩
theorem S3.later {w wr w2 : World} {q : Nat} {cs R P : Array Value} (h : S3 w wr q cs R P) (hb : Below wr.heap.size wr w2) : S3 w w2 q cs R P :=
  ⟨(hb.block _ (Array.getElem?_eq_some_iff.1 h.h0).1).trans h.h0, (hb.block _ (Array.getElem?_eq_some_iff.1 h.h1).1).trans h.h1, (hb.block _ (Array.getElem?_eq_some_iff.1 h.h2).1).trans h.h2, h.hq, h.b.trans (hb.mono h.b.size)⟩

set_option maxHeartbeats 1000000 in
theorem shift_any (n : Nat) (w : World) (h : n < 4294967296) :
    Calls Try.prog 11 #[.agg (bitsV n).toArray] w fun e w' => e = .returned (.agg (bitsV (Cr.shn 8 n)).toArray) ∧ Below w.heap.size w w' := by
  obtain ⟨hz, hzs⟩ := zero_of_info (P := Try.prog) (t := 30) (v := .agg (Array.replicate 32 (.bool false))) (n := 32) (by kernel_rfl)
  have HC := Lib.hid (show (bitsV n).toArray.size = 32 by simp [bitsV_len])
  generalize hC0 : (bitsV n).toArray = C0 at *
  have HC0 := Lib.hid hC0
  clear hC0
  go_enter Try.func11, Try.ntmps11
  go_wp2_with fail
  refine (of_any 3988292384 _ (by omega)).mono ?_
  rintro e w1 ⟨rfl, hb1⟩
  have HP1 := Lib.hid (bitsV_one 3988292384)
  have HPs := Lib.hid (show (bitsV 3988292384).toArray.size = 32 by simp [bitsV_len])
  generalize hPe : (bitsV 3988292384).toArray = P at *
  have HPe := Lib.hid hPe
  clear hPe
  generalize hR0 : Array.replicate 32 (Value.bool false) = R at *
  have HRs := Lib.hid (show R.size = 32 by rw [← hR0]; simp)
  clear hR0
  have hlt1 : w.heap.size + 2 ≤ w1.heap.size := by have := hb1.size; simp at this; omega
  have hwb : Below w.heap.size w w1 := (((Below.refl _ w).alloc (Nat.le_refl _) _).alloc (by simp) _).trans (hb1.mono (by simp; omega))
  have hr0 : w1.heap[w.heap.size]? = some (.cells C0 30 (0, 0)) := (hb1.block _ (by simp; omega)).trans (heap_alloc2_old _ _ _)
  have hr1 : w1.heap[w.heap.size + 1]? = some (.cells R 30 (0, 0)) := (hb1.block _ (by simp)).trans (heap_alloc2_new _ _ _)
  simp only []
  rename ∀ (a : Act) (w : World), wpList _ _ _ _ a w → _ => hK
  refine hK _ _ ?_
  clear hK
  have HS : Hid (S3 w ((w1.alloc (.cells R 30)).setRow w1.heap.size P) w1.heap.size C0 R P) :=
    ⟨(setRow_other _ _ _ _ (by omega)).trans ((heap_alloc_old _ _ (by omega)).trans hr0), (setRow_other _ _ _ _ (by omega)).trans ((heap_alloc_old _ _ (by omega)).trans hr1), setRow_heap _ _ _ _ _ _ (heap_alloc_new _ _), hlt1,
      ⟨hwb.os, hwb.tape, hwb.output, by have := hwb.size; simp; omega, fun k hk => (setRow_other _ _ _ _ (by have := hwb.size; omega)).trans ((heap_alloc_old _ _ (by have := hwb.size; omega)).trans (hwb.block k hk))⟩⟩
  have hsi : (Try.prog.info? 30).map (·.size) = some P.size := by rw [HPs.out]; exact wSize
  go_step
  go_step
  go_step
  refine wpList_store_row (by rfl) _ _ _ (by rfl) w1.heap.size P (by rfl) (by rfl) 30 R (heap_alloc_new _ _) hsi (by rw [HRs.out, HPs.out]) HP1.out ?_
  generalize World.setRow _ w1.heap.size P = W at *
  generalize w1.heap.size = q at *
  clear hb1 hwb hr0 hr1 hlt1 hz hzs
  have HS' : Hid (S3 w W q (bitsV n).toArray R P) := by rw [HC0.out]; exact HS.out
  clear HS hsi HP1 HC HC0
  go_wp2
  go_loopw [4] (fun i wr => ∃ (k x : Nat), k ≤ 8 ∧ i = .int .i64 k ∧ x < 4294967296 ∧ Hid (Cr.shn (8 - k) x = Cr.shn 8 n) ∧ Hid (S3 w wr q (bitsV x).toArray R P)) (fun i _ => 8 - (intOf i).toNat)
  case atStart => exact ⟨0, n, by omega, rfl, h, rfl, HS'⟩
  case round =>
    obtain ⟨k, x, hk, rfl, hx, HE, HR⟩ := hrel
    by_cases hlt : k < 8
    · have hlt' : (k : Int) < 8 := by omega
      have HE' : Hid (Cr.shn (8 - (k + 1)) (Cr.sh1 x) = Cr.shn 8 n) := by
        have := HE.out
        rw [show 8 - k = (8 - (k + 1)) + 1 by omega] at this
        exact this
      have hs1 := Cr.sh1_lt (n := x) (by omega)
      have HB0 := Lib.hid (BitsTo.of x)
      have c0 : wr.cell? ⟨w.heap.size, 0, none⟩ = some (.bool (x.testBit 0)) := by
        rw [cell_of_row _ _ _ _ _ _ HR.out.h0, HB0.out.2 0 (by omega)]
      clear HS'
      generalize hout : x.testBit 0 = out at *
      have HOut := Lib.hid hout
      clear hout
      go_wp2
      go_loopw [6] (fun i wx => ∃ (j : Nat) (cs : Array Value), j ≤ 31 ∧ i = .int .i64 j ∧ Hid (S3 w wx q cs R P) ∧ Hid (BitsTo cs (fun t => if t < j then x.testBit (t + 1) else x.testBit t))) (fun i _ => 31 - (intOf i).toNat)
      case atStart => exact ⟨0, _, by omega, rfl, HR, HB0.out.1, fun t ht => by rw [HB0.out.2 t ht]; simp⟩
      case round =>
        obtain ⟨j, cs, hj, rfl, HR2, HB⟩ := hrel
        by_cases hj31 : j < 31
        · have hj31' : (j : Int) < 31 := by omega
          have c1 : wr.cell? ⟨w.heap.size, j + 1, none⟩ = some (.bool (x.testBit (j + 1))) := by
            rw [cell_of_row _ _ _ _ _ _ HR2.out.h0, HB.out.2 (j + 1) (by omega)]
            show some (Value.bool (if j + 1 < j then _ else _)) = _
            rw [if_neg (by omega)]
          have c2 : wr.cell? ⟨w.heap.size, j, none⟩ = some (.bool (x.testBit j)) := by
            rw [cell_of_row _ _ _ _ _ _ HR2.out.h0, HB.out.2 j (by omega)]
            simp
          have c3 : wr.frozen? ⟨w.heap.size, j, none⟩ = false := frozen_of_row _ _ _ _ _ HR2.out.h0
          have HN := Lib.hid (HR2.out.set j (.bool (x.testBit (j + 1))))
          have HB' : Hid (BitsTo (cs.setIfInBounds j (.bool (x.testBit (j + 1)))) (fun t => if t < j + 1 then x.testBit (t + 1) else x.testBit t)) := HB.out.set j _ fun t ht => by
            by_cases hjt : j = t
            · subst hjt; simp
            · rw [if_neg hjt]
              by_cases h2 : t < j
              · rw [if_pos h2, if_pos (by omega)]
              · rw [if_neg h2, if_neg (by omega)]
          have hj0 : (0 : Int) ≤ (j : Int) + 1 := by omega
          have hj32 : (j : Int) + 1 < 32 := by omega
          have hj32' : (j : Int) < 32 := by omega
          generalize x.testBit (j + 1) = v1 at *
          generalize x.testBit j = v2 at *
          go_wp2
          go_roundw
          case rel => exact ⟨j + 1, _, by omega, by go_num, HN, HB'⟩
          case measure => simp [intOf]; omega
        · obtain rfl : j = 31 := by omega
          have hC : cs.setIfInBounds 31 (.bool false) = (bitsV (x / 2)).toArray := BitsTo.eq (HB.out.set 31 false fun t ht => by
            by_cases h31 : 31 = t
            · subst h31
              rw [if_pos rfl]
              exact Nat.testBit_lt_two_pow (by omega)
            · rw [if_neg h31, if_pos (by omega), Nat.testBit_succ])
          have HN0 := HR2.out.set 31 (.bool false)
          rw [hC] at HN0
          have HN := Lib.hid HN0
          have c2 : wr.cell? ⟨w.heap.size, 31, none⟩ = some (.bool (x.testBit 31)) := by
            rw [cell_of_row _ _ _ _ _ _ HR2.out.h0, HB.out.2 31 (by omega)]
            show some (Value.bool (if 31 < 31 then _ else _)) = _
            rw [if_neg (by omega)]
          have c3 : wr.frozen? ⟨w.heap.size, 31, none⟩ = false := frozen_of_row _ _ _ _ _ HR2.out.h0
          clear hC HN0 HB HR2 HB0
          generalize x.testBit 31 = v31 at *
          have hj31' : ¬ ((31 : Nat) : Int) < 31 := by omega
          rename ∀ (a : Act) (w : World), Code.wp _ _ _ a w → _ => hK
          have HK := Lib.hid hK
          clear hK
          go_wp2
          refine HK.out _ _ ?_
          cases out
          · have hsx : x / 2 = Cr.sh1 x := sh1_even x (by have := HOut.out; rw [Nat.testBit_zero] at this; simp at this; omega)
            rw [hsx] at HN
            have HNN := Lib.hid HN.out
            clear HN hsx
            go_wp2
            go_roundw
            case rel => exact ⟨k + 1, Cr.sh1 x, by omega, by go_num, by omega, HE', HNN⟩
            case measure => simp [intOf]; omega
          · have hsx : x / 2 ^^^ 3988292384 = Cr.sh1 x := by
              have h1 : x % 2 = 1 := by have := HOut.out; rw [Nat.testBit_zero] at this; simpa using this
              rw [Cr.sh1, if_pos h1]
              rfl
            have X := xor_any (x / 2) 3988292384 (wr.setCell ⟨w.heap.size, 31, none⟩ (.bool false))
            rw [HPe.out, hsx] at X
            have HY := Lib.hid (show (bitsV (x / 2)).toArray.size = 32 by simp [bitsV_len])
            have HZ := Lib.hid (show (bitsV (Cr.sh1 x)).toArray.size = 32 by simp [bitsV_len])
            have HZ1 := Lib.hid (bitsV_one (Cr.sh1 x))
            clear hsx
            generalize hZe : (bitsV (Cr.sh1 x)).toArray = Z at *
            have HZe := Lib.hid hZe
            clear hZe
            generalize (bitsV (x / 2)).toArray = Y at *
            have hsiY : (Try.prog.info? 30).map (·.size) = some Y.size := by rw [HY.out]; exact wSize
            have hsiP : (Try.prog.info? 30).map (·.size) = some P.size := by rw [HPs.out]; exact wSize
            have hsiZ : (Try.prog.info? 30).map (·.size) = some Z.size := by rw [HZ.out]; exact wSize
            go_step
            rename ∀ (a : Act) (w : World), Code.wp _ _ _ a w → _ => hK2
            have HK2 := Lib.hid hK2
            clear hK2
            go_wp2
            refine HK2.out _ _ ?_
            clear c2 c3
            generalize World.setCell _ _ _ = W3 at *
            go_step
            rename ∀ (a : Act) (w : World), Code.wp _ _ _ a w → _ => hK3
            have HK3 := Lib.hid hK3
            clear hK3
            go_wp2
            refine HK3.out _ _ ?_
            go_step
            go_step
            refine wpList_load_row (by rfl) _ _ (by rfl) w.heap.size (by rfl) 30 Y (0, 0) _ HN.out.h0 Try.underlying30 (by rfl) hsiY ?_
            refine wpList_load_row (by rfl) _ _ (by rfl) q (by rfl) 30 P (0, 0) _ HN.out.h2 Try.underlying30 (by rfl) hsiP ?_
            go_wp2_with fail
            refine X.mono ?_
            rintro e w4 ⟨rfl, hb4⟩
            clear X
            simp only []
            rename ∀ (a : Act) (w : World), wpList _ _ _ _ a w → _ => hK4
            refine hK4 _ _ ?_
            clear hK4
            have HL := HN.out.later hb4
            refine wpList_store_row (by rfl) _ _ _ (by rfl) w.heap.size Z (by rfl) (by rfl) 30 Y HL.h0 hsiZ (by rw [HY.out, HZ.out]) HZ1.out ?_
            have HF := Lib.hid (HL.row Z)
            generalize World.setRow _ _ Z = W5 at *
            rw [← HZe.out] at HF
            clear HL hb4 HN
            have HFF := Lib.hid HF.out
            clear HF
            go_wp2
            go_roundw
            case rel => exact ⟨k + 1, Cr.sh1 x, by omega, by go_num, by omega, HE', HFF⟩
            case measure => simp [intOf]; omega
    · obtain rfl : k = 8 := by omega
      have hxe : x = Cr.shn 8 n := HE.out
      have h1 := bitsV_one x
      have hsz : (bitsV x).toArray.size = 32 := by simp [bitsV_len]
      generalize hCe : (bitsV x).toArray = C at *
      rw [hxe] at hCe
      have HCe := Lib.hid hCe
      clear hCe hxe HE
      rename ∀ (a : Act) (w : World), Code.wp _ _ _ a w → _ => hK
      have HK := Lib.hid hK
      clear hK
      have hlt' : ¬ ((8 : Nat) : Int) < 8 := by omega
      have hsi : (Try.prog.info? 30).map (·.size) = some C.size := by rw [hsz]; exact wSize
      go_wp2
      refine HK.out _ _ ?_
      go_step
      go_step
      refine wpList_load_row (by rfl) _ _ (by rfl) w.heap.size (by rfl) 30 C (0, 0) _ HR.out.h0 Try.underlying30 (by rfl) hsi ?_
      refine wpList_store_row (by rfl) _ _ _ (by rfl) (w.heap.size + 1) C (by rfl) (by rfl) 30 R HR.out.h1 hsi (by rw [HRs.out, hsz]) h1 ?_
      have HF := setRow_heap wr (w.heap.size + 1) R C 30 (0, 0) HR.out.h1
      have hb := HR.out.b
      have hb2 : Below w.heap.size w (wr.setRow (w.heap.size + 1) C) := ⟨hb.os, hb.tape, hb.output, by simp [hb.size], fun k hk => (setRow_other _ _ _ _ (by omega)).trans (hb.block k hk)⟩
      generalize wr.setRow (w.heap.size + 1) C = W2 at *
      have HFH := Lib.hid HF
      clear HF HR
      go_wp2
      refine bodyPost_ret (results_cell_row (P := Try.prog) (fn := Try.f11) rfl _ _ (w.heap.size + 1) 30 C (0, 0) _ (by rfl) HFH.out Try.underlying30 (by rfl) hsi) rfl ⟨by rw [HCe.out], hb2⟩
end Go.Proofs.Ytbhdffefjphphaa
