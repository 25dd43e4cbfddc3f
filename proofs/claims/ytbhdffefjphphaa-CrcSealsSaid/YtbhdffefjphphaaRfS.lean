/-
  The document's sum of bytes, its bytes.
-/
import Derived.Test.YtbhdffefjphphaaRfC
import Derived.Test.YtbhdffefjphphaaCrcS
namespace Go.Proofs.Ytbhdffefjphphaa
open Go.RowKit
set_option maxRecDepth 100000

section
variable {P : Program} {ops : Array Oper}
/-- a load, by what every world of the class holds there -/
theorem wpQ2_load {Q : (World → Prop) → Act → Prop} {o : Oper} {rest : List Oper} {C : World → Prop} {a : Act} {t : TypeId} {x : Operand} {ad : Addr} (v : Value) (hop : o.op = .load t x) (hg : o.guard = none) (hx : a.eval x = .pointer (some ad))
    (hrun : ∀ w, C w → (Instr.loadAt t (.pointer (some ad))).run P w = .ok v w) (h : wpQ2 P ops Q rest C (a.put o.dst v)) : wpQ2 P ops Q (o :: rest) C a := by
  refine ⟨v, C, .inr (.inl ⟨by simp [kindOf, pureOp, hop], rfl, .inl ⟨by simp [Region.wanted, hg], fun w hC => ?_⟩⟩), h⟩
  unfold Oper.quietAt execOp
  simp only [hop, hx]
  rw [Sem.run_bind, hrun w hC]
  exact ⟨rfl, rfl⟩
end

/-- a row that the call made, in block q -/
structure R1 (w wr : World) (q : Nat) (C : Array Value) : Prop where
  h0 : wr.heap[q]? = some (.cells C 30 (0, 0))
  hq : w.heap.size ≤ q
  b : Below w.heap.size w wr
theorem R1.later {w wr w2 : World} {q : Nat} {C : Array Value} (h : R1 w wr q C) (hb : Below wr.heap.size wr w2) : R1 w w2 q C :=
  ⟨(hb.block _ (Array.getElem?_eq_some_iff.1 h.h0).1).trans h.h0, h.hq, h.b.trans (hb.mono h.b.size)⟩
theorem R1.row {w wr : World} {q : Nat} {C : Array Value} (h : R1 w wr q C) (Z : Array Value) : R1 w (wr.setRow q Z) q Z :=
  ⟨setRow_heap _ _ _ _ _ _ h.h0, h.hq, ⟨h.b.os, h.b.tape, h.b.output, by simp [h.b.size], fun k hk => (setRow_other _ _ _ _ (by have := h.hq; omega)).trans (h.b.block k hk)⟩⟩

set_option maxHeartbeats 1000000 in
theorem rsum_any (B : Nat) (a : Option Addr) (n c : Nat) (zs : List Int) (w : World) (hn : zs.length = n) (hl : n ≤ 1000000) (hz : Bytes zs) (hB : B ≤ w.heap.size) (h1 : Nums .u8 w B a zs) :
    Calls Try.prog 9 #[.slice a n c] w fun e w' => e = .returned (.int .u32 ((Cr.sum zs : Nat) : Int)) ∧ Below w.heap.size w w' := by
  have HZ := Lib.hid hz
  have HN := Lib.hid hn
  have H1 := Lib.hid (h1.mono hB)
  clear hz hn h1
  obtain ⟨hz, hzs⟩ := zero_of_info (P := Try.prog) (t := 30) (v := .agg (Array.replicate 32 (.bool false))) (n := 32) (by kernel_rfl)
  go_enter Try.func9, Try.ntmps9
  go_wp2_with fail
  refine (of_any 4294967295 _ (by omega)).mono ?_
  rintro e w1 ⟨rfl, hb1⟩
  have HP1 := Lib.hid (bitsV_one 4294967295)
  have HPs := Lib.hid (show (bitsV 4294967295).toArray.size = 32 by simp [bitsV_len])
  generalize hPe : (bitsV 4294967295).toArray = P at *
  have HPe := Lib.hid hPe
  clear hPe
  simp only []
  rename ∀ (a : Act) (w : World), wpList _ _ _ _ a w → _ => hK
  refine hK _ _ ?_
  clear hK
  have HS0 : R1 w (w1.alloc (.cells (Array.replicate 32 (.bool false)) 30)) w1.heap.size (Array.replicate 32 (.bool false)) := ⟨heap_alloc_new _ _, hb1.size, hb1.alloc hb1.size _⟩
  have HS := Lib.hid (HS0.row P)
  have hsi : (Try.prog.info? 30).map (·.size) = some P.size := by rw [HPs.out]; exact wSize
  go_step
  go_step
  go_step
  refine wpList_store_row (by rfl) _ _ _ (by rfl) w1.heap.size P (by rfl) (by rfl) 30 (Array.replicate 32 (.bool false)) HS0.h0 hsi (by rw [HPs.out]; rfl) HP1.out ?_
  clear HS0
  generalize World.setRow _ w1.heap.size P = W at *
  generalize w1.heap.size = q at *
  rw [← HPe.out] at HS
  have HS2 := Lib.hid HS.out
  clear hb1 hz hzs HS hsi HP1 HPs
  go_wp2
  go_loopw [4] (fun i wr => ∃ (k m : Nat), k ≤ n ∧ i = .int .i64 k ∧ m < 4294967296 ∧ Hid (m = Cr.crc Cr.ones (zs.take k)) ∧ Hid (R1 w wr q (bitsV m).toArray)) (fun i _ => n - (intOf i).toNat)
  case atStart => exact ⟨0, 4294967295, by omega, rfl, by omega, rfl, HS2.out⟩
  case round =>
    obtain ⟨k, m, hk, rfl, hm, HM, HR⟩ := hrel
    by_cases hlt : k < n
    · obtain ⟨z, hc⟩ : ∃ z, zs[k]? = some z := ⟨_, List.getElem?_eq_getElem (by rw [HN.out]; exact hlt)⟩
      have hzb := HZ.out z (List.mem_of_getElem? hc)
      have HMM := Lib.hid (crc_more Cr.ones hc)
      obtain ⟨b1, o1, rfl, hb1, hc1⟩ := (H1.out.below HR.out.b).open hc
      clear hc H1
      obtain ⟨y, rfl⟩ := Int.eq_ofNat_of_zero_le hzb.1
      have hy : y < 256 := by omega
      rw [Int.toNat_natCast, ← HM.out] at HMM
      have hlt' : (k : Int) < (n : Int) := by omega
      have hx := Cr.byte_xor_lt (s := m) (b := y) (by omega) hy
      have hs := Cr.shn_lt 8 hx
      clear hzb
      have hO := fun W => of_any y W (by omega)
      have hX := fun W => xor_any m y W
      have hS := fun W => shift_any (m ^^^ y) W (by simpa using hx)
      have HYs := Lib.hid (show (bitsV m).toArray.size = 32 by simp [bitsV_len])
      have HZs := Lib.hid (show (bitsV (Cr.shn 8 (m ^^^ y))).toArray.size = 32 by simp [bitsV_len])
      have HZ1 := Lib.hid (bitsV_one (Cr.shn 8 (m ^^^ y)))
      generalize hZe : (bitsV (Cr.shn 8 (m ^^^ y))).toArray = Z at *
      have HZe := Lib.hid hZe
      clear hZe
      generalize (bitsV (m ^^^ y)).toArray = XY at *
      generalize (bitsV y).toArray = Yb at *
      generalize (bitsV m).toArray = Mb at *
      have hsiY : (Try.prog.info? 30).map (·.size) = some Mb.size := by rw [HYs.out]; exact wSize
      have hsiZ : (Try.prog.info? 30).map (·.size) = some Z.size := by rw [HZs.out]; exact wSize
      have hcB : b1 < wr.heap.size := Nat.lt_of_lt_of_le hb1 HR.out.b.size
      go_wp2
      refine wp_region_lex2 (C := fun W => Below wr.heap.size wr W) (by kernel_rfl) (by kernel_rfl) (Below.refl _ _).drew ?_
      refine wpQ2_load (.agg Mb) rfl rfl (by rfl) (fun W hW => ?_) ?_
      · exact run_loadVar_row W q 30 30 Mb (0, 0) _ (HR.out.later hW).h0 Try.underlying30 (by rfl) hsiY
      simp only [Act.put, List.setIfInBounds_toArray, List.set_cons_succ, List.set_cons_zero]
      repeat (refine wpQ2_pure rfl ?_; go_big_quiet_step (fail); refine wpQuiet_nil ?_)
      refine wpQ2_load (ad := ⟨b1, o1 + k, none⟩) (.int .u8 (y : Int)) rfl rfl (by rfl) (fun W hW => ?_) ?_
      · have := (hW.cell (p := ⟨b1, o1 + k, none⟩) hcB).trans hc1
        simp [Instr.loadAt, go_sem, this]
      simp only [Act.put, List.setIfInBounds_toArray, List.set_cons_succ, List.set_cons_zero]
      repeat (refine wpQ2_pure rfl ?_; go_big_quiet_step (fail); refine wpQuiet_nil ?_)
      refine wpQ2_look rfl ?_
      go_big_quiet_step ((intro hC; first | rfl | (go_at_call 12; exact calls_below hC hC.size (hO _))))
      refine wpQuiet_nil ?_
      refine wpQ2_look rfl ?_
      go_big_quiet_step ((intro hC; first | rfl | (go_at_call 26; exact calls_below hC hC.size (hX _))))
      refine wpQuiet_nil ?_
      refine wpQ2_look rfl ?_
      go_big_quiet_step ((intro hC; first | rfl | (go_at_call 11; exact calls_below hC hC.size (hS _))))
      refine wpQuiet_nil ?_
      refine wpQ2_store (fun W => R1 w W q Z) rfl rfl rfl ⟨q, 0, none⟩ (.agg Z) (by rfl) (by rfl) (fun W hW => ?_) ?_
      · exact ⟨W.setRow q Z, run_storeVar_row W q 30 30 Mb Z (HR.out.later hW).h0 hsiZ (by rw [HYs.out, HZs.out]) HZ1.out, (HR.out.later hW).row Z⟩
      intro W2 hW2
      have HW2 := Lib.hid hW2
      clear hW2
      rw [← HZe.out] at HW2
      have HW3 := Lib.hid HW2.out
      clear HW2 hO hX hS
      go_wp2
      go_roundw
      case rel => exact ⟨k + 1, Cr.shn 8 (m ^^^ y), by omega, by go_num, by omega, HMM.out.symm, HW3.out⟩
      case measure => simp [intOf]; omega
    · have hkn : k = n := by omega
      have HK0 := Lib.hid hkn
      clear hkn
      have hsz : (bitsV m).toArray.size = 32 := by simp [bitsV_len]
      have X := fun W => word_any m W hm
      generalize (bitsV m).toArray = C at *
      rename ∀ (a : Act) (w : World), Code.wp _ _ _ a w → _ => hK
      have HK := Lib.hid hK
      clear hK
      have hlt' : ¬ (k : Int) < (n : Int) := by omega
      have hsi : (Try.prog.info? 30).map (·.size) = some C.size := by rw [hsz]; exact wSize
      go_wp2
      refine HK.out _ _ ?_
      go_step
      go_step
      refine wpList_load_row (by rfl) _ _ (by rfl) q (by rfl) 30 C (0, 0) _ HR.out.h0 Try.underlying30 (by rfl) hsi ?_
      have hm' : (m : Int) < 4294967296 := by omega
      go_wp2_with fail
      refine (X _).mono ?_
      rintro e w5 ⟨rfl, hb5⟩
      have hb6 := HR.out.b.trans (hb5.mono HR.out.b.size)
      go_wp2
      go_ret
      refine ⟨ret_int ?_, hb6⟩
      rw [show Cr.sum zs = Cr.ones - m by rw [HM.out, HK0.out, ← HN.out, List.take_length]; rfl]
      simp only [Cr.ones]
      omega
end Go.Proofs.Ytbhdffefjphphaa
