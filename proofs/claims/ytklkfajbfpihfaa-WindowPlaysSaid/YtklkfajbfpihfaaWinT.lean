/-
  The walk of the law WindowPlays: it returns true.
-/
import Derived.Test.YtklkfajbfpihfaaWinY
import Derived.Test.YtklkfajbfpihfaaWinK
import Derived.Test.YtklkfajbfpihfaaQ12
namespace Go.Proofs.Ytklkfajbfpihfaa
open Go.RowKit
set_option maxRecDepth 100000

/-- a load of a whole row, guarded or not -/
theorem wpList_load_rowg {P : Program} {ops : Array Oper} {rest : List Oper} {o : Oper} {a : Act} {w : World} {Q : Exit → Act → World → Prop} (hwt : Region.wanted o (yielded ops a.tmps) = true) (ty : TypeId) (x : Operand) (ho : o.op = .load ty x)
    (g : Nat) (hx : a.eval x = .pointer (some ⟨g, 0, none⟩)) (t : TypeId) (cs : Array Value) (fr : Nat × Nat) (d : TypeDesc) (hg : w.heap[g]? = some (.cells cs t fr))
    (hu : P.underlying ty = some d) (hd : (match d with | .struct _ | .array _ _ => true | _ => false) = true) (hi : (P.info? ty).map (·.size) = some cs.size)
    (h : wpList P ops Q rest (a.put o.dst (.agg cs)) w) : wpList P ops Q (o :: rest) a w := by
  simp only [wpList, hwt, if_true]
  left
  exact wp_load_row ty x ho g hx t cs fr d hg hu hd hi h
theorem wr_store (W : World) (g : Nat) (old cs : Array Value) (h : W.heap[g]? = some (.cells old 28 (0, 0))) (ho : old.size = 65) (hc : cs.size = 65) (h1 : cs.all (·.oneCell') = true) :
    (Instr.storeAt 28 (.pointer (some ⟨g, 0, none⟩)) (.agg cs)).run Try.prog W = .ok () (W.setRow g cs) := by
  simp only [Instr.storeAt, Instr.sureAddr, Sem.run_bind, Sem.run_pure, Result.andThen]
  exact run_storeVar_row W g 28 28 old cs h (by rw [hc]; exact wInfo) (by omega) h1
/-- the new variable -/
def FSn (H : Nat) (Z : Array Value) (q : Tmp) (x : Value) (W : World) : Prop := q = 11 ∧ ∃ g, x = .pointer (some ⟨g, 0, none⟩) ∧ H ≤ g ∧ W.heap[g]? = some (.cells Z 28 (0, 0))
theorem FSn.later {H : Nat} {Z : Array Value} {q : Tmp} {x : Value} {W W' : World} (hh : FSn H Z q x W) (hb : Below W.heap.size W W') : FSn H Z q x W' := by
  obtain ⟨h, g, e, hg, hc⟩ := hh
  exact ⟨h, g, e, hg, (hb.block g (Array.getElem?_eq_some_iff.1 hc).1).trans hc⟩
/-- the law's window in block B, the document's in block Bm -/
structure PlayAt (w3 : World) (B Bm : Nat) (t : Int) (q : Nat) (W : World) : Prop where
  top : 0 ≤ t ∧ t < 4294967296
  lt : q < 18446744073709551616
  win : WinAt W B t q
  row : W.heap[Bm]? = some (.cells (wC t q.testBit) 28 (0, 0))
  off : Off (fun k => k = B ∨ k = Bm) w3 W

set_option maxHeartbeats 8000000 in
theorem plays_go (s ask : Int) (hs : 0 ≤ s ∧ s < 4294967296) (hask : 0 ≤ ask ∧ ask < 4294967296) (a : Option Addr) (n m c : Nat) (es : List Int) (w : World) (hn : es.length = n) (_hc : n ≤ c) (hl : n ≤ 9223372036854775807) (hz : Sr.U es) (h1 : Nums .u32 w w.heap.size a es)
    (hm : m = min n 100) :
    Calls Try.prog 3 #[.int .u32 s, .slice a n c, .int .u32 ask] w fun e w' => e = .returned (.bool true) ∧ Below w.heap.size w w' := by
  obtain ⟨hzz, hzs⟩ := zero_of_info (P := Try.prog) wZero
  obtain ⟨Z, hZ⟩ : ∃ Z, wC 0 (fun _ => false) = Z := ⟨_, rfl⟩
  rw [hZ] at hzz
  have hZs : Z.size = 65 := by rw [← hZ]; exact wC_size _ _
  have HZs := Lib.hid hZs
  have HZi := Lib.hid hzs
  have HN := Lib.hid hn
  have HZ := Lib.hid hz
  have HM := Lib.hid hm
  have hmn : m ≤ n := by omega
  have hm6 : m ≤ 100 := by omega
  clear hZ hZs hzs hn hz hm
  go_enter Try.func3, Try.ntmps3
  go_wp2_with fail
  refine (wnew_any s hs w).mono ?_
  rintro e w1 ⟨rfl, hA1, hb1, hs1⟩
  go_wp2_with fail
  refine (rnew_any s hs w1).mono ?_
  rintro e w2 ⟨rfl, hb2⟩
  obtain ⟨B, hB⟩ : ∃ B, w.heap.size = B := ⟨_, rfl⟩
  obtain ⟨Bm, hBm⟩ : ∃ Bm, w2.heap.size = Bm := ⟨_, rfl⟩
  have hT := Sr.add_lt s (-1)
  rw [hB] at hA1 hs1 ⊢
  rw [wC_congr (p' := (18446744073709551615 : Nat).testBit) (fun i hi => (Wn.ones_bit i hi).symm)]
  have hA2 := hA1.below hb2
  generalize Sr.add s (-1) = t0 at *
  have hCs := wC_size t0 (18446744073709551615 : Nat).testBit
  have hC1 := wC_one t0 (18446744073709551615 : Nat).testBit
  obtain ⟨C0, hC0⟩ : ∃ C0, wC t0 (18446744073709551615 : Nat).testBit = C0 := ⟨_, rfl⟩
  rw [hC0] at hCs hC1 ⊢
  have hs2 := hb2.size
  obtain ⟨w3, hw3⟩ : ∃ w3, w2.alloc (.cells Z 28) = w3 := ⟨_, rfl⟩
  have hg3 : w3.heap[Bm]? = some (.cells Z 28 (0, 0)) := by rw [← hw3, ← hBm]; exact heap_alloc_new _ _
  have HG3 := Lib.hid hg3
  have HI : Hid ((Try.prog.info? 28).map (·.size) = some C0.size) := by show _ = _; rw [hCs]; exact HZi.out
  have HCs := Lib.hid hCs
  have HC1 := Lib.hid hC1
  have hg4 := setRow_heap w3 Bm Z C0 28 (0, 0) hg3
  have HG4 := Lib.hid hg4
  have hb23 : Below w2.heap.size w2 w3 := by rw [← hw3]; exact (Below.refl _ w2).alloc (Nat.le_refl _) _
  have hA3 := hA2.below hb23
  have hs3 : w3.heap.size = Bm + 1 := by rw [← hw3]; simp [hBm]
  have hb4 : Below Bm w3 (w3.setRow Bm C0) := ⟨rfl, rfl, rfl, by simp [World.setRow], fun k hk => setRow_other _ _ _ _ (by omega)⟩
  have hA4 : WinAt (w3.setRow Bm C0) B t0 18446744073709551615 := (hb4.block B (by have := hA2.size; omega)).trans hA3
  have KA := alike_any hA4 hT (by omega)
  unfold refV at KA
  rw [hC0] at KA
  have HKA := Lib.hid KA
  have HB4 := Lib.hid (show Below w.heap.size w (w3.setRow Bm C0) from (hb1.trans (hb2.mono (by omega))).trans ((hb23.mono (by omega)).trans (hb4.mono (by omega))))
  have HA4 := Lib.hid hA4
  have HC0 := Lib.hid hC0
  have hBBm : B < Bm := by have := hA2.size; omega
  have HBw := Lib.hid hB
  clear hg3 hg4 hb23 hA3 hb4 hA4 KA hC0 hA1 hA2 hb1 hb2
  go_wp2_with (first
    | (refine wpList_store_row rfl 28 (.tmp 8) (.tmp 16) rfl Bm C0 rfl rfl 28 _ HG3.out HI.out (HZs.out.trans HCs.out.symm) HC1.out ?_)
    | (refine wpList_load_rowg rfl 28 (.tmp 8) rfl Bm rfl 28 C0 (0, 0) _ HG4.out Try.underlying28 rfl HI.out ?_))
  refine HKA.out.mono ?_
  rintro e w4 ⟨rfl, hb4⟩
  have hP0 : PlayAt w4 B Bm t0 18446744073709551615 w4 :=
    ⟨hT, by omega, HA4.out.below hb4, by rw [HC0.out]; exact (hb4.block Bm (Array.getElem?_eq_some_iff.1 HG4.out).1).trans HG4.out, Off.refl _ _⟩
  have hBw4 := HB4.out.trans (hb4.mono HB4.out.size)
  have hs4 : Bm < w4.heap.size := by have h := (Array.getElem?_eq_some_iff.1 HG4.out).1; have := hb4.size; omega
  have HBW := Lib.hid hBw4
  have h14 := h1.below hBw4
  have hwB : w.heap.size = B := HBw.out
  have HWB := Lib.hid hwB
  rw [hwB] at h14
  clear hb4 hBw4 HB4 HA4 HG4 HG3 HKA HC0 HI HCs HC1 hCs hC1 hw3 h1 hBm hB hwB hs3 hs1 hs2
  go_wp2
  clear hT
  go_loopw [9] (fun iv wr => ∃ (k : Nat) (t : Int) (q : Nat), k ≤ m ∧ iv = .int .i64 (k : Int) ∧ PlayAt w4 B Bm t q wr) (fun iv _ => m - (intOf iv).toNat)
  case atStart => exact ⟨0, t0, _, by omega, rfl, hP0⟩
  case round =>
    obtain ⟨k, t, q, hkm, rfl, hP⟩ := hrel
    rcases Nat.lt_or_ge k m with h4 | h4
    · obtain ⟨x, hg⟩ : ∃ x, es[k]? = some x := ⟨_, List.getElem?_eq_getElem (by rw [HN.out]; omega)⟩
      have hxU := HZ.out x (List.mem_of_getElem? hg)
      have hnl : Nums .u32 wr B a es := h14.kept fun p hp => World.cell?_of_block (hP.off.block p.block (by omega) (by omega))
      obtain ⟨bl, ol, rfl, hbl, hcl⟩ := hnl.open hg
      have h5 : (k : Int) < (n : Int) := by omega
      have h6 : (k : Int) < 100 := by omega
      have hkc : (k : Int) < (c : Int) := by omega
      have ht := hP.top
      have hq := hP.lt
      have hwin := hP.win
      have hrow := hP.row
      have HOFF := Lib.hid hP.off
      have hsr := hP.off.size
      have hcs := wC_size t q.testBit
      have HHI : Hid ((Try.prog.info? 28).map (·.size) = some (wC t q.testBit).size) := by show _ = _; rw [hcs]; exact HZi.out
      have KC := wcopy_any hwin
      have KM := Lib.hid (fun V => rmark_any t q x ht hxU V)
      have KL := Lib.hid (fun V (hV : WinAt V B t q) => wLook_any hV x ht hxU hq)
      have KK := Lib.hid (fun V (hV : WinAt V B t q) => wMark_any hV x ht hxU hq)
      have KA1 := Lib.hid (fun V bc (hV : WinAt V bc t q) => alike_any hV ht hq)
      have KL2 := Lib.hid (fun V bc (hV : WinAt V bc t q) => wLook_any hV ask ht hask hq)
      have KR2 := Lib.hid (fun V => rlook_any t q ask ht hask V)
      have hT2 : 0 ≤ (if Wn.look t q x = 0 then Wn.nt t x else t) ∧ (if Wn.look t q x = 0 then Wn.nt t x else t) < 4294967296 := by
        split
        · exact Wn.nt_lt ht hxU
        · exact ht
      have hQ2 : (if Wn.look t q x = 0 then Wn.nq t q x else q) < 18446744073709551616 := by
        split
        · rename_i h0; exact Wn.nq_lt hq h0
        · exact hq
      generalize (if Wn.look t q x = 0 then Wn.nt t x else t) = t2 at *
      generalize (if Wn.look t q x = 0 then Wn.nq t q x else q) = q2 at *
      generalize Wn.look t q x = L at *
      generalize Wn.look t q ask = L2 at *
      have KA2 := Lib.hid (fun V bc (hV : WinAt V bc t2 q2) => alike_any hV hT2 hQ2)
      unfold refV at KM KA1 KA2 KR2
      have hcs2 := wC_size t2 q2.testBit
      have hc12 := wC_one t2 q2.testBit
      have HHI2 : Hid ((Try.prog.info? 28).map (·.size) = some (wC t2 q2.testBit).size) := by show _ = _; rw [hcs2]; exact HZi.out
      obtain ⟨C, hC⟩ : ∃ C, wC t q.testBit = C := ⟨_, rfl⟩
      obtain ⟨D, hD⟩ : ∃ D, wC t2 q2.testBit = D := ⟨_, rfl⟩
      rw [hC] at hrow HHI KM KA1 KR2
      rw [hD] at KM KA2 hcs2 hc12 HHI2
      rw [hC] at hcs
      have HD := Lib.hid hD
      have HCS := Lib.hid hcs
      have HDS := Lib.hid hcs2
      have HD1 := Lib.hid hc12
      clear hP hg hnl hC hD hcs hcs2 hc12
      go_wp2_with fail
      refine KC.mono ?_
      rintro e w9 ⟨rfl, hc9, hb9, hs9⟩
      have hw9 := hwin.below hb9
      have hr9 := (hb9.block Bm (by omega)).trans hrow
      have hl9 := (hb9.cell (p := ⟨bl, ol + k, none⟩) (by simp only; omega)).trans hcl
      obtain ⟨Bc, hBc⟩ : ∃ Bc, wr.heap.size = Bc := ⟨_, rfl⟩
      have hsBc : Bm < Bc := by omega
      rw [hBc] at hc9 hs9 ⊢
      clear KC hrow hwin hcl
      go_wp2
      have hlC : ∀ V, Below w9.heap.size w9 V → (Instr.loadAt 28 (.pointer (some ⟨Bm, 0, none⟩))).run Try.prog V = .ok (.agg C) V := fun V hV => by
        exact run_loadVar_row V Bm 28 28 C (0, 0) _ ((hV.block Bm (by omega)).trans hr9) Try.underlying28 (by rfl) HHI.out
      have hlX : ∀ V, Below w9.heap.size w9 V → (Instr.loadAt 22 (.pointer (some ⟨bl, ol + k, none⟩))).run Try.prog V = .ok (.int .u32 x) V := fun V hV => by
        have := (hV.cell (p := ⟨bl, ol + k, none⟩) (by simp only; omega)).trans hl9
        simp [Instr.loadAt, go_sem, this]
      refine wp_region_FL 89 6 [false, false, false, false, false, false, false, false, true, false] [11] (FSn w9.heap.size Z) (fun V => Below w9.heap.size w9 V) (fun xs V V' => ∃ g, xs 11 = .pointer (some ⟨g, 0, none⟩) ∧ V' = V.setRow g D) (by kernel_rfl) (by kernel_rfl) (by rfl) (by kernel_rfl) (by rfl) (by simp) (fun W W' h hb => h.trans (hb.mono h.size)) (fun q x W W' h hb => h.later hb) (Below.refl _ _).drew ?_
      refine wpFL_step (wpF_load (.agg C) rfl (by rfl) (by rfl) (by rfl) hlC ?_)
      simp only [wpF, Act.put, List.setIfInBounds_toArray, List.set_cons_succ, List.set_cons_zero]
      repeat (refine wpFL_step (wpF_pure rfl rfl ?_); go_big_quiet_step (fail); refine wpQuiet_nil ?_; simp only [wpF])
      refine wpFL_step (wpF_load (.int .u32 x) rfl (by rfl) (by rfl) (by rfl) hlX ?_)
      simp only [wpF, Act.put, List.setIfInBounds_toArray, List.set_cons_succ, List.set_cons_zero]
      refine wpFL_step (wpF_call (f := 11) (args := #[.agg C, .int .u32 x]) (.tuple #[.agg D, .int .i64 L]) rfl rfl (fun x => by first | rfl | (simp [go_sem]; done)) (fun W _ => KM.out W) ?_)
      simp only [wpF, Act.put, List.setIfInBounds_toArray, List.set_cons_succ, List.set_cons_zero]
      repeat (refine wpFL_step (wpF_pure rfl rfl ?_); go_big_quiet_step (fail); refine wpQuiet_nil ?_; simp only [wpF])
      refine wpFL_late (wpFS_pure rfl rfl ?_)
      go_big_quiet_step (fail)
      refine wpQuiet_nil ?_
      simp only [wpFS]
      refine wpFL_step (wpF_src 11 (by simp) rfl (by kernel_rfl) (by kernel_rfl) (fun V hV => ⟨.pointer (some ⟨V.heap.size, 0, none⟩), V.alloc (.cells Z 28), ?_, ⟨rfl, _, rfl, hV.size, World.alloc_heap_new _ _⟩, (Below.refl _ _).alloc (Nat.le_refl _) _⟩) ?_)
      · simp [go_sem, hzz]
      simp only [wpF, Act.put, List.setIfInBounds_toArray, List.set_cons_succ, List.set_cons_zero]
      refine wpFL_store (wpFS_storeX rfl rfl rfl (fun xs V hV hx => ?_) ?_)
      · obtain ⟨_, g, e4, hg, hcg⟩ := hx 11 (by simp)
        refine ⟨_, ?_, g, e4, rfl⟩
        simp only [fill, Act.put, List.setIfInBounds_toArray, List.set_cons_succ, List.set_cons_zero, e4]
        exact wr_store V g _ D hcg HZs.out HDS.out HD1.out
      refine wpFS_pure rfl rfl ?_
      go_big_quiet_step (fail)
      refine wpQuiet_nil ?_
      simp only [wpFS]
      rintro xs V V' hV hx ⟨g, e4, rfl⟩
      obtain ⟨_, g', e4', hg, hcg⟩ := hx 11 (by simp)
      obtain rfl : g = g' := by rw [e4] at e4'; injection e4' with e4'; injection e4' with e4'; injection e4'
      simp only [fill, Act.put, List.setIfInBounds_toArray, List.set_cons_succ, List.set_cons_zero, e4]
      have hWf := setRow_heap V g _ D _ _ hcg
      have hoF : Off (fun k => k = g) V (V.setRow g D) := Off.setRow (S := fun k => k = g) (Off.refl _ V) rfl _
      have hbF : Below w9.heap.size w9 (V.setRow g D) := hV.trans (hoF.below (fun k hk => by omega) hV.size)
      generalize V.setRow g D = Wf at *
      clear hx e4 e4' hlC hlX hV hcg hoF
      have hwf := hw9.below hbF
      have hcf := hc9.below hbF
      have hrf := (hbF.block Bm (by omega)).trans hr9
      have hlf := (hbF.cell (p := ⟨bl, ol + k, none⟩) (by simp only; omega)).trans hl9
      have hI : ∀ W, Off (fun k => k = B) Wf W → W.cell? ⟨bl, ol + k, none⟩ = some (.int .u32 x) ∧ W.heap[Bm]? = some (.cells C 28 (0, 0)) ∧ WinAt W Bc t q := fun W hW =>
        ⟨hW.cell hlf (show ¬ bl = B by omega), (hW.block Bm (Array.getElem?_eq_some_iff.1 hrf).1 (by omega)).trans hrf, hcf.off hW (by omega)⟩
      have HII := Lib.hid hI
      have HWF := Lib.hid hWf
      have hC0 : WinAt Wf.drew B t q ∧ Off (fun k => k = B) Wf Wf.drew := ⟨hwf, ⟨rfl, rfl, rfl, Nat.le_refl _, fun _ _ _ => rfl⟩⟩
      have HBF := Lib.hid hbF
      clear hI hwf hcf hrf hlf hc9 hw9 hr9 hl9 hWf hbF
      go_wp2
      refine wp_region_order4 (0 :: 1 :: 2 :: 3 :: 4 :: 5 :: 6 :: 7 :: 9 :: 8 :: 10 :: 11 :: 12 :: 13 :: 14 :: 15 :: 16 :: 17 :: 19 :: 18 :: 20 :: 21 :: 22 :: 23 :: 24 :: 25 :: 26 :: 27 :: 28 :: 29 :: 30 :: 32 :: 33 :: 31 :: 34 :: 35 :: 36 :: []) (fun W => Off (fun k => k = B) Wf W) (C := fun W => WinAt W B t q ∧ Off (fun k => k = B) Wf W) (by kernel_rfl) (by kernel_rfl) hC0 (fun _ hW => hW.2) ?_
      repeat (refine wpO4_pure rfl rfl ?_; go_big_quiet_step (fail); refine wpQuiet_nil ?_)
      refine wpO4_load (ad := ⟨bl, ol + k, none⟩) (.int .u32 x) rfl rfl rfl (by rfl) (fun W hW => by simp [Instr.loadAt, go_sem, (HII.out W hW).1]) ?_
      simp only [Act.put, List.setIfInBounds_toArray, List.set_cons_succ, List.set_cons_zero]
      repeat (refine wpO4_pure rfl rfl ?_; go_big_quiet_step (fail); refine wpQuiet_nil ?_)
      refine wpO4_call (fun v => v = .int .i64 L) (fun _ W => WinAt W B t q ∧ Off (fun k => k = B) Wf W) (f := 12) (args := #[.pointer (some ⟨B, 0, none⟩), .int .u32 x]) rfl rfl rfl (fun _ W hW => hW.2) (fun x => by first | rfl | (simp [go_sem]; done)) (fun W hW => (KL.out W hW.1).mono fun e W' ⟨he, hb⟩ => ⟨_, he, rfl, hW.1.below hb, hW.2.trans (S' := fun _ => False) (Off.of_below hb) (fun _ _ h => h.elim)⟩) ?_
      rintro v rfl
      simp only [Act.put, List.setIfInBounds_toArray, List.set_cons_succ, List.set_cons_zero]
      repeat (refine wpO4_pure rfl rfl ?_; go_big_quiet_step (fail); refine wpQuiet_nil ?_)
      refine wpO4_load (ad := ⟨bl, ol + k, none⟩) (.int .u32 x) rfl rfl rfl (by rfl) (fun W hW => by simp [Instr.loadAt, go_sem, (HII.out W hW).1]) ?_
      simp only [Act.put, List.setIfInBounds_toArray, List.set_cons_succ, List.set_cons_zero]
      repeat (refine wpO4_pure rfl rfl ?_; go_big_quiet_step (fail); refine wpQuiet_nil ?_)
      refine wpO4_call (fun v => v = .int .i64 L) (fun _ W => WinAt W B t2 q2 ∧ Off (fun k => k = B) Wf W) (f := 13) (args := #[.pointer (some ⟨B, 0, none⟩), .int .u32 x]) rfl rfl rfl (fun _ W hW => hW.2) (fun x => by first | rfl | (simp [go_sem]; done)) (fun W hW => (KK.out W hW.1).mono fun e W' ⟨he, hw, ho⟩ => ⟨_, he, rfl, hw, hW.2.trans ho (fun _ _ h => h)⟩) ?_
      rintro v rfl
      simp only [Act.put, List.setIfInBounds_toArray, List.set_cons_succ, List.set_cons_zero]
      repeat (refine wpO4_pure rfl rfl ?_; go_big_quiet_step (fail); refine wpQuiet_nil ?_)
      refine wpO4_load (ad := ⟨Bm, 0, none⟩) (.agg C) rfl rfl rfl (by rfl) (fun W hW => run_loadVar_row W Bm 28 28 C (0, 0) _ (HII.out W hW).2.1 Try.underlying28 (by rfl) HHI.out) ?_
      simp only [Act.put, List.setIfInBounds_toArray, List.set_cons_succ, List.set_cons_zero]
      refine wpO4_call (fun v => v = .bool true) (fun _ W => WinAt W B t2 q2 ∧ Off (fun k => k = B) Wf W) (f := 9) (args := #[.pointer (some ⟨Bc, 0, none⟩), .agg C]) rfl rfl rfl (fun _ W hW => hW.2) (fun x => by first | rfl | (simp [go_sem]; done)) (fun W hW => (KA1.out W Bc (HII.out W hW.2).2.2).mono fun e W' ⟨he, hb⟩ => ⟨_, he, rfl, hW.1.below hb, hW.2.trans (S' := fun _ => False) (Off.of_below hb) (fun _ _ h => h.elim)⟩) ?_
      rintro v rfl
      simp only [Act.put, List.setIfInBounds_toArray, List.set_cons_succ, List.set_cons_zero]
      repeat (refine wpO4_pure rfl rfl ?_; go_big_quiet_step (fail); refine wpQuiet_nil ?_)
      refine wpO4_load (ad := ⟨Bm, 0, none⟩) (.agg C) rfl rfl rfl (by rfl) (fun W hW => run_loadVar_row W Bm 28 28 C (0, 0) _ (HII.out W hW).2.1 Try.underlying28 (by rfl) HHI.out) ?_
      simp only [Act.put, List.setIfInBounds_toArray, List.set_cons_succ, List.set_cons_zero]
      repeat (refine wpO4_pure rfl rfl ?_; go_big_quiet_step (fail); refine wpQuiet_nil ?_)
      refine wpO4_call (fun v => v = .int .i64 L2) (fun _ W => WinAt W B t2 q2 ∧ Off (fun k => k = B) Wf W) (f := 12) (args := #[.pointer (some ⟨Bc, 0, none⟩), .int .u32 ask]) rfl rfl rfl (fun _ W hW => hW.2) (fun x => by first | rfl | (simp [go_sem]; done)) (fun W hW => (KL2.out W Bc (HII.out W hW.2).2.2).mono fun e W' ⟨he, hb⟩ => ⟨_, he, rfl, hW.1.below hb, hW.2.trans (S' := fun _ => False) (Off.of_below hb) (fun _ _ h => h.elim)⟩) ?_
      rintro v rfl
      simp only [Act.put, List.setIfInBounds_toArray, List.set_cons_succ, List.set_cons_zero]
      refine wpO4_call (fun v => v = .int .i64 L2) (fun _ W => WinAt W B t2 q2 ∧ Off (fun k => k = B) Wf W) (f := 14) (args := #[.agg C, .int .u32 ask]) rfl rfl rfl (fun _ W hW => hW.2) (fun x => by first | rfl | (simp [go_sem]; done)) (fun W hW => (KR2.out W).mono fun e W' ⟨he, hb⟩ => ⟨_, he, rfl, hW.1.below hb, hW.2.trans (S' := fun _ => False) (Off.of_below hb) (fun _ _ h => h.elim)⟩) ?_
      rintro v rfl
      simp only [Act.put, List.setIfInBounds_toArray, List.set_cons_succ, List.set_cons_zero]
      repeat (refine wpO4_pure rfl rfl ?_; go_big_quiet_step (fail); refine wpQuiet_nil ?_)
      rintro V ⟨hVw, hVo⟩
      have hVg := (hVo.block g (Array.getElem?_eq_some_iff.1 HWF.out).1 (by omega)).trans HWF.out
      have hVm : V.heap[Bm]? = some (.cells C 28 (0, 0)) := (HII.out V hVo).2.1
      have HVG := Lib.hid hVg
      have HVM := Lib.hid hVm
      have hrow2 := setRow_heap V Bm C D 28 (0, 0) hVm
      have HR2 := Lib.hid hrow2
      have hwin2 : WinAt (V.setRow Bm D) B t2 q2 := (setRow_other _ _ _ _ (by omega)).trans hVw
      have HKA := Lib.hid (KA2.out (V.setRow Bm D) B hwin2)
      have HSZ : Hid (C.size = D.size) := HCS.out.trans HDS.out.symm
      have HOV : Hid (Off (fun k => k = B ∨ k = Bm) w4 (V.setRow Bm D)) := by
        have h1 : Off (fun k => k = B ∨ k = Bm) wr Wf := Off.of_below (hb9.trans (HBF.out.mono (by omega)))
        have h2 := (HOFF.out.trans h1 (fun _ _ h => h)).trans hVo (fun _ _ h => .inl h)
        exact h2.setRow (.inr rfl) _
      clear hVg hVm hrow2 hC0 hVw hVo
      go_wp2_with (first
        | (refine wpList_load_row rfl 28 (.tmp 11) rfl g rfl 28 D (0, 0) _ HVG.out Try.underlying28 rfl HHI2.out ?_)
        | (refine wpList_store_row rfl 28 (.tmp 8) (.tmp 83) rfl Bm D rfl rfl 28 _ HVM.out HHI2.out HSZ.out HD1.out ?_)
        | (refine wpList_load_row rfl 28 (.tmp 8) rfl Bm rfl 28 D (0, 0) _ HR2.out Try.underlying28 rfl HHI2.out ?_))
      refine HKA.out.mono ?_
      rintro e V9 ⟨rfl, hb5⟩
      have hPN : PlayAt w4 B Bm t2 q2 V9 :=
        ⟨hT2, hQ2, hwin2.below hb5, by rw [HD.out]; exact (hb5.block Bm (Array.getElem?_eq_some_iff.1 HR2.out).1).trans HR2.out, HOV.out.trans (S' := fun _ => False) (Off.of_below hb5) (fun _ _ h => h.elim)⟩
      clear hb5 HKA
      go_wp2
      go_roundw
      case rel => exact ⟨k + 1, t2, q2, by omega, by go_num, hPN⟩
      case measure => simp [intOf]; omega
    · have hkm' : k = m := by omega
      have hoff := Lib.hid hP.off
      clear hP hP0 h14 hzz
      have hB2 : Below w.heap.size w wr := HBW.out.trans (hoff.out.below (fun k hk => by have := HWB.out; omega) HBW.out.size)
      have K := wiknown_any wr
      have HB2 := Lib.hid hB2
      clear hB2
      rcases Nat.lt_or_ge k n with h5 | h5
      case' inl =>
        have h6 : ¬ (k : Int) < 100 := by have := HM.out; omega
        have h7 : (k : Int) < (n : Int) := by omega
        go_wp2_with fail
      case' inr =>
        have h6 : ¬ (k : Int) < (n : Int) := by omega
        go_wp2_with fail
      all_goals (
        refine K.mono ?_
        rintro e V1 ⟨rfl, hb7⟩
        go_wp2
        go_ret
        exact ⟨rfl, HB2.out.trans (hb7.mono HB2.out.size)⟩)
theorem walk_wplays (a0 : Int) (a1 : Option Addr) (len1 cap1 : Nat) (z1 : List Int) (a2 : Int) (w : World) (w0 : (Lit.int .u32 a0).wf = true) (w1 : IsRow .u32 w a1 len1 cap1 z1) (w2 : (Lit.int .u32 a2).wf = true) :
    Calls Try.prog 3 #[.int .u32 a0, .slice a1 len1 cap1, .int .u32 a2] w fun e w' => e = .returned (.bool true) ∧ Below w.heap.size w w' := by
  obtain ⟨e0, l0, q0, m0, k0, r0⟩ := w1.elems
  have hb := bounds_u32 w0
  have hb2 := bounds_u32 w2
  unfold maxLen at m0
  exact plays_go a0 a2 (by omega) (by omega) a1 len1 (min len1 100) cap1 e0 w l0 q0 (by omega) (fun z hz => by have := bounds_u32 (r0 z hz); omega) k0 rfl
end Go.Proofs.Ytklkfajbfpihfaa
