/-
  A part of the texts of one proof, put together: MsgO, MsgX, MsgR, MsgS, MsgT, MsgU, MsgNw, Q17, MsgL0, MsgY, MsgH, MsgI, MsgZ.
-/
import Derived.BigQuiet
import Derived.Deep.QuietTactic
import Derived.Deep.LoopGhost
import Derived.WalkMore
import Derived.Test.YtnbhiamnoapmlaaMNNumbersProof3
namespace Go.Proofs.Ytnbhiamnoapmlaa
open Go.RowKit Go.Shelf
set_option maxRecDepth 100000
attribute [local go_sem] Oper.semAt_some

theorem rmInfo : (Try.prog.info? 34).map (·.size) = some 11 := by kernel_rfl
theorem r2Info : (Try.prog.info? 75).map (fun i => (i.zero, i.size, i.bytes)) = some (some (.agg #[.int .i64 0, .int .i64 0]), 2, 16) := by kernel_rfl
/-- what Of answers -/
def OfM (w : World) (M : Mg) (C : Value) (e : Ending) (w' : World) : Prop := ∃ P, e = .returned (mV M P C) ∧ w'.ownsRow w.heap.size 75 2 P M.p.length ((fl2 M.p).map (Value.int .i64)) ∧ Below w.heap.size w w'
theorem fl2_take {l : List (Int × Int)} {j : Nat} {q : Int × Int} (h : l[j]? = some q) : fl2 (l.take (j + 1)) = fl2 (l.take j) ++ [q.1, q.2] := by
  rw [List.take_add_one, h, fl2_app]
  rfl
set_option maxHeartbeats 8000000 in
theorem mof_any (M : Mg) (P C : Value) (w : World) (hs : Msm M) (h1 : MAt w w.heap.size M P C) : Calls Try.prog 11 #[mV M P C] w fun e w' => OfM w M C e w' := by
  obtain ⟨r0, hr, hz0, hz1, hz2⟩ := info_parts r2Info
  obtain ⟨w3, hw3⟩ : ∃ w3, w3 = ((w.alloc (.cells (mC M P C) 26)).alloc (.cells (mC (Mg.zero 0) (.slice none 0 0) (.slice none 0 0)) 34)).alloc (.cells (mC M (.slice none 0 0) C) 34) := ⟨_, rfl⟩
  have hs3 : w3.heap.size = w.heap.size + 3 := by rw [hw3]; simp
  have hb3 : Below w.heap.size w w3 := by rw [hw3]; exact (((Below.refl _ w).alloc (Nat.le_refl _) _).alloc (by simp) _).alloc (by simp; omega) _
  have q0 : w3.heap[w.heap.size]? = some (.cells (mC M P C) 26 (0, 0)) := by
    rw [hw3, Below.heap_alloc _ _ _ (by simp; omega), Below.heap_alloc _ _ _ (by simp)]; exact World.alloc_heap_new _ _
  have q1 : w3.heap[w.heap.size + 1]? = some (.cells (mC (Mg.zero 0) (.slice none 0 0) (.slice none 0 0)) 34 (0, 0)) := by
    have := World.alloc_heap_new (w.alloc (.cells (mC M P C) 26)) (.cells (mC (Mg.zero 0) (.slice none 0 0) (.slice none 0 0)) 34)
    rw [World.size_alloc] at this
    rw [hw3, Below.heap_alloc _ _ _ (by simp)]; exact this
  have q2 : w3.heap[w.heap.size + 1 + 1]? = some (.cells (mC M (.slice none 0 0) C) 34 (0, 0)) := by
    have := World.alloc_heap_new ((w.alloc (.cells (mC M P C) 26)).alloc (.cells (mC (Mg.zero 0) (.slice none 0 0) (.slice none 0 0)) 34)) (.cells (mC M (.slice none 0 0) C) 34)
    rw [World.size_alloc, World.size_alloc] at this
    rw [hw3]; exact this
  obtain ⟨⟨ap, cp, rfl, hcp, ha⟩, ⟨ac, cc, rfl, hcc, hc⟩⟩ := h1
  obtain ⟨np, hnp⟩ : ∃ np, M.p.length = np := ⟨_, rfl⟩
  obtain ⟨nc, hnc⟩ : ∃ nc, M.c.length = nc := ⟨_, rfl⟩
  have hl1 := hs.p
  rw [hnp] at hl1 hcp
  unfold OfM mV
  simp only [mC, Mg.zero, hnp, hnc] at hw3 ⊢
  have HN := Lib.hid hnp
  have HA := Lib.hid ha
  have HB3 := Lib.hid hb3
  have HQ := Lib.hid (And.intro q0 (And.intro q1 q2))
  rw [hnp, hnc] at HQ
  clear ha hc hcc hs hnp hnc q0 q1 q2 hb3
  have HW := Lib.hid hw3
  clear hw3
  go_enter Try.func11, Try.ntmps11
  go_wp2_with fail
  rw [← HW.out]
  go_loopw [4] (fun iv wr => ∃ j : Nat, j ≤ np ∧ iv = .int .i64 (j : Int) ∧ Hid (∃ A c, wr.heap[w.heap.size + 1 + 1]? = some (.cells (mC M (.slice A j c) (.slice ac nc cc)) 34 (0, 0)) ∧ j ≤ c ∧ wr.ownsRow (w.heap.size + 3) 75 2 (.slice A j c) j ((fl2 (M.p.take j)).map (Value.int .i64))) ∧ Hid (Off (fun q => q = w.heap.size + 1 + 1) w3 wr)) (fun iv _ => np - (intOf iv).toNat)
  case atStart => exact ⟨0, by omega, rfl, Lib.hid ⟨none, 0, HQ.out.2.2, Nat.le_refl _, World.ownsRow_nil _ _ _ _⟩, Lib.hid (Off.refl _ _)⟩
  case round =>
    obtain ⟨j, hj, rfl, HX, HO⟩ := hrel
    obtain ⟨A, c, hm, hjc, hown⟩ := HX.out
    clear HX
    have m0 := (HO.out.block w.heap.size (by omega) (by omega)).trans HQ.out.1
    obtain ⟨_, _, _, _, _, _, _, d7, _⟩ := mg_block m0
    rcases Nat.lt_or_ge j np with hlt | hge
    · obtain ⟨⟨x, y⟩, hq⟩ : ∃ q, M.p[j]? = some q := ⟨_, List.getElem?_eq_getElem (by rw [HN.out]; exact hlt)⟩
      have hbw : Below w.heap.size w wr := HB3.out.trans (HO.out.below (fun k hk => by omega) (by omega))
      obtain ⟨ga, off, rfl, hga, x0, x1⟩ := pts_two (HA.out.below hbw) hq
      dsimp only at x0 x1
      have hft := fl2_take hq
      have HF := Lib.hid hft
      obtain ⟨_, _, _, _, _, _, _, e7, _⟩ := mg_block hm
      have hblt := (Array.getElem?_eq_some_iff.1 hm).1
      have hwr : w.heap.size < wr.heap.size := by omega
      have hgr : ga < wr.heap.size := by omega
      have hj2 : (j : Int) < (np : Int) := by omega
      have hnc2 : (np : Int) ≤ (cp : Int) := by omega
      have lP : ∀ W, Below wr.heap.size wr W → (Instr.loadAt 23 (.pointer (some ⟨w.heap.size, 7, none⟩))).run Try.prog W = .ok (.slice (some ⟨ga, off, none⟩) np cp) W := fun W hW => by
        have hx := (hW.cell (p := ⟨w.heap.size, 7, none⟩) hwr).trans d7
        simp [Instr.loadAt, go_sem, hx]
      have lW : ∀ W, Below wr.heap.size wr W → (Instr.loadAt 32 (.pointer (some ⟨w.heap.size + 1 + 1, 7, none⟩))).run Try.prog W = .ok (.slice A j c) W := fun W hW => by
        have hx := (hW.cell (p := ⟨w.heap.size + 1 + 1, 7, none⟩) hblt).trans e7
        simp [Instr.loadAt, go_sem, hx]
      have lx : ∀ W, Below wr.heap.size wr W → (Instr.loadAt 3 (.pointer (some ⟨ga, off + j * 2, none⟩))).run Try.prog W = .ok (.int .i64 x) W := fun W hW => by
        have hx := (hW.cell (p := ⟨ga, off + j * 2, none⟩) hgr).trans x0
        simp [Instr.loadAt, go_sem, hx]
      have ly : ∀ W, Below wr.heap.size wr W → (Instr.loadAt 3 (.pointer (some ⟨ga, off + j * 2 + 1, none⟩))).run Try.prog W = .ok (.int .i64 y) W := fun W hW => by
        have hx := (hW.cell (p := ⟨ga, off + j * 2 + 1, none⟩) hgr).trans x1
        simp [Instr.loadAt, go_sem, hx]
      have HOW := Lib.hid hown
      have HM := Lib.hid hm
      have HBW := Lib.hid hbw
      clear hm hown hft hq m0 x0 x1 e7 hbw
      go_wp2_with fail
      refine wp_region_FT 42 16 [38] (fun q u W => ∃ b, u = .slice (some ⟨b, 0, none⟩) 1 1 ∧ W.heap[b]? = some (.cells #[.int .i64 x, .int .i64 y] 75 (0, 0))) (fun W => Below wr.heap.size wr W) (by kernel_rfl) (by kernel_rfl) (by rfl) (by kernel_rfl) (by kernel_rfl) (by kernel_rfl) (by rfl) (by simp) (fun W W' h hb => h.trans (hb.mono h.size)) (fun q u W W' h hb => by
        obtain ⟨b, h1, h2⟩ := h
        exact ⟨b, h1, (hb.block _ (Array.getElem?_eq_some_iff.1 h2).1).trans h2⟩) (Below.refl _ _).drew ?_
      simp only [List.take_succ_cons, List.take_zero, List.drop_succ_cons, List.drop_zero]
      repeat (refine wpF_pure rfl rfl ?_; go_big_quiet_step (fail); refine wpQuiet_nil ?_)
      refine wpF_load (ad := ⟨w.heap.size + 1 + 1, 7, none⟩) (.slice A j c) rfl (by rfl) (by rfl) (by rfl) lW ?_
      simp only [Act.put, List.setIfInBounds_toArray, List.set_cons_succ, List.set_cons_zero]
      repeat (refine wpF_pure rfl rfl ?_; go_big_quiet_step (fail); refine wpQuiet_nil ?_)
      refine wpF_load (ad := ⟨w.heap.size, 7, none⟩) (.slice (some ⟨ga, off, none⟩) np cp) rfl (by rfl) (by rfl) (by rfl) lP ?_
      simp only [Act.put, List.setIfInBounds_toArray, List.set_cons_succ, List.set_cons_zero]
      repeat (refine wpF_pure rfl rfl ?_; go_big_quiet_step (fail); refine wpQuiet_nil ?_)
      refine wpF_load (ad := ⟨ga, off + j * 2, none⟩) (.int .i64 x) rfl (by rfl) (by rfl) (by rfl) lx ?_
      simp only [Act.put, List.setIfInBounds_toArray, List.set_cons_succ, List.set_cons_zero]
      repeat (refine wpF_pure rfl rfl ?_; go_big_quiet_step (fail); refine wpQuiet_nil ?_)
      refine wpF_load (ad := ⟨w.heap.size, 7, none⟩) (.slice (some ⟨ga, off, none⟩) np cp) rfl (by rfl) (by rfl) (by rfl) lP ?_
      simp only [Act.put, List.setIfInBounds_toArray, List.set_cons_succ, List.set_cons_zero]
      repeat (refine wpF_pure rfl rfl ?_; go_big_quiet_step (fail); refine wpQuiet_nil ?_)
      refine wpF_load (ad := ⟨ga, off + j * 2 + 1, none⟩) (.int .i64 y) rfl (by rfl) (by rfl) (by rfl) ly ?_
      simp only [Act.put, List.setIfInBounds_toArray, List.set_cons_succ, List.set_cons_zero]
      refine wpF_val (.agg #[.int .i64 x, .int .i64 y]) (by rfl) (by rfl) (fun W _ => by simp [go_sem]) ?_
      simp only [Act.put, List.setIfInBounds_toArray, List.set_cons_succ, List.set_cons_zero]
      refine wpF_src 38 (by simp) rfl rfl rfl (fun W hW => ⟨.slice (some ⟨W.heap.size, 0, none⟩) 1 1, W.alloc (.cells #[.int .i64 x, .int .i64 y] 75), by simp [go_sem], ⟨_, rfl, World.alloc_heap_new _ _⟩, (Below.refl _ _).alloc (Nat.le_refl _) _⟩) ?_
      simp only [Act.put, List.setIfInBounds_toArray, List.set_cons_succ, List.set_cons_zero]
      intro xs W hW hx
      obtain ⟨b, hxb, hbl⟩ := hx 38 (by simp)
      simp only [fill, Act.put, List.setIfInBounds_toArray, List.set_cons_succ, List.set_cons_zero]
      rw [hxb]
      have HRow := Lib.hid (own_below7 HOW.out hW)
      have HNW : Hid (∀ (q : Nat) (u : Value), [Value.int .i64 x, .int .i64 y][q]? = some u → W.cell? ((⟨b, 0, none⟩ : Addr).add q) = some u) := fun q u hq => by
        rw [Addr.add_lit, Nat.zero_add]
        simp only [World.cell?, hbl]
        simpa using hq
      have hmW := (hW.block _ hblt).trans HM.out
      have HMW := Lib.hid hmW
      have HBS := Lib.hid (show w.heap.size + 3 ≤ W.heap.size by have := hW.size; have := HO.out.size; omega)
      have HOW2 := Lib.hid (off_below HO.out (hW.mono HO.out.size))
      have hge3 : ∀ g, (Value.slice A j c).ownBlock = some g → w.heap.size + 3 ≤ g := fun g hg => (HRow.out.lt g hg).1
      have HGE := Lib.hid hge3
      clear hx hxb hbl lP lW lx ly hW hmW HOW HM HBW hge3 HO
      go_wp2_with (at_builtin; refine wpList_append_own_at _ rfl (.tmp 24) (.tmp 38) 32 rfl (w.heap.size + 3) 75 r0 _ 2 16 Try.underlying32 hr hz0 hz1 hz2 rfl (by decide) _ _ _ rfl HRow.out ⟨b, 0, none⟩ 1 1 [Value.int .i64 x, .int .i64 y] rfl rfl HNW.out (by simp [Value.oneCell']) (by unfold maxLen; omega) (by omega) HBS.out ?_)
      intro u4 W4 hown4 hg4 _ _
      obtain ⟨A4, c4, rfl, hc4, _⟩ := nums_of_own (k := .i64) (zs := fl2 (M.p.take j) ++ [x, y]) (by simpa using hown4) (by omega)
      have hs4 := hg4.size
      have hm4 := (hg4.block (w.heap.size + 1 + 1) (by have := HBS.out; omega) (fun e => by have := HGE.out _ e.symm; omega)).trans HMW.out
      have ho4 : Off (fun q => q = w.heap.size + 1 + 1) w3 W4 := ⟨hg4.os.trans HOW2.out.os, hg4.tape.trans HOW2.out.tape, hg4.output.trans HOW2.out.output, Nat.le_trans HOW2.out.size hs4, fun q hq hne => (hg4.block q (by have := HOW2.out.size; omega) (fun e => by have := HGE.out _ e.symm; omega)).trans (HOW2.out.block q hq hne)⟩
      have HO5 := Lib.hid (ho4.setCell (p := ⟨w.heap.size + 1 + 1, 7, none⟩) rfl (.slice A4 (j + 1) c4))
      have HM5 := Lib.hid (setCell_at (j := 7) (u := .slice A4 (j + 1) c4) hm4)
      have HOW5 := Lib.hid (ownsRow_setCell_below hown4 (a := ⟨w.heap.size + 1 + 1, 7, none⟩) (by show w.heap.size + 1 + 1 < _; omega) (.slice A4 (j + 1) c4))
      have k7 := (mg_block hm4).2.2.2.2.2.2.2.1
      have z7 := frozen_of_row W4 (w.heap.size + 1 + 1) 7 _ _ hm4
      clear hown4 hg4 hm4 ho4 hs4 HRow HNW HMW HOW2 HGE HBS
      go_wp2
      refine ⟨⟨j + 1, by omega, by go_num, ?_, HO5⟩, by simp only [intOf]; omega⟩
      refine Lib.hid ⟨A4, c4, HM5.out, hc4, ?_⟩
      rw [HF.out]
      simpa using HOW5.out
    · obtain rfl : j = np := by omega
      rename_i np
      obtain ⟨f0, f1, f2, f3, f4, f5, f6, f7, f8, f9, f10⟩ := mg_block hm
      have r1 := (HO.out.block (w.heap.size + 1) (by omega) (by omega)).trans HQ.out.2.1
      have HR1 := Lib.hid r1
      have HOW := Lib.hid hown
      have HBV := Lib.hid (HB3.out.trans (HO.out.below (B := w.heap.size) (fun k hk => by omega) (by omega)))
      clear hm hown r1 m0
      go_wp2_with (refine wpList_store_row rfl 34 (.tmp 2) (.tmp 41) rfl (w.heap.size + 1) #[.int .i64 M.k, .int .i64 M.n0, .int .i64 M.n1, .int .i64 M.n2, .int .i64 M.n3, .int .i64 M.n4, .int .i64 M.n5, .slice A j c, .slice ac nc cc, .string M.tx, .string M.tg] rfl rfl 34 _ HR1.out rmInfo rfl (by simp [Value.oneCell']) ?_)
      have hfin := setRow_heap wr (w.heap.size + 1) _ #[.int .i64 M.k, .int .i64 M.n0, .int .i64 M.n1, .int .i64 M.n2, .int .i64 M.n3, .int .i64 M.n4, .int .i64 M.n5, .slice A j c, .slice ac nc cc, .string M.tx, .string M.tg] _ _ HR1.out
      have hoff := Off.setRow (S := fun k => k = w.heap.size + 1) (Off.refl _ wr) rfl #[.int .i64 M.k, .int .i64 M.n0, .int .i64 M.n1, .int .i64 M.n2, .int .i64 M.n3, .int .i64 M.n4, .int .i64 M.n5, .slice A j c, .slice ac nc cc, .string M.tx, .string M.tg]
      have hbf := HBV.out.trans (hoff.below (B := w.heap.size) (fun k hk => by omega) HBV.out.size)
      have hof := own_offM HOW.out hoff (fun g hg e => by have := (HOW.out.lt g hg).1; omega)
      generalize wr.setRow (w.heap.size + 1) _ = Wf at *
      obtain ⟨y0, y1, y2, y3, y4, y5, y6, y7, y8, y9, y10⟩ := mg_block hfin
      refine bodyPost_ret (v := .agg #[.int .i64 M.k, .int .i64 M.n0, .int .i64 M.n1, .int .i64 M.n2, .int .i64 M.n3, .int .i64 M.n4, .int .i64 M.n5, .slice A j c, .slice ac nc cc, .string M.tx, .string M.tg]) (by simp [results, Try.results11, go_sem, y0, y1, y2, y3, y4, y5, y6, y7, y8, y9, y10]) rfl ?_
      refine ⟨_, rfl, ?_, hbf⟩
      rw [List.take_of_length_le (by rw [HN.out]; exact Nat.le_refl _)] at hof
      exact ⟨hof.1, hof.2.imp id (fun ⟨g, cap, cur, h1, h2, h3⟩ => ⟨g, cap, cur, h1, by omega, h3⟩)⟩
end Go.Proofs.Ytnbhiamnoapmlaa

namespace Go.Proofs.Ytnbhiamnoapmlaa
open Go.RowKit Go.Shelf
set_option maxRecDepth 100000
attribute [local go_sem] Oper.semAt_some

theorem fl2_takes : ∀ (l : List (Int × Int)) (n : Nat), fl2 (l.take n) = (fl2 l).take (n * 2)
  | [], _ => by simp [fl2]
  | _ :: _, 0 => by simp [fl2]
  | q :: r, n + 1 => by
    rw [List.take_succ_cons, fl2, fl2_takes r n, fl2, show (n + 1) * 2 = n * 2 + 1 + 1 by omega, List.take_succ_cons, List.take_succ_cons]
/-- what Cut answers -/
def CutM (B : Nat) (w : World) (e : Ending) (w' : World) : Prop := ∃ M P C, e = .returned (mV M P C) ∧ Msm M ∧ MAt w' B M P C ∧ Below w.heap.size w w'
set_option maxHeartbeats 16000000 in
theorem mcut_any (M : Mg) (ap ac : Option Addr) (np nc cp cc : Nat) (w : World) (hnp : M.p.length = np) (hnc : M.c.length = nc) (hcp : np ≤ cp) (hcc : nc ≤ cc) (B : Nat) (hB : B ≤ w.heap.size) (ha : Nums .i64 w B ap (fl2 M.p)) (hc : Nums .i64 w B ac M.c) :
    Calls Try.prog 7 #[mV M (.slice ap np cp) (.slice ac nc cc)] w fun e w' => CutM B w e w' := by
  obtain ⟨mp, hmp⟩ : ∃ mp, min np 40 = mp := ⟨_, rfl⟩
  have hmp2 : min (np : Int) 40 = (mp : Int) := by omega
  have hmp3 : mp ≤ np ∧ mp ≤ 40 := by omega
  obtain ⟨mc, hmc⟩ : ∃ mc, min nc 40 = mc := ⟨_, rfl⟩
  have hmc2 : min (nc : Int) 40 = (mc : Int) := by omega
  have hmc3 : mc ≤ nc ∧ mc ≤ 40 := by omega
  unfold mV mC
  obtain ⟨k, n0, n1, n2, n3, n4, n5, p, c, tx, tg⟩ := M
  dsimp only at *
  obtain ⟨mt, hmt⟩ : ∃ mt, min tx.size 80 = mt := ⟨_, rfl⟩
  have hmt2 : min (tx.size : Int) 80 = (mt : Int) := by omega
  have hmt3 : mt ≤ tx.size ∧ mt ≤ 80 := by omega
  obtain ⟨mg, hmg⟩ : ∃ mg, min tg.size 80 = mg := ⟨_, rfl⟩
  have hmg2 : min (tg.size : Int) 80 = (mg : Int) := by omega
  have hmg3 : mg ≤ tg.size ∧ mg ≤ 80 := by omega
  have HM3 := Lib.hid (And.intro hmp3 hmc3)
  have HD := Lib.hid (And.intro hnp (And.intro hnc (And.intro ha hc)))
  clear hmt hmg hmp hmc hnp hnc ha hc
  go_enter Try.func7, Try.ntmps7
  go_wp2
  go_region
  obtain ⟨W3, hW3⟩ : ∃ W3, W3 = ((w.alloc (.cells #[.int .i64 k, .int .i64 n0, .int .i64 n1, .int .i64 n2, .int .i64 n3, .int .i64 n4, .int .i64 n5, .slice ap mp cp, .slice ac mc cc, .string tx, .string tg] 26)).alloc (.cells #[.int .i64 0, .int .i64 0, .int .i64 0, .int .i64 0, .int .i64 0, .int .i64 0, .int .i64 0, .slice none 0 0, .slice none 0 0, .string ⟨#[]⟩, .string ⟨#[]⟩] 26)).drew := ⟨_, rfl⟩
  have r0 : W3.heap[w.heap.size]? = some (.cells #[.int .i64 k, .int .i64 n0, .int .i64 n1, .int .i64 n2, .int .i64 n3, .int .i64 n4, .int .i64 n5, .slice ap mp cp, .slice ac mc cc, .string tx, .string tg] 26 (0, 0)) := by
    rw [hW3]
    show ((w.alloc _).alloc _).heap[_]? = _
    rw [Below.heap_alloc _ _ _ (by simp)]; exact World.alloc_heap_new _ _
  have r1 : W3.heap[w.heap.size + 1]? = some (.cells #[.int .i64 0, .int .i64 0, .int .i64 0, .int .i64 0, .int .i64 0, .int .i64 0, .int .i64 0, .slice none 0 0, .slice none 0 0, .string ⟨#[]⟩, .string ⟨#[]⟩] 26 (0, 0)) := by
    have := World.alloc_heap_new (w.alloc (.cells #[.int .i64 k, .int .i64 n0, .int .i64 n1, .int .i64 n2, .int .i64 n3, .int .i64 n4, .int .i64 n5, .slice ap mp cp, .slice ac mc cc, .string tx, .string tg] 26)) (.cells #[.int .i64 0, .int .i64 0, .int .i64 0, .int .i64 0, .int .i64 0, .int .i64 0, .int .i64 0, .slice none 0 0, .slice none 0 0, .string ⟨#[]⟩, .string ⟨#[]⟩] 26)
    rw [World.size_alloc] at this
    rw [hW3]; exact this
  have hb3 : Below w.heap.size w W3 := by rw [hW3]; exact (((Below.refl _ w).alloc (Nat.le_refl _) _).alloc (by simp) _).drew
  rw [← hW3]
  have f9 := row_cell r0 9 _ rfl
  have f10 := row_cell r0 10 _ rfl
  have z9 := frozen_of_row W3 w.heap.size 9 _ _ r0
  have z10 := frozen_of_row W3 w.heap.size 10 _ _ r0
  have HR0 := Lib.hid r0
  have HR1 := Lib.hid r1
  have HB3 := Lib.hid hb3
  clear hW3 r0 r1 hb3 hmp3 hmc3 hmp2 hmc2
  go_wp2
  have htx : (tx.extract 0 mt).size ≤ 80 := by rw [ByteArray.size_extract]; omega
  have htg : (tg.extract 0 mg).size ≤ 80 := by rw [ByteArray.size_extract]; omega
  have HT := Lib.hid (And.intro htx htg)
  clear htx htg
  refine wp_region_lex2 (C := fun w' => ∃ n, w' = W3.drewN n) (by kernel_rfl) (by kernel_rfl) ⟨1, rfl⟩ ?_
  repeat (first
    | (refine wpQ2_pure rfl ?_; go_big_quiet_step (fail); refine wpQuiet_nil ?_)
    | (refine wpQ2_look rfl ?_; go_big_quiet_step (fail); refine wpQuiet_nil ?_))
  refine wpQ2_store (fun w' => ∃ n, w' = (W3.setCell ⟨w.heap.size, 9, none⟩ (.string (tx.extract 0 mt))).drewN n) rfl rfl rfl ⟨w.heap.size, 9, none⟩ (.string (tx.extract 0 mt)) rfl rfl ?_ ?_
  · rintro w1 ⟨n, rfl⟩
    refine ⟨(W3.drewN n).setCell ⟨w.heap.size, 9, none⟩ (.string (tx.extract 0 mt)), ?_, n, rfl⟩
    simp [Instr.storeAt, go_sem, f9, z9]
  repeat (first
    | (refine wpQ2_pure rfl ?_; go_big_quiet_step (fail); refine wpQuiet_nil ?_))
  refine wpQ2_store (fun w' => ∃ n, w' = ((W3.setCell ⟨w.heap.size, 9, none⟩ (.string (tx.extract 0 mt))).setCell ⟨w.heap.size, 10, none⟩ (.string (tg.extract 0 mg))).drewN n) rfl rfl rfl ⟨w.heap.size, 10, none⟩ (.string (tg.extract 0 mg)) rfl rfl ?_ ?_
  · rintro w1 ⟨n, rfl⟩
    refine ⟨((W3.setCell ⟨w.heap.size, 9, none⟩ (.string (tx.extract 0 mt))).drewN n).setCell ⟨w.heap.size, 10, none⟩ (.string (tg.extract 0 mg)), ?_, n, rfl⟩
    simp [Instr.storeAt, go_sem, f10, z10]
  rintro w4 ⟨nn, rfl⟩
  generalize tx.extract 0 mt = tx2 at *
  generalize tg.extract 0 mg = tg2 at *
  obtain ⟨W5, hW5⟩ : ∃ W5, W5 = ((W3.setCell ⟨w.heap.size, 9, none⟩ (.string tx2)).setCell ⟨w.heap.size, 10, none⟩ (.string tg2)).drewN nn := ⟨_, rfl⟩
  have r0 : W5.heap[w.heap.size]? = some (.cells #[.int .i64 k, .int .i64 n0, .int .i64 n1, .int .i64 n2, .int .i64 n3, .int .i64 n4, .int .i64 n5, .slice ap mp cp, .slice ac mc cc, .string tx2, .string tg2] 26 (0, 0)) := by
    rw [hW5]
    show ((W3.setCell _ _).setCell _ _).heap[_]? = _
    rw [setCell_at (setCell_at HR0.out)]; rfl
  have r1 : W5.heap[w.heap.size + 1]? = some (.cells #[.int .i64 0, .int .i64 0, .int .i64 0, .int .i64 0, .int .i64 0, .int .i64 0, .int .i64 0, .slice none 0 0, .slice none 0 0, .string ⟨#[]⟩, .string ⟨#[]⟩] 26 (0, 0)) := by
    rw [hW5]
    show ((W3.setCell _ _).setCell _ _).heap[_]? = _
    rw [Below.heap_setCell _ _ _ _ (by show _ ≠ w.heap.size; omega), Below.heap_setCell _ _ _ _ (by show _ ≠ w.heap.size; omega)]; exact HR1.out
  have hb5 : Below w.heap.size w W5 := by rw [hW5]; exact below_drewN ((HB3.out.setCell (p := ⟨w.heap.size, 9, none⟩) (Nat.le_refl _) _).setCell (p := ⟨w.heap.size, 10, none⟩) (Nat.le_refl _) _) nn
  have f := fun j x hx => row_cell r0 j x hx
  have f0 := f 0 _ rfl; have f1 := f 1 _ rfl; have f2 := f 2 _ rfl; have f3 := f 3 _ rfl; have f4 := f 4 _ rfl; have f5 := f 5 _ rfl
  have f6 := f 6 _ rfl; have f7 := f 7 _ rfl; have f8 := f 8 _ rfl; have f9 := f 9 _ rfl; have f10 := f 10 _ rfl
  rw [← hW5]
  have HR15 := Lib.hid r1
  have HB5 := Lib.hid hb5
  clear f hW5 r0 r1 hb5
  go_wp2_with (refine wpList_store_row rfl 26 (.tmp 2) (.tmp 35) rfl (w.heap.size + 1) #[.int .i64 k, .int .i64 n0, .int .i64 n1, .int .i64 n2, .int .i64 n3, .int .i64 n4, .int .i64 n5, .slice ap mp cp, .slice ac mc cc, .string tx2, .string tg2] rfl rfl 26 _ HR15.out mgInfo rfl (by simp [Value.oneCell']) ?_)
  have hfin := setRow_heap W5 (w.heap.size + 1) _ #[.int .i64 k, .int .i64 n0, .int .i64 n1, .int .i64 n2, .int .i64 n3, .int .i64 n4, .int .i64 n5, .slice ap mp cp, .slice ac mc cc, .string tx2, .string tg2] _ _ HR15.out
  have hoff := Off.setRow (S := fun k => k = w.heap.size + 1) (Off.refl _ W5) rfl #[.int .i64 k, .int .i64 n0, .int .i64 n1, .int .i64 n2, .int .i64 n3, .int .i64 n4, .int .i64 n5, .slice ap mp cp, .slice ac mc cc, .string tx2, .string tg2]
  have hbf := HB5.out.trans (hoff.below (B := w.heap.size) (fun k hk => by omega) HB5.out.size)
  generalize W5.setRow (w.heap.size + 1) _ = Wf at *
  have y := fun j x hx => row_cell hfin j x hx
  have y0 := y 0 _ rfl; have y1 := y 1 _ rfl; have y2 := y 2 _ rfl; have y3 := y 3 _ rfl; have y4 := y 4 _ rfl; have y5 := y 5 _ rfl
  have y6 := y 6 _ rfl; have y7 := y 7 _ rfl; have y8 := y 8 _ rfl; have y9 := y 9 _ rfl; have y10 := y 10 _ rfl
  refine bodyPost_ret (v := .agg #[.int .i64 k, .int .i64 n0, .int .i64 n1, .int .i64 n2, .int .i64 n3, .int .i64 n4, .int .i64 n5, .slice ap mp cp, .slice ac mc cc, .string tx2, .string tg2]) (by simp [results, Try.results7, go_sem, y0, y1, y2, y3, y4, y5, y6, y7, y8, y9, y10]) rfl ?_
  obtain ⟨hnp, hnc, ha, hc⟩ := HD.out
  have hmp3 : mp ≤ np ∧ mp ≤ 40 := HM3.out.1
  have hmc3 : mc ≤ nc ∧ mc ≤ 40 := HM3.out.2
  have hp1 : (p.take mp).length = mp := by rw [List.length_take]; omega
  have hc1 : (c.take mc).length = mc := by rw [List.length_take]; omega
  refine ⟨⟨k, n0, n1, n2, n3, n4, n5, p.take mp, c.take mc, tx2, tg2⟩, _, _, rfl, ⟨by dsimp only; omega, by dsimp only; omega, HT.out.1, HT.out.2⟩, ⟨⟨ap, cp, by rw [hp1], by dsimp only; omega, ?_⟩, ⟨ac, cc, by rw [hc1], by dsimp only; omega, (hc.take mc).below (hbf.mono hB)⟩⟩, hbf⟩
  dsimp only
  rw [fl2_takes]
  exact (ha.take _).below (hbf.mono hB)
end Go.Proofs.Ytnbhiamnoapmlaa

namespace Go.Proofs.Ytnbhiamnoapmlaa
open Go.RowKit Go.Shelf
set_option maxRecDepth 100000
attribute [local go_sem] Oper.semAt_some

set_option maxHeartbeats 2000000 in
theorem rtext_any (s : ByteArray) (mo : Int) (hs : s.size ≤ maxLen) (w : World) : Calls Try.prog 32 #[.string s, .int .i64 mo] w fun e w' => e = .returned (.int .i64 (wT s mo)) ∧ w = w' := by
  obtain ⟨n, hn⟩ : ∃ n, s.size = n := ⟨_, rfl⟩
  have hl : n ≤ 9223372036854775807 := by unfold maxLen at hs; omega
  clear hs
  by_cases h1 : mo < (n : Int)
  · rw [show wT s mo = 6 by unfold wT; rw [hn]; exact if_pos h1]
    go_enter Try.func32, Try.ntmps32
    go_wp2
    go_ret
    exact ⟨rfl, rfl⟩
  · obtain ⟨R, hR⟩ : ∃ R, wT s mo = R := ⟨_, rfl⟩
    rw [hR]
    have HR := Lib.hid hR
    clear hR
    go_enter Try.func32, Try.ntmps32
    go_wp2
    go_loopw [5] (fun iv wr => ∃ j : Nat, j ≤ n ∧ iv = .int .i64 (j : Int) ∧ Hid (∀ b ∈ s.data.toList.take j, byOk b) ∧ wr = w) (fun iv _ => n - (intOf iv).toNat)
    case atStart => exact ⟨0, by omega, rfl, Lib.hid (by simp), rfl⟩
    case round =>
      obtain ⟨j, hj, rfl, HB, rfl⟩ := hrel
      rcases Nat.lt_or_ge j n with hlt | hge
      · have hg : s.data.toList[j]? = some (s[j]'(by omega)) := byte_at s j (by omega)
        by_cases hb : byOk (s[j]'(by omega))
        · have HB2 : Hid (∀ b ∈ s.data.toList.take (j + 1), byOk b) := Lib.hid (fun b hb2 => by
            rw [List.take_add_one, hg, List.mem_append] at hb2
            rcases hb2 with hb2 | hb2
            · exact HB.out b hb2
            · simp at hb2; subst hb2; exact hb)
          unfold byOk at hb
          clear hg
          go_wp2
          exact ⟨⟨j + 1, by omega, by go_num, HB2, trivial⟩, by simp only [intOf]; omega⟩
        · obtain rfl : R = 19 := by
            rw [← HR.out]
            unfold wT
            rw [hn, if_neg (by omega), if_neg (fun h => hb (h _ (List.mem_of_getElem? hg)))]
          unfold byOk at hb
          clear hg
          go_wp2
          all_goals
            go_ret
            exact ⟨rfl, rfl⟩
      · obtain rfl : j = n := by omega
        obtain rfl : R = 0 := by
          rw [← HR.out]
          unfold wT
          rw [hn, if_neg (by omega), if_pos]
          have h2 := HB.out
          rwa [List.take_of_length_le (by show s.data.toList.length ≤ j; rw [Array.length_toList]; exact Nat.le_of_eq hn)] at h2
        go_wp2
        go_ret
        exact ⟨rfl, rfl⟩

set_option maxHeartbeats 4000000 in
theorem rpath_any (A : Option Addr) (n cp : Nat) (l : List (Int × Int)) (w : World) (hn : l.length = n) (hcp : n ≤ cp) (hA : Nums .i64 w w.heap.size A (fl2 l)) :
    Calls Try.prog 30 #[.slice A n cp] w fun e w' => e = .returned (.int .i64 (wP l 16)) ∧ w = w' := by
  obtain ⟨R, hR⟩ : ∃ R, wP l 16 = R := ⟨_, rfl⟩
  rw [hR]
  unfold wP wS at hR
  rw [hn] at hR
  have HN := Lib.hid hn
  have HA := Lib.hid hA
  clear hn hA
  by_cases h0 : n = 0
  · subst h0
    obtain rfl : R = 13 := by rw [← hR]; rfl
    clear hR
    go_enter Try.func30, Try.ntmps30
    go_wp2
    go_ret
    exact ⟨rfl, rfl⟩
  · have hz : ¬ (n : Int) = 0 := by omega
    have hz2 : ((n : Int) == 0) = false := by simpa using h0
    rw [if_neg hz] at hR
    by_cases h16 : 16 < (n : Int)
    · rw [if_pos h16, if_pos (by omega)] at hR
      subst hR
      go_enter Try.func30, Try.ntmps30
      go_wp2
      go_ret
      exact ⟨rfl, rfl⟩
    · rw [if_neg h16, if_neg (by omega)] at hR
      have HR := Lib.hid hR
      have hn16 : n ≤ 16 := by omega
      clear hR
      go_enter Try.func30, Try.ntmps30
      go_wp2
      go_loopw [3] (fun iv wr => ∃ j : Nat, j ≤ n ∧ iv = .int .i64 (j : Int) ∧ Hid (∀ q ∈ l.take j, ptOk q) ∧ wr = w) (fun iv _ => n - (intOf iv).toNat)
      case atStart => exact ⟨0, by omega, rfl, Lib.hid (by simp), rfl⟩
      case round =>
        obtain ⟨j, hj, rfl, HP, rfl⟩ := hrel
        rcases Nat.lt_or_ge j n with hlt | hge
        · obtain ⟨⟨x, y⟩, hq⟩ : ∃ q, l[j]? = some q := ⟨_, List.getElem?_eq_getElem (by rw [HN.out]; exact hlt)⟩
          obtain ⟨b, off, rfl, hb, c0, c1⟩ := pts_two HA.out hq
          have HQ := Lib.hid hq
          dsimp only at c0 c1
          clear hq
          go_wp2
          go_loopw [4] (fun iv wr' => ∃ i : Nat, i ≤ 2 ∧ iv = .int .i64 (i : Int) ∧ Hid ((0 < i → -1000000 ≤ x ∧ x ≤ 1000000) ∧ (1 < i → -1000000 ≤ y ∧ y ≤ 1000000)) ∧ wr' = wr) (fun iv _ => 2 - (intOf iv).toNat)
          case atStart => exact ⟨0, by omega, rfl, Lib.hid (by omega), rfl⟩
          case round =>
            obtain ⟨i, hi, rfl, HI, rfl⟩ := hrel
            obtain rfl | rfl | rfl : i = 0 ∨ i = 1 ∨ i = 2 := by omega
            · by_cases hv : -1000000 ≤ x ∧ x ≤ 1000000
              · have HI2 : Hid ((0 < 0 + 1 → -1000000 ≤ x ∧ x ≤ 1000000) ∧ (1 < 0 + 1 → -1000000 ≤ y ∧ y ≤ 1000000)) := Lib.hid ⟨fun _ => hv, fun h => by omega⟩
                go_wp2
                exact ⟨⟨0 + 1, by omega, rfl, HI2, trivial⟩, by simp only [intOf]; omega⟩
              · obtain rfl : R = 5 := by
                  rw [← HR.out, if_neg (fun h => hv ⟨(h _ (List.mem_of_getElem? HQ.out)).1, (h _ (List.mem_of_getElem? HQ.out)).2.1⟩)]
                have hv2 : x < -1000000 ∨ (-1000000 ≤ x ∧ 1000000 < x) := by omega
                clear hv
                rcases hv2 with hv | ⟨hv, hv3⟩
                all_goals
                  go_wp2
                  go_ret
                  exact ⟨rfl, rfl⟩
            · by_cases hv : -1000000 ≤ y ∧ y ≤ 1000000
              · have HI2 : Hid ((0 < 1 + 1 → -1000000 ≤ x ∧ x ≤ 1000000) ∧ (1 < 1 + 1 → -1000000 ≤ y ∧ y ≤ 1000000)) := Lib.hid ⟨fun _ => HI.out.1 (by omega), fun _ => hv⟩
                go_wp2
                exact ⟨⟨1 + 1, by omega, rfl, HI2, trivial⟩, by simp only [intOf]; omega⟩
              · obtain rfl : R = 5 := by
                  rw [← HR.out, if_neg (fun h => hv ⟨(h _ (List.mem_of_getElem? HQ.out)).2.2.1, (h _ (List.mem_of_getElem? HQ.out)).2.2.2⟩)]
                have hv2 : y < -1000000 ∨ (-1000000 ≤ y ∧ 1000000 < y) := by omega
                clear hv
                rcases hv2 with hv | ⟨hv, hv3⟩
                all_goals
                  go_wp2
                  go_ret
                  exact ⟨rfl, rfl⟩
            · have HP2 : Hid (∀ q ∈ l.take (j + 1), ptOk q) := Lib.hid (fun q hq => by
                rw [List.take_add_one, HQ.out, List.mem_append] at hq
                rcases hq with hq | hq
                · exact HP.out q hq
                · simp at hq
                  subst hq
                  have h1 := HI.out.1 (by omega)
                  have h2 := HI.out.2 (by omega)
                  exact ⟨h1.1, h1.2, h2.1, h2.2⟩)
              go_wp2
              go_roundw
              case rel => exact ⟨j + 1, by omega, by go_num, HP2, trivial⟩
              case measure => simp [intOf]; omega
        · obtain rfl : j = n := by omega
          obtain rfl : R = 0 := by
            rw [← HR.out, if_pos]
            have h1 := HP.out
            rwa [List.take_of_length_le (by rw [HN.out]; exact Nat.le_refl _)] at h1
          go_wp2
          go_ret
          exact ⟨rfl, rfl⟩

theorem cE_full {l : List Int} {j : Nat} {c : Int} (h : l[j]? = some c) (h0 : cE (-1) (l.take j) = 0) (h1 : 0 ≤ c) (h2 : c ≤ 65535) (h3 : ahd l j < c) : cE (-1) (l.take (j + 1)) = 0 := cE_next l (-1) j c h h0 h1 h2 h3
set_option maxHeartbeats 4000000 in
theorem rcells_any (A : Option Addr) (n cp : Nat) (l : List Int) (w : World) (hn : l.length = n) (hcp : n ≤ cp) (hA : Nums .i64 w w.heap.size A l) :
    Calls Try.prog 31 #[.slice A n cp] w fun e w' => e = .returned (.int .i64 (wC l 32)) ∧ Below w.heap.size w w' := by
  obtain ⟨R, hR⟩ : ∃ R, wC l 32 = R := ⟨_, rfl⟩
  rw [hR]
  unfold wC wS at hR
  rw [hn] at hR
  have HN := Lib.hid hn
  have HA := Lib.hid hA
  clear hn hA
  by_cases h0 : n = 0
  · subst h0
    obtain rfl : R = 13 := by rw [← hR]; rfl
    clear hR
    go_enter Try.func31, Try.ntmps31
    go_wp2
    go_ret
    exact ⟨rfl, Below.refl _ _⟩
  · have hz : ¬ (n : Int) = 0 := by omega
    have hz2 : ((n : Int) == 0) = false := by simpa using h0
    rw [if_neg hz] at hR
    by_cases h16 : 32 < (n : Int)
    · rw [if_pos h16, if_pos (by omega)] at hR
      subst hR
      go_enter Try.func31, Try.ntmps31
      go_wp2
      go_ret
      exact ⟨rfl, Below.refl _ _⟩
    · rw [if_neg h16, if_neg (by omega)] at hR
      have HR := Lib.hid hR
      have hn16 : n ≤ 32 := by omega
      clear hR
      go_enter Try.func31, Try.ntmps31
      go_wp2
      go_loopw [3] (fun iv wr => ∃ j : Nat, j ≤ n ∧ iv = .int .i64 (j : Int) ∧ Hid (cE (-1) (l.take j) = 0) ∧ Hid (Below w.heap.size w wr)) (fun iv _ => n - (intOf iv).toNat)
      case atStart => exact ⟨0, by omega, rfl, Lib.hid (by simp [cE]), Lib.hid (Below.refl _ _)⟩
      case round =>
        obtain ⟨j, hj, rfl, HP, HW⟩ := hrel
        rcases Nat.lt_or_ge j n with hlt | hge
        · obtain ⟨c, hq⟩ : ∃ c, l[j]? = some c := ⟨_, List.getElem?_eq_getElem (by rw [HN.out]; exact hlt)⟩
          have HQ := Lib.hid hq
          have HB := Lib.hid (cE_bad hq HP.out)
          rw [HR.out] at HB
          by_cases hv : c < 0 ∨ 65535 < c
          · rw [if_pos hv] at HB
            obtain rfl : R = 5 := HB.out
            obtain ⟨b, off, rfl, hb, c0⟩ := (HA.out.below HW.out).open hq
            have hv2 : c < 0 ∨ (0 ≤ c ∧ 65535 < c) := by omega
            clear hv hq
            rcases hv2 with hv | ⟨hv, hv3⟩
            all_goals
              go_wp2
              go_ret
              exact ⟨rfl, HW.out⟩
          · rw [if_neg hv] at HB
            have hv2 : 0 ≤ c ∧ c ≤ 65535 := by omega
            clear hv
            rcases Nat.eq_zero_or_pos j with hj0 | hj0
            · subst hj0
              have HP2 : Hid (cE (-1) (l.take (0 + 1)) = 0) := Lib.hid (cE_full hq HP.out hv2.1 hv2.2 (by unfold ahd; rw [if_pos rfl]; omega))
              obtain ⟨b, off, rfl, hb, c0⟩ := (HA.out.below HW.out).open hq
              rw [Nat.add_zero] at c0
              clear hq HB
              go_wp2
              go_quiet (fail)
              go_wp2
              exact ⟨⟨0 + 1, by omega, by go_num, HP2, Lib.hid (below_drewN HW.out _)⟩, by simp only [intOf]; omega⟩
            · obtain ⟨a, ha⟩ : ∃ a, l[j - 1]? = some a := ⟨_, List.getElem?_eq_getElem (by rw [HN.out]; omega)⟩
              have had : ahd l j = a := by unfold ahd; rw [if_neg (by omega), List.getD, ha]; rfl
              rw [had] at HB
              obtain ⟨b, off, hAe, hb, c0⟩ := (HA.out.below HW.out).open hq
              obtain ⟨b', off', hAe', _, c1⟩ := (HA.out.below HW.out).open ha
              rw [hAe] at hAe'
              injection hAe' with hAe'
              injection hAe' with e1 e2
              subst e1 e2 hAe
              have hj1 : 0 < (j : Int) := by omega
              have hjj : ((j : Int) - 1).toNat = j - 1 := by omega
              by_cases hc : c ≤ a
              · rw [if_pos hc] at HB
                obtain rfl : R = 3 := HB.out
                clear hq ha had
                go_wp2
                go_quiet (fail)
                go_wp2
                go_ret
                exact ⟨rfl, below_drewN HW.out _⟩
              · have HP2 : Hid (cE (-1) (l.take (j + 1)) = 0) := Lib.hid (cE_full hq HP.out hv2.1 hv2.2 (by omega))
                clear hq ha had HB
                go_wp2
                go_quiet (fail)
                go_wp2
                exact ⟨⟨j + 1, by omega, by go_num, HP2, Lib.hid (below_drewN HW.out _)⟩, by simp only [intOf]; omega⟩
        · obtain rfl : j = n := by omega
          obtain rfl : R = 0 := by
            rw [← HR.out]
            have h1 := HP.out
            rwa [List.take_of_length_le (by rw [HN.out]; exact Nat.le_refl _)] at h1
          go_wp2
          go_ret
          exact ⟨rfl, HW.out⟩
end Go.Proofs.Ytnbhiamnoapmlaa

namespace Go.Proofs.Ytnbhiamnoapmlaa
open Go.RowKit Go.Shelf
set_option maxRecDepth 100000
attribute [local go_sem] Oper.semAt_some

set_option maxHeartbeats 8000000 in
theorem rmsame_any (M M' : Mg) (P C P' C' : Value) (w : World) (hs : Msm M) (h1 : MAt w w.heap.size M P C) (h2 : MAt w w.heap.size M' P' C') :
    Calls Try.prog 12 #[mV M P C, mV M' P' C'] w fun e w' => e = .returned (.bool (decide (M = M'))) ∧ Below w.heap.size w w' := by
  obtain ⟨w2, hw2⟩ : ∃ w2, w2 = (w.alloc (.cells (mC M P C) 34)).alloc (.cells (mC M' P' C') 34) := ⟨_, rfl⟩
  have hb2 : Below w.heap.size w w2 := by rw [hw2]; exact ((Below.refl _ w).alloc (Nat.le_refl _) _).alloc (by simp) _
  have HW := Lib.hid hw2
  have g1 := (h1.below hb2).mono hb2.size
  have g2 := (h2.below hb2).mono hb2.size
  obtain ⟨k, n0, n1, n2, n3, n4, n5, p, c, tx, tg⟩ := M
  obtain ⟨k', n0', n1', n2', n3', n4', n5', p', c', tx', tg'⟩ := M'
  obtain ⟨⟨a, cp, rfl, hcp, ha⟩, ⟨b, cb, rfl, hcb, hb⟩⟩ := g1
  obtain ⟨⟨a', cp', rfl, hcp', ha'⟩, ⟨b', cb', rfl, hcb', hb'⟩⟩ := g2
  dsimp only at *
  have hl1 := hs.p
  have hl2 := hs.c
  dsimp only at hl1 hl2
  obtain ⟨np, hnp⟩ : ∃ np, p.length = np := ⟨_, rfl⟩
  obtain ⟨nc, hnc⟩ : ∃ nc, c.length = nc := ⟨_, rfl⟩
  obtain ⟨np', hnp'⟩ : ∃ np', p'.length = np' := ⟨_, rfl⟩
  obtain ⟨nc', hnc'⟩ : ∃ nc', c'.length = nc' := ⟨_, rfl⟩
  rw [hnp] at hcp hl1
  rw [hnc] at hcb hl2
  rw [hnp'] at hcp'
  rw [hnc'] at hcb'
  have KC := rints_any w2.heap.size b b' nc nc' cb cb' c c' w2 hnc hnc' (by omega) hb hb'
  obtain ⟨DC, hDC⟩ : ∃ DC, decide (c = c') = DC := ⟨_, rfl⟩
  rw [hDC] at KC
  have KC := Lib.hid KC
  have HA := Lib.hid (And.intro ha ha')
  unfold mV
  unfold mC at HW ⊢
  dsimp only at HW ⊢
  rw [hnp, hnc, hnp', hnc'] at HW ⊢
  have HNP := Lib.hid (And.intro hnp hnp')
  clear hw2 h1 h2 hb2 ha ha' hb hb' hs hnp hnc hnp' hnc'
  have hfin : ∀ W, Below w2.heap.size w2 W → Hid (Below w.heap.size w W) := fun W hW => by
    have hb2 : Below w.heap.size w w2 := by rw [HW.out]; exact ((Below.refl _ w).alloc (Nat.le_refl _) _).alloc (by simp) _
    exact Lib.hid (hb2.trans (hW.mono hb2.size))
  obtain ⟨D, hD⟩ : ∃ D, decide ((⟨k, n0, n1, n2, n3, n4, n5, p, c, tx, tg⟩ : Mg) = ⟨k', n0', n1', n2', n3', n4', n5', p', c', tx', tg'⟩) = D := ⟨_, rfl⟩
  rw [hD]
  by_cases hk : k = k'
  case neg =>
    have hk1 : (k != k') = true := by simpa using hk
    obtain rfl : D = false := by rw [← hD, decide_eq_false (fun e => hk (congrArg Mg.k e))]
    have HB := hfin w2 (Below.refl _ _)
    rw [HW.out] at HB
    clear hD KC hfin HW
    go_enter Try.func12, Try.ntmps12
    go_wp2
    go_ret
    exact ⟨rfl, HB.out⟩
  subst hk
  by_cases hN : [n0, n1, n2, n3, n4, n5] = [n0', n1', n2', n3', n4', n5']
  case neg =>
    have he : ∀ W, (binOp .neq 22 (.agg #[.int .i64 n0, .int .i64 n1, .int .i64 n2, .int .i64 n3, .int .i64 n4, .int .i64 n5]) (.agg #[.int .i64 n0', .int .i64 n1', .int .i64 n2', .int .i64 n3', .int .i64 n4', .int .i64 n5'])).run Try.prog W = .ok (.bool true) W := fun W => by rw [neq_six, decide_eq_false hN]; rfl
    obtain rfl : D = false := by
      rw [← hD, decide_eq_false (fun e => hN (by injection e with e0 e1 e2 e3 e4 e5 e6; rw [e1, e2, e3, e4, e5, e6]))]
    have HB := hfin w2 (Below.refl _ _)
    rw [HW.out] at HB
    clear hD KC hfin HW hN
    go_enter Try.func12, Try.ntmps12
    go_wp2
    go_ret
    exact ⟨rfl, HB.out⟩
  simp only [List.cons.injEq, and_true] at hN
  obtain ⟨rfl, rfl, rfl, rfl, rfl, rfl⟩ := hN
  have he : ∀ W, (binOp .neq 22 (.agg #[.int .i64 n0, .int .i64 n1, .int .i64 n2, .int .i64 n3, .int .i64 n4, .int .i64 n5]) (.agg #[.int .i64 n0, .int .i64 n1, .int .i64 n2, .int .i64 n3, .int .i64 n4, .int .i64 n5])).run Try.prog W = .ok (.bool false) W := fun W => by rw [neq_six, decide_eq_true rfl]; rfl
  by_cases hnn : np = np'
  case neg =>
    have hnn2 : ((np : Int) != (np' : Int)) = true := by simp; omega
    have hnn3 : ¬ (np : Int) = (np' : Int) := by omega
    obtain rfl : D = false := by
      rw [← hD, decide_eq_false (fun e => hnn (by rw [← HNP.out.1, ← HNP.out.2]; injection e with _ _ _ _ _ _ _ e7; rw [e7]))]
    have HB := hfin w2 (Below.refl _ _)
    rw [HW.out] at HB
    clear hD KC hfin HW
    go_enter Try.func12, Try.ntmps12
    go_wp2
    go_ret
    exact ⟨rfl, HB.out⟩
  subst hnn
  have q1 : w2.heap[w.heap.size]? = some (.cells #[.int .i64 k, .int .i64 n0, .int .i64 n1, .int .i64 n2, .int .i64 n3, .int .i64 n4, .int .i64 n5, .slice a np cp, .slice b nc cb, .string tx, .string tg] 34 (0, 0)) := by
    rw [HW.out, Below.heap_alloc _ _ _ (by simp)]; exact World.alloc_heap_new _ _
  have q2 : w2.heap[w.heap.size + 1]? = some (.cells #[.int .i64 k, .int .i64 n0, .int .i64 n1, .int .i64 n2, .int .i64 n3, .int .i64 n4, .int .i64 n5, .slice a' np cp', .slice b' nc' cb', .string tx', .string tg'] 34 (0, 0)) := by
    rw [HW.out, show w.heap.size + 1 = (w.alloc (.cells #[.int .i64 k, .int .i64 n0, .int .i64 n1, .int .i64 n2, .int .i64 n3, .int .i64 n4, .int .i64 n5, .slice a np cp, .slice b nc cb, .string tx, .string tg] 34)).heap.size by simp]; exact World.alloc_heap_new _ _
  have k1 := fun j x hx => row_cell q1 j x hx
  have k2 := fun j x hx => row_cell q2 j x hx
  have c7 := k1 7 _ rfl; have c9 := k1 9 _ rfl; have c10 := k1 10 _ rfl
  have d7 := k2 7 _ rfl; have d9 := k2 9 _ rfl; have d10 := k2 10 _ rfl
  clear k1 k2 q1 q2
  by_cases hc : c = c'
  case neg =>
    obtain rfl : DC = false := by rw [← hDC, decide_eq_false hc]
    obtain rfl : D = false := by rw [← hD, decide_eq_false (fun e => hc (congrArg Mg.c e))]
    clear hD hc hDC
    go_enter Try.func12, Try.ntmps12
    go_wp2_with fail
    rw [← HW.out]
    refine KC.out.mono ?_
    rintro e W1 ⟨rfl, m1, rfl⟩
    go_wp2
    go_ret
    exact ⟨rfl, (hfin _ (below_of_drewN _ _)).out⟩
  obtain rfl : DC = true := by rw [← hDC, decide_eq_true hc]
  subst hc
  clear hDC
  by_cases ht : tx = tx'
  case neg =>
    have hs := str_ne ht
    obtain rfl : D = false := by rw [← hD, decide_eq_false (fun e => ht (congrArg Mg.tx e))]
    clear hD ht
    go_enter Try.func12, Try.ntmps12
    go_wp2_with fail
    rw [← HW.out]
    refine KC.out.mono ?_
    rintro e W1 ⟨rfl, m1, rfl⟩
    go_wp2
    go_ret
    exact ⟨rfl, (hfin _ (below_of_drewN _ _)).out⟩
  subst ht
  by_cases hg : tg = tg'
  case neg =>
    have hs := str_ne hg
    obtain rfl : D = false := by rw [← hD, decide_eq_false (fun e => hg (congrArg Mg.tg e))]
    clear hD hg
    go_enter Try.func12, Try.ntmps12
    go_wp2_with fail
    rw [← HW.out]
    refine KC.out.mono ?_
    rintro e W1 ⟨rfl, m1, rfl⟩
    go_wp2
    go_ret
    exact ⟨rfl, (hfin _ (below_of_drewN _ _)).out⟩
  subst hg
  obtain rfl : D = decide (p = p') := by
    rw [← hD]
    exact decide_eq_decide.2 ⟨fun e => congrArg Mg.p e, fun e => by rw [e]⟩
  obtain ⟨E, hE⟩ : ∃ E, decide (p = p') = E := ⟨_, rfl⟩
  rw [hE]
  have HE := Lib.hid hE
  clear hD hE
  go_enter Try.func12, Try.ntmps12
  go_wp2_with fail
  rw [← HW.out]
  refine KC.out.mono ?_
  rintro e W1 ⟨rfl, m1, rfl⟩
  clear HW KC
  go_wp2
  go_loopw [5] (fun iv wr => ∃ j : Nat, j ≤ np ∧ iv = .int .i64 (j : Int) ∧ Hid (p.take j = p'.take j) ∧ ∃ n, wr = w2.drewN n) (fun iv _ => np - (intOf iv).toNat)
  case atStart => exact ⟨0, by omega, rfl, Lib.hid rfl, m1, rfl⟩
  case round =>
    obtain ⟨j, hj, rfl, HT, n, rfl⟩ := hrel
    rcases Nat.lt_or_ge j np with hlt | hge
    · obtain ⟨⟨x, x2⟩, hx⟩ : ∃ q, p[j]? = some q := ⟨_, List.getElem?_eq_getElem (by rw [HNP.out.1]; exact hlt)⟩
      obtain ⟨⟨y, y2⟩, hy⟩ : ∃ q, p'[j]? = some q := ⟨_, List.getElem?_eq_getElem (by rw [HNP.out.2]; exact hlt)⟩
      obtain ⟨g1, o1, rfl, hg1, x0, x1⟩ := pts_two HA.out.1 hx
      obtain ⟨g2, o2, rfl, hg2, y0, y1⟩ := pts_two HA.out.2 hy
      dsimp only at x0 x1 y0 y1
      have HX := Lib.hid hx
      have HY := Lib.hid hy
      clear hx hy
      by_cases hxy : x = y ∧ x2 = y2
      · obtain ⟨rfl, rfl⟩ := hxy
        have hnp2 : ∀ W, (binOp .neq 75 (.agg #[.int .i64 x, .int .i64 x2]) (.agg #[.int .i64 x, .int .i64 x2])).run Try.prog W = .ok (.bool false) W := fun W => by rw [neq_two]; simp
        have HQ : Hid (p.take (j + 1) = p'.take (j + 1)) := by
          show _ = _
          rw [List.take_add_one, List.take_add_one, HT.out, HX.out, HY.out]
        go_wp2
        go_quiet (fail)
        go_wp2
        exact ⟨⟨j + 1, by omega, by go_num, HQ, _, rfl⟩, by simp only [intOf]; omega⟩
      · have hnp2 : ∀ W, (binOp .neq 75 (.agg #[.int .i64 x, .int .i64 x2]) (.agg #[.int .i64 y, .int .i64 y2])).run Try.prog W = .ok (.bool true) W := fun W => by rw [neq_two, decide_eq_false (by simpa using hxy)]; rfl
        obtain rfl : E = false := by
          rw [← HE.out]
          refine decide_eq_false (fun e => hxy ?_)
          have h3 := HX.out
          rw [e, HY.out] at h3
          simp at h3
          exact ⟨h3.1.symm, h3.2.symm⟩
        clear hxy
        go_wp2
        go_quiet (fail)
        go_wp2
        go_ret
        exact ⟨rfl, (hfin _ (below_drewN (below_of_drewN _ _) _)).out⟩
    · obtain rfl : j = np := by omega
      obtain rfl : E = true := by
        rw [← HE.out]
        have h3 := HT.out
        rw [List.take_of_length_le (by rw [HNP.out.1]; omega), List.take_of_length_le (by rw [HNP.out.2]; omega)] at h3
        exact decide_eq_true h3
      go_wp2
      go_ret
      exact ⟨rfl, (hfin _ (below_of_drewN _ _)).out⟩
end Go.Proofs.Ytnbhiamnoapmlaa

namespace Go.Proofs.Ytnbhiamnoapmlaa
open Go.RowKit Go.Shelf
set_option maxRecDepth 100000
attribute [local go_sem] Oper.semAt_some

def hasC (L : List Fd) : Array Value := #[.bool (isS L 0), .bool (isS L 1), .bool (isS L 2), .bool (isS L 3), .bool (isS L 4), .bool (isS L 5), .bool (isS L 6)]
def numC (L : List Fd) : Array Value := #[.bool (isN L 0), .bool (isN L 1), .bool (isN L 2), .bool (isN L 3), .bool (isN L 4), .bool (isN L 5)]
theorem isS_app (L : List Fd) (f : Fd) (s : Int) : isS (L ++ [f]) s = (isS L s || decide (f.so = s)) := by simp [isS]
theorem isN_app (L : List Fd) (f : Fd) (i : Nat) : isN (L ++ [f]) i = (isN L i || (decide (f.so < 3) && decide (f.pl.toNat = i))) := by simp [isN]
theorem hasC_set {L : List Fd} {f : Fd} {s : Nat} (hs : s < 7) (h : f.so = (s : Int)) : (hasC L).setIfInBounds s (.bool true) = hasC (L ++ [f]) := by
  unfold hasC
  simp only [isS_app, h]
  rcases s with _ | _ | _ | _ | _ | _ | _ | s
  all_goals first
    | omega
    | simp
theorem numC_set {L : List Fd} {f : Fd} {i : Nat} (hi : i < 6) (h3 : f.so < 3) (h : f.pl = (i : Int)) : (numC L).setIfInBounds i (.bool true) = numC (L ++ [f]) := by
  unfold numC
  simp only [isN_app, h3, h, Int.toNat_natCast]
  rcases i with _ | _ | _ | _ | _ | _ | i
  all_goals first
    | omega
    | simp
theorem numC_same {L : List Fd} {f : Fd} (h3 : ¬ f.so < 3) : numC (L ++ [f]) = numC L := by
  unfold numC
  simp [isN_app, h3]
theorem numC_at {L : List Fd} {i : Nat} (hi : i < 6) : (numC L)[i]? = some (.bool (isN L i)) := by
  rcases i with _ | _ | _ | _ | _ | _ | i <;> first | rfl | omega
theorem hasC_at {L : List Fd} {s : Nat} (hs : s < 7) : (hasC L)[s]? = some (.bool (isS L s)) := by
  rcases s with _ | _ | _ | _ | _ | _ | _ | s <;> first | rfl | omega
/-- the two arrays of flags, bh and the next -/
structure FlB (bh : Nat) (w4 : World) (L : List Fd) (V : World) : Prop where
  has : V.heap[bh]? = some (.cells (hasC L) 70 (0, 0))
  num : V.heap[bh + 1]? = some (.cells (numC L) 71 (0, 0))
  off : Off (fun q => q = bh ∨ q = bh + 1) w4 V
theorem FlB.later {bh : Nat} {w4 V V' : World} {L : List Fd} (h : FlB bh w4 L V) (hb : Below V.heap.size V V') : FlB bh w4 L V' :=
  ⟨(hb.block _ (Array.getElem?_eq_some_iff.1 h.has).1).trans h.has, (hb.block _ (Array.getElem?_eq_some_iff.1 h.num).1).trans h.num, off_below h.off (hb.mono h.off.size)⟩
theorem str_emp {x : ByteArray} (h : x ≠ ⟨#[]⟩) : x.toList.isEmpty = false := by simpa using str_nil h
theorem str_emp0 : (ByteArray.mk #[]).toList.isEmpty = true := by rw [ByteArray.toList_eq]; rfl

set_option maxHeartbeats 32000000 in
theorem rmcheck_any (M : Mg) (P C : Value) (w : World) (hs : Msm M) (h1 : MAt w w.heap.size M P C) : Calls Try.prog 10 #[mV M P C] w fun e w' => e = .returned (.int .i64 (mck M)) ∧ Below w.heap.size w w' := by
  have KR := Lib.hid (rall_any M.k)
  obtain ⟨R, hR⟩ : ∃ R, mck M = R := ⟨_, rfl⟩
  rw [hR]
  unfold mck at hR
  have hRI := rest_iff M
  have h16 := FD_few M.k
  have KF := Lib.hid (FD_fdok M.k)
  obtain ⟨⟨ap, cp, rfl, hcp, ha⟩, ⟨ac, cc, rfl, hcc, hc⟩⟩ := h1
  obtain ⟨w1, hw1⟩ : ∃ w1, w1 = w.alloc (.cells (mC M (.slice ap M.p.length cp) (.slice ac M.c.length cc)) 34) := ⟨_, rfl⟩
  have hb1 : Below w.heap.size w w1 := by rw [hw1]; exact (Below.refl _ w).alloc (Nat.le_refl _) _
  have hs1 : w1.heap.size = w.heap.size + 1 := by rw [hw1]; simp
  have q0 : w1.heap[w.heap.size]? = some (.cells (mC M (.slice ap M.p.length cp) (.slice ac M.c.length cc)) 34 (0, 0)) := by rw [hw1]; exact World.alloc_heap_new _ _
  obtain ⟨np, hnp⟩ : ∃ np, M.p.length = np := ⟨_, rfl⟩
  obtain ⟨nc, hnc⟩ : ∃ nc, M.c.length = nc := ⟨_, rfl⟩
  unfold mV
  simp only [mC, hnp, hnc] at hw1 q0 hcp hcc ⊢
  have HW := Lib.hid hw1
  have HNN := Lib.hid (And.intro hnp hnc)
  clear hw1 hnp hnc
  go_enter Try.func10, Try.ntmps10
  go_wp2_with fail
  rw [← HW.out]
  refine (KR.out w1).mono ?_
  intro e w2 hOf
  obtain ⟨A, cA, rfl, hcA, hA, hb2⟩ := hOf
  clear KR HW
  obtain ⟨L, hL⟩ : ∃ L, FD M.k = L := ⟨_, rfl⟩
  rw [hL] at hR hRI h16 KF hcA hA ⊢
  obtain ⟨n, hn⟩ : ∃ n, L.length = n := ⟨_, rfl⟩
  rw [hn] at h16 hcA ⊢
  have HN := Lib.hid hn
  have p0 := (hb2.block _ (by omega)).trans q0
  have hb02 := hb1.trans (hb2.mono (by omega))
  have hs2 := hb2.size
  by_cases h0 : n = 0
  · subst h0
    rw [if_pos (List.eq_nil_of_length_eq_zero hn)] at hR
    subst hR
    clear hn hL hA hb1 hb2 q0 p0 hRI
    go_wp2
    go_ret
    exact ⟨rfl, hb02⟩
  rw [if_neg (fun e => h0 (by rw [← hn, e]; rfl))] at hR
  have hn0 : ((n : Int) == 0) = false := by simpa using h0
  obtain ⟨w4, hw4⟩ : ∃ w4, w4 = (w2.alloc (.cells (hasC []) 70)).alloc (.cells (numC []) 71) := ⟨_, rfl⟩
  have hs4 : w4.heap.size = w2.heap.size + 2 := by rw [hw4]; simp
  have hb24 : Below w2.heap.size w2 w4 := by rw [hw4]; exact ((Below.refl _ w2).alloc (Nat.le_refl _) _).alloc (by simp) _
  have hF4 : FlB w2.heap.size w4 [] w4 := by
    refine ⟨?_, ?_, Off.refl _ _⟩
    · rw [hw4, Below.heap_alloc _ _ _ (by simp)]; exact World.alloc_heap_new _ _
    · have := World.alloc_heap_new (w2.alloc (.cells (hasC []) 70)) (.cells (numC []) 71)
      rw [World.size_alloc] at this
      rw [hw4]; exact this
  have p4 := (hb24.block _ (by omega)).trans p0
  have hA4 : FdsIn w1.heap.size w4 A L := fun j f hj => by
    obtain ⟨g, h1, h2, h3, h4⟩ := hA j f hj
    exact ⟨g, h1, h2, by omega, fun q u hq => (hb24.cell (p := ⟨g, j * 7 + q, none⟩) h3).trans (h4 q u hq)⟩
  have hAlt : ∀ (j : Nat) f, L[j]? = some f → ∃ g, A = some ⟨g, 0, none⟩ ∧ g < w2.heap.size := fun j f hj => by
    obtain ⟨g, h1, _, h3, _⟩ := hA j f hj
    exact ⟨g, h1, h3⟩
  have HA4 := Lib.hid (And.intro hA4 hAlt)
  have HP4 := Lib.hid p4
  have HB4 := Lib.hid (hb02.trans (hb24.mono (by omega)))
  have HR := Lib.hid (And.intro hR hRI)
  have HM := Lib.hid (And.intro ha hc)
  have HF4 := Lib.hid hF4
  obtain ⟨bh, hbh⟩ : ∃ bh, w2.heap.size = bh := ⟨_, rfl⟩
  have hs14 : w.heap.size < bh := by omega
  rw [hbh] at HF4 HA4 hs4
  simp only [hasC, numC, isS, isN, List.any_nil] at hw4
  have HW4 := Lib.hid hw4
  have HBH := Lib.hid hbh
  clear hw4 hn hL hR hRI h0 hA hA4 hAlt hb1 hb2 hb24 hb02 q0 p0 p4 ha hc hF4 hs1 hs2
  go_wp2_with fail
  rw [← HW4.out]
  clear HW4 HBH hbh
  go_loopw [6] (fun iv wr => ∃ j : Nat, j ≤ n ∧ iv = .int .i64 (j : Int) ∧ Hid (∀ g ∈ L.take j, fE M g = 0) ∧ Hid (FlB bh w4 (L.take j) wr)) (fun iv _ => n - (intOf iv).toNat)
  case atStart => exact ⟨0, by omega, rfl, Lib.hid (by simp), HF4⟩
  case round =>
    obtain ⟨j, hj, rfl, HZ, HF⟩ := hrel
    have hbw : Below w.heap.size w wr := HB4.out.trans (HF.out.off.below (fun k hk => by omega) (by have := HB4.out.size; omega))
    have m0 := (HF.out.off.block w.heap.size (by omega) (by omega)).trans HP4.out
    rcases Nat.lt_or_ge j n with hlt | hge
    · obtain ⟨f, hf⟩ : ∃ f, L[j]? = some f := ⟨_, List.getElem?_eq_getElem (by rw [HN.out]; exact hlt)⟩
      obtain ⟨g, rfl, hgl, _, d0, d1, d2, d3, d4, d5, d6⟩ := HA4.out.1.seven hf
      obtain ⟨g', hg', hgb⟩ := HA4.out.2 j f hf
      injection hg' with hg'
      injection hg' with hg'
      subst hg'
      have k := fun q x (hx : w4.cell? ⟨g, q, none⟩ = some x) => HF.out.off.cell hx (by show ¬ (g = bh ∨ g = bh + 1); omega)
      have d1 := k _ _ d1
      have d2 := k _ _ d2
      have d3 := k _ _ d3
      have d4 := k _ _ d4
      clear k d0 d5 d6
      have ok := KF.out f (List.mem_of_getElem? hf)
      have hso := ok.so
      obtain ⟨E, hE⟩ : ∃ E, fE M f = E := ⟨_, rfl⟩
      have HEd := Lib.hid hE
      have hsL : (L.take (j + 1)) = L.take j ++ [f] := by rw [List.take_add_one, hf]; rfl
      have hj2 : (j : Int) < (n : Int) := by omega
      have hnA : (n : Int) ≤ (cA : Int) := by omega
      have HFf := Lib.hid hf
      have hFh := HF.out.has
      have hFn := HF.out.num
      have hblt := (Array.getElem?_eq_some_iff.1 hFn).1
      have hw4s := HF.out.off.size
      have hgwr : g < wr.heap.size := by omega
      clear hf
      by_cases h3 : f.so = 3
      · have hfe : fE M f = wP M.p 16 := by unfold fE; rw [if_pos h3, ok.mo.1 h3]
        rw [h3] at d1
        have hh := row_cell hFh 3 _ rfl
        have zh := frozen_of_row wr bh 3 _ _ hFh
        obtain ⟨V1, hV1⟩ : ∃ V1, wr.setCell ⟨bh, 3, none⟩ (.bool true) = V1 := ⟨_, rfl⟩
        have ho1 : Off (fun q => q = bh ∨ q = bh + 1) wr V1 := by rw [← hV1]; exact (Off.refl (fun q => q = bh ∨ q = bh + 1) wr).setCell (p := ⟨bh, 3, none⟩) (.inl rfl) _
        have hF1 : FlB bh w4 (L.take (j + 1)) V1 := by
          rw [hsL]
          refine ⟨by rw [← hV1, setCell_at hFh, hasC_set (s := 3) (by omega) h3], ?_, HF.out.off.trans ho1 (fun _ _ h => h)⟩
          rw [numC_same (by omega), ← hV1]
          exact (Below.heap_setCell _ _ _ _ (by show bh + 1 ≠ bh; omega)).trans hFn
        have hbV1 : Below w.heap.size w V1 := hbw.trans (ho1.below (fun k hk => by omega) hbw.size)
        have hm1 := (ho1.block w.heap.size (by omega) (by omega)).trans m0
        have ccl := row_cell hm1 7 _ rfl
        have KW := Lib.hid ((rpath_any ap np cp M.p V1 HNN.out.1 hcp ((HM.out.1.below hbV1).mono hbV1.size)).mono (fun e w' h => (⟨h.1, h.2 ▸ Below.refl _ _⟩ : e = .returned (.int .i64 (wP M.p 16)) ∧ Below V1.heap.size V1 w')))
        rw [← hfe, hE] at KW
        have HV1 := Lib.hid hV1
        have HX1 := Lib.hid hF1
        have HB1 := Lib.hid hbV1
        rw [← hV1] at ccl
        clear hfe hsL hV1 ho1 hF1 hbV1 hm1 m0 hE hFh hFn d2 d3 d4 ok
        go_wp2_with fail
        rw [HV1.out]
        refine KW.out.mono ?_
        rintro e V2 ⟨rfl, hb2⟩
        have HX2 := Lib.hid (HX1.out.later hb2)
        have HBX := Lib.hid (HB1.out.trans (hb2.mono HB1.out.size))
        clear KW HX1 HB1 hb2 HV1 hbw hh zh ccl
        by_cases hE0 : E = 0
        · subst hE0
          have HZ2 : Hid (∀ g ∈ L.take (j + 1), fE M g = 0) := Lib.hid (take_zero HFf.out HZ.out HEd.out)
          go_wp2
          exact ⟨⟨j + 1, by omega, by go_num, HZ2, HX2⟩, by simp only [intOf]; omega⟩
        · have hEn : (E != 0) = true := by simpa using hE0
          have hfe := (firstE_at L M j f HFf.out HZ.out (by rw [HEd.out]; exact hE0)).trans HEd.out
          have hR1 := HR.out.1
          rw [hfe, if_pos hE0] at hR1
          subst hR1
          clear hfe
          go_wp2
          go_ret
          exact ⟨rfl, HBX.out⟩
      by_cases h4 : f.so = 4
      · have hfe : fE M f = wC M.c 32 := by unfold fE; rw [if_neg (by omega), if_pos h4, ok.mo.2.1 h4]
        rw [h4] at d1
        have hh := row_cell hFh 4 _ rfl
        have zh := frozen_of_row wr bh 4 _ _ hFh
        obtain ⟨V1, hV1⟩ : ∃ V1, wr.setCell ⟨bh, 4, none⟩ (.bool true) = V1 := ⟨_, rfl⟩
        have ho1 : Off (fun q => q = bh ∨ q = bh + 1) wr V1 := by rw [← hV1]; exact (Off.refl (fun q => q = bh ∨ q = bh + 1) wr).setCell (p := ⟨bh, 4, none⟩) (.inl rfl) _
        have hF1 : FlB bh w4 (L.take (j + 1)) V1 := by
          rw [hsL]
          refine ⟨by rw [← hV1, setCell_at hFh, hasC_set (s := 4) (by omega) h4], ?_, HF.out.off.trans ho1 (fun _ _ h => h)⟩
          rw [numC_same (by omega), ← hV1]
          exact (Below.heap_setCell _ _ _ _ (by show bh + 1 ≠ bh; omega)).trans hFn
        have hbV1 : Below w.heap.size w V1 := hbw.trans (ho1.below (fun k hk => by omega) hbw.size)
        have hm1 := (ho1.block w.heap.size (by omega) (by omega)).trans m0
        have ccl := row_cell hm1 8 _ rfl
        have KW := Lib.hid (rcells_any ac nc cc M.c V1 HNN.out.2 hcc ((HM.out.2.below hbV1).mono hbV1.size))
        rw [← hfe, hE] at KW
        have HV1 := Lib.hid hV1
        have HX1 := Lib.hid hF1
        have HB1 := Lib.hid hbV1
        rw [← hV1] at ccl
        clear hfe hsL hV1 ho1 hF1 hbV1 hm1 m0 hE hFh hFn d2 d3 d4 ok
        go_wp2_with fail
        rw [HV1.out]
        refine KW.out.mono ?_
        rintro e V2 ⟨rfl, hb2⟩
        have HX2 := Lib.hid (HX1.out.later hb2)
        have HBX := Lib.hid (HB1.out.trans (hb2.mono HB1.out.size))
        clear KW HX1 HB1 hb2 HV1 hbw hh zh ccl
        by_cases hE0 : E = 0
        · subst hE0
          have HZ2 : Hid (∀ g ∈ L.take (j + 1), fE M g = 0) := Lib.hid (take_zero HFf.out HZ.out HEd.out)
          go_wp2
          exact ⟨⟨j + 1, by omega, by go_num, HZ2, HX2⟩, by simp only [intOf]; omega⟩
        · have hEn : (E != 0) = true := by simpa using hE0
          have hfe := (firstE_at L M j f HFf.out HZ.out (by rw [HEd.out]; exact hE0)).trans HEd.out
          have hR1 := HR.out.1
          rw [hfe, if_pos hE0] at hR1
          subst hR1
          clear hfe
          go_wp2
          go_ret
          exact ⟨rfl, HBX.out⟩
      by_cases h5 : f.so = 5
      · have hfe : fE M f = wT M.tx 64 := by unfold fE; rw [if_neg (by omega), if_neg (by omega), if_pos h5, ok.mo.2.2.1 h5]
        rw [h5] at d1
        have hh := row_cell hFh 5 _ rfl
        have zh := frozen_of_row wr bh 5 _ _ hFh
        obtain ⟨V1, hV1⟩ : ∃ V1, wr.setCell ⟨bh, 5, none⟩ (.bool true) = V1 := ⟨_, rfl⟩
        have ho1 : Off (fun q => q = bh ∨ q = bh + 1) wr V1 := by rw [← hV1]; exact (Off.refl (fun q => q = bh ∨ q = bh + 1) wr).setCell (p := ⟨bh, 5, none⟩) (.inl rfl) _
        have hF1 : FlB bh w4 (L.take (j + 1)) V1 := by
          rw [hsL]
          refine ⟨by rw [← hV1, setCell_at hFh, hasC_set (s := 5) (by omega) h5], ?_, HF.out.off.trans ho1 (fun _ _ h => h)⟩
          rw [numC_same (by omega), ← hV1]
          exact (Below.heap_setCell _ _ _ _ (by show bh + 1 ≠ bh; omega)).trans hFn
        have hbV1 : Below w.heap.size w V1 := hbw.trans (ho1.below (fun k hk => by omega) hbw.size)
        have hm1 := (ho1.block w.heap.size (by omega) (by omega)).trans m0
        have ccl := row_cell hm1 9 _ rfl
        have KW := Lib.hid ((rtext_any M.tx 64 (by have := hs.tx; unfold maxLen; omega) V1).mono (fun e w' h => (⟨h.1, h.2 ▸ Below.refl _ _⟩ : e = .returned (.int .i64 (wT M.tx 64)) ∧ Below V1.heap.size V1 w')))
        rw [← hfe, hE] at KW
        have HV1 := Lib.hid hV1
        have HX1 := Lib.hid hF1
        have HB1 := Lib.hid hbV1
        rw [← hV1] at ccl
        clear hfe hsL hV1 ho1 hF1 hbV1 hm1 m0 hE hFh hFn d2 d3 d4 ok
        go_wp2_with fail
        rw [HV1.out]
        refine KW.out.mono ?_
        rintro e V2 ⟨rfl, hb2⟩
        have HX2 := Lib.hid (HX1.out.later hb2)
        have HBX := Lib.hid (HB1.out.trans (hb2.mono HB1.out.size))
        clear KW HX1 HB1 hb2 HV1 hbw hh zh ccl
        by_cases hE0 : E = 0
        · subst hE0
          have HZ2 : Hid (∀ g ∈ L.take (j + 1), fE M g = 0) := Lib.hid (take_zero HFf.out HZ.out HEd.out)
          go_wp2
          exact ⟨⟨j + 1, by omega, by go_num, HZ2, HX2⟩, by simp only [intOf]; omega⟩
        · have hEn : (E != 0) = true := by simpa using hE0
          have hfe := (firstE_at L M j f HFf.out HZ.out (by rw [HEd.out]; exact hE0)).trans HEd.out
          have hR1 := HR.out.1
          rw [hfe, if_pos hE0] at hR1
          subst hR1
          clear hfe
          go_wp2
          go_ret
          exact ⟨rfl, HBX.out⟩
      by_cases h6 : f.so = 6
      · have hfe : fE M f = wT M.tg 16 := by unfold fE; rw [if_neg (by omega), if_neg (by omega), if_neg (by omega), if_pos h6, ok.mo.2.2.2 h6]
        rw [h6] at d1
        have hh := row_cell hFh 6 _ rfl
        have zh := frozen_of_row wr bh 6 _ _ hFh
        obtain ⟨V1, hV1⟩ : ∃ V1, wr.setCell ⟨bh, 6, none⟩ (.bool true) = V1 := ⟨_, rfl⟩
        have ho1 : Off (fun q => q = bh ∨ q = bh + 1) wr V1 := by rw [← hV1]; exact (Off.refl (fun q => q = bh ∨ q = bh + 1) wr).setCell (p := ⟨bh, 6, none⟩) (.inl rfl) _
        have hF1 : FlB bh w4 (L.take (j + 1)) V1 := by
          rw [hsL]
          refine ⟨by rw [← hV1, setCell_at hFh, hasC_set (s := 6) (by omega) h6], ?_, HF.out.off.trans ho1 (fun _ _ h => h)⟩
          rw [numC_same (by omega), ← hV1]
          exact (Below.heap_setCell _ _ _ _ (by show bh + 1 ≠ bh; omega)).trans hFn
        have hbV1 : Below w.heap.size w V1 := hbw.trans (ho1.below (fun k hk => by omega) hbw.size)
        have hm1 := (ho1.block w.heap.size (by omega) (by omega)).trans m0
        have ccl := row_cell hm1 10 _ rfl
        have KW := Lib.hid ((rtext_any M.tg 16 (by have := hs.tg; unfold maxLen; omega) V1).mono (fun e w' h => (⟨h.1, h.2 ▸ Below.refl _ _⟩ : e = .returned (.int .i64 (wT M.tg 16)) ∧ Below V1.heap.size V1 w')))
        rw [← hfe, hE] at KW
        have HV1 := Lib.hid hV1
        have HX1 := Lib.hid hF1
        have HB1 := Lib.hid hbV1
        rw [← hV1] at ccl
        clear hfe hsL hV1 ho1 hF1 hbV1 hm1 m0 hE hFh hFn d2 d3 d4 ok
        go_wp2_with fail
        rw [HV1.out]
        refine KW.out.mono ?_
        rintro e V2 ⟨rfl, hb2⟩
        have HX2 := Lib.hid (HX1.out.later hb2)
        have HBX := Lib.hid (HB1.out.trans (hb2.mono HB1.out.size))
        clear KW HX1 HB1 hb2 HV1 hbw hh zh ccl
        by_cases hE0 : E = 0
        · subst hE0
          have HZ2 : Hid (∀ g ∈ L.take (j + 1), fE M g = 0) := Lib.hid (take_zero HFf.out HZ.out HEd.out)
          go_wp2
          exact ⟨⟨j + 1, by omega, by go_num, HZ2, HX2⟩, by simp only [intOf]; omega⟩
        · have hEn : (E != 0) = true := by simpa using hE0
          have hfe := (firstE_at L M j f HFf.out HZ.out (by rw [HEd.out]; exact hE0)).trans HEd.out
          have hR1 := HR.out.1
          rw [hfe, if_pos hE0] at hR1
          subst hR1
          clear hfe
          go_wp2
          go_ret
          exact ⟨rfl, HBX.out⟩
      obtain ⟨sn, hsn⟩ : ∃ sn : Nat, f.so = (sn : Int) := ⟨f.so.toNat, by omega⟩
      obtain ⟨jn, hjn, hpl⟩ := ok.pl (by omega)
      have hfe : fE M f = wN (M.at' jn) f.le f.mo := by unfold fE; rw [if_neg h3, if_neg h4, if_neg h5, if_neg h6, hpl, Int.toNat_natCast]
      have hs7 : sn < 7 := by omega
      have hh := row_cell hFh sn _ (hasC_at hs7)
      have zh := frozen_of_row wr bh sn _ _ hFh
      obtain ⟨V1, hV1⟩ : ∃ V1, wr.setCell ⟨bh, sn, none⟩ (.bool true) = V1 := ⟨_, rfl⟩
      have hFn1 : V1.heap[bh + 1]? = some (.cells (numC (L.take j)) 71 (0, 0)) := by rw [← hV1]; exact (Below.heap_setCell _ _ _ _ (by show bh + 1 ≠ bh; omega)).trans hFn
      have hn1 := row_cell hFn1 jn _ (numC_at hjn)
      have zn := frozen_of_row V1 (bh + 1) jn _ _ hFn1
      obtain ⟨V2, hV2⟩ : ∃ V2, V1.setCell ⟨bh + 1, jn, none⟩ (.bool true) = V2 := ⟨_, rfl⟩
      have ho2 : Off (fun q => q = bh ∨ q = bh + 1) wr V2 := by rw [← hV2, ← hV1]; exact ((Off.refl (fun q => q = bh ∨ q = bh + 1) wr).setCell (p := ⟨bh, sn, none⟩) (.inl rfl) _).setCell (p := ⟨bh + 1, jn, none⟩) (.inr rfl) _
      have hF2 : FlB bh w4 (L.take (j + 1)) V2 := by
        rw [hsL]
        refine ⟨?_, by rw [← hV2, setCell_at hFn1, numC_set hjn (by omega) hpl], HF.out.off.trans ho2 (fun _ _ h => h)⟩
        rw [← hV2, Below.heap_setCell _ _ _ _ (by show bh ≠ bh + 1; omega), ← hV1, setCell_at hFh, hasC_set hs7 hsn]
      have hbV2 : Below w.heap.size w V2 := hbw.trans (ho2.below (fun k hk => by omega) hbw.size)
      have cn := mg_at (M := M) (P := .slice ap np cp) (C := .slice ac nc cc) ((ho2.block w.heap.size (by omega) (by omega)).trans m0) hjn
      have k2 := fun q x (hx : wr.cell? ⟨g, q, none⟩ = some x) => ho2.cell hx (by show ¬ (g = bh ∨ g = bh + 1); omega)
      have e2 := k2 _ _ d2
      have e3 := k2 _ _ d3
      have e4 := k2 _ _ d4
      obtain ⟨nv, hnv⟩ : ∃ nv, M.at' jn = nv := ⟨_, rfl⟩
      rw [hnv] at cn hfe
      rw [hsn] at d1
      rw [hpl] at d2 e2
      have d2' : V1.cell? ⟨g, j * 7 + 2, none⟩ = some (.int .i64 (jn : Int)) := by
        rw [← hV1]
        exact ((Off.refl (fun q => q = bh) wr).setCell (p := ⟨bh, sn, none⟩) rfl _).cell d2 (by show ¬ g = bh; omega)
      have q3 : ((sn : Int) == 3) = false := by simp; omega
      have q4 : ((sn : Int) == 4) = false := by simp; omega
      have q5 : ((sn : Int) == 5) = false := by simp; omega
      have q6 : ((sn : Int) == 6) = false := by simp; omega
      have hs7i : (sn : Int) < 7 := by omega
      have hj6 : (jn : Int) < 6 := by omega
      have d1' : V1.cell? ⟨g, j * 7 + 1, none⟩ = some (.int .i64 (sn : Int)) := by
        rw [← hV1]
        exact ((Off.refl (fun q => q = bh) wr).setCell (p := ⟨bh, sn, none⟩) rfl _).cell d1 (by show ¬ g = bh; omega)
      rw [← hV1] at d1' d2' hn1 zn
      have HV2 : Hid ((wr.setCell ⟨bh, sn, none⟩ (.bool true)).setCell ⟨bh + 1, jn, none⟩ (.bool true) = V2) := Lib.hid (by rw [hV1]; exact hV2)
      have HX2 := Lib.hid hF2
      have HBX := Lib.hid hbV2
      have HWN := Lib.hid (hfe.symm.trans hE)
      clear hfe hsL hV1 hV2 ho2 hF2 hbV2 m0 hE hFh hFn hFn1 k2 ok hsn hpl hnv d3 d4 hbw hso
      go_wp2
      rw [HV2.out]
      clear HV2 hh zh hn1 zn d1' d2' d1 d2
      by_cases hv1 : nv < f.le
      · have hEv : E = 5 := by rw [← HWN.out]; unfold wN; exact if_pos (.inl hv1)
        subst hEv
        have hfe := (firstE_at L M j f HFf.out HZ.out (by rw [HEd.out]; omega)).trans HEd.out
        have hR1 := HR.out.1
        rw [hfe, if_pos (by omega)] at hR1
        subst hR1
        clear hfe
        go_quiet (fail)
        go_wp2
        go_ret
        exact ⟨rfl, below_drewN HBX.out _⟩
      · by_cases hv2 : f.mo < nv
        · have hEv : E = 5 := by rw [← HWN.out]; unfold wN; exact if_pos (.inr hv2)
          subst hEv
          have hfe := (firstE_at L M j f HFf.out HZ.out (by rw [HEd.out]; omega)).trans HEd.out
          have hR1 := HR.out.1
          rw [hfe, if_pos (by omega)] at hR1
          subst hR1
          clear hfe
          go_quiet (fail)
          go_wp2
          go_ret
          exact ⟨rfl, below_drewN HBX.out _⟩
        · have hEv : E = 0 := by rw [← HWN.out]; unfold wN; exact if_neg (by omega)
          subst hEv
          have HZ2 : Hid (∀ g ∈ L.take (j + 1), fE M g = 0) := Lib.hid (take_zero HFf.out HZ.out HEd.out)
          go_quiet (fail)
          have HX3 := Lib.hid (HX2.out.later (below_of_drewN V2 nq))
          clear HX2 HBX
          go_wp2
          exact ⟨⟨j + 1, by omega, rfl, HZ2, HX3⟩, by simp only [intOf]; omega⟩
    · obtain rfl : j = n := by omega
      have hz := HZ.out
      have hF := HF.out
      rw [List.take_of_length_le (by rw [HN.out]; exact Nat.le_refl _)] at hz hF
      have hf0 := (firstE_zero L M).1 hz
      obtain ⟨hR1, hRI⟩ := HR.out
      rw [hf0, if_neg (by simp)] at hR1
      have HR2 := Lib.hid hR1
      have HRI := Lib.hid hRI
      have HFL := Lib.hid hF
      have HBW := Lib.hid hbw
      have HM0 := Lib.hid m0
      clear hz hf0 hR1 hRI hF hbw m0 HZ HF HR
      go_wp2
      go_loopw [8] (fun iv wr' => ∃ i : Nat, i ≤ 6 ∧ iv = .int .i64 (i : Int) ∧ Hid (∀ i' : Nat, i' < i → isN L i' = false → M.at' i' = 0) ∧ wr' = wr) (fun iv _ => 6 - (intOf iv).toNat)
      case atStart => exact ⟨0, by omega, rfl, Lib.hid (fun i h => by omega), rfl⟩
      case round =>
        obtain ⟨i, hi, rfl, HI, rfl⟩ := hrel
        rcases Nat.lt_or_ge i 6 with hlt6 | hge6
        · have cb := row_cell HFL.out.num i _ (numC_at hlt6)
          have cn := mg_at (M := M) (P := .slice ap np cp) (C := .slice ac nc cc) HM0.out hlt6
          have hi6 : (i : Int) < 6 := by omega
          cases hb : isN L i
          · rw [hb] at cb
            by_cases hz : M.at' i = 0
            · rw [hz] at cn
              have HI2 : Hid (∀ i' : Nat, i' < i + 1 → isN L i' = false → M.at' i' = 0) := Lib.hid (fun i' h hn => by
                rcases Nat.lt_or_ge i' i with h1 | h1
                · exact HI.out i' h1 hn
                · obtain rfl : i' = i := by omega
                  exact hz)
              clear hz hb
              go_wp2
              exact ⟨⟨i + 1, by omega, rfl, HI2, trivial⟩, by simp only [intOf]; omega⟩
            · have hzn : (M.at' i != 0) = true := by simpa using hz
              have hbad : ¬ (L.foldl strip M = Mg.zero M.k) := fun e => hz ((HRI.out.1 e).1 i hlt6 hb)
              have hR1 := HR2.out
              rw [if_neg hbad] at hR1
              subst hR1
              clear hbad hb
              go_wp2
              go_ret
              exact ⟨rfl, HBW.out⟩
          · rw [hb] at cb
            have HI2 : Hid (∀ i' : Nat, i' < i + 1 → isN L i' = false → M.at' i' = 0) := Lib.hid (fun i' h hn => by
              rcases Nat.lt_or_ge i' i with h1 | h1
              · exact HI.out i' h1 hn
              · obtain rfl : i' = i := by omega
                rw [hb] at hn
                cases hn)
            clear cn hb
            go_wp2
            exact ⟨⟨i + 1, by omega, rfl, HI2, trivial⟩, by simp only [intOf]; omega⟩
        · obtain rfl : i = 6 := by omega
          have h3 := row_cell HFL.out.has 3 (.bool (isS L 3)) rfl
          have h4 := row_cell HFL.out.has 4 (.bool (isS L 4)) rfl
          have h5 := row_cell HFL.out.has 5 (.bool (isS L 5)) rfl
          have h6 := row_cell HFL.out.has 6 (.bool (isS L 6)) rfl
          obtain ⟨_, _, _, _, _, _, _, c7, c8, c9, c10⟩ := mg_block (M := M) HM0.out
          have hnp := HNN.out.1
          have hnc := HNN.out.2
          have HI6 := Lib.hid HI.out
          have HRI2 := Lib.hid HRI.out
          obtain ⟨s3, hs3⟩ : ∃ s3, isS L 3 = s3 := ⟨_, rfl⟩
          obtain ⟨s4, hs4'⟩ : ∃ s4, isS L 4 = s4 := ⟨_, rfl⟩
          obtain ⟨s5, hs5⟩ : ∃ s5, isS L 5 = s5 := ⟨_, rfl⟩
          obtain ⟨s6, hs6⟩ : ∃ s6, isS L 6 = s6 := ⟨_, rfl⟩
          rw [hs3] at h3 HRI2
          rw [hs4'] at h4 HRI2
          rw [hs5] at h5 HRI2
          rw [hs6] at h6 HRI2
          have e7 : M.p = [] ↔ np = 0 := by rw [← hnp]; exact ⟨fun e => by rw [e]; rfl, fun e => List.eq_nil_of_length_eq_zero e⟩
          have e8 : M.c = [] ↔ nc = 0 := by rw [← hnc]; exact ⟨fun e => by rw [e]; rfl, fun e => List.eq_nil_of_length_eq_zero e⟩
          rw [e7, e8] at HRI2
          obtain ⟨tx, htx⟩ : ∃ tx, M.tx = tx := ⟨_, rfl⟩
          obtain ⟨tg, htg⟩ : ∃ tg, M.tg = tg := ⟨_, rfl⟩
          rw [htx] at c9 HRI2
          rw [htg] at c10 HRI2
          have hnd := fun (h : ¬ (L.foldl strip M = Mg.zero M.k)) => (show R = 3 by have hR1 := HR2.out; rw [if_neg h] at hR1; exact hR1.symm)
          have hyd := fun (h : L.foldl strip M = Mg.zero M.k) => (show R = 0 by have hR1 := HR2.out; rw [if_pos h] at hR1; exact hR1.symm)
          have HND := Lib.hid hnd
          have HYD := Lib.hid hyd
          clear hnp hnc hs3 hs4' hs5 hs6 e7 e8 htx htg hnd hyd HR2 HRI HFL HM0
          cases s3
          · by_cases e0 : np = 0
            · have z0 : false = false → np = 0 := fun _ => e0
              subst e0
              cases s4
              · by_cases e1 : nc = 0
                · have z1 : false = false → nc = 0 := fun _ => e1
                  subst e1
                  cases s5
                  · by_cases e2 : tx = ⟨#[]⟩
                    · have z2 : false = false → tx = ⟨#[]⟩ := fun _ => e2
                      subst e2
                      have u2 := str_emp0
                      cases s6
                      · by_cases e3 : tg = ⟨#[]⟩
                        · have z3 : false = false → tg = ⟨#[]⟩ := fun _ => e3
                          subst e3
                          have u3 := str_emp0
                          obtain rfl : R = 0 := HYD.out (HRI2.out.2 ⟨HI6.out, z0, z1, z2, z3⟩)
                          go_wp2
                          go_ret
                          exact ⟨rfl, HBW.out⟩
                        · obtain rfl : R = 3 := HND.out (fun e => e3 (by have h := HRI2.out.1 e; exact h.2.2.2.2 rfl))
                          have u3 := str_emp e3
                          have w3 := str_nil e3
                          go_wp2
                          go_ret
                          exact ⟨rfl, HBW.out⟩
                      · have z3 : true = false → tg = ⟨#[]⟩ := fun h => by cases h
                        obtain rfl : R = 0 := HYD.out (HRI2.out.2 ⟨HI6.out, z0, z1, z2, z3⟩)
                        go_wp2
                        go_ret
                        exact ⟨rfl, HBW.out⟩
                    · obtain rfl : R = 3 := HND.out (fun e => e2 (by have h := HRI2.out.1 e; exact h.2.2.2.1 rfl))
                      have u2 := str_emp e2
                      have w2 := str_nil e2
                      go_wp2
                      go_ret
                      exact ⟨rfl, HBW.out⟩
                  · have z2 : true = false → tx = ⟨#[]⟩ := fun h => by cases h
                    cases s6
                    · by_cases e3 : tg = ⟨#[]⟩
                      · have z3 : false = false → tg = ⟨#[]⟩ := fun _ => e3
                        subst e3
                        have u3 := str_emp0
                        obtain rfl : R = 0 := HYD.out (HRI2.out.2 ⟨HI6.out, z0, z1, z2, z3⟩)
                        go_wp2
                        go_ret
                        exact ⟨rfl, HBW.out⟩
                      · obtain rfl : R = 3 := HND.out (fun e => e3 (by have h := HRI2.out.1 e; exact h.2.2.2.2 rfl))
                        have u3 := str_emp e3
                        have w3 := str_nil e3
                        go_wp2
                        go_ret
                        exact ⟨rfl, HBW.out⟩
                    · have z3 : true = false → tg = ⟨#[]⟩ := fun h => by cases h
                      obtain rfl : R = 0 := HYD.out (HRI2.out.2 ⟨HI6.out, z0, z1, z2, z3⟩)
                      go_wp2
                      go_ret
                      exact ⟨rfl, HBW.out⟩
                · obtain rfl : R = 3 := HND.out (fun e => e1 (by have h := HRI2.out.1 e; exact h.2.2.1 rfl))
                  have u1 : 0 < (nc : Int) := by omega
                  go_wp2
                  go_ret
                  exact ⟨rfl, HBW.out⟩
              · have z1 : true = false → nc = 0 := fun h => by cases h
                cases s5
                · by_cases e2 : tx = ⟨#[]⟩
                  · have z2 : false = false → tx = ⟨#[]⟩ := fun _ => e2
                    subst e2
                    have u2 := str_emp0
                    cases s6
                    · by_cases e3 : tg = ⟨#[]⟩
                      · have z3 : false = false → tg = ⟨#[]⟩ := fun _ => e3
                        subst e3
                        have u3 := str_emp0
                        obtain rfl : R = 0 := HYD.out (HRI2.out.2 ⟨HI6.out, z0, z1, z2, z3⟩)
                        go_wp2
                        go_ret
                        exact ⟨rfl, HBW.out⟩
                      · obtain rfl : R = 3 := HND.out (fun e => e3 (by have h := HRI2.out.1 e; exact h.2.2.2.2 rfl))
                        have u3 := str_emp e3
                        have w3 := str_nil e3
                        go_wp2
                        go_ret
                        exact ⟨rfl, HBW.out⟩
                    · have z3 : true = false → tg = ⟨#[]⟩ := fun h => by cases h
                      obtain rfl : R = 0 := HYD.out (HRI2.out.2 ⟨HI6.out, z0, z1, z2, z3⟩)
                      go_wp2
                      go_ret
                      exact ⟨rfl, HBW.out⟩
                  · obtain rfl : R = 3 := HND.out (fun e => e2 (by have h := HRI2.out.1 e; exact h.2.2.2.1 rfl))
                    have u2 := str_emp e2
                    have w2 := str_nil e2
                    go_wp2
                    go_ret
                    exact ⟨rfl, HBW.out⟩
                · have z2 : true = false → tx = ⟨#[]⟩ := fun h => by cases h
                  cases s6
                  · by_cases e3 : tg = ⟨#[]⟩
                    · have z3 : false = false → tg = ⟨#[]⟩ := fun _ => e3
                      subst e3
                      have u3 := str_emp0
                      obtain rfl : R = 0 := HYD.out (HRI2.out.2 ⟨HI6.out, z0, z1, z2, z3⟩)
                      go_wp2
                      go_ret
                      exact ⟨rfl, HBW.out⟩
                    · obtain rfl : R = 3 := HND.out (fun e => e3 (by have h := HRI2.out.1 e; exact h.2.2.2.2 rfl))
                      have u3 := str_emp e3
                      have w3 := str_nil e3
                      go_wp2
                      go_ret
                      exact ⟨rfl, HBW.out⟩
                  · have z3 : true = false → tg = ⟨#[]⟩ := fun h => by cases h
                    obtain rfl : R = 0 := HYD.out (HRI2.out.2 ⟨HI6.out, z0, z1, z2, z3⟩)
                    go_wp2
                    go_ret
                    exact ⟨rfl, HBW.out⟩
            · obtain rfl : R = 3 := HND.out (fun e => e0 (by have h := HRI2.out.1 e; exact h.2.1 rfl))
              have u0 : 0 < (np : Int) := by omega
              go_wp2
              go_ret
              exact ⟨rfl, HBW.out⟩
          · have z0 : true = false → np = 0 := fun h => by cases h
            cases s4
            · by_cases e1 : nc = 0
              · have z1 : false = false → nc = 0 := fun _ => e1
                subst e1
                cases s5
                · by_cases e2 : tx = ⟨#[]⟩
                  · have z2 : false = false → tx = ⟨#[]⟩ := fun _ => e2
                    subst e2
                    have u2 := str_emp0
                    cases s6
                    · by_cases e3 : tg = ⟨#[]⟩
                      · have z3 : false = false → tg = ⟨#[]⟩ := fun _ => e3
                        subst e3
                        have u3 := str_emp0
                        obtain rfl : R = 0 := HYD.out (HRI2.out.2 ⟨HI6.out, z0, z1, z2, z3⟩)
                        go_wp2
                        go_ret
                        exact ⟨rfl, HBW.out⟩
                      · obtain rfl : R = 3 := HND.out (fun e => e3 (by have h := HRI2.out.1 e; exact h.2.2.2.2 rfl))
                        have u3 := str_emp e3
                        have w3 := str_nil e3
                        go_wp2
                        go_ret
                        exact ⟨rfl, HBW.out⟩
                    · have z3 : true = false → tg = ⟨#[]⟩ := fun h => by cases h
                      obtain rfl : R = 0 := HYD.out (HRI2.out.2 ⟨HI6.out, z0, z1, z2, z3⟩)
                      go_wp2
                      go_ret
                      exact ⟨rfl, HBW.out⟩
                  · obtain rfl : R = 3 := HND.out (fun e => e2 (by have h := HRI2.out.1 e; exact h.2.2.2.1 rfl))
                    have u2 := str_emp e2
                    have w2 := str_nil e2
                    go_wp2
                    go_ret
                    exact ⟨rfl, HBW.out⟩
                · have z2 : true = false → tx = ⟨#[]⟩ := fun h => by cases h
                  cases s6
                  · by_cases e3 : tg = ⟨#[]⟩
                    · have z3 : false = false → tg = ⟨#[]⟩ := fun _ => e3
                      subst e3
                      have u3 := str_emp0
                      obtain rfl : R = 0 := HYD.out (HRI2.out.2 ⟨HI6.out, z0, z1, z2, z3⟩)
                      go_wp2
                      go_ret
                      exact ⟨rfl, HBW.out⟩
                    · obtain rfl : R = 3 := HND.out (fun e => e3 (by have h := HRI2.out.1 e; exact h.2.2.2.2 rfl))
                      have u3 := str_emp e3
                      have w3 := str_nil e3
                      go_wp2
                      go_ret
                      exact ⟨rfl, HBW.out⟩
                  · have z3 : true = false → tg = ⟨#[]⟩ := fun h => by cases h
                    obtain rfl : R = 0 := HYD.out (HRI2.out.2 ⟨HI6.out, z0, z1, z2, z3⟩)
                    go_wp2
                    go_ret
                    exact ⟨rfl, HBW.out⟩
              · obtain rfl : R = 3 := HND.out (fun e => e1 (by have h := HRI2.out.1 e; exact h.2.2.1 rfl))
                have u1 : 0 < (nc : Int) := by omega
                go_wp2
                go_ret
                exact ⟨rfl, HBW.out⟩
            · have z1 : true = false → nc = 0 := fun h => by cases h
              cases s5
              · by_cases e2 : tx = ⟨#[]⟩
                · have z2 : false = false → tx = ⟨#[]⟩ := fun _ => e2
                  subst e2
                  have u2 := str_emp0
                  cases s6
                  · by_cases e3 : tg = ⟨#[]⟩
                    · have z3 : false = false → tg = ⟨#[]⟩ := fun _ => e3
                      subst e3
                      have u3 := str_emp0
                      obtain rfl : R = 0 := HYD.out (HRI2.out.2 ⟨HI6.out, z0, z1, z2, z3⟩)
                      go_wp2
                      go_ret
                      exact ⟨rfl, HBW.out⟩
                    · obtain rfl : R = 3 := HND.out (fun e => e3 (by have h := HRI2.out.1 e; exact h.2.2.2.2 rfl))
                      have u3 := str_emp e3
                      have w3 := str_nil e3
                      go_wp2
                      go_ret
                      exact ⟨rfl, HBW.out⟩
                  · have z3 : true = false → tg = ⟨#[]⟩ := fun h => by cases h
                    obtain rfl : R = 0 := HYD.out (HRI2.out.2 ⟨HI6.out, z0, z1, z2, z3⟩)
                    go_wp2
                    go_ret
                    exact ⟨rfl, HBW.out⟩
                · obtain rfl : R = 3 := HND.out (fun e => e2 (by have h := HRI2.out.1 e; exact h.2.2.2.1 rfl))
                  have u2 := str_emp e2
                  have w2 := str_nil e2
                  go_wp2
                  go_ret
                  exact ⟨rfl, HBW.out⟩
              · have z2 : true = false → tx = ⟨#[]⟩ := fun h => by cases h
                cases s6
                · by_cases e3 : tg = ⟨#[]⟩
                  · have z3 : false = false → tg = ⟨#[]⟩ := fun _ => e3
                    subst e3
                    have u3 := str_emp0
                    obtain rfl : R = 0 := HYD.out (HRI2.out.2 ⟨HI6.out, z0, z1, z2, z3⟩)
                    go_wp2
                    go_ret
                    exact ⟨rfl, HBW.out⟩
                  · obtain rfl : R = 3 := HND.out (fun e => e3 (by have h := HRI2.out.1 e; exact h.2.2.2.2 rfl))
                    have u3 := str_emp e3
                    have w3 := str_nil e3
                    go_wp2
                    go_ret
                    exact ⟨rfl, HBW.out⟩
                · have z3 : true = false → tg = ⟨#[]⟩ := fun h => by cases h
                  obtain rfl : R = 0 := HYD.out (HRI2.out.2 ⟨HI6.out, z0, z1, z2, z3⟩)
                  go_wp2
                  go_ret
                  exact ⟨rfl, HBW.out⟩
end Go.Proofs.Ytnbhiamnoapmlaa

namespace Go.Proofs.Ytnbhiamnoapmlaa
open Go.RowKit Go.Shelf
set_option maxRecDepth 100000
attribute [local go_sem] Oper.semAt_some

set_option maxHeartbeats 16000000 in
theorem rmproject_any (M : Mg) (ap ac : Option Addr) (np nc cp cc : Nat) (v : Int) (w : World) : Calls Try.prog 13 #[mV M (.slice ap np cp) (.slice ac nc cc), .int .i64 v] w fun e w' => e = .returned (mV (mproj M v) (.slice ap np cp) (.slice ac nc cc)) ∧ Below w.heap.size w w' := by
  obtain ⟨G, hG⟩ : ∃ G, mproj M v = G := ⟨_, rfl⟩
  rw [hG]
  unfold mproj at hG
  obtain ⟨w2, hw2⟩ : ∃ w2, w2 = (w.alloc (.cells (mC M (.slice ap np cp) (.slice ac nc cc)) 34)).alloc (.cells (mC (Mg.zero 0) (.slice none 0 0) (.slice none 0 0)) 34) := ⟨_, rfl⟩
  have hs2 : w2.heap.size = w.heap.size + 2 := by rw [hw2]; simp
  have hb2 : Below w.heap.size w w2 := by rw [hw2]; exact ((Below.refl _ w).alloc (Nat.le_refl _) _).alloc (by simp) _
  have q0 : w2.heap[w.heap.size]? = some (.cells (mC M (.slice ap np cp) (.slice ac nc cc)) 34 (0, 0)) := by
    rw [hw2, Below.heap_alloc _ _ _ (by simp)]; exact World.alloc_heap_new _ _
  have q1 : w2.heap[w.heap.size + 1]? = some (.cells (mC (Mg.zero 0) (.slice none 0 0) (.slice none 0 0)) 34 (0, 0)) := by
    have := World.alloc_heap_new (w.alloc (.cells (mC M (.slice ap np cp) (.slice ac nc cc)) 34)) (.cells (mC (Mg.zero 0) (.slice none 0 0) (.slice none 0 0)) 34)
    rw [World.size_alloc] at this
    rw [hw2]; exact this
  have KR := Lib.hid (rall_any M.k)
  unfold mV
  simp only [mC, Mg.zero] at hw2 ⊢
  have HW := Lib.hid hw2
  by_cases hv : v = 1
  case neg =>
    have hvn : (v != 1) = true := by simpa using hv
    rw [if_neg hv] at hG
    subst hG
    obtain ⟨f0, f1, f2, f3, f4, f5, f6, f7, f8, f9, f10⟩ := mg_block q0
    have HR1 := Lib.hid q1
    have HB2 := Lib.hid hb2
    have HR1' := Lib.hid (hw2 ▸ q1)
    clear f0 f1 f2 f3 f4 f5 f6 f7 f8 f9 f10 q0 q1 hb2 hw2 hs2 hv KR
    go_enter Try.func13, Try.ntmps13
    go_wp2_with (refine wpList_store_row rfl 34 (.tmp 4) (.tmp 9) rfl (w.heap.size + 1) #[.int .i64 M.k, .int .i64 M.n0, .int .i64 M.n1, .int .i64 M.n2, .int .i64 M.n3, .int .i64 M.n4, .int .i64 M.n5, .slice ap np cp, .slice ac nc cc, .string M.tx, .string M.tg] rfl rfl 34 _ HR1'.out rmInfo rfl (by simp [Value.oneCell']) ?_)
    rw [← HW.out]
    have hfin := setRow_heap w2 (w.heap.size + 1) _ #[.int .i64 M.k, .int .i64 M.n0, .int .i64 M.n1, .int .i64 M.n2, .int .i64 M.n3, .int .i64 M.n4, .int .i64 M.n5, .slice ap np cp, .slice ac nc cc, .string M.tx, .string M.tg] _ _ HR1.out
    have hoff := Off.setRow (S := fun k => k = w.heap.size + 1) (Off.refl _ w2) rfl #[.int .i64 M.k, .int .i64 M.n0, .int .i64 M.n1, .int .i64 M.n2, .int .i64 M.n3, .int .i64 M.n4, .int .i64 M.n5, .slice ap np cp, .slice ac nc cc, .string M.tx, .string M.tg]
    have hbf := HB2.out.trans (hoff.below (B := w.heap.size) (fun k hk => by omega) HB2.out.size)
    generalize w2.setRow (w.heap.size + 1) _ = Wf at *
    obtain ⟨y0, y1, y2, y3, y4, y5, y6, y7, y8, y9, y10⟩ := mg_block hfin
    refine bodyPost_ret (v := .agg #[.int .i64 M.k, .int .i64 M.n0, .int .i64 M.n1, .int .i64 M.n2, .int .i64 M.n3, .int .i64 M.n4, .int .i64 M.n5, .slice ap np cp, .slice ac nc cc, .string M.tx, .string M.tg]) (by simp [results, Try.results13, go_sem, y0, y1, y2, y3, y4, y5, y6, y7, y8, y9, y10]) rfl ?_
    exact ⟨rfl, hbf⟩
  subst hv
  rw [if_pos rfl] at hG
  have KF := Lib.hid (FD_fdok M.k)
  have h6 := FD_few M.k
  have kk := row_cell q0 0 (.int .i64 M.k) rfl
  rw [hw2] at kk
  have HQ := Lib.hid (And.intro q0 q1)
  have HB2 := Lib.hid hb2
  clear hw2 q0 q1 hb2
  go_enter Try.func13, Try.ntmps13
  go_wp2_with fail
  rw [← HW.out]
  refine (KR.out w2).mono ?_
  intro e w3 hOf
  obtain ⟨A, cA, rfl, hcA, hA, hb3⟩ := hOf
  have p0 := (hb3.block _ (by omega)).trans HQ.out.1
  have p1 := (hb3.block _ (by omega)).trans HQ.out.2
  have hs3 := hb3.size
  have HB3 := Lib.hid (HB2.out.trans (hb3.mono HB2.out.size))
  obtain ⟨L, hL⟩ : ∃ L, FD M.k = L := ⟨_, rfl⟩
  rw [hL] at hG KF h6 hcA hA ⊢
  obtain ⟨n, hn⟩ : ∃ n, L.length = n := ⟨_, rfl⟩
  rw [hn] at h6 hcA ⊢
  have HN := Lib.hid hn
  have HG := Lib.hid hG
  have HA := Lib.hid hA
  have HGE : Hid (∀ g, A = some ⟨g, 0, none⟩ → L ≠ [] → w.heap.size + 2 ≤ g) := Lib.hid (fun g hg hne => by
    obtain ⟨f, r, rfl⟩ := List.exists_cons_of_ne_nil hne
    obtain ⟨g', h1, h2, _⟩ := hA 0 f rfl
    rw [hg] at h1
    injection h1 with h1
    injection h1 with h1
    omega)
  have HP := Lib.hid (And.intro p0 p1)
  clear hL hn hG hA hb3 p0 p1 kk HQ HB2 KR HW
  go_wp2
  go_loopw [6] (fun iv wr => ∃ j : Nat, j ≤ n ∧ iv = .int .i64 (j : Int) ∧ Hid (wr.heap[w.heap.size]? = some (.cells (mC ((L.take j).foldl prj M) (.slice ap np cp) (.slice ac nc cc)) 34 (0, 0))) ∧ Hid (Off (fun q => q = w.heap.size) w3 wr)) (fun iv _ => n - (intOf iv).toNat)
  case atStart => exact ⟨0, by omega, rfl, Lib.hid HP.out.1, Lib.hid (Off.refl _ _)⟩
  case round =>
    obtain ⟨j, hj, rfl, HM, HO⟩ := hrel
    rcases Nat.lt_or_ge j n with hlt | hge
    · obtain ⟨f, hf⟩ : ∃ f, L[j]? = some f := ⟨_, List.getElem?_eq_getElem (by rw [HN.out]; exact hlt)⟩
      obtain ⟨g, rfl, _, hgl, d0, d1, d2, d3, d4, d5, d6⟩ := HA.out.seven hf
      have k := fun q x (hx : w3.cell? ⟨g, q, none⟩ = some x) => HO.out.cell hx (by show ¬ (g = w.heap.size); have := HGE.out g rfl (fun e => by rw [e] at hf; simp at hf); omega)
      have d1 := k _ _ d1
      have d2 := k _ _ d2
      have d3 := k _ _ d3
      have d5 := k _ _ d5
      have d6 := k _ _ d6
      clear k d0 d4
      have ok := KF.out f (List.mem_of_getElem? hf)
      have hst := fold_take hf prj M
      have HST := Lib.hid hst
      have hj2 : (j : Int) < (n : Int) := by omega
      have hnA : (n : Int) ≤ (cA : Int) := by omega
      obtain ⟨Mj, hMj⟩ : ∃ Mj, (L.take j).foldl prj M = Mj := ⟨_, rfl⟩
      rw [hMj] at HM HST
      have hgw : g ≠ w.heap.size := by have := HGE.out g rfl (fun e => by rw [e] at hf; simp at hf); omega
      clear hf hst hMj d3
      by_cases hsi : f.si ≤ 1
      · have hp : prj Mj f = Mj := if_pos hsi
        have q2 : (f.si == 2) = false := by simp; omega
        rw [hp] at HST
        clear hp ok hsi d1 d2 d6
        go_wp2
        exact ⟨⟨j + 1, by omega, by go_num, by rw [HST.out]; exact HM, HO⟩, by simp only [intOf]; omega⟩
      · have hs2' : f.si = 2 := by rcases ok.si with h | h <;> omega
        rw [hs2'] at d5
        by_cases h6 : f.so = 6
        · have hp : prj Mj f = { Mj with tg := ⟨#[]⟩ } := by unfold prj; rw [if_neg hsi, if_pos h6]
          have hno := ok.no (by omega)
          rw [h6] at d1
          rw [hno] at d2
          have c10 := (mg_block HM.out).2.2.2.2.2.2.2.2.2.2
          have z10 := frozen_of_row wr w.heap.size 10 _ _ HM.out
          have HM2 : Hid ((wr.setCell ⟨w.heap.size, 10, none⟩ (.string ⟨#[]⟩)).heap[w.heap.size]? = some (.cells (mC (prj Mj f) (.slice ap np cp) (.slice ac nc cc)) 34 (0, 0))) := Lib.hid (by rw [setCell_at HM.out, hp]; rfl)
          have HO2 := Lib.hid (HO.out.setCell (p := ⟨w.heap.size, 10, none⟩) rfl (.string ⟨#[]⟩))
          clear hp ok hsi hno hs2' d6
          go_wp2
          exact ⟨⟨j + 1, by omega, by go_num, by rw [HST.out]; exact HM2, HO2⟩, by simp only [intOf]; omega⟩
        · have q6 : (f.so == 6) = false := by simpa using h6
          by_cases h3 : f.so < 3
          · obtain ⟨jn, hjn, hpl⟩ := ok.pl h3
            have hp : prj Mj f = Mj.put jn f.ab := by unfold prj; rw [if_neg hsi, if_neg h6, if_pos (by omega), hpl, Int.toNat_natCast]
            rw [hpl] at d2
            have cn := mg_at HM.out hjn
            have zn := frozen_of_row wr w.heap.size (1 + jn) _ _ HM.out
            have HM2 : Hid ((wr.setCell ⟨w.heap.size, 1 + jn, none⟩ (.int .i64 f.ab)).heap[w.heap.size]? = some (.cells (mC (prj Mj f) (.slice ap np cp) (.slice ac nc cc)) 34 (0, 0))) := Lib.hid (by rw [setCell_at HM.out, mC_put hjn, hp])
            have HO2 := Lib.hid (HO.out.setCell (p := ⟨w.heap.size, 1 + jn, none⟩) rfl (.int .i64 f.ab))
            have hj6 : (jn : Int) < 6 := by omega
            clear hp ok hsi hpl hs2' h3 h6
            go_wp2
            go_region
            go_wp2
            exact ⟨⟨j + 1, by omega, by go_num, by rw [HST.out]; exact HM2, Lib.hid (off_below HO2.out ((Below.refl _ _).drew))⟩, by simp only [intOf]; omega⟩
          · have hno := ok.no h3
            have hp : prj Mj f = Mj := by unfold prj; rw [if_neg hsi, if_neg h6, if_neg (by omega)]
            rw [hp] at HST
            rw [hno] at d2
            clear hp ok hsi hno hs2' h3 d6
            go_wp2
            exact ⟨⟨j + 1, by omega, by go_num, by rw [HST.out]; exact HM, HO⟩, by simp only [intOf]; omega⟩
    · obtain rfl : j = n := by omega
      have hm := HM.out
      rw [List.take_of_length_le (by rw [HN.out]; exact Nat.le_refl _), HG.out] at hm
      obtain ⟨f0, f1, f2, f3, f4, f5, f6, f7, f8, f9, f10⟩ := mg_block hm
      have HR1 := Lib.hid ((HO.out.block (w.heap.size + 1) (by omega) (by omega)).trans HP.out.2)
      have HBW := Lib.hid (HB3.out.trans (HO.out.below (B := w.heap.size) (fun k hk => by omega) HB3.out.size))
      clear hm
      go_wp2_with (refine wpList_store_row rfl 34 (.tmp 4) (.tmp 60) rfl (w.heap.size + 1) #[.int .i64 G.k, .int .i64 G.n0, .int .i64 G.n1, .int .i64 G.n2, .int .i64 G.n3, .int .i64 G.n4, .int .i64 G.n5, .slice ap np cp, .slice ac nc cc, .string G.tx, .string G.tg] rfl rfl 34 _ HR1.out rmInfo rfl (by simp [Value.oneCell']) ?_)
      have hfin := setRow_heap wr (w.heap.size + 1) _ #[.int .i64 G.k, .int .i64 G.n0, .int .i64 G.n1, .int .i64 G.n2, .int .i64 G.n3, .int .i64 G.n4, .int .i64 G.n5, .slice ap np cp, .slice ac nc cc, .string G.tx, .string G.tg] _ _ HR1.out
      have hoff := Off.setRow (S := fun k => k = w.heap.size + 1) (Off.refl _ wr) rfl #[.int .i64 G.k, .int .i64 G.n0, .int .i64 G.n1, .int .i64 G.n2, .int .i64 G.n3, .int .i64 G.n4, .int .i64 G.n5, .slice ap np cp, .slice ac nc cc, .string G.tx, .string G.tg]
      have hbf := HBW.out.trans (hoff.below (B := w.heap.size) (fun k hk => by omega) HBW.out.size)
      generalize wr.setRow (w.heap.size + 1) _ = Wf at *
      obtain ⟨y0, y1, y2, y3, y4, y5, y6, y7, y8, y9, y10⟩ := mg_block hfin
      refine bodyPost_ret (v := .agg #[.int .i64 G.k, .int .i64 G.n0, .int .i64 G.n1, .int .i64 G.n2, .int .i64 G.n3, .int .i64 G.n4, .int .i64 G.n5, .slice ap np cp, .slice ac nc cc, .string G.tx, .string G.tg]) (by simp [results, Try.results13, go_sem, y0, y1, y2, y3, y4, y5, y6, y7, y8, y9, y10]) rfl ?_
      exact ⟨rfl, hbf⟩
end Go.Proofs.Ytnbhiamnoapmlaa

namespace Go.Proofs.Ytnbhiamnoapmlaa
open Go.RowKit Go.Shelf
set_option maxRecDepth 100000
attribute [local go_sem] Oper.semAt_some

/-- a message's box b2 of the document's, its lists in rows of its own at base or above -/
structure RnB (b2 base : Nat) (w4 : World) (M : Mg) (V : World) : Prop where
  m : ∃ P C, V.heap[b2]? = some (.cells (mC M P C) 34 (0, 0)) ∧ V.ownsRow base 75 2 P M.p.length ((fl2 M.p).map (Value.int .i64)) ∧ V.ownsRow base 3 1 C M.c.length (M.c.map (Value.int .i64))
  off : Off (fun q => q = b2) w4 V
section
variable {b2 base : Nat} {w4 V V' : World} {M M' : Mg}
theorem RnB.later (h : RnB b2 base w4 M V) (hb : Below V.heap.size V V') : RnB b2 base w4 M V' := by
  obtain ⟨P, C, h1, h2, h3⟩ := h.m
  exact ⟨⟨P, C, (hb.block _ (Array.getElem?_eq_some_iff.1 h1).1).trans h1, own_below7 h2 hb, own_below7 h3 hb⟩, off_below h.off (hb.mono h.off.size)⟩
theorem RnB.set (h : RnB b2 base w4 M V) (hb : b2 < base) (j : Nat) (u : Value) (hM : ∀ P C, V.ownsRow base 75 2 P M.p.length ((fl2 M.p).map (Value.int .i64)) → V.ownsRow base 3 1 C M.c.length (M.c.map (Value.int .i64)) → ∃ P' C', (mC M P C).setIfInBounds j u = mC M' P' C' ∧ V.ownsRow base 75 2 P' M'.p.length ((fl2 M'.p).map (Value.int .i64)) ∧ V.ownsRow base 3 1 C' M'.c.length (M'.c.map (Value.int .i64))) : RnB b2 base w4 M' (V.setCell ⟨b2, j, none⟩ u) := by
  obtain ⟨P, C, h1, h2, h3⟩ := h.m
  obtain ⟨P', C', h4, h5, h6⟩ := hM P C h2 h3
  exact ⟨⟨P', C', by rw [setCell_at h1, h4], ownsRow_setCell_below h5 (a := ⟨b2, j, none⟩) hb _, ownsRow_setCell_below h6 (a := ⟨b2, j, none⟩) hb _⟩, h.off.setCell (p := ⟨b2, j, none⟩) rfl _⟩
theorem RnB.num (h : RnB b2 base w4 M V) (hb : b2 < base) {j : Nat} (hj : j < 6) (v : Int) : RnB b2 base w4 (M.put j v) (V.setCell ⟨b2, 1 + j, none⟩ (.int .i64 v)) :=
  h.set hb (1 + j) (.int .i64 v) (fun P C h1 h2 => ⟨P, C, mC_put hj .., by rw [Mg.put_p]; exact h1, by rw [Mg.put_c]; exact h2⟩)
theorem RnB.at (h : RnB b2 base w4 M V) {j : Nat} (hj : j < 6) : V.cell? ⟨b2, 1 + j, none⟩ = some (.int .i64 (M.at' j)) ∧ V.frozen? ⟨b2, 1 + j, none⟩ = false := by
  obtain ⟨P, C, h1, _⟩ := h.m
  exact ⟨mg_at h1 hj, frozen_of_row V b2 (1 + j) _ _ h1⟩
end
theorem put_put (M : Mg) (j : Nat) (a b : Int) : (M.put j a).put j b = M.put j b := by
  rcases j with _ | _ | _ | _ | _ | _ | j <;> rfl
/-- what New answers -/
def RMR (w : World) (M : Mg) (e : Ending) (w' : World) : Prop := ∃ P C, e = .returned (mV M P C) ∧ MAt w' w'.heap.size M P C ∧ Below w.heap.size w w'
set_option maxHeartbeats 16000000 in
theorem rmnew_any (k : Int) (w : World) : Calls Try.prog 17 #[.int .i64 k] w fun e w' => RMR w (mnew k) e w' := by
  obtain ⟨G, hG⟩ : ∃ G, mnew k = G := ⟨_, rfl⟩
  rw [hG]
  unfold mnew at hG
  obtain ⟨w2, hw2⟩ : ∃ w2, w2 = (w.alloc (.cells (mC (Mg.zero 0) (.slice none 0 0) (.slice none 0 0)) 34)).alloc (.cells (mC (Mg.zero 0) (.slice none 0 0) (.slice none 0 0)) 34) := ⟨_, rfl⟩
  have hs2 : w2.heap.size = w.heap.size + 2 := by rw [hw2]; simp
  have hb2 : Below w.heap.size w w2 := by rw [hw2]; exact ((Below.refl _ w).alloc (Nat.le_refl _) _).alloc (by simp) _
  have q0 : w2.heap[w.heap.size]? = some (.cells (mC (Mg.zero 0) (.slice none 0 0) (.slice none 0 0)) 34 (0, 0)) := by
    rw [hw2, Below.heap_alloc _ _ _ (by simp)]; exact World.alloc_heap_new _ _
  have q1 : w2.heap[w.heap.size + 1]? = some (.cells (mC (Mg.zero 0) (.slice none 0 0) (.slice none 0 0)) 34 (0, 0)) := by
    have := World.alloc_heap_new (w.alloc (.cells (mC (Mg.zero 0) (.slice none 0 0) (.slice none 0 0)) 34)) (.cells (mC (Mg.zero 0) (.slice none 0 0) (.slice none 0 0)) 34)
    rw [World.size_alloc] at this
    rw [hw2]; exact this
  have KR := Lib.hid (rall_any k)
  have KF := Lib.hid (FD_fdok k)
  have h6 := FD_few k
  unfold RMR mV
  simp only [mC, Mg.zero] at hw2 ⊢
  have HW := Lib.hid hw2
  have HQ := Lib.hid (And.intro q0 q1)
  have HB2 := Lib.hid hb2
  clear hw2 q0 q1 hb2
  go_enter Try.func17, Try.ntmps17
  go_wp2_with fail
  rw [← HW.out]
  refine (KR.out w2).mono ?_
  intro e w3 hOf
  obtain ⟨A, cA, rfl, hcA, hA, hb3⟩ := hOf
  have p0 := (hb3.block _ (by omega)).trans HQ.out.1
  have p1 := (hb3.block _ (by omega)).trans HQ.out.2
  have hs3 := hb3.size
  have HB3 := Lib.hid (HB2.out.trans (hb3.mono HB2.out.size))
  obtain ⟨L, hL⟩ : ∃ L, FD k = L := ⟨_, rfl⟩
  rw [hL] at hG KF h6 hcA hA ⊢
  obtain ⟨n, hn⟩ : ∃ n, L.length = n := ⟨_, rfl⟩
  rw [hn] at h6 hcA ⊢
  have HN := Lib.hid hn
  have HG := Lib.hid hG
  have HA := Lib.hid hA
  have HGE : Hid (∀ g, A = some ⟨g, 0, none⟩ → L ≠ [] → w.heap.size + 2 ≤ g) := Lib.hid (fun g hg hne => by
    obtain ⟨f, r, rfl⟩ := List.exists_cons_of_ne_nil hne
    obtain ⟨g', h1, h2, _⟩ := hA 0 f rfl
    rw [hg] at h1
    injection h1 with h1
    injection h1 with h1
    omega)
  have HP := Lib.hid p0
  have HS0 := Lib.hid (show RnB (w.heap.size + 1) w3.heap.size w3 (Mg.zero 0) w3 from ⟨⟨_, _, p1, World.ownsRow_nil _ _ _ _, World.ownsRow_nil _ _ _ _⟩, Off.refl _ _⟩)
  clear hL hn hG hA hb3 p0 p1 HQ HB2 KR HW
  go_wp2
  go_loopw [5] (fun iv wr => ∃ j : Nat, j ≤ n ∧ iv = .int .i64 (j : Int) ∧ Hid (RnB (w.heap.size + 1) w3.heap.size w3 ((L.take j).foldl (nw k) (Mg.zero 0)) wr)) (fun iv _ => n - (intOf iv).toNat)
  case atStart => exact ⟨0, by omega, rfl, HS0⟩
  case round =>
    obtain ⟨j, hj, rfl, HM⟩ := hrel
    rcases Nat.lt_or_ge j n with hlt | hge
    · obtain ⟨f, hf⟩ : ∃ f, L[j]? = some f := ⟨_, List.getElem?_eq_getElem (by rw [HN.out]; exact hlt)⟩
      obtain ⟨g, rfl, _, hgl, d0, d1, d2, d3, d4, d5, d6⟩ := HA.out.seven hf
      have hgw : g ≠ w.heap.size + 1 := by have := HGE.out g rfl (fun e => by rw [e] at hf; simp at hf); omega
      have ok := KF.out f (List.mem_of_getElem? hf)
      have hst := fold_take hf (nw k) (Mg.zero 0)
      have HST := Lib.hid hst
      have hj2 : (j : Int) < (n : Int) := by omega
      have hnA : (n : Int) ≤ (cA : Int) := by omega
      obtain ⟨Mj, hMj⟩ : ∃ Mj, (L.take j).foldl (nw k) (Mg.zero 0) = Mj := ⟨_, rfl⟩
      rw [hMj] at HM HST
      have hnw := nw_eq k Mj f
      have hso := ok.so
      -- the kind is told first
      obtain ⟨V1, hV1⟩ : ∃ V1, wr.setCell ⟨w.heap.size + 1, 0, none⟩ (.int .i64 k) = V1 := ⟨_, rfl⟩
      have hP1 : RnB (w.heap.size + 1) w3.heap.size w3 { Mj with k := k } V1 := by
        rw [← hV1]
        exact HM.out.set (by omega) 0 (.int .i64 k) (fun P C h1 h2 => ⟨P, C, rfl, h1, h2⟩)
      have hz1 : V1.heap.size = wr.heap.size := by rw [← hV1]; simp [World.setCell]
      obtain ⟨P, C, m1, _, _⟩ := HM.out.m
      have c0 := (mg_block m1).1
      have z0 := frozen_of_row wr (w.heap.size + 1) 0 _ _ m1
      have g7 := (mg_block m1).2.2.2.2.2.2.2.1
      have g8 := (mg_block m1).2.2.2.2.2.2.2.2.1
      have y7 := frozen_of_row wr (w.heap.size + 1) 7 _ _ m1
      have y8 := frozen_of_row wr (w.heap.size + 1) 8 _ _ m1
      have hblt := (Array.getElem?_eq_some_iff.1 m1).1
      have hwz := HM.out.off.size
      have kx := fun q x (hx : w3.cell? ⟨g, q, none⟩ = some x) => hP1.off.cell hx (by show ¬ (g = w.heap.size + 1); exact hgw)
      have e1 := kx _ _ d1
      have e2 := kx _ _ d2
      have e3 := kx _ _ d3
      have e5 := kx _ _ d5
      have e6 := kx _ _ d6
      have HV1 := Lib.hid hV1
      have hgwr : g < wr.heap.size := by omega
      clear hf hst hMj kx d0 d1 d2 d3 d4 d5 d6 m1 hV1
      by_cases h3 : f.so = 3
      · rw [if_pos h3] at hnw
        rw [h3] at e1
        have hno := ok.no (by omega)
        rw [hno] at e2
        have hb4' : Below V1.heap.size V1 (V1.alloc (.cells #[.int .i64 0, .int .i64 0] 75)) := (Below.refl _ V1).alloc (Nat.le_refl _) _
        have HP5 := Lib.hid ((hP1.later hb4').set (M' := nw k Mj f) (by omega) 7 (.slice (some ⟨wr.heap.size, 0, none⟩) 1 1) (fun P C h1 h2 => ⟨_, C, by rw [hnw]; rfl, by rw [hnw]; exact own_lit' [.int .i64 0, .int .i64 0] hz1 (by omega) (by unfold maxLen; omega) rfl, by rw [hnw]; exact h2⟩))
        rw [World.setCell_alloc_past _ _ _ _ (by omega)] at HP5
        rw [← HV1.out] at HP5 e1 e2
        clear hP1 hb4' ok hno hnw e3 e5 e6
        go_wp2
        exact ⟨⟨j + 1, by omega, by go_num, by rw [HST.out]; exact HP5⟩, by simp only [intOf]; omega⟩
      by_cases h4 : f.so = 4
      · rw [if_neg (by omega), if_pos h4] at hnw
        rw [h4] at e1
        have hno := ok.no (by omega)
        rw [hno] at e2
        have hb4' : Below V1.heap.size V1 (V1.alloc (.cells #[.int .i64 0] 3)) := (Below.refl _ V1).alloc (Nat.le_refl _) _
        have HP5 := Lib.hid ((hP1.later hb4').set (M' := nw k Mj f) (by omega) 8 (.slice (some ⟨wr.heap.size, 0, none⟩) 1 1) (fun P C h1 h2 => ⟨P, _, by rw [hnw]; rfl, by rw [hnw]; exact h1, by rw [hnw]; exact own_lit' [.int .i64 0] hz1 (by omega) (by unfold maxLen; omega) rfl⟩))
        rw [World.setCell_alloc_past _ _ _ _ (by omega)] at HP5
        rw [← HV1.out] at HP5 e1 e2
        clear hP1 hb4' ok hno hnw e3 e5 e6
        go_wp2
        exact ⟨⟨j + 1, by omega, by go_num, by rw [HST.out]; exact HP5⟩, by simp only [intOf]; omega⟩
      by_cases h12 : f.so = 1 ∨ f.so = 2
      · rw [if_neg h3, if_neg h4, if_pos h12] at hnw
        obtain ⟨jn, hjn, hpl⟩ := ok.pl (by omega)
        rw [hpl, Int.toNat_natCast] at hnw
        rw [hpl] at e2
        have q3 : (f.so == 3) = false := by simp; omega
        have q4 : (f.so == 4) = false := by simp; omega
        have hj6 : (jn : Int) < 6 := by omega
        have hsi := ok.si
        obtain ⟨k1, k2⟩ := hP1.at hjn
        have HP1 := Lib.hid hP1
        have HNW := Lib.hid hnw
        have e1' := e1
        have e2' := e2
        rw [← HV1.out] at e1' e2'
        clear hP1 hnw hpl ok g7 g8 y7 y8
        go_wp2
        rw [HV1.out]
        clear HV1 c0 z0 e1' e2'
        go_region
        obtain ⟨V2, hV2⟩ : ∃ V2, (V1.setCell ⟨w.heap.size + 1, 1 + jn, none⟩ (.int .i64 f.le)).drew = V2 := ⟨_, rfl⟩
        rw [hV2]
        have hP2 : RnB (w.heap.size + 1) w3.heap.size w3 (({ Mj with k := k } : Mg).put jn f.le) V2 := by rw [← hV2]; exact (HP1.out.num (by omega) hjn f.le).later (Below.refl _ _).drew
        have ho2 : Off (fun q => q = w.heap.size + 1) V1 V2 := by rw [← hV2]; exact off_below ((Off.refl (fun q => q = w.heap.size + 1) V1).setCell (p := ⟨w.heap.size + 1, 1 + jn, none⟩) rfl _) (Below.refl _ _).drew
        have kx := fun q x (hx : V1.cell? ⟨g, q, none⟩ = some x) => ho2.cell hx (by show ¬ (g = w.heap.size + 1); exact hgw)
        have e1 := kx _ _ e1
        have e2 := kx _ _ e2
        have e3 := kx _ _ e3
        have e5 := kx _ _ e5
        have e6 := kx _ _ e6
        obtain ⟨k1, k2⟩ := hP2.at hjn
        have HP2 := Lib.hid hP2
        have hblt2 := hP2.off.size
        clear hV2 hP2 ho2 kx HP1
        by_cases hle : f.le < 0
        · have hx := HP2.out.num (by omega) hjn 0
          rw [put_put] at hx
          have HX0 := Lib.hid hx
          have ho3 : Off (fun q => q = w.heap.size + 1) V2 (V2.setCell ⟨w.heap.size + 1, 1 + jn, none⟩ (.int .i64 0)) := (Off.refl (fun q => q = w.heap.size + 1) V2).setCell (p := ⟨w.heap.size + 1, 1 + jn, none⟩) rfl _
          have e6' := ho3.cell e6 (by show ¬ (g = w.heap.size + 1); exact hgw)
          have e2' := ho3.cell e2 (by show ¬ (g = w.heap.size + 1); exact hgw)
          clear hx ho3
          rcases hsi with hsi | hsi
          · rw [hsi] at e5
            have HF : Hid (RnB (w.heap.size + 1) w3.heap.size w3 (nw k Mj f) (V2.setCell ⟨w.heap.size + 1, 1 + jn, none⟩ (.int .i64 0))) := Lib.hid (by
              rw [HNW.out]
              have hv : startV f = 0 := by unfold startV; rw [if_neg (by omega)]; omega
              rw [hv]
              exact HX0.out)
            go_wp2
            exact ⟨⟨j + 1, by omega, by go_num, by rw [HST.out]; exact HF⟩, by simp only [intOf]; omega⟩
          · rw [hsi] at e5
            have HX : Hid (RnB (w.heap.size + 1) w3.heap.size w3 (nw k Mj f) (((V2.setCell ⟨w.heap.size + 1, 1 + jn, none⟩ (.int .i64 0)).setCell ⟨w.heap.size + 1, 1 + jn, none⟩ (.int .i64 f.ab)).drew)) := Lib.hid (by
              rw [HNW.out]
              have hv : startV f = f.ab := by unfold startV; rw [if_pos (by omega)]
              rw [hv]
              have h := (HX0.out).num (by omega) hjn f.ab
              rw [put_put] at h
              exact h.later (Below.refl _ _).drew)
            have eb : (V2.setCell ⟨w.heap.size + 1, 1 + jn, none⟩ (.int .i64 0)).cell? ⟨g, j * 7 + 6, none⟩ = some (.int .i64 f.ab) := e6'
            have e0 : (V2.setCell ⟨w.heap.size + 1, 1 + jn, none⟩ (.int .i64 0)).cell? ⟨g, j * 7 + 2, none⟩ = some (.int .i64 (jn : Int)) := e2'
            have eo := (HX0.out).at hjn
            obtain ⟨v1, v2⟩ := eo
            go_wp2
            go_region
            go_wp2
            exact ⟨⟨j + 1, by omega, by go_num, by rw [HST.out]; exact HX⟩, by simp only [intOf]; omega⟩
        · have hle2 : 0 ≤ f.le := by omega
          rcases hsi with hsi | hsi
          · rw [hsi] at e5
            have HF : Hid (RnB (w.heap.size + 1) w3.heap.size w3 (nw k Mj f) (V2)) := Lib.hid (by
              rw [HNW.out]
              have hv : startV f = f.le := by unfold startV; rw [if_neg (by omega)]; omega
              rw [hv]
              exact HP2.out)
            go_wp2
            exact ⟨⟨j + 1, by omega, by go_num, by rw [HST.out]; exact HF⟩, by simp only [intOf]; omega⟩
          · rw [hsi] at e5
            have HX : Hid (RnB (w.heap.size + 1) w3.heap.size w3 (nw k Mj f) (((V2).setCell ⟨w.heap.size + 1, 1 + jn, none⟩ (.int .i64 f.ab)).drew)) := Lib.hid (by
              rw [HNW.out]
              have hv : startV f = f.ab := by unfold startV; rw [if_pos (by omega)]
              rw [hv]
              have h := (HP2.out).num (by omega) hjn f.ab
              rw [put_put] at h
              exact h.later (Below.refl _ _).drew)
            have eb : (V2).cell? ⟨g, j * 7 + 6, none⟩ = some (.int .i64 f.ab) := e6
            have e0 : (V2).cell? ⟨g, j * 7 + 2, none⟩ = some (.int .i64 (jn : Int)) := e2
            have eo := (HP2.out).at hjn
            obtain ⟨v1, v2⟩ := eo
            go_wp2
            go_region
            go_wp2
            exact ⟨⟨j + 1, by omega, by go_num, by rw [HST.out]; exact HX⟩, by simp only [intOf]; omega⟩
      rw [if_neg h3, if_neg h4, if_neg h12] at hnw
      have hno := ok.no (by omega)
      rw [hno] at e2
      have q3 : (f.so == 3) = false := by simp; omega
      have q4 : (f.so == 4) = false := by simp; omega
      have HF : Hid (RnB (w.heap.size + 1) w3.heap.size w3 (nw k Mj f) (wr.setCell ⟨w.heap.size + 1, 0, none⟩ (.int .i64 k))) := Lib.hid (by rw [HV1.out, hnw]; exact hP1)
      rw [← HV1.out] at e1 e2
      clear hP1 ok hno hnw e3 e5 e6
      go_wp2
      exact ⟨⟨j + 1, by omega, by go_num, by rw [HST.out]; exact HF⟩, by simp only [intOf]; omega⟩
    · obtain rfl : j = n := by omega
      have hP := HM.out
      rw [List.take_of_length_le (by rw [HN.out]; exact Nat.le_refl _), HG.out] at hP
      obtain ⟨P, C, m1, m2, m3⟩ := hP.m
      obtain ⟨a3, cp3, rfl, hcp3, hn3⟩ := nums_of_own m2 (by omega)
      obtain ⟨b3, cb3, rfl, hcb3, hn4⟩ := nums_of_own m3 (by omega)
      obtain ⟨np, hnp⟩ : ∃ np, G.p.length = np := ⟨_, rfl⟩
      obtain ⟨nc, hnc⟩ : ∃ nc, G.c.length = nc := ⟨_, rfl⟩
      rw [hnp, hnc] at m1
      rw [hnp] at m2
      rw [hnc] at m3
      obtain ⟨f0, f1, f2, f3, f4, f5, f6, f7, f8, f9, f10⟩ := mg_block m1
      have HR1 := Lib.hid ((hP.off.block w.heap.size (by omega) (by omega)).trans HP.out)
      have HBW := Lib.hid (HB3.out.trans (hP.off.below (B := w.heap.size) (fun k hk => by omega) HB3.out.size))
      have HOR := Lib.hid (And.intro m2 m3)
      have HNP := Lib.hid (And.intro hnp hnc)
      clear m1 m2 m3 hP hcp3 hcb3 hn3 hn4 hnp hnc
      go_wp2_with (refine wpList_store_row rfl 34 (.tmp 2) (.tmp 82) rfl w.heap.size #[.int .i64 G.k, .int .i64 G.n0, .int .i64 G.n1, .int .i64 G.n2, .int .i64 G.n3, .int .i64 G.n4, .int .i64 G.n5, .slice a3 np cp3, .slice b3 nc cb3, .string G.tx, .string G.tg] rfl rfl 34 _ HR1.out rmInfo rfl (by simp [Value.oneCell']) ?_)
      have hfin := setRow_heap wr w.heap.size _ #[.int .i64 G.k, .int .i64 G.n0, .int .i64 G.n1, .int .i64 G.n2, .int .i64 G.n3, .int .i64 G.n4, .int .i64 G.n5, .slice a3 np cp3, .slice b3 nc cb3, .string G.tx, .string G.tg] _ _ HR1.out
      have hoff := Off.setRow (S := fun k => k = w.heap.size) (Off.refl _ wr) rfl #[.int .i64 G.k, .int .i64 G.n0, .int .i64 G.n1, .int .i64 G.n2, .int .i64 G.n3, .int .i64 G.n4, .int .i64 G.n5, .slice a3 np cp3, .slice b3 nc cb3, .string G.tx, .string G.tg]
      have hbf := HBW.out.trans (hoff.below (B := w.heap.size) (fun k hk => by omega) HBW.out.size)
      have ho1 := own_offM HOR.out.1 hoff (fun g hg e => by have := (HOR.out.1.lt g hg).1; omega)
      have ho2 := own_offM HOR.out.2 hoff (fun g hg e => by have := (HOR.out.2.lt g hg).1; omega)
      generalize wr.setRow w.heap.size _ = Wf at *
      obtain ⟨y0, y1, y2, y3, y4, y5, y6, y7, y8, y9, y10⟩ := mg_block hfin
      refine bodyPost_ret (v := .agg #[.int .i64 G.k, .int .i64 G.n0, .int .i64 G.n1, .int .i64 G.n2, .int .i64 G.n3, .int .i64 G.n4, .int .i64 G.n5, .slice a3 np cp3, .slice b3 nc cb3, .string G.tx, .string G.tg]) (by simp [results, Try.results17, go_sem, y0, y1, y2, y3, y4, y5, y6, y7, y8, y9, y10]) rfl ?_
      obtain ⟨hnp, hnc⟩ := HNP.out
      obtain ⟨_, _, e1, e2, e3⟩ := nums_of_own ho1 (by omega)
      obtain ⟨_, _, e4, e5, e6⟩ := nums_of_own ho2 (by omega)
      refine ⟨_, _, rfl, ⟨⟨_, _, by rw [hnp]; exact e1, by rw [hnp]; exact e2, e3⟩, ⟨_, _, by rw [hnc]; exact e4, by rw [hnc]; exact e5, e6⟩⟩, hbf⟩
end Go.Proofs.Ytnbhiamnoapmlaa

namespace Go.Proofs.Ytnbhiamnoapmlaa
open Go.RowKit
section
variable {P : Program} {l : List Oper} {I : World → Prop} {fs : List Tmp} {FS : Tmp → Value → World → Prop} {E : Act → Prop} {o : Oper} {rest : List Oper} {a : Act}
/-- an operation that enters no function and looks at a value that is known by what it is good for alone -/
theorem wpF_useval (s : Tmp) (j : Nat) (v : Value) (hs : s ∈ fs) (hj : (l[j]?).bind (·.dst) = some s) (hje : (o.after.any fun e => Region.binds .any e && e.on == j) = true)
    (hn : ((o.looksAt l.toArray).all fun d => !fs.contains d || d == s) = true) (hdst : (match o.dst with | some d => !fs.contains d | none => true) = true) (hw : ∀ x, Region.wanted o (yielded l.toArray (a.put (some s) x).tmps) = true)
    (hrun : ∀ x w, I w → FS s x w → (execOp (a.put (some s) x).eval o).run P w = .ok (.value v) w) (h : wpF P l.toArray I fs FS E rest (a.put o.dst v)) : wpF P l.toArray I fs FS E (o :: rest) a := by
  refine ⟨v, .inr (.inr (.inl ⟨s, hs, ⟨j, by simpa using hj, hje⟩, fun d hd hf => ?_, fun d hd hf => ?_, fun x w hI hx => ⟨hw x, ?_⟩⟩)), h⟩
  · rw [List.all_eq_true] at hn
    have := hn d hd
    simpa [hf] using this
  · rw [hd] at hdst
    simp [hf] at hdst
  · rw [hrun x w hI hx]
    exact ⟨rfl, rfl⟩
end
end Go.Proofs.Ytnbhiamnoapmlaa

namespace Go.Proofs.Ytnbhiamnoapmlaa
open Go.RowKit Go.Shelf
set_option maxRecDepth 100000
attribute [local go_sem] Oper.semAt_some

theorem mproj_p (M : Mg) (v : Int) : (mproj M v).p = M.p := by
  unfold mproj
  split
  · exact fold_prj_p _ _
  · rfl
theorem mproj_c (M : Mg) (v : Int) : (mproj M v).c = M.c := by
  unfold mproj
  split
  · exact fold_prj_c _ _
  · rfl
theorem prj_small {M : Mg} (h : Msm M) (f : Fd) : Msm (prj M f) := by
  refine ⟨by rw [prj_p]; exact h.p, by rw [prj_c]; exact h.c, ?_, ?_⟩
  · unfold prj
    repeat' split
    · exact h.tx
    · exact h.tx
    · rw [Mg.put_tx]; exact h.tx
    · exact h.tx
  · unfold prj
    repeat' split
    · exact h.tg
    · exact Nat.zero_le _
    · rw [Mg.put_tg]; exact h.tg
    · exact h.tg
theorem fold_prj_small : ∀ (L : List Fd) {M : Mg}, Msm M → Msm (L.foldl prj M)
  | [], _, h => h
  | f :: r, _, h => by rw [List.foldl_cons]; exact fold_prj_small r (prj_small h f)
theorem mproj_small {M : Mg} (h : Msm M) (v : Int) : Msm (mproj M v) := by
  unfold mproj
  split
  · exact fold_prj_small _ h
  · exact h
theorem mnew_small (k : Int) : Msm (mnew k) := by
  rcases kind_ways k with rfl | rfl | rfl | rfl | rfl | ⟨h1, h2, h3, h4, h5⟩
  case' inr.inr.inr.inr.inr => rw [show mnew k = Mg.zero 0 by unfold mnew; rw [show FD k = [] by simp [FD, raw, h1, h2, h3, h4, h5, pls]]; rfl]
  all_goals exact ⟨by decide, by decide, by decide, by decide⟩
/-- a message that a call has made -/
def FMs (M : Mg) (x : Value) (W : World) : Prop := ∃ P C, x = mV M P C ∧ MAt W W.heap.size M P C
theorem FMs.later {M : Mg} {x : Value} {W W' : World} (h : FMs M x W) (hb : Below W.heap.size W W') : FMs M x W' := by
  obtain ⟨P, C, h1, h2⟩ := h
  exact ⟨P, C, h1, h2.later hb⟩
/-- .. once more: a fact of the call alone -/
def AnsF (M : Mg) (W : World) (e : Ending) (w' : World) : Prop := ∃ u, e = .returned u ∧ FMs M u w' ∧ Below W.heap.size W w'
section
variable {M M' : Mg} {x y : Value} {W : World}
theorem cut_F {B : Nat} {P C : Value} (hB : B ≤ W.heap.size) (h : MAt W B M P C) : Calls Try.prog 7 #[mV M P C] W fun e w' => ∃ u, e = .returned u ∧ (∃ M P C, Msm M ∧ u = mV M P C ∧ MAt w' B M P C) ∧ Below W.heap.size W w' := by
  obtain ⟨⟨a, c, rfl, h1, h2⟩, ⟨a', c', rfl, h3, h4⟩⟩ := h
  refine (mcut_any M a a' _ _ c c' W rfl rfl h1 h3 B hB h2 h4).mono fun e w' h => ?_
  obtain ⟨M, P, C, rfl, hs, hm, hb⟩ := h
  exact ⟨_, rfl, ⟨M, P, C, hs, rfl, hm⟩, hb⟩
theorem of_F (hs : Msm M) (h : FMs M x W) : Calls Try.prog 11 #[x] W fun e w' => ∃ u, e = .returned u ∧ FMs M u w' ∧ Below W.heap.size W w' := by
  obtain ⟨P, C, rfl, h1⟩ := h
  refine (mof_any M P C W hs h1).mono fun e w' h => ?_
  obtain ⟨P', rfl, ho, hb⟩ := h
  obtain ⟨a, c, g1, g2, g3⟩ := nums_of_own ho (by omega)
  exact ⟨_, rfl, ⟨P', C, rfl, ⟨a, c, g1, g2, g3⟩, (h1.later hb).c⟩, hb⟩
theorem chk_F (hs : Msm M) (h : FMs M x W) : Calls Try.prog 8 #[x] W fun e w' => e = .returned (.int .i64 (mck M)) ∧ Below W.heap.size W w' := by
  obtain ⟨P, C, rfl, h1⟩ := h
  exact mcheck_any M P C W hs h1
theorem proj_F (v : Int) (hs : Msm M) (h : FMs M x W) : Calls Try.prog 9 #[x, .int .i64 v] W fun e w' => ∃ u, e = .returned u ∧ FMs (mproj M v) u w' ∧ Below W.heap.size W w' := by
  obtain ⟨P, C, rfl, h1⟩ := h
  refine (mproject_any M P C v W hs h1).mono fun e w' h => ?_
  obtain ⟨P, C, rfl, ho, hb⟩ := h
  exact ⟨_, rfl, ⟨P, C, rfl, ho.at⟩, hb⟩
theorem same_F (hs : Msm M) (h : FMs M x W) (h' : FMs M' y W) : Calls Try.prog 14 #[x, y] W fun e w' => e = .returned (.bool (decide (M = M'))) ∧ Below W.heap.size W w' := by
  obtain ⟨P, C, rfl, h1⟩ := h
  obtain ⟨P', C', rfl, h2⟩ := h'
  exact msame_any M M' P C P' C' W hs h1 h2
theorem new_F (k : Int) : Calls Try.prog 15 #[.int .i64 k] W fun e w' => ∃ u, e = .returned u ∧ FMs (mnew k) u w' ∧ Below W.heap.size W w' := by
  refine (mnew_any k W).mono fun e w' h => ?_
  obtain ⟨P, C, rfl, ho, hb⟩ := h
  exact ⟨_, rfl, ⟨P, C, rfl, ho.at⟩, hb⟩
theorem rchk_F (hs : Msm M) (h : FMs M x W) : Calls Try.prog 10 #[x] W fun e w' => e = .returned (.int .i64 (mck M)) ∧ Below W.heap.size W w' := by
  obtain ⟨P, C, rfl, h1⟩ := h
  exact rmcheck_any M P C W hs h1
theorem rproj_F (v : Int) (h : FMs M x W) : Calls Try.prog 13 #[x, .int .i64 v] W fun e w' => ∃ u, e = .returned u ∧ FMs (mproj M v) u w' ∧ Below W.heap.size W w' := by
  obtain ⟨P, C, rfl, ⟨⟨a, c, rfl, h1, h2⟩, ⟨a', c', rfl, h3, h4⟩⟩⟩ := h
  refine (rmproject_any M a a' _ _ c c' v W).mono fun e w' h => ?_
  obtain ⟨rfl, hb⟩ := h
  refine ⟨_, rfl, ⟨_, _, rfl, ⟨a, c, by rw [mproj_p], by rw [mproj_p]; exact h1, ?_⟩, ⟨a', c', by rw [mproj_c], by rw [mproj_c]; exact h3, ?_⟩⟩, hb⟩
  · rw [mproj_p]; exact (h2.below hb).mono hb.size
  · rw [mproj_c]; exact (h4.below hb).mono hb.size
theorem rsame_F (hs : Msm M) (h : FMs M x W) (h' : FMs M' y W) : Calls Try.prog 12 #[x, y] W fun e w' => e = .returned (.bool (decide (M = M'))) ∧ Below W.heap.size W w' := by
  obtain ⟨P, C, rfl, h1⟩ := h
  obtain ⟨P', C', rfl, h2⟩ := h'
  exact rmsame_any M M' P C P' C' W hs h1 h2
theorem rnew_F (k : Int) : Calls Try.prog 17 #[.int .i64 k] W fun e w' => ∃ u, e = .returned u ∧ FMs (mnew k) u w' ∧ Below W.heap.size W w' := by
  refine (rmnew_any k W).mono fun e w' h => ?_
  obtain ⟨P, C, rfl, ho, hb⟩ := h
  exact ⟨_, rfl, ⟨P, C, rfl, ho⟩, hb⟩
theorem copy_F (hs : Msm M) (h : FMs M x W) : Calls Try.prog 18 #[x] W fun e w' => ∃ u, e = .returned u ∧ FMs M u w' ∧ Below W.heap.size W w' := by
  obtain ⟨P, C, rfl, h1⟩ := h
  refine (mcopy_any M P C W hs h1).mono fun e w' h => ?_
  obtain ⟨P, C, rfl, ho, hb⟩ := h
  exact ⟨_, rfl, ⟨P, C, rfl, ho.at⟩, hb⟩
end
/-- a message's box, read -/
theorem mg_read {W : World} {b : Nat} {M : Mg} {P C : Value} {t : TypeId} (h : W.heap[b]? = some (.cells (mC M P C) t (0, 0))) :
    (Instr.loadAt 26 (.pointer (some ⟨b, 0, none⟩))).run Try.prog W = .ok (mV M P C) W := by
  obtain ⟨f0, f1, f2, f3, f4, f5, f6, f7, f8, f9, f10⟩ := mg_block h
  simp [Instr.loadAt, go_sem, f0, f1, f2, f3, f4, f5, f6, f7, f8, f9, f10, mV, mC]
end Go.Proofs.Ytnbhiamnoapmlaa

namespace Go.Proofs.Ytnbhiamnoapmlaa
open Go.RowKit Go.Shelf
set_option maxRecDepth 100000
attribute [local go_sem] Oper.semAt_some

section
variable {P : Program} {l : List Oper} {fs : List Tmp} {FS : Tmp → Value → World → Prop} {I : World → Prop} {E : Act → Prop} {o : Oper} {rest : List Oper} {a : Act}
/-- a load that its guard passes over -/
theorem wpF_skipY (hn : noB l.toArray fs o = true) (hw : Region.wanted o (yielded l.toArray a.tmps) = false) (h : wpF P l.toArray I fs FS E rest (a.put o.dst undef)) : wpF P l.toArray I fs FS E (o :: rest) a := by
  obtain ⟨h1, h2⟩ := noB_spec hn
  exact ⟨undef, .inl ⟨h1, h2, .inr ⟨hw, rfl⟩⟩, h⟩
end
/-- a message's numbers -/
def nsC (M : Mg) : Array Value := #[.int .i64 M.n0, .int .i64 M.n1, .int .i64 M.n2, .int .i64 M.n3, .int .i64 M.n4, .int .i64 M.n5]
theorem nsC_at {j : Nat} (hj : j < 6) (M : Mg) : (nsC M)[j]? = some (.int .i64 (M.at' j)) := by
  rcases j with _ | _ | _ | _ | _ | _ | j <;> first | rfl | omega

theorem two_new (w1 : World) (A B : Array Value) (T S : TypeId) (w2 : World) (h : ((w1.alloc (.cells A T)).alloc (.cells B S)).drew = w2) : w2.heap[w1.heap.size]? = some (.cells A T (0, 0)) ∧ w2.heap[w1.heap.size + 1]? = some (.cells B S (0, 0)) ∧ Below w1.heap.size w1 w2 := by
  subst h
  refine ⟨(Below.heap_alloc _ _ _ (by simp)).trans (World.alloc_heap_new _ _), ?_, (((Below.refl _ w1).alloc (Nat.le_refl _) _).alloc (by simp) _).drew⟩
  have := World.alloc_heap_new (w1.alloc (.cells A T)) (.cells B S)
  rwa [World.size_alloc] at this

theorem mnums_any (M : Mg) (P C : Value) (w : World) : Calls Try.prog 20 #[mV M P C] w fun e w' => ∃ g h, e = .returned (.func (.func 37) #[] #[.pointer (some ⟨g, 0, none⟩), .pointer (some ⟨h, 0, none⟩)]) ∧
    w.heap.size ≤ g ∧ w.heap.size ≤ h ∧ w'.heap[g]? = some (.cells #[.int .i64 M.k] 3 (0, 0)) ∧ w'.heap[h]? = some (.cells (nsC M) 22 (0, 0)) ∧ Below w.heap.size w w' := by
  obtain ⟨w1, hw1⟩ : ∃ w1, w.alloc (.cells (mC M P C) 26) = w1 := ⟨_, rfl⟩
  have hb1 : Below w.heap.size w w1 := by rw [← hw1]; exact (Below.refl _ w).alloc (Nat.le_refl _) _
  have hs1 : w1.heap.size = w.heap.size + 1 := by rw [← hw1]; simp
  have q0 : w1.heap[w.heap.size]? = some (.cells (mC M P C) 26 (0, 0)) := by rw [← hw1]; exact World.alloc_heap_new _ _
  obtain ⟨f0, f1, f2, f3, f4, f5, f6, -, -, -, -⟩ := mg_block q0
  have HW1 := Lib.hid hw1
  clear hw1 q0
  unfold mV mC at *
  go_enter Try.func20, Try.ntmps20
  go_wp2_with fail
  rw [HW1.out]
  go_region
  · obtain ⟨w2, hw2⟩ : ∃ w2, ((w1.alloc (.cells #[.int .i64 M.k] 3)).alloc (.cells #[.int .i64 M.n0, .int .i64 M.n1, .int .i64 M.n2, .int .i64 M.n3, .int .i64 M.n4, .int .i64 M.n5] 22)).drew = w2 := ⟨_, rfl⟩
    obtain ⟨q1, q2, hb2⟩ := two_new w1 _ _ _ _ w2 hw2
    rw [hw2]
    rw [hs1] at q1 q2
    have HF := Lib.hid (And.intro q1 (And.intro q2 hb2))
    clear f0 f1 f2 f3 f4 f5 f6 hw2 q1 q2 hb2 HW1
    go_wp2
    go_ret
    obtain ⟨q1, q2, hb2⟩ := HF.out
    exact ⟨_, _, rfl, by omega, by omega, q1, q2, hb1.trans (hb2.mono (by omega))⟩
  · obtain ⟨w2, hw2⟩ : ∃ w2, ((w1.alloc (.cells #[.int .i64 M.n0, .int .i64 M.n1, .int .i64 M.n2, .int .i64 M.n3, .int .i64 M.n4, .int .i64 M.n5] 22)).alloc (.cells #[.int .i64 M.k] 3)).drew = w2 := ⟨_, rfl⟩
    obtain ⟨q1, q2, hb2⟩ := two_new w1 _ _ _ _ w2 hw2
    rw [hw2]
    rw [hs1] at q1 q2
    have HF := Lib.hid (And.intro q1 (And.intro q2 hb2))
    clear f0 f1 f2 f3 f4 f5 f6 hw2 q1 q2 hb2 HW1
    go_wp2
    go_ret
    obtain ⟨q1, q2, hb2⟩ := HF.out
    exact ⟨_, _, rfl, by omega, by omega, q2, q1, hb1.trans (hb2.mono (by omega))⟩

/-- all cells that lie from lo on are as they were -/
structure KeC (lo : Nat) (A B : World) : Prop where
  size : A.heap.size ≤ B.heap.size
  same : ∀ (q : Nat) (cs : Array Value) (t : TypeId), lo ≤ q → A.heap[q]? = some (.cells cs t (0, 0)) → B.heap[q]? = A.heap[q]?
section
variable {lo : Nat} {A B C : World}
theorem KeC.refl (A : World) : KeC lo A A := ⟨Nat.le_refl _, fun _ _ _ _ _ => rfl⟩
theorem KeC.trans (h : KeC lo A B) (k : KeC lo B C) : KeC lo A C := ⟨Nat.le_trans h.size k.size, fun q cs t hq hA => (k.same q cs t hq ((h.same q cs t hq hA).trans hA)).trans (h.same q cs t hq hA)⟩
theorem KeC.of_below (h : Below A.heap.size A B) : KeC lo A B := ⟨h.size, fun q _ _ _ hA => h.block q (Array.getElem?_eq_some_iff.1 hA).1⟩
theorem KeC.block (h : KeC lo A B) {q : Nat} {cs : Array Value} {t : TypeId} (hq : lo ≤ q) (hA : A.heap[q]? = some (.cells cs t (0, 0))) : B.heap[q]? = some (.cells cs t (0, 0)) := (h.same q cs t hq hA).trans hA
theorem KeC.putObj {l : Nat} {o o' : Obj} (ho : A.heap[l]? = some o) (hc : o.isCells = false) : KeC lo A (A.putObj l o') := ⟨by simp [World.putObj], fun q cs t _ hA => World.putObj_heap_other (fun e => by
  subst e
  rw [ho] at hA
  injection hA with hA
  subst hA
  cases hc)⟩
theorem KeC.setCell (h : KeC lo A B) {p : Addr} (hp : p.block < lo) (u : Value) : KeC lo A (B.setCell p u) := ⟨by have := h.size; simpa [World.setCell] using this, fun q cs t hq hA => (Below.heap_setCell B p u q (by omega)).trans (h.same q cs t hq hA)⟩
theorem KeC.keT {lo' : Nat} (h : KeC lo A B) (hl : lo ≤ lo') (tf ti : TypeId) : KeT tf ti lo' A B := ⟨h.size, fun q cs t hq _ hA => h.same q cs t (Nat.le_trans hl hq) hA⟩
end

set_option maxHeartbeats 8000000 in
theorem numbers_in (n : Nat) (hn5 : 5 ≤ n) (m' l g h s0 lo : Nat) (M : Mg) (Dn : Nat → World → Prop) (Bk X : World → Prop) (hlo : lo ≤ s0) (hls : l < s0 + 2)
    (hDb : ∀ j A B, Dn j A → Below s0 A B → Dn j B)
    (hBk : ∀ A B, Bk A → A.heap.size ≤ B.heap.size → (∀ k, s0 ≤ k → k < s0 + 2 → B.heap[k]? = A.heap[k]?) → Bk B) (hBlt : ∀ A, Bk A → s0 + 2 ≤ A.heap.size)
    (hX : ∀ A l' o o', X A → s0 + 2 ≤ l' → A.heap[l']? = some o → o.isCells = false → X (A.putObj l' o'))
    (hS : ∀ j f A, Dn j A → (FD M.k)[j]? = some f → f.pl < 0 → Dn (j + 1) A)
    (hY : ∀ j f V, Dn j V → (FD M.k)[j]? = some f → 0 ≤ f.pl → Bk V → YieldAt Fence.wide m' Try.prog l #[.string f.nm, .int .i64 (M.at' f.pl.toNat)] V (YPost s0 l (KeC lo) (fun W2 => Dn (j + 1) W2 ∧ Bk W2) X V))
    (W : World) (hg : W.heap[g]? = some (.cells #[.int .i64 M.k] 3 (0, 0))) (hh : W.heap[h]? = some (.cells (nsC M) 22 (0, 0))) (hlh : lo ≤ h) (hD0 : Dn 0 W) (hB0 : Bk W) :
    CallsIn Fence.wide n Try.prog 37 #[.func (.yield l) #[] #[], .pointer (some ⟨g, 0, none⟩), .pointer (some ⟨h, 0, none⟩)] W fun e W' => (∃ v, e = .returned v) ∧ ((Dn (FD M.k).length W' ∧ Bk W') ∨ X W') := by
  have hn1 : 1 ≤ n := by omega
  have hsW := hBlt W hB0
  have hgl := (Array.getElem?_eq_some_iff.1 hg).1
  have hhl := (Array.getElem?_eq_some_iff.1 hh).1
  obtain ⟨L, hL⟩ : ∃ L, FD M.k = L := ⟨_, rfl⟩
  rw [hL] at hS hY ⊢
  have HF2 := Lib.hid (FDv_two M.k)
  rw [hL] at HF2
  have HL := Lib.hid hL
  clear hL
  refine callsIn_of_wp_marks Try.func37 rfl trivial ?_ rfl
  simp only [Try.ntmps37, List.size_toArray, List.length_cons, List.length_nil, Nat.reduceAdd, Nat.reduceSub, Array.replicate_succ, Array.replicate_zero, List.push_toArray, List.append_toArray, List.nil_append, List.cons_append]
  obtain ⟨w1, hw1⟩ : ∃ w1, W.alloc (.cells #[.func (.yield l) #[] #[]] 79) = w1 := ⟨_, rfl⟩
  have hs1 : W.heap.size + 1 ≤ w1.heap.size := by rw [← hw1]; simp
  have hb1 : Below W.heap.size W w1 := by rw [← hw1]; exact (Below.refl _ W).alloc (Nat.le_refl _) _
  have hyb : w1.heap[W.heap.size]? = some (.cells #[.func (.yield l) #[] #[]] 79 (0, 0)) := by rw [← hw1]; exact World.alloc_heap_new _ _
  have hg1 := (hb1.block _ hgl).trans hg
  have hh1 := (hb1.block _ hhl).trans hh
  have c0 : w1.cell? ⟨g, 0, none⟩ = some (.int .i64 M.k) := by simp [World.cell?, hg1]
  have HW1 := Lib.hid hw1
  rw [← hw1] at c0
  clear hw1
  gi_wp2_with fail
  refine wpIn_wide.2 (wp_scope_straight ((wpIn_wide (n := n)).1 ?_))
  gi_wp2_with fail
  apply wpIn_label
  gi_wp2_with fail
  refine ⟨trivial, ?_⟩
  rw [HW1.out]
  refine (callsIn_wide.2 (fall_any M.k 2 w1)).mono ?_
  rintro e w2 ⟨rfl, hg2, hg3, hb12⟩
  have hs2 : w1.heap.size + 2 ≤ w2.heap.size := (Array.getElem?_eq_some_iff.1 hg3).1
  clear c0 HW1 hg1
  have hyb2 := (hb12.block _ (by omega)).trans hyb
  have hh2 := (hb12.block _ (by omega)).trans hh1
  have hb2 := hb1.trans (hb12.mono (by omega))
  have hsb : s0 ≤ W.heap.size := by omega
  have hD2 := hDb 0 _ _ hD0 (hb2.mono hsb)
  have hB2 : Bk w2 := hBk _ _ hB0 hb2.size (fun k _ h2 => hb2.block k (by omega))
  obtain ⟨BX, hBX⟩ : ∃ BX : World → Prop, BX = fun V => w2.heap.size ≤ V.heap.size ∧ V.heap[W.heap.size]? = some (.cells #[.func (.yield l) #[] #[]] 79 (0, 0)) ∧ V.heap[h]? = some (.cells (nsC M) 22 (0, 0)) := ⟨_, rfl⟩
  have hBX0 : ∀ V, BX V → w2.heap.size ≤ V.heap.size ∧ V.cell? ⟨W.heap.size, 0, none⟩ = some (.func (.yield l) #[] #[]) ∧ V.heap[h]? = some (.cells (nsC M) 22 (0, 0)) := fun V hV => by
    rw [hBX] at hV
    exact ⟨hV.1, by simp [World.cell?, hV.2.1], hV.2.2⟩
  have hBXb : ∀ V V', BX V → Below w2.heap.size V V' → BX V' := fun V V' h hb => by
    rw [hBX] at h ⊢
    exact ⟨Nat.le_trans h.1 hb.size, (hb.block _ (by omega)).trans h.2.1, (hb.block _ (by omega)).trans h.2.2⟩
  have hBXk : ∀ V V', BX V → KeC lo V V' → BX V' := fun V V' h hk => by
    rw [hBX] at h ⊢
    exact ⟨Nat.le_trans h.1 hk.size, hk.block (by omega) h.2.1, hk.block hlh h.2.2⟩
  have hBX2 : BX w2 := by rw [hBX]; exact ⟨Nat.le_refl _, hyb2, hh2⟩
  have hW1b : ∀ j V, Dn j V ∧ Bk V ∧ BX V ∧ (j = 0 → Below w2.heap.size w2 V) → ∀ V', Below w2.heap.size V V' → Dn j V' ∧ Bk V' ∧ BX V' ∧ (j = 0 → Below w2.heap.size w2 V') := fun j V h V' hb =>
    ⟨hDb _ _ _ h.1 (hb.mono (by omega)), hBk _ _ h.2.1 hb.size (fun k _ h2 => hb.block k (by omega)), hBXb _ _ h.2.2.1 hb, fun h0 => (h.2.2.2 h0).trans hb⟩
  clear hyb hyb2 hh2 hh1 hb1 hb12 hb2 hBX hh hg
  gi_wp2_with fail
  refine range_stopb rfl hn1 (gf := 39) (lb := #[.pointer (some ⟨w1.heap.size, 0, none⟩), .pointer (some ⟨w1.heap.size + 1, 0, none⟩)]) rfl trivial (enters_of Try.func39 (by kernel_rfl) rfl)
    (fun f : Fd => #[f.v]) (fun _ => rfl)
    (fun j f V => (Dn j V ∧ Bk V ∧ BX V ∧ (j = 0 → Below w2.heap.size w2 V)) ∧ L[j]? = some f)
    (fun j f q V => ((Dn j V ∧ Bk V ∧ BX V ∧ (j = 0 → Below w2.heap.size w2 V)) ∧ L[j]? = some f) ∧ w2.heap.size ≤ q ∧ V.heap[q]? = some (.cells f.cs 65 (0, 0)))
    (fun j V => Dn j V ∧ Bk V ∧ BX V ∧ (j = 0 → Below w2.heap.size w2 V))
    (fun cd V => cd = .exit 0 ∧ X V) (KeC lo) L.length
    (fun j f q V l' o o' h hl' ho hc' => ⟨⟨hW1b j V h.1.1 _ (below_put V o' hl'), h.1.2⟩, h.2.1, (World.putObj_heap_other (fun e => by subst e; rw [h.2.2] at ho; injection ho with ho; subst ho; cases hc')).trans h.2.2⟩)
    (fun j V l' o o' h hl' ho hc' => hW1b j V h _ (below_put V o' hl'))
    (fun cd V l' o o' h hl' ho hc' => ⟨h.1, hX V l' o o' h.2 (by omega) ho hc'⟩)
    (fun _ _ _ h k => h.trans k) (fun V l' o o' hl' ho hc' => KeC.putObj ho hc')
    (fun o => hW1b 0 w2 ⟨hD2, hB2, hBX2, fun _ => Below.refl _ _⟩ _ (((Below.refl w2.heap.size w2).alloc (Nat.le_refl _) _).alloc (by simp) _)) ?round ?iter ?done ?stop
  case round =>
    rintro l' j f V K ⟨hV, hf⟩ hj hK
    have HK := Lib.hid hK
    clear hK
    have hVs := (hBX0 V hV.2.2.1).1
    unfold Fd.v Fd.cs
    gi_wp2_with fail
    have hba : Below V.heap.size V (V.alloc (.cells #[.string f.nm, .int .i64 f.so, .int .i64 f.pl, .int .i64 f.le, .int .i64 f.mo, .int .i64 f.si, .int .i64 f.ab] 65)) := (Below.refl _ V).alloc (Nat.le_refl _) _
    refine HK.out _ V.heap.size _ ⟨⟨hW1b j V hV _ (hba.mono hVs), hf⟩, hVs, World.alloc_heap_new _ _⟩ ⟨by simp, fun q o _ ho _ => (Below.heap_alloc _ _ _ (Array.getElem?_eq_some_iff.1 ho).1).trans ho⟩ (KeC.of_below hba) ?_
    clear HK hV hVs hba
    rintro l'' V2 hl ⟨⟨hV2, _⟩, hq, hc⟩
    generalize V.heap.size = q at *
    obtain ⟨hsV, kY, kN⟩ := hBX0 V2 hV2.2.2.1
    obtain ⟨d0, d1, d2, d3, d4, d5, d6⟩ := fd_block hc
    have hok := FD_fdok M.k f (by rw [HL.out]; exact List.mem_of_getElem? hf)
    by_cases hpl : 0 ≤ f.pl
    · obtain ⟨jj, hj6, hjj⟩ : ∃ jj : Nat, jj < 6 ∧ f.pl = (jj : Int) := by
        by_cases h3 : f.so < 3
        · exact hok.pl h3
        · exact absurd (hok.no h3) (by omega)
      have hyd := hY j f
      rw [hjj] at hyd d2 hpl
      rw [Int.toNat_natCast] at hyd
      have hz1 : (jj : Int) < 6 := by omega
      have kn : V2.cell? ⟨h, jj, none⟩ = some (.int .i64 (M.at' jj)) := row_cell kN jj _ (nsC_at hj6 M)
      have hql := (Array.getElem?_eq_some_iff.1 hc).1
      have hyl := block_of_cell kY
      have hnl := block_of_cell kn
      simp only at hyl hnl
      have L2 : ∀ V', Below V2.heap.size V2 V' → (Instr.loadAt 3 (.pointer (some ⟨q, 2, none⟩))).run Try.prog V' = .ok (.int .i64 (jj : Int)) V' := fun V' hb => by
        have k1 := (hb.cell (p := ⟨q, 2, none⟩) hql).trans d2
        simp [Instr.loadAt, go_sem, k1]
      have L0 : ∀ V', Below V2.heap.size V2 V' → (Instr.loadAt 9 (.pointer (some ⟨q, 0, none⟩))).run Try.prog V' = .ok (.string f.nm) V' := fun V' hb => by
        have k1 := (hb.cell (p := ⟨q, 0, none⟩) hql).trans d0
        simp [Instr.loadAt, go_sem, k1]
      have LY : ∀ V', Below V2.heap.size V2 V' → (Instr.loadAt 79 (.pointer (some ⟨W.heap.size, 0, none⟩))).run Try.prog V' = .ok (.func (.yield l) #[] #[]) V' := fun V' hb => by
        have k1 := (hb.cell (p := ⟨W.heap.size, 0, none⟩) hyl).trans kY
        simp [Instr.loadAt, go_sem, k1]
      have LN : ∀ V', Below V2.heap.size V2 V' → (Instr.loadAt 3 (.pointer (some ⟨h, jj, none⟩))).run Try.prog V' = .ok (.int .i64 (M.at' jj)) V' := fun V' hb => by
        have k1 := (hb.cell (p := ⟨h, jj, none⟩) hnl).trans kn
        simp [Instr.loadAt, go_sem, k1]
      have HV := Lib.hid hV2
      have HF := Lib.hid hf
      have HYD := Lib.hid hyd
      clear hV2 hf hyd d0 d1 d2 d3 d4 d5 d6 hjj hok kY kN kn hD2 hB2 hBX2 hc hql hyl hnl
      gi_wp2_with fail
      refine wpIn_region_FT 22 11 [] (fun _ _ _ => True) (fun V' => Below V2.heap.size V2 V') (by kernel_rfl) (by kernel_rfl) (by rfl) (by kernel_rfl) (by kernel_rfl) (by kernel_rfl) (by rfl) (by simp) (fun W W' h hb => h.trans (hb.mono h.size)) (fun _ _ _ _ _ _ => trivial) (Below.refl _ _).drew (by rfl) ?_
      simp only [List.take_succ_cons, List.take_zero, List.drop_succ_cons, List.drop_zero]
      repeat (refine wpF_pure rfl rfl ?_; go_big_quiet_step (fail); refine wpQuiet_nil ?_)
      refine wpF_load (ad := ⟨q, 2, none⟩) (.int .i64 (jj : Int)) rfl (by rfl) (by rfl) (by rfl) L2 ?_
      simp only [Act.put, List.setIfInBounds_toArray, List.set_cons_succ, List.set_cons_zero]
      repeat (refine wpF_pure rfl rfl ?_; go_big_quiet_step (fail); refine wpQuiet_nil ?_)
      refine wpF_load (ad := ⟨W.heap.size, 0, none⟩) (.func (.yield l) #[] #[]) rfl (by rfl) (by rfl) (by rfl) LY ?_
      simp only [Act.put, List.setIfInBounds_toArray, List.set_cons_succ, List.set_cons_zero]
      repeat (refine wpF_pure rfl rfl ?_; go_big_quiet_step (fail); refine wpQuiet_nil ?_)
      refine wpF_load (ad := ⟨q, 0, none⟩) (.string f.nm) rfl (by rfl) (by rfl) (by rfl) L0 ?_
      simp only [Act.put, List.setIfInBounds_toArray, List.set_cons_succ, List.set_cons_zero]
      repeat (refine wpF_pure rfl rfl ?_; go_big_quiet_step (fail); refine wpQuiet_nil ?_)
      refine wpF_load (ad := ⟨q, 2, none⟩) (.int .i64 (jj : Int)) rfl (by rfl) (by rfl) (by rfl) L2 ?_
      simp only [Act.put, List.setIfInBounds_toArray, List.set_cons_succ, List.set_cons_zero]
      repeat (refine wpF_pure rfl rfl ?_; go_big_quiet_step (fail); refine wpQuiet_nil ?_)
      refine wpF_load (ad := ⟨h, jj, none⟩) (.int .i64 (M.at' jj)) rfl (by rfl) (by rfl) (by rfl) LN ?_
      simp only [Act.put, List.setIfInBounds_toArray, List.set_cons_succ, List.set_cons_zero]
      intro xs V3 hb3 _
      simp only [fill]
      obtain ⟨hDV3, hBV3, hXV3, _⟩ := hW1b j V2 HV.out V3 (hb3.mono hsV)
      have hyld := HYD.out V3 hDV3 HF.out hpl hBV3
      obtain ⟨fn, tmps, assign, body, hyr, hR⟩ := yield_any (n - 1 - 1 - 1) hyld
      have HR := Lib.hid hR
      have HB3 := Lib.hid hb3
      have HX3 := Lib.hid hXV3
      clear hR hyld hDV3 hBV3 hXV3 hb3 L2 L0 LY LN
      gi_wp2_with fail
      refine ⟨fun _ => by omega, ?_⟩
      refine RoundIn.mono (F := Fence.wide.inRound l'') HR.out ?_
      rintro e V4 (⟨rfl, ⟨hd, hb⟩, hk, hkb⟩ | ⟨rfl, hx, hkb⟩)
      · have hX4 := hBXk _ _ HX3.out hk
        have hfin := Lib.hid (show KeepsFrom w2.heap.size V2 V4 ∧ (Dn (j + 1) V4 ∧ Bk V4 ∧ BX V4 ∧ (j + 1 = 0 → Below w2.heap.size w2 V4)) ∧ KeC lo V2 V4 from
          ⟨⟨Nat.le_trans HB3.out.size hkb.size, fun q o h1 h2 h3 => hkb.same q o (by omega) (by omega) ((HB3.out.block q (Array.getElem?_eq_some_iff.1 h2).1).trans h2) h3⟩, ⟨hd, hb, hX4, fun h => by omega⟩, (KeC.of_below HB3.out).trans hk⟩)
        clear hd hb hk hkb hX4 HR
        gi_wp2
        exact hfin.out
      · have hfin := Lib.hid (show KeepsFrom w2.heap.size V2 V4 ∧ X V4 from
          ⟨⟨Nat.le_trans HB3.out.size hkb.size, fun q o h1 h2 h3 => hkb.same q o (by omega) (by omega) ((HB3.out.block q (Array.getElem?_eq_some_iff.1 h2).1).trans h2) h3⟩, hx⟩)
        clear hx hkb HR
        gi_wp2
        exact ⟨hfin.out.1, rfl, hfin.out.2⟩
    · have hz1 : f.pl < 0 := by omega
      have hm1 : f.pl = -1 := by
        by_cases h3 : f.so < 3
        · obtain ⟨jj, _, e⟩ := hok.pl h3
          omega
        · exact hok.no h3
      rw [hm1] at d2
      have hql := (Array.getElem?_eq_some_iff.1 hc).1
      have L2 : ∀ V', Below V2.heap.size V2 V' → (Instr.loadAt 3 (.pointer (some ⟨q, 2, none⟩))).run Try.prog V' = .ok (.int .i64 (-1)) V' := fun V' hb => by
        have k1 := (hb.cell (p := ⟨q, 2, none⟩) hql).trans d2
        simp [Instr.loadAt, go_sem, k1]
      have HV := Lib.hid hV2
      have HS := Lib.hid (hS j f V2 hV2.1 hf hz1)
      clear hV2 hf hm1 hz1 hpl d0 d1 d2 d3 d4 d5 d6 hok kY kN hD2 hB2 hBX2 hc hql
      gi_wp2_with fail
      refine wpIn_region_FT 22 11 [] (fun _ _ _ => True) (fun V' => Below V2.heap.size V2 V') (by kernel_rfl) (by kernel_rfl) (by rfl) (by kernel_rfl) (by kernel_rfl) (by kernel_rfl) (by rfl) (by simp) (fun W W' h hb => h.trans (hb.mono h.size)) (fun _ _ _ _ _ _ => trivial) (Below.refl _ _).drew (by rfl) ?_
      simp only [List.take_succ_cons, List.take_zero, List.drop_succ_cons, List.drop_zero]
      repeat (refine wpF_pure rfl rfl ?_; go_big_quiet_step (fail); refine wpQuiet_nil ?_)
      refine wpF_load (ad := ⟨q, 2, none⟩) (.int .i64 (-1)) rfl (by rfl) (by rfl) (by rfl) L2 ?_
      simp only [Act.put, List.setIfInBounds_toArray, List.set_cons_succ, List.set_cons_zero]
      repeat (refine wpF_pure rfl rfl ?_; go_big_quiet_step (fail); refine wpQuiet_nil ?_)
      refine wpF_skipY rfl (by rfl) ?_
      simp only [Act.put, List.setIfInBounds_toArray, List.set_cons_succ, List.set_cons_zero]
      refine wpF_skipY rfl (by rfl) ?_
      simp only [Act.put, List.setIfInBounds_toArray, List.set_cons_succ, List.set_cons_zero]
      refine wpF_skipY rfl (by rfl) ?_
      simp only [Act.put, List.setIfInBounds_toArray, List.set_cons_succ, List.set_cons_zero]
      refine wpF_skipY rfl (by rfl) ?_
      simp only [Act.put, List.setIfInBounds_toArray, List.set_cons_succ, List.set_cons_zero]
      refine wpF_skipY rfl (by rfl) ?_
      simp only [Act.put, List.setIfInBounds_toArray, List.set_cons_succ, List.set_cons_zero]
      refine wpF_skipY rfl (by rfl) ?_
      simp only [Act.put, List.setIfInBounds_toArray, List.set_cons_succ, List.set_cons_zero]
      refine wpF_skipY rfl (by rfl) ?_
      simp only [Act.put, List.setIfInBounds_toArray, List.set_cons_succ, List.set_cons_zero]
      intro xs V3 hb3 _
      simp only [fill]
      obtain ⟨h1, h2, h3, h4⟩ := hW1b j V2 HV.out V3 (hb3.mono hsV)
      have hb3' := hb3
      have hfin := Lib.hid (show KeepsFrom w2.heap.size V2 V3 ∧ (Dn (j + 1) V3 ∧ Bk V3 ∧ BX V3 ∧ (j + 1 = 0 → Below w2.heap.size w2 V3)) ∧ KeC lo V2 V3 from
        ⟨⟨hb3.size, fun q o _ h2 _ => (hb3.block q (Array.getElem?_eq_some_iff.1 h2).1).trans h2⟩, ⟨hDb _ _ _ HS.out (hb3.mono (by omega)), h2, h3, fun h => by omega⟩, KeC.of_below hb3⟩)
      clear h1 h2 h3 h4 hb3 hb3' HV HS L2
      gi_wp2_with fail
      refine ⟨fun f hf => (by cases hf), ?_⟩
      gi_wp2
      exact hfin.out
  case iter =>
    intro Bk2 X2 l2 V hBk2 hBlt2 hX2 hl2 hD hB hYV
    have h := fall_in (n - 1) (by omega) (n - 1 - 1) l2 w1.heap.size M.k 2 (fun j V => (Dn j V ∧ Bk V ∧ BX V ∧ (j = 0 → Below w2.heap.size w2 V)) ∧ Bk2 V) X2
      (fun j A B h hb => ⟨hW1b j A h.1 B (hb.mono (hBX0 A h.1.2.2.1).1), hBk2 A _ h.2 hb.size (fun q h1 h2 => by have := hBlt2 A h.2; exact hb.block q (by omega))⟩)
      (fun j f W h hf => by
        rw [HF2.out] at hf
        exact (hYV j f W ⟨h.1, hf⟩ h.2 (List.getElem?_eq_some_iff.1 hf).1).mono (fun e W2 h => h.elim (fun h => .inl ⟨h.1, h.2.1, h.2.2.1.keT (by omega) _ _⟩) (fun h => .inr ⟨h.1, h.2.1⟩)))
      V (((hD.2.2.2 rfl).block _ (by omega)).trans hg2) (((hD.2.2.2 rfl).block _ (by omega)).trans hg3) ⟨hD, hB⟩
    rw [HF2.out] at h
    exact h
  case done =>
    rintro D V hD ⟨hDV, hBV, hXV, _⟩ hK
    have hfin := Lib.hid (And.intro (hDb _ _ _ hDV (below_put V (.deferred none) (by omega : s0 ≤ D))) (hBk _ _ hBV (by simp [World.putObj]) (fun k _ h2 => World.putObj_heap_other (by omega)) : Bk (V.putObj D (.deferred none))))
    clear hDV hBV hD2 hB2
    gi_wp2
    refine ⟨by simp, .inl ⟨_, _, rfl, run_takeDeferred hK, ?_⟩⟩
    refine ⟨_, results_none rfl _ _ _, ?_⟩
    exact ⟨⟨_, rfl⟩, .inl hfin.out⟩
  case stop =>
    rintro D cd V hD ⟨rfl, hx⟩ hK
    have hfin := Lib.hid (hX V D _ (.deferred none) hx (by omega) hK rfl)
    clear hx
    gi_wp2
    refine ⟨by simp, .inl ⟨_, _, rfl, run_takeDeferred hK, ?_⟩⟩
    refine ⟨_, results_none rfl _ _ _, ?_⟩
    exact ⟨⟨_, rfl⟩, .inr hfin.out⟩
end Go.Proofs.Ytnbhiamnoapmlaa

namespace Go.Proofs.Ytnbhiamnoapmlaa
open Go.RowKit Go.Shelf
set_option maxRecDepth 100000
attribute [local go_sem] Oper.semAt_some

/-- the literal []int{} -/
theorem wp_build0 {o : Oper} {a : Act} {w : World} {K : Act → World → Prop} {Q : Exit → Act → World → Prop} (ho : o.op = .buildSlice 24 0 #[])
    (h : K (a.put o.dst (.slice (some ⟨w.heap.size, 0, none⟩) 0 0)) (w.alloc (.cells #[] 3))) : o.wp Try.prog a w K Q := by
  have hr : (execOp a.eval o).run Try.prog w = .ok (.value (.slice (some ⟨w.heap.size, 0, none⟩) 0 0)) (w.alloc (.cells #[] 3)) := by
    unfold execOp
    simp only [ho]
    simp [go_sem]
  unfold Oper.wp
  rw [hr]
  exact h
theorem wpList_build0 {ops : Array Oper} {rest : List Oper} {o : Oper} {a : Act} {w : World} {Q : Exit → Act → World → Prop} (hg : o.guard = none) (ho : o.op = .buildSlice 24 0 #[]) (d : Option Tmp) (hd : o.dst = d) (N : Nat) (hN : w.heap.size = N)
    (h : wpList Try.prog ops Q rest (a.put d (.slice (some ⟨N, 0, none⟩) 0 0)) (w.alloc (.cells #[] 3))) : wpList Try.prog ops Q (o :: rest) a w :=
  wpList_plain hg fun _ hK => wp_build0 ho (hK _ _ (by rw [hd, hN]; exact h))
/-- a row of numbers of the call's own, whatever they are -/
def Row (H : Nat) (V : World) (T : TypeId) (s n : Nat) (v : Value) : Prop := ∃ xs : List Int, V.ownsRow H T s v n (xs.map (Value.int .i64))
section
variable {H : Nat} {V V' : World} {T : TypeId} {s n : Nat} {v : Value}
theorem Row.set (h : Row H V T s n v) (b j : Nat) (z : Int) : Row H (V.setCell ⟨b, j, none⟩ (.int .i64 z)) T s n v := by
  obtain ⟨xs, h1, h2⟩ := h
  rcases h2 with ⟨rfl, h0⟩ | ⟨g, cap, cur, rfl, hg, hh, r1, r2, r3, r4⟩
  · exact ⟨xs, h1, .inl ⟨rfl, h0⟩⟩
  · by_cases e : g = b
    · subst e
      refine ⟨xs.set j z, by simpa using h1, .inr ⟨g, cap, _, rfl, hg, setCell_at hh, r1, r2, by simpa using r3, ?_⟩⟩
      rw [Array.toList_setIfInBounds, List.take_set, r4, List.map_set]
    · exact ⟨xs, ownsRow_setCell_other ⟨h1, .inr ⟨g, cap, cur, rfl, hg, hh, r1, r2, r3, r4⟩⟩ (by simp [Value.ownBlock]; exact e) _⟩
theorem Row.offM {S : Nat → Prop} (h : Row H V T s n v) (hf : Off S V V') (hn : ∀ g, v.ownBlock = some g → ¬ S g) : Row H V' T s n v := by
  obtain ⟨xs, h⟩ := h
  exact ⟨xs, own_offM h hf hn⟩
theorem Row.later (h : Row H V T s n v) (hb : Below V.heap.size V V') : Row H V' T s n v := by
  obtain ⟨xs, h1, h2⟩ := h
  refine ⟨xs, h1, ?_⟩
  rcases h2 with h2 | ⟨g, cap, cur, hv, hg, hh, r⟩
  · exact .inl h2
  · exact .inr ⟨g, cap, cur, hv, hg, (hb.block g (Array.getElem?_eq_some_iff.1 hh).1).trans hh, r⟩
/-- the block of a row of elements -/
theorem Row.open (h : Row H V T s n v) {i : Nat} (hi : i < n) : ∃ g cap cur, v = .slice (some ⟨g, 0, none⟩) n cap ∧ H ≤ g ∧ V.heap[g]? = some (.cells cur T (0, 0)) ∧ n * s ≤ cur.size := by
  obtain ⟨xs, h1, h2⟩ := h
  rcases h2 with ⟨rfl, h0⟩ | ⟨g, cap, cur, rfl, hg, hh, r1, r2, r3, r4⟩
  · omega
  · exact ⟨g, cap, cur, rfl, hg, hh, by rw [r3]; exact Nat.mul_le_mul_right s r1⟩
theorem Row.slice (h : Row H V T s n v) : ∃ a cap, v = .slice a n cap := by
  obtain ⟨xs, h1, h2⟩ := h
  rcases h2 with ⟨rfl, h0⟩ | ⟨g, cap, cur, rfl, hg, hh, r1, r2, r3, r4⟩
  · exact ⟨none, 0, by rw [h0]⟩
  · exact ⟨_, _, rfl⟩
/-- a row's block is no box -/
theorem Row.not_box (h : Row H V T s n v) {g : Nat} {cs : Array Value} (hb : V.heap[g]? = some (.cells cs 26 (0, 0))) (hT : T ≠ 26) : ∀ q, v.ownBlock = some q → q ≠ g := by
  obtain ⟨xs, h1, h2⟩ := h
  intro q hq e
  subst e
  rcases h2 with ⟨rfl, h0⟩ | ⟨g, cap, cur, rfl, hg, hh, _⟩
  · cases hq
  · injection hq with hq
    subst hq
    rw [hh] at hb
    injection hb with hb
    injection hb with _ hb
    exact hT hb
end
/-- boxes of messages, the rows that hang on them, and what lies below -/
structure ApI (H : Nat) (w5 : World) (Bx : List (Nat × Array Value)) (R : List (TypeId × Nat × Nat × Value)) (V : World) : Prop where
  box : ∀ q ∈ Bx, H ≤ q.1 ∧ V.heap[q.1]? = some (.cells q.2 26 (0, 0))
  row : ∀ q ∈ R, q.1 ≠ 26 ∧ Row H V q.1 q.2.1 q.2.2.1 q.2.2.2
  off : Off (fun k => H ≤ k) w5 V
section
variable {H : Nat} {w5 V V' : World} {Bx : List (Nat × Array Value)} {R : List (TypeId × Nat × Nat × Value)}
theorem ApI.set (h : ApI H w5 Bx R V) {b j : Nat} {cur : Array Value} {T : TypeId} (hb : V.heap[b]? = some (.cells cur T (0, 0))) (hT : T ≠ 26) (hH : H ≤ b) (z : Int) : ApI H w5 Bx R (V.setCell ⟨b, j, none⟩ (.int .i64 z)) := by
  refine ⟨fun q hq => ⟨(h.box q hq).1, ?_⟩, fun q hq => ⟨(h.row q hq).1, (h.row q hq).2.set b j z⟩, h.off.setCell (p := ⟨b, j, none⟩) hH _⟩
  have hq2 := (h.box q hq).2
  refine (Below.heap_setCell V ⟨b, j, none⟩ _ q.1 (fun e => ?_)).trans hq2
  rw [e] at hq2
  rw [hb] at hq2
  injection hq2 with hq2
  injection hq2 with _ hq2
  exact hT hq2
theorem ApI.drew (h : ApI H w5 Bx R V) : ApI H w5 Bx R V.drew := ⟨h.box, h.row, ⟨h.off.os, h.off.tape, h.off.output, h.off.size, h.off.block⟩⟩
theorem ApI.drewN (h : ApI H w5 Bx R V) (n : Nat) : ApI H w5 Bx R (V.drewN n) := ⟨h.box, h.row, ⟨h.off.os, h.off.tape, h.off.output, h.off.size, h.off.block⟩⟩
/-- one element's number is written -/
theorem ApI.store (h : ApI H w5 Bx R V) {T : TypeId} {s n : Nat} {v : Value} (hq : (T, s, n, v) ∈ R) {i d : Nat} (hi : i < n) (hd : d < s) {g cap : Nat} (hv : v = .slice (some ⟨g, 0, none⟩) n cap) (z : Int) :
    (Instr.storeAt 3 (.pointer (some ⟨g, i * s + d, none⟩)) (.int .i64 z)).run Try.prog V = .ok () (V.setCell ⟨g, i * s + d, none⟩ (.int .i64 z)) ∧ ApI H w5 Bx R (V.setCell ⟨g, i * s + d, none⟩ (.int .i64 z)) := by
  obtain ⟨hT, hr⟩ := h.row _ hq
  dsimp only at hT hr
  obtain ⟨g', cap', cur, e, hg, hh, hn⟩ := hr.open hi
  rw [hv] at e
  injection e with e
  injection e with e
  injection e with e
  subst e
  have hlt : i * s + d < cur.size := by
    have h1 : (i + 1) * s ≤ n * s := Nat.mul_le_mul_right s hi
    rw [Nat.succ_mul] at h1
    omega
  have hc : V.cell? ⟨g, i * s + d, none⟩ = some cur[i * s + d] := row_cell hh _ _ (Array.getElem?_eq_getElem hlt)
  have hz := frozen_of_row V g (i * s + d) _ _ hh
  exact ⟨by simp [Instr.storeAt, go_sem, hc, hz], h.set hh hT hg z⟩
end
/-- a box of a message, whose lists are the call's own -/
def BoxO (H g : Nat) (W : World) : Prop := H ≤ g ∧ ∃ M P C, W.heap[g]? = some (.cells (mC M P C) 26 (0, 0)) ∧ Msm M ∧ MOwn H W M P C
theorem mown_box {H g : Nat} {W : World} {M : Mg} {P C : Value} {cs : Array Value} (h : MOwn H W M P C) (hb : W.heap[g]? = some (.cells cs 26 (0, 0))) (arr : Array Value) : MOwn H (W.setRow g arr) M P C := by
  have hoff := Off.setRow (S := fun k => k = g) (Off.refl _ W) rfl arr
  exact ⟨own_offM h.p hoff (fun q hq e => Row.not_box ⟨_, h.p⟩ hb (by decide) q hq e), own_offM h.c hoff (fun q hq e => Row.not_box ⟨_, h.c⟩ hb (by decide) q hq e)⟩
theorem BoxO.store {H g g' : Nat} {W : World} {M : Mg} {P C : Value} {cs : Array Value} (h : BoxO H g' W) (hb : W.heap[g]? = some (.cells cs 26 (0, 0))) (hs : Msm M) (ho : MOwn H W M P C) : BoxO H g' (W.setRow g (mC M P C)) := by
  obtain ⟨hH, M', P', C', h1, h2, h3⟩ := h
  by_cases e : g' = g
  · subst e
    exact ⟨hH, M, P, C, setRow_heap W _ _ _ _ _ hb, hs, mown_box ho hb _⟩
  · exact ⟨hH, M', P', C', (setRow_other _ _ _ _ e).trans h1, h2, mown_box h3 hb _⟩
/-- two boxes, one perhaps the other, each stored whole -/
theorem two_boxes {H g6 g7 : Nat} {wA : World} {M6 M7 : Mg} {P6 C6 P7 C7 : Value} {cs6 cs7 : Array Value} (hc6 : wA.heap[g6]? = some (.cells cs6 26 (0, 0))) (hc7 : (wA.setRow g6 (mC M6 P6 C6)).heap[g7]? = some (.cells cs7 26 (0, 0)))
    (hg6 : H ≤ g6) (hg7 : H ≤ g7) (hs6 : Msm M6) (hs7 : Msm M7) (ho6 : MOwn H wA M6 P6 C6) (ho7 : MOwn H wA M7 P7 C7) :
    BoxO H g6 ((wA.setRow g6 (mC M6 P6 C6)).setRow g7 (mC M7 P7 C7)) ∧ BoxO H g7 ((wA.setRow g6 (mC M6 P6 C6)).setRow g7 (mC M7 P7 C7)) ∧ Off (fun k => H ≤ k) wA ((wA.setRow g6 (mC M6 P6 C6)).setRow g7 (mC M7 P7 C7)) := by
  have h7 := mown_box ho7 hc6 (mC M6 P6 C6)
  have b6 : BoxO H g6 (wA.setRow g6 (mC M6 P6 C6)) := ⟨hg6, M6, P6, C6, setRow_heap wA _ _ _ _ _ hc6, hs6, mown_box ho6 hc6 _⟩
  exact ⟨b6.store hc7 hs7 h7, ⟨hg7, M7, P7, C7, setRow_heap _ _ _ _ _ _ hc7, hs7, mown_box h7 hc7 _⟩, Off.setRow (S := fun k => H ≤ k) (Off.setRow (S := fun k => H ≤ k) (Off.refl _ wA) hg6 _) hg7 _⟩
end Go.Proofs.Ytnbhiamnoapmlaa

namespace Go.Proofs.Ytnbhiamnoapmlaa
open Go.RowKit Go.Shelf
set_option maxRecDepth 100000
attribute [local go_sem] Oper.semAt_some

theorem run_min3 (ts : Array TypeId) (t : TypeId) (x y z r : Int) (h : min (min x y) z = r) (W : World) : (Builtin.min_ ts t #[.int .i64 x, .int .i64 y, .int .i64 z]).run Try.prog W = .ok (.int .i64 r) W := by
  have h1 : (if y < x then y else x) = min x y := by split <;> omega
  have h2 : ∀ k : Int, (if z < k then z else k) = min k z := fun k => by split <;> omega
  simp only [Builtin.min_, Builtin.min2, List.foldlM, Sem.run_bind, Sem.run_pure, Result.andThen, h1, h2, h]
theorem setM_small {M : Mg} (h : Msm M) (nm : ByteArray) (v : Int) : Msm (setM M nm v) := by
  refine ⟨by rw [setM_p]; exact h.p, by rw [setM_c]; exact h.c, ?_, ?_⟩
  · unfold setM
    split
    · rw [Mg.put_tx]; exact h.tx
    · exact h.tx
  · unfold setM
    split
    · rw [Mg.put_tg]; exact h.tg
    · exact h.tg
/-- a box of the document's message, read -/
theorem mr_read {W : World} {b : Nat} {M : Mg} {P C : Value} {t : TypeId} (h : W.heap[b]? = some (.cells (mC M P C) t (0, 0))) :
    (Instr.loadAt 34 (.pointer (some ⟨b, 0, none⟩))).run Try.prog W = .ok (mV M P C) W := by
  obtain ⟨f0, f1, f2, f3, f4, f5, f6, f7, f8, f9, f10⟩ := mg_block h
  simp [Instr.loadAt, go_sem, f0, f1, f2, f3, f4, f5, f6, f7, f8, f9, f10, mV, mC]
/-- three boxes of messages, and their lists -/
def Tri (H : Nat) (w9 : World) (g6 g7 g8 : Nat) (M6 M7 M8 : Mg) (P6 P7 P8 C6 C7 C8 : Value) (V : World) : Prop :=
  ApI H w9 [(g6, mC M6 P6 C6), (g7, mC M7 P7 C7), (g8, mC M8 P8 C8)]
    [(57, 2, M6.p.length, P6), (57, 2, M7.p.length, P7), (57, 2, M8.p.length, P8), (3, 1, M6.c.length, C6), (3, 1, M7.c.length, C7), (3, 1, M8.c.length, C8)] V
section
variable {H g6 g7 g8 : Nat} {w9 V : World} {M6 M7 M8 : Mg} {P6 P7 P8 C6 C7 C8 : Value}
theorem tri_make (h6 : BoxO H g6 V) (h7 : BoxO H g7 V) (h8 : BoxO H g8 V) (hO : Off (fun k => H ≤ k) w9 V) :
    ∃ M6 M7 M8 P6 P7 P8 C6 C7 C8, Msm M6 ∧ Msm M7 ∧ Msm M8 ∧ Tri H w9 g6 g7 g8 M6 M7 M8 P6 P7 P8 C6 C7 C8 V := by
  obtain ⟨k6, M6, P6, C6, b6, s6, o6⟩ := h6
  obtain ⟨k7, M7, P7, C7, b7, s7, o7⟩ := h7
  obtain ⟨k8, M8, P8, C8, b8, s8, o8⟩ := h8
  refine ⟨M6, M7, M8, P6, P7, P8, C6, C7, C8, s6, s7, s8, ?_, ?_, hO⟩
  · intro q hq
    simp only [List.mem_cons, List.not_mem_nil, or_false] at hq
    rcases hq with rfl | rfl | rfl
    · exact ⟨k6, b6⟩
    · exact ⟨k7, b7⟩
    · exact ⟨k8, b8⟩
  · intro q hq
    simp only [List.mem_cons, List.not_mem_nil, or_false] at hq
    rcases hq with rfl | rfl | rfl | rfl | rfl | rfl
    · exact ⟨(by decide : (57 : TypeId) ≠ 26), _, o6.p⟩
    · exact ⟨(by decide : (57 : TypeId) ≠ 26), _, o7.p⟩
    · exact ⟨(by decide : (57 : TypeId) ≠ 26), _, o8.p⟩
    · exact ⟨(by decide : (3 : TypeId) ≠ 26), _, o6.c⟩
    · exact ⟨(by decide : (3 : TypeId) ≠ 26), _, o7.c⟩
    · exact ⟨(by decide : (3 : TypeId) ≠ 26), _, o8.c⟩
theorem Tri.box6 (h : Tri H w9 g6 g7 g8 M6 M7 M8 P6 P7 P8 C6 C7 C8 V) : V.heap[g6]? = some (.cells (mC M6 P6 C6) 26 (0, 0)) := (ApI.box h (g6, mC M6 P6 C6) (by simp)).2
theorem Tri.box7 (h : Tri H w9 g6 g7 g8 M6 M7 M8 P6 P7 P8 C6 C7 C8 V) : V.heap[g7]? = some (.cells (mC M7 P7 C7) 26 (0, 0)) := (ApI.box h (g7, mC M7 P7 C7) (by simp)).2
theorem Tri.box8 (h : Tri H w9 g6 g7 g8 M6 M7 M8 P6 P7 P8 C6 C7 C8 V) : V.heap[g8]? = some (.cells (mC M8 P8 C8) 26 (0, 0)) := (ApI.box h (g8, mC M8 P8 C8) (by simp)).2
/-- a third box, new and stored whole -/
theorem BoxO.later {g : Nat} {W W' : World} (h : BoxO H g W) (hb : Below W.heap.size W W') : BoxO H g W' := by
  obtain ⟨h1, M, P, C, h2, h3, h4⟩ := h
  exact ⟨h1, M, P, C, (hb.block _ (Array.getElem?_eq_some_iff.1 h2).1).trans h2, h3, h4.later hb⟩
theorem box_third {wC : World} {b : Nat} {Z : Array Value} {S : Mg} {P8 C8 : Value} (h6 : BoxO H g6 wC) (h7 : BoxO H g7 wC) (hs : Msm S) (ho : MOwn b wC S P8 C8) (hb : H ≤ b) (hH : H ≤ wC.heap.size) :
    BoxO H g6 ((wC.alloc (.cells Z 26)).setRow wC.heap.size (mC S P8 C8)) ∧ BoxO H g7 ((wC.alloc (.cells Z 26)).setRow wC.heap.size (mC S P8 C8)) ∧ BoxO H wC.heap.size ((wC.alloc (.cells Z 26)).setRow wC.heap.size (mC S P8 C8)) ∧
      Off (fun k => H ≤ k) wC ((wC.alloc (.cells Z 26)).setRow wC.heap.size (mC S P8 C8)) := by
  have hbl : Below wC.heap.size wC (wC.alloc (.cells Z 26)) := (Below.refl _ wC).alloc (Nat.le_refl _) _
  have hn : (wC.alloc (.cells Z 26)).heap[wC.heap.size]? = some (.cells Z 26 (0, 0)) := World.alloc_heap_new _ _
  have ho' := (ho.less hb).later hbl
  exact ⟨(h6.later hbl).store hn hs ho', (h7.later hbl).store hn hs ho', ⟨hH, S, P8, C8, setRow_heap _ _ _ _ _ _ hn, hs, mown_box ho' hn _⟩,
    Off.setRow (S := fun k => H ≤ k) ((Off.of_below hbl)) hH _⟩
/-- the slices' cells -/
theorem Tri.cells (h : Tri H w9 g6 g7 g8 M6 M7 M8 P6 P7 P8 C6 C7 C8 V) :
    V.cell? ⟨g6, 7, none⟩ = some P6 ∧ V.cell? ⟨g7, 7, none⟩ = some P7 ∧ V.cell? ⟨g8, 7, none⟩ = some P8 ∧ V.cell? ⟨g6, 8, none⟩ = some C6 ∧ V.cell? ⟨g7, 8, none⟩ = some C7 ∧ V.cell? ⟨g8, 8, none⟩ = some C8 :=
  ⟨row_cell h.box6 7 _ rfl, row_cell h.box7 7 _ rfl, row_cell h.box8 7 _ rfl, row_cell h.box6 8 _ rfl, row_cell h.box7 8 _ rfl, row_cell h.box8 8 _ rfl⟩
theorem Tri.drew (h : Tri H w9 g6 g7 g8 M6 M7 M8 P6 P7 P8 C6 C7 C8 V) : Tri H w9 g6 g7 g8 M6 M7 M8 P6 P7 P8 C6 C7 C8 V.drew := ApI.drew h
theorem Tri.off (h : Tri H w9 g6 g7 g8 M6 M7 M8 P6 P7 P8 C6 C7 C8 V) : Off (fun k => H ≤ k) w9 V := ApI.off h
theorem Tri.slices (h : Tri H w9 g6 g7 g8 M6 M7 M8 P6 P7 P8 C6 C7 C8 V) : (∃ a c, P6 = .slice a M6.p.length c) ∧ (∃ a c, P7 = .slice a M7.p.length c) ∧ (∃ a c, P8 = .slice a M8.p.length c) ∧ (∃ a c, C6 = .slice a M6.c.length c) ∧ (∃ a c, C7 = .slice a M7.c.length c) ∧ (∃ a c, C8 = .slice a M8.c.length c) :=
  ⟨(ApI.row h (57, 2, M6.p.length, P6) (by simp)).2.slice, (ApI.row h (57, 2, M7.p.length, P7) (by simp)).2.slice, (ApI.row h (57, 2, M8.p.length, P8) (by simp)).2.slice,
   (ApI.row h (3, 1, M6.c.length, C6) (by simp)).2.slice, (ApI.row h (3, 1, M7.c.length, C7) (by simp)).2.slice, (ApI.row h (3, 1, M8.c.length, C8) (by simp)).2.slice⟩
/-- the points' rows, where there is an i-th -/
theorem Tri.points (h : Tri H w9 g6 g7 g8 M6 M7 M8 P6 P7 P8 C6 C7 C8 V) {i : Nat} (h6 : i < M6.p.length) (h7 : i < M7.p.length) (h8 : i < M8.p.length) :
    (∃ g c, P6 = .slice (some ⟨g, 0, none⟩) M6.p.length c) ∧ (∃ g c, P7 = .slice (some ⟨g, 0, none⟩) M7.p.length c) ∧ (∃ g c, P8 = .slice (some ⟨g, 0, none⟩) M8.p.length c) := by
  obtain ⟨g, c, _, e1, _⟩ := (ApI.row h (57, 2, M6.p.length, P6) (by simp)).2.open h6
  obtain ⟨g', c', _, e2, _⟩ := (ApI.row h (57, 2, M7.p.length, P7) (by simp)).2.open h7
  obtain ⟨g'', c'', _, e3, _⟩ := (ApI.row h (57, 2, M8.p.length, P8) (by simp)).2.open h8
  exact ⟨⟨g, c, e1⟩, ⟨g', c', e2⟩, ⟨g'', c'', e3⟩⟩
theorem Tri.nums (h : Tri H w9 g6 g7 g8 M6 M7 M8 P6 P7 P8 C6 C7 C8 V) {i : Nat} (h6 : i < M6.c.length) (h7 : i < M7.c.length) (h8 : i < M8.c.length) :
    (∃ g c, C6 = .slice (some ⟨g, 0, none⟩) M6.c.length c) ∧ (∃ g c, C7 = .slice (some ⟨g, 0, none⟩) M7.c.length c) ∧ (∃ g c, C8 = .slice (some ⟨g, 0, none⟩) M8.c.length c) := by
  obtain ⟨g, c, _, e1, _⟩ := (ApI.row h (3, 1, M6.c.length, C6) (by simp)).2.open h6
  obtain ⟨g', c', _, e2, _⟩ := (ApI.row h (3, 1, M7.c.length, C7) (by simp)).2.open h7
  obtain ⟨g'', c'', _, e3, _⟩ := (ApI.row h (3, 1, M8.c.length, C8) (by simp)).2.open h8
  exact ⟨⟨g, c, e1⟩, ⟨g', c', e2⟩, ⟨g'', c'', e3⟩⟩
theorem Tri.store (h : Tri H w9 g6 g7 g8 M6 M7 M8 P6 P7 P8 C6 C7 C8 V) {T : TypeId} {s n : Nat} {v : Value} (hq : (T, s, n, v) ∈ [(57, 2, M6.p.length, P6), (57, 2, M7.p.length, P7), (57, 2, M8.p.length, P8), (3, 1, M6.c.length, C6), (3, 1, M7.c.length, C7), (3, 1, M8.c.length, C8)])
    {i d : Nat} (hi : i < n) (hd : d < s) {g cap : Nat} (hv : v = .slice (some ⟨g, 0, none⟩) n cap) (z : Int) :
    ∃ V', (Instr.storeAt 3 (.pointer (some ⟨g, i * s + d, none⟩)) (.int .i64 z)).run Try.prog V = .ok () V' ∧ Tri H w9 g6 g7 g8 M6 M7 M8 P6 P7 P8 C6 C7 C8 V' :=
  ⟨_, ApI.store h hq hi hd hv z⟩
theorem Tri.st6 {b n k i : Nat} (h : Tri H w9 g6 g7 g8 M6 M7 M8 (.slice (some ⟨b, 0, none⟩) n k) P7 P8 C6 C7 C8 V) (hn : M6.p.length = n) (hi : i < n) (z : Int) :
    ∃ V', (Instr.storeAt 3 (.pointer (some ⟨b, i * 2, none⟩)) (.int .i64 z)).run Try.prog V = .ok () V' ∧ Tri H w9 g6 g7 g8 M6 M7 M8 (.slice (some ⟨b, 0, none⟩) n k) P7 P8 C6 C7 C8 V' := by
    subst hn
    have := Tri.store h (T := 57) (s := 2) (n := M6.p.length) (v := .slice (some ⟨b, 0, none⟩) M6.p.length k) (by simp) (i := i) (d := 0) hi (by decide) rfl z
    rwa [Nat.add_zero] at this
theorem Tri.st7 {b n k i : Nat} (h : Tri H w9 g6 g7 g8 M6 M7 M8 P6 (.slice (some ⟨b, 0, none⟩) n k) P8 C6 C7 C8 V) (hn : M7.p.length = n) (hi : i < n) (z : Int) :
    ∃ V', (Instr.storeAt 3 (.pointer (some ⟨b, i * 2 + 1, none⟩)) (.int .i64 z)).run Try.prog V = .ok () V' ∧ Tri H w9 g6 g7 g8 M6 M7 M8 P6 (.slice (some ⟨b, 0, none⟩) n k) P8 C6 C7 C8 V' := by
    subst hn
    have := Tri.store h (T := 57) (s := 2) (n := M7.p.length) (v := .slice (some ⟨b, 0, none⟩) M7.p.length k) (by simp) (i := i) (d := 1) hi (by decide) rfl z
    exact this
theorem Tri.st8 {b n k i : Nat} (h : Tri H w9 g6 g7 g8 M6 M7 M8 P6 P7 (.slice (some ⟨b, 0, none⟩) n k) C6 C7 C8 V) (hn : M8.p.length = n) (hi : i < n) (z : Int) :
    ∃ V', (Instr.storeAt 3 (.pointer (some ⟨b, i * 2, none⟩)) (.int .i64 z)).run Try.prog V = .ok () V' ∧ Tri H w9 g6 g7 g8 M6 M7 M8 P6 P7 (.slice (some ⟨b, 0, none⟩) n k) C6 C7 C8 V' := by
    subst hn
    have := Tri.store h (T := 57) (s := 2) (n := M8.p.length) (v := .slice (some ⟨b, 0, none⟩) M8.p.length k) (by simp) (i := i) (d := 0) hi (by decide) rfl z
    rwa [Nat.add_zero] at this
theorem Tri.sn6 {b n k i : Nat} (h : Tri H w9 g6 g7 g8 M6 M7 M8 P6 P7 P8 (.slice (some ⟨b, 0, none⟩) n k) C7 C8 V) (hn : M6.c.length = n) (hi : i < n) (z : Int) :
    ∃ V', (Instr.storeAt 3 (.pointer (some ⟨b, i, none⟩)) (.int .i64 z)).run Try.prog V = .ok () V' ∧ Tri H w9 g6 g7 g8 M6 M7 M8 P6 P7 P8 (.slice (some ⟨b, 0, none⟩) n k) C7 C8 V' := by
    subst hn
    have := Tri.store h (T := 3) (s := 1) (n := M6.c.length) (v := .slice (some ⟨b, 0, none⟩) M6.c.length k) (by simp) (i := i) (d := 0) hi (by decide) rfl z
    rwa [Nat.mul_one, Nat.add_zero] at this
theorem Tri.sn7 {b n k i : Nat} (h : Tri H w9 g6 g7 g8 M6 M7 M8 P6 P7 P8 C6 (.slice (some ⟨b, 0, none⟩) n k) C8 V) (hn : M7.c.length = n) (hi : i < n) (z : Int) :
    ∃ V', (Instr.storeAt 3 (.pointer (some ⟨b, i, none⟩)) (.int .i64 z)).run Try.prog V = .ok () V' ∧ Tri H w9 g6 g7 g8 M6 M7 M8 P6 P7 P8 C6 (.slice (some ⟨b, 0, none⟩) n k) C8 V' := by
    subst hn
    have := Tri.store h (T := 3) (s := 1) (n := M7.c.length) (v := .slice (some ⟨b, 0, none⟩) M7.c.length k) (by simp) (i := i) (d := 0) hi (by decide) rfl z
    rwa [Nat.mul_one, Nat.add_zero] at this
theorem Tri.sn8 {b n k i : Nat} (h : Tri H w9 g6 g7 g8 M6 M7 M8 P6 P7 P8 C6 C7 (.slice (some ⟨b, 0, none⟩) n k) V) (hn : M8.c.length = n) (hi : i < n) (z : Int) :
    ∃ V', (Instr.storeAt 3 (.pointer (some ⟨b, i, none⟩)) (.int .i64 z)).run Try.prog V = .ok () V' ∧ Tri H w9 g6 g7 g8 M6 M7 M8 P6 P7 P8 C6 C7 (.slice (some ⟨b, 0, none⟩) n k) V' := by
    subst hn
    have := Tri.store h (T := 3) (s := 1) (n := M8.c.length) (v := .slice (some ⟨b, 0, none⟩) M8.c.length k) (by simp) (i := i) (d := 0) hi (by decide) rfl z
    rwa [Nat.mul_one, Nat.add_zero] at this
end
end Go.Proofs.Ytnbhiamnoapmlaa

namespace Go.Proofs.Ytnbhiamnoapmlaa
open Go.RowKit Go.Shelf
set_option maxRecDepth 100000
attribute [local go_sem] Oper.semAt_some

def inBoxN (b : Nat) (W : World) : Nat := (intOf ((W.cell? ⟨b, 0, none⟩).getD undef)).toNat
theorem inBoxN_of {b i : Nat} {W : World} {t : TypeId} (h : Boxed W b t (.int .i64 (i : Int))) : inBoxN b W = i := by
  unfold inBoxN
  rw [h.cell]
  simp [intOf]
theorem boxed_off {S : Nat → Prop} {w V : World} {b : Nat} {t : TypeId} {v : Value} (h : Boxed w b t v) (ho : Off S w V) (hn : ¬ S b) : Boxed V b t v := (ho.block _ h.lt hn).trans h
theorem boxed_set_other {w : World} {b b' : Nat} {t : TypeId} {v : Value} (h : Boxed w b t v) (hn : b ≠ b') (u : Value) : Boxed (w.setCell ⟨b', 0, none⟩ u) b t v := (Below.heap_setCell w ⟨b', 0, none⟩ u b hn).trans h
/-- behind j of the fields: how far the list has been gone through (box bi), and that all is right (the next box) -/
structure Nb (bi : Nat) (L : List Fd) (w8 : World) (j ii : Nat) (V : World) : Prop where
  num : Boxed V bi 3 (.int .i64 (ii : Int))
  ok : Boxed V (bi + 1) 4 (.bool true)
  le : ii ≤ j
  gap : ∀ p f, ii ≤ p → p < j → L[p]? = some f → f.pl < 0
  off : Off (fun q => q = bi ∨ q = bi + 1) w8 V
section
variable {bi j ii : Nat} {L : List Fd} {w8 V V' : World}
theorem Nb.later (h : Nb bi L w8 j ii V) (hb : bi + 1 < w8.heap.size) (hV : Below w8.heap.size V V') : Nb bi L w8 j ii V' :=
  ⟨(hV.block bi (by omega)).trans h.num, (hV.block (bi + 1) (by omega)).trans h.ok, h.le, h.gap, off_below h.off hV⟩
theorem Nb.skip (h : Nb bi L w8 j ii V) {f : Fd} (hf : L[j]? = some f) (hp : f.pl < 0) : Nb bi L w8 (j + 1) ii V :=
  ⟨h.num, h.ok, by have := h.le; omega, fun p g h1 h2 h3 => by
    rcases Nat.lt_or_ge p j with h4 | h4
    · exact h.gap p g h1 h4 h3
    · obtain rfl : p = j := by omega
      rw [hf] at h3
      injection h3 with h3
      rwa [← h3], h.off⟩
theorem Nb.step (h : Nb bi L w8 j ii V) (hi : ii < j) : Nb bi L w8 j (ii + 1) (V.setCell ⟨bi, 0, none⟩ (.int .i64 ((ii : Int) + 1))) :=
  ⟨h.num.set _, boxed_set_other h.ok (by omega) _, hi, fun p g h1 h2 h3 => h.gap p g (by omega) h2 h3, h.off.setCell (p := ⟨bi, 0, none⟩) (.inl rfl) _⟩
theorem Nb.again (h : Nb bi L w8 j ii V) : Nb bi L w8 j ii (V.setCell ⟨bi + 1, 0, none⟩ (.bool true)) :=
  ⟨boxed_set_other h.num (by omega) _, h.ok.set _, h.le, h.gap, h.off.setCell (p := ⟨bi + 1, 0, none⟩) (.inr rfl) _⟩
theorem Nb.next (h : Nb bi L w8 j j V) : Nb bi L w8 (j + 1) (j + 1) (V.setCell ⟨bi, 0, none⟩ (.int .i64 ((j : Int) + 1))) :=
  ⟨h.num.set _, boxed_set_other h.ok (by omega) _, Nat.le_refl _, fun p g h1 h2 _ => by omega, h.off.setCell (p := ⟨bi, 0, none⟩) (.inl rfl) _⟩
end
/-- what else a round owes -/
theorem keeps_two {bi lo B : Nat} {V V' : World} (h : Off (fun q => q = bi ∨ q = bi + 1) V V') (hl : bi + 1 < lo) (hB : bi + 1 < B) : KeepsFrom B V V' ∧ KeC lo V V' :=
  ⟨⟨h.size, fun q o hq ho _ => (h.block q (Array.getElem?_eq_some_iff.1 ho).1 (by omega)).trans ho⟩, ⟨h.size, fun q cs t hq ho => h.block q (Array.getElem?_eq_some_iff.1 ho).1 (by omega)⟩⟩
/-- how many have been counted (box bk), where stop ends the count -/
structure Nk (bk : Nat) (stop : Int) (w8 : World) (N : Nat) (V : World) : Prop where
  num : ∃ k : Nat, Boxed V bk 3 (.int .i64 (k : Int)) ∧ k ≤ N ∧ (stop < 0 ∨ (k : Int) ≤ stop)
  off : Off (fun q => q = bk) w8 V
section
variable {bk N : Nat} {stop : Int} {w8 V V' : World}
theorem Nk.later (h : Nk bk stop w8 N V) (hb : bk < w8.heap.size) (hV : Below w8.heap.size V V') : Nk bk stop w8 N V' := by
  obtain ⟨⟨k, h1, h2, h3⟩, h4⟩ := h
  exact ⟨⟨k, (hV.block bk hb).trans h1, h2, h3⟩, off_below h4 hV⟩
theorem Nk.more (h : Nk bk stop w8 N V) {N' : Nat} (hN : N ≤ N') : Nk bk stop w8 N' V := by
  obtain ⟨⟨k, h1, h2, h3⟩, h4⟩ := h
  exact ⟨⟨k, h1, by omega, h3⟩, h4⟩
end
theorem keeps_one {bk lo B : Nat} {V V' : World} (h : Off (fun q => q = bk) V V') (hl : bk < lo) (hB : bk < B) : KeepsFrom B V V' ∧ KeC lo V V' :=
  ⟨⟨h.size, fun q o hq ho _ => (h.block q (Array.getElem?_eq_some_iff.1 ho).1 (by omega)).trans ho⟩, ⟨h.size, fun q cs t hq ho => h.block q (Array.getElem?_eq_some_iff.1 ho).1 (by omega)⟩⟩
theorem fnd_ways (L : List Fd) (nm : ByteArray) : (∃ (j : Nat) (f : Fd), L[j]? = some f ∧ fnd L nm = some f ∧ IdxAt L nm (j : Int)) ∨ (fnd L nm = none ∧ IdxAt L nm (-1)) := by
  cases h : fnd L nm with
  | none =>
    refine .inr ⟨rfl, .inr ⟨fun g hg => ?_, rfl⟩⟩
    unfold fnd at h
    rw [List.find?_eq_none] at h
    simpa using h g hg
  | some f =>
    have h0 := h
    unfold fnd at h
    rw [List.find?_eq_some_iff_getElem] at h
    obtain ⟨h1, j, hj, h2, h3⟩ := h
    have h4 : L[j]? = some f := by rw [List.getElem?_eq_getElem hj, h2]
    refine .inl ⟨j, f, h4, rfl, .inl ⟨j, f, h4, by simpa using h1, fun g hg => ?_, rfl⟩⟩
    obtain ⟨i, hi, rfl⟩ := List.mem_take_iff_getElem.1 hg
    simpa using h3 i (by omega)
theorem mr_store (w : World) (R : Nat) (old cs : Array Value) (h : w.heap[R]? = some (.cells old 34 (0, 0))) (ho : old.size = 11) (hc : cs.size = 11) (h1 : cs.all (·.oneCell') = true) :
    (Instr.storeAt 34 (.pointer (some ⟨R, 0, none⟩)) (.agg cs)).run Try.prog w = .ok () (w.setRow R cs) := by
  simp only [Instr.storeAt, Instr.sureAddr, Sem.run_bind, Sem.run_pure, Result.andThen]
  exact run_storeVar_row w R 34 34 old cs h (by rw [hc]; exact rmInfo) (by omega) h1
theorem MAt.put {w : World} {B : Nat} {M G : Mg} {P C : Value} (h : MAt w B M P C) (hp : G.p = M.p) (hc : G.c = M.c) : MAt w B G P C := ⟨by rw [hp]; exact h.p, by rw [hc]; exact h.c⟩
theorem nums_bool {kk : IntKind} {w : World} {B b : Nat} {a : Option Addr} {zs : List Int} {x : Bool} {T : TypeId} (h : Nums kk w B a zs) (hb : w.heap[b]? = some (.cells #[.bool x] T (0, 0))) (u : Value) : Nums kk (w.setCell ⟨b, 0, none⟩ u) B a zs := fun hn => by
  obtain ⟨b', off, e, hlt, hc⟩ := h hn
  refine ⟨b', off, e, hlt, fun j c hj => ?_⟩
  have h0 := hc j c hj
  by_cases e2 : b' = b
  · subst e2
    exfalso
    unfold World.cell? at h0
    simp only [hb] at h0
    rcases hq : off + j with _ | q
    · rw [hq] at h0; simp at h0
    · rw [hq] at h0; simp at h0
  · exact (World.cell?_of_block (a := ⟨b', off + j, none⟩) (Below.heap_setCell w ⟨b, 0, none⟩ u b' e2)).trans h0
theorem mat_bool {w : World} {B b : Nat} {M : Mg} {P C : Value} {x : Bool} {T : TypeId} (h : MAt w B M P C) (hb : w.heap[b]? = some (.cells #[.bool x] T (0, 0))) (u : Value) : MAt (w.setCell ⟨b, 0, none⟩ u) B M P C := by
  obtain ⟨⟨a, c, h1, h2, h3⟩, ⟨a', c', h4, h5, h6⟩⟩ := h
  exact ⟨⟨a, c, h1, h2, nums_bool h3 hb u⟩, ⟨a', c', h4, h5, nums_bool h6 hb u⟩⟩
/-- what stands ahead of the last statement -/
structure FinZ (w : World) (b0 bw bx bt bo bk D D2 : Nat) (A G T : Mg) (P3 C3 P5 C5 P8 C8 P9 C9 : Value) (k : Nat) (stop : Int) (Z : World) : Prop where
  m : Z.heap[b0]? = some (.cells (mC A P3 C3) 26 (0, 0))
  st : Boxed Z (b0 + 1) 3 (.int .i64 stop)
  was : Z.heap[bw]? = some (.cells (mC A P5 C5) 26 (0, 0))
  x : Z.heap[bx]? = some (.cells (mC G P8 C8) 26 (0, 0))
  t : Z.heap[bt]? = some (.cells (mC T P9 C9) 34 (0, 0))
  ok : Boxed Z bo 4 (.bool true)
  k : Boxed Z bk 3 (.int .i64 (k : Int))
  d : Z.heap[D]? = some (.deferred (some []))
  d2 : Z.heap[D2]? = some (.deferred (some []))
  ma : MAt Z bt A P3 C3
  mw : MAt Z bt A P5 C5
  mx : MAt Z bt G P8 C8
  mt : MAt Z bt T P9 C9
  lt : b0 + 1 < bt ∧ bw < bt ∧ bx < bt ∧ bo < bt ∧ bk < bt ∧ D < bt ∧ D2 < bt
  ne : b0 ≠ bo ∧ b0 + 1 ≠ bo ∧ bw ≠ bo ∧ bx ≠ bo ∧ bk ≠ bo ∧ D ≠ bo ∧ D2 ≠ bo
  low : w.heap.size ≤ bo
  b : Below w.heap.size w Z
section
variable {w : World} {b0 bw bx bt bo bk D D2 : Nat} {A G T : Mg} {P3 C3 P5 C5 P8 C8 P9 C9 : Value} {k : Nat} {stop : Int} {Z : World}
theorem FinZ.put (h : FinZ w b0 bw bx bt bo bk D D2 A G T P3 C3 P5 C5 P8 C8 P9 C9 k stop Z) {j : Nat} (hj : j < 6) (v : Int) : FinZ w b0 bw bx bt bo bk D D2 A G (T.put j v) P3 C3 P5 C5 P8 C8 P9 C9 k stop (Z.setCell ⟨bt, 1 + j, none⟩ (.int .i64 v)) := by
  have hb : Below bt Z (Z.setCell ⟨bt, 1 + j, none⟩ (.int .i64 v)) := (Below.refl bt Z).setCell (p := ⟨bt, 1 + j, none⟩) (Nat.le_refl _) _
  obtain ⟨l1, l2, l3, l4, l5, l6, l7⟩ := h.lt
  exact ⟨(hb.block _ (by omega)).trans h.m, (hb.block _ l1).trans h.st, (hb.block _ l2).trans h.was, (hb.block _ l3).trans h.x, by rw [setCell_at h.t, mC_put hj], (hb.block _ l4).trans h.ok, (hb.block _ l5).trans h.k, (hb.block _ l6).trans h.d, (hb.block _ l7).trans h.d2,
    h.ma.below hb, h.mw.below hb, h.mx.below hb, (h.mt.below hb).put (Mg.put_p ..) (Mg.put_c ..), h.lt, h.ne, h.low, h.b.trans (hb.mono (by have := h.low; omega))⟩
theorem FinZ.again (h : FinZ w b0 bw bx bt bo bk D D2 A G T P3 C3 P5 C5 P8 C8 P9 C9 k stop Z) : FinZ w b0 bw bx bt bo bk D D2 A G T P3 C3 P5 C5 P8 C8 P9 C9 k stop (Z.setCell ⟨bo, 0, none⟩ (.bool true)) := by
  obtain ⟨n1, n2, n3, n4, n5, n6, n7⟩ := h.ne
  have hq : ∀ q, q ≠ bo → (Z.setCell ⟨bo, 0, none⟩ (.bool true)).heap[q]? = Z.heap[q]? := fun q hq => Below.heap_setCell Z ⟨bo, 0, none⟩ _ q hq
  exact ⟨(hq _ n1).trans h.m, (hq _ n2).trans h.st, (hq _ n3).trans h.was, (hq _ n4).trans h.x, (hq _ (by have := h.lt; omega)).trans h.t, h.ok.set _, (hq _ n5).trans h.k, (hq _ n6).trans h.d, (hq _ n7).trans h.d2,
    mat_bool h.ma h.ok _, mat_bool h.mw h.ok _, mat_bool h.mx h.ok _, mat_bool h.mt h.ok _, h.lt, h.ne, h.low, h.b.setCell (p := ⟨bo, 0, none⟩) h.low _⟩
end
theorem mnums_not_nil (p q : Nat) (w : World) : (binOp .eql 46 (.func (.func 37) #[] #[.pointer (some ⟨p, 0, none⟩), .pointer (some ⟨q, 0, none⟩)]) .nilFunc).run Try.prog w = .ok (.bool false) w := by kernel_rfl
end Go.Proofs.Ytnbhiamnoapmlaa
