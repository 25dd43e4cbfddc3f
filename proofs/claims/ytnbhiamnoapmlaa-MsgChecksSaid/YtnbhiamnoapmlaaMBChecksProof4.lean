/-
  Check, Project, Same and New give what the law asks: the walk of MsgChecks returns true for all messages
-/
import Derived.BigQuiet
import Derived.Deep.QuietTactic
import Derived.Deep.LoopGhost
import Derived.WalkMore
import Derived.Test.YtnbhiamnoapmlaaRows
import Derived.Below
import Derived.WalkKit
import Derived.ProofKit
import Derived.OpenShut
import Derived.ShutString
import Derived.ChangeOld
import Derived.Test.YtnbhiamnoapmlaaMBChecksProof3
namespace Go.Proofs.Ytnbhiamnoapmlaa
open Go.RowKit Go.Shelf
set_option maxRecDepth 100000
attribute [local go_sem] Oper.semAt_some

theorem rmInfo : (Try.prog.info? 34).map (·.size) = some 11 := by kernel_rfl
theorem r2Info : (Try.prog.info? 75).map (fun i => (i.zero, i.size, i.bytes)) = some (some (.agg #[.int .i64 0, .int .i64 0]), 2, 16) := by kernel_rfl
/-- what Of answers -/
def OfM (w : World) (M : Mg) (C : Value) (e : Ending) (w' : World) : Prop := ∃ P, e = .returned (mV M P C) ∧ w'.ownsRow w.heap.size 75 2 P M.p.length ((fl2 M.p).map (Value.int .i64)) ∧ Below w.heap.size w w'
theorem fl2_take {l : List (Int × Int)} {j : Nat} {q : Int × Int} (h : l[j]? = some q) : fl2 (l.take (j + 1)) = fl2 (l.take j) ++ [q.1, q.2] := by
  rw [List.take_add_one, h, fl2_app]
  rfl
set_option maxHeartbeats 8000000 in
theorem mof_any (M : Mg) (P C : Value) (w : World) (hs : Msm M) (h1 : MAt w w.heap.size M P C) : Calls Try.prog 11 #[mV M P C] w fun e w' => OfM w M C e w' := by
  obtain ⟨r0, hr, hz0, hz1, hz2⟩ := info_parts r2Info
  obtain ⟨w3, hw3⟩ : ∃ w3, w3 = ((w.alloc (.cells (mC M P C) 26)).alloc (.cells (mC (Mg.zero 0) (.slice none 0 0) (.slice none 0 0)) 34)).alloc (.cells (mC M (.slice none 0 0) C) 34) := ⟨_, rfl⟩
  have hs3 : w3.heap.size = w.heap.size + 3 := by rw [hw3]; simp
  have hb3 : Below w.heap.size w w3 := by rw [hw3]; exact (((Below.refl _ w).alloc (Nat.le_refl _) _).alloc (by simp) _).alloc (by simp; omega) _
  have q0 : w3.heap[w.heap.size]? = some (.cells (mC M P C) 26 (0, 0)) := by
    rw [hw3, Below.heap_alloc _ _ _ (by simp; omega), Below.heap_alloc _ _ _ (by simp)]; exact World.alloc_heap_new _ _
  have q1 : w3.heap[w.heap.size + 1]? = some (.cells (mC (Mg.zero 0) (.slice none 0 0) (.slice none 0 0)) 34 (0, 0)) := by
    have := World.alloc_heap_new (w.alloc (.cells (mC M P C) 26)) (.cells (mC (Mg.zero 0) (.slice none 0 0) (.slice none 0 0)) 34)
    rw [World.size_alloc] at this
    rw [hw3, Below.heap_alloc _ _ _ (by simp)]; exact this
  have q2 : w3.heap[w.heap.size + 1 + 1]? = some (.cells (mC M (.slice none 0 0) C) 34 (0, 0)) := by
    have := World.alloc_heap_new ((w.alloc (.cells (mC M P C) 26)).alloc (.cells (mC (Mg.zero 0) (.slice none 0 0) (.slice none 0 0)) 34)) (.cells (mC M (.slice none 0 0) C) 34)
    rw [World.size_alloc, World.size_alloc] at this
    rw [hw3]; exact this
  obtain ⟨⟨ap, cp, rfl, hcp, ha⟩, ⟨ac, cc, rfl, hcc, hc⟩⟩ := h1
  obtain ⟨np, hnp⟩ : ∃ np, M.p.length = np := ⟨_, rfl⟩
  obtain ⟨nc, hnc⟩ : ∃ nc, M.c.length = nc := ⟨_, rfl⟩
  have hl1 := hs.p
  rw [hnp] at hl1 hcp
  unfold OfM mV
  simp only [mC, Mg.zero, hnp, hnc] at hw3 ⊢
  have HN := Lib.hid hnp
  have HA := Lib.hid ha
  have HB3 := Lib.hid hb3
  have HQ := Lib.hid (And.intro q0 (And.intro q1 q2))
  rw [hnp, hnc] at HQ
  clear ha hc hcc hs hnp hnc q0 q1 q2 hb3
  have HW := Lib.hid hw3
  clear hw3
  go_enter Try.func11, Try.ntmps11
  go_wp2_with fail
  rw [← HW.out]
  go_loopw [4] (fun iv wr => ∃ j : Nat, j ≤ np ∧ iv = .int .i64 (j : Int) ∧ Hid (∃ A c, wr.heap[w.heap.size + 1 + 1]? = some (.cells (mC M (.slice A j c) (.slice ac nc cc)) 34 (0, 0)) ∧ j ≤ c ∧ wr.ownsRow (w.heap.size + 3) 75 2 (.slice A j c) j ((fl2 (M.p.take j)).map (Value.int .i64))) ∧ Hid (Off (fun q => q = w.heap.size + 1 + 1) w3 wr)) (fun iv _ => np - (intOf iv).toNat)
  case atStart => exact ⟨0, by omega, rfl, Lib.hid ⟨none, 0, HQ.out.2.2, Nat.le_refl _, World.ownsRow_nil _ _ _ _⟩, Lib.hid (Off.refl _ _)⟩
  case round =>
    obtain ⟨j, hj, rfl, HX, HO⟩ := hrel
    obtain ⟨A, c, hm, hjc, hown⟩ := HX.out
    clear HX
    have m0 := (HO.out.block w.heap.size (by omega) (by omega)).trans HQ.out.1
    obtain ⟨_, _, _, _, _, _, _, d7, _⟩ := mg_block m0
    rcases Nat.lt_or_ge j np with hlt | hge
    · obtain ⟨⟨x, y⟩, hq⟩ : ∃ q, M.p[j]? = some q := ⟨_, List.getElem?_eq_getElem (by rw [HN.out]; exact hlt)⟩
      have hbw : Below w.heap.size w wr := HB3.out.trans (HO.out.below (fun k hk => by omega) (by omega))
      obtain ⟨ga, off, rfl, hga, x0, x1⟩ := pts_two (HA.out.below hbw) hq
      dsimp only at x0 x1
      have hft := fl2_take hq
      have HF := Lib.hid hft
      obtain ⟨_, _, _, _, _, _, _, e7, _⟩ := mg_block hm
      have hblt := (Array.getElem?_eq_some_iff.1 hm).1
      have hwr : w.heap.size < wr.heap.size := by omega
      have hgr : ga < wr.heap.size := by omega
      have hj2 : (j : Int) < (np : Int) := by omega
      have hnc2 : (np : Int) ≤ (cp : Int) := by omega
      have lP : ∀ W, Below wr.heap.size wr W → (Instr.loadAt 23 (.pointer (some ⟨w.heap.size, 7, none⟩))).run Try.prog W = .ok (.slice (some ⟨ga, off, none⟩) np cp) W := fun W hW => by
        have hx := (hW.cell (p := ⟨w.heap.size, 7, none⟩) hwr).trans d7
        simp [Instr.loadAt, go_sem, hx]
      have lW : ∀ W, Below wr.heap.size wr W → (Instr.loadAt 32 (.pointer (some ⟨w.heap.size + 1 + 1, 7, none⟩))).run Try.prog W = .ok (.slice A j c) W := fun W hW => by
        have hx := (hW.cell (p := ⟨w.heap.size + 1 + 1, 7, none⟩) hblt).trans e7
        simp [Instr.loadAt, go_sem, hx]
      have lx : ∀ W, Below wr.heap.size wr W → (Instr.loadAt 3 (.pointer (some ⟨ga, off + j * 2, none⟩))).run Try.prog W = .ok (.int .i64 x) W := fun W hW => by
        have hx := (hW.cell (p := ⟨ga, off + j * 2, none⟩) hgr).trans x0
        simp [Instr.loadAt, go_sem, hx]
      have ly : ∀ W, Below wr.heap.size wr W → (Instr.loadAt 3 (.pointer (some ⟨ga, off + j * 2 + 1, none⟩))).run Try.prog W = .ok (.int .i64 y) W := fun W hW => by
        have hx := (hW.cell (p := ⟨ga, off + j * 2 + 1, none⟩) hgr).trans x1
        simp [Instr.loadAt, go_sem, hx]
      have HOW := Lib.hid hown
      have HM := Lib.hid hm
      have HBW := Lib.hid hbw
      clear hm hown hft hq m0 x0 x1 e7 hbw
      go_wp2_with fail
      refine wp_region_FT 42 16 [38] (fun q u W => ∃ b, u = .slice (some ⟨b, 0, none⟩) 1 1 ∧ W.heap[b]? = some (.cells #[.int .i64 x, .int .i64 y] 75 (0, 0))) (fun W => Below wr.heap.size wr W) (by kernel_rfl) (by kernel_rfl) (by rfl) (by kernel_rfl) (by kernel_rfl) (by kernel_rfl) (by rfl) (by simp) (fun W W' h hb => h.trans (hb.mono h.size)) (fun q u W W' h hb => by
        obtain ⟨b, h1, h2⟩ := h
        exact ⟨b, h1, (hb.block _ (Array.getElem?_eq_some_iff.1 h2).1).trans h2⟩) (Below.refl _ _).drew ?_
      simp only [List.take_succ_cons, List.take_zero, List.drop_succ_cons, List.drop_zero]
      repeat (refine wpF_pure rfl rfl ?_; go_big_quiet_step (fail); refine wpQuiet_nil ?_)
      refine wpF_load (ad := ⟨w.heap.size + 1 + 1, 7, none⟩) (.slice A j c) rfl (by rfl) (by rfl) (by rfl) lW ?_
      simp only [Act.put, List.setIfInBounds_toArray, List.set_cons_succ, List.set_cons_zero]
      repeat (refine wpF_pure rfl rfl ?_; go_big_quiet_step (fail); refine wpQuiet_nil ?_)
      refine wpF_load (ad := ⟨w.heap.size, 7, none⟩) (.slice (some ⟨ga, off, none⟩) np cp) rfl (by rfl) (by rfl) (by rfl) lP ?_
      simp only [Act.put, List.setIfInBounds_toArray, List.set_cons_succ, List.set_cons_zero]
      repeat (refine wpF_pure rfl rfl ?_; go_big_quiet_step (fail); refine wpQuiet_nil ?_)
      refine wpF_load (ad := ⟨ga, off + j * 2, none⟩) (.int .i64 x) rfl (by rfl) (by rfl) (by rfl) lx ?_
      simp only [Act.put, List.setIfInBounds_toArray, List.set_cons_succ, List.set_cons_zero]
      repeat (refine wpF_pure rfl rfl ?_; go_big_quiet_step (fail); refine wpQuiet_nil ?_)
      refine wpF_load (ad := ⟨w.heap.size, 7, none⟩) (.slice (some ⟨ga, off, none⟩) np cp) rfl (by rfl) (by rfl) (by rfl) lP ?_
      simp only [Act.put, List.setIfInBounds_toArray, List.set_cons_succ, List.set_cons_zero]
      repeat (refine wpF_pure rfl rfl ?_; go_big_quiet_step (fail); refine wpQuiet_nil ?_)
      refine wpF_load (ad := ⟨ga, off + j * 2 + 1, none⟩) (.int .i64 y) rfl (by rfl) (by rfl) (by rfl) ly ?_
      simp only [Act.put, List.setIfInBounds_toArray, List.set_cons_succ, List.set_cons_zero]
      refine wpF_val (.agg #[.int .i64 x, .int .i64 y]) (by rfl) (by rfl) (fun W _ => by simp [go_sem]) ?_
      simp only [Act.put, List.setIfInBounds_toArray, List.set_cons_succ, List.set_cons_zero]
      refine wpF_src 38 (by simp) rfl rfl rfl (fun W hW => ⟨.slice (some ⟨W.heap.size, 0, none⟩) 1 1, W.alloc (.cells #[.int .i64 x, .int .i64 y] 75), by simp [go_sem], ⟨_, rfl, World.alloc_heap_new _ _⟩, (Below.refl _ _).alloc (Nat.le_refl _) _⟩) ?_
      simp only [Act.put, List.setIfInBounds_toArray, List.set_cons_succ, List.set_cons_zero]
      intro xs W hW hx
      obtain ⟨b, hxb, hbl⟩ := hx 38 (by simp)
      simp only [fill, Act.put, List.setIfInBounds_toArray, List.set_cons_succ, List.set_cons_zero]
      rw [hxb]
      have HRow := Lib.hid (own_below7 HOW.out hW)
      have HNW : Hid (∀ (q : Nat) (u : Value), [Value.int .i64 x, .int .i64 y][q]? = some u → W.cell? ((⟨b, 0, none⟩ : Addr).add q) = some u) := fun q u hq => by
        rw [Addr.add_lit, Nat.zero_add]
        simp only [World.cell?, hbl]
        simpa using hq
      have hmW := (hW.block _ hblt).trans HM.out
      have HMW := Lib.hid hmW
      have HBS := Lib.hid (show w.heap.size + 3 ≤ W.heap.size by have := hW.size; have := HO.out.size; omega)
      have HOW2 := Lib.hid (off_below HO.out (hW.mono HO.out.size))
      have hge3 : ∀ g, (Value.slice A j c).ownBlock = some g → w.heap.size + 3 ≤ g := fun g hg => (HRow.out.lt g hg).1
      have HGE := Lib.hid hge3
      clear hx hxb hbl lP lW lx ly hW hmW HOW HM HBW hge3 HO
      go_wp2_with (at_builtin; refine wpList_append_own_at _ rfl (.tmp 24) (.tmp 38) 32 rfl (w.heap.size + 3) 75 r0 _ 2 16 Try.underlying32 hr hz0 hz1 hz2 rfl (by decide) _ _ _ rfl HRow.out ⟨b, 0, none⟩ 1 1 [Value.int .i64 x, .int .i64 y] rfl rfl HNW.out (by simp [Value.oneCell']) (by unfold maxLen; omega) (by omega) HBS.out ?_)
      intro u4 W4 hown4 hg4 _ _
      obtain ⟨A4, c4, rfl, hc4, _⟩ := nums_of_own (k := .i64) (zs := fl2 (M.p.take j) ++ [x, y]) (by simpa using hown4) (by omega)
      have hs4 := hg4.size
      have hm4 := (hg4.block (w.heap.size + 1 + 1) (by have := HBS.out; omega) (fun e => by have := HGE.out _ e.symm; omega)).trans HMW.out
      have ho4 : Off (fun q => q = w.heap.size + 1 + 1) w3 W4 := ⟨hg4.os.trans HOW2.out.os, hg4.tape.trans HOW2.out.tape, hg4.output.trans HOW2.out.output, Nat.le_trans HOW2.out.size hs4, fun q hq hne => (hg4.block q (by have := HOW2.out.size; omega) (fun e => by have := HGE.out _ e.symm; omega)).trans (HOW2.out.block q hq hne)⟩
      have HO5 := Lib.hid (ho4.setCell (p := ⟨w.heap.size + 1 + 1, 7, none⟩) rfl (.slice A4 (j + 1) c4))
      have HM5 := Lib.hid (setCell_at (j := 7) (u := .slice A4 (j + 1) c4) hm4)
      have HOW5 := Lib.hid (ownsRow_setCell_below hown4 (a := ⟨w.heap.size + 1 + 1, 7, none⟩) (by show w.heap.size + 1 + 1 < _; omega) (.slice A4 (j + 1) c4))
      have k7 := (mg_block hm4).2.2.2.2.2.2.2.1
      have z7 := frozen_of_row W4 (w.heap.size + 1 + 1) 7 _ _ hm4
      clear hown4 hg4 hm4 ho4 hs4 HRow HNW HMW HOW2 HGE HBS
      go_wp2
      refine ⟨⟨j + 1, by omega, by go_num, ?_, HO5⟩, by simp only [intOf]; omega⟩
      refine Lib.hid ⟨A4, c4, HM5.out, hc4, ?_⟩
      rw [HF.out]
      simpa using HOW5.out
    · obtain rfl : j = np := by omega
      rename_i np
      obtain ⟨f0, f1, f2, f3, f4, f5, f6, f7, f8, f9, f10⟩ := mg_block hm
      have r1 := (HO.out.block (w.heap.size + 1) (by omega) (by omega)).trans HQ.out.2.1
      have HR1 := Lib.hid r1
      have HOW := Lib.hid hown
      have HBV := Lib.hid (HB3.out.trans (HO.out.below (B := w.heap.size) (fun k hk => by omega) (by omega)))
      clear hm hown r1 m0
      go_wp2_with (refine wpList_store_row rfl 34 (.tmp 2) (.tmp 41) rfl (w.heap.size + 1) #[.int .i64 M.k, .int .i64 M.n0, .int .i64 M.n1, .int .i64 M.n2, .int .i64 M.n3, .int .i64 M.n4, .int .i64 M.n5, .slice A j c, .slice ac nc cc, .string M.tx, .string M.tg] rfl rfl 34 _ HR1.out rmInfo rfl (by simp [Value.oneCell']) ?_)
      have hfin := setRow_heap wr (w.heap.size + 1) _ #[.int .i64 M.k, .int .i64 M.n0, .int .i64 M.n1, .int .i64 M.n2, .int .i64 M.n3, .int .i64 M.n4, .int .i64 M.n5, .slice A j c, .slice ac nc cc, .string M.tx, .string M.tg] _ _ HR1.out
      have hoff := Off.setRow (S := fun k => k = w.heap.size + 1) (Off.refl _ wr) rfl #[.int .i64 M.k, .int .i64 M.n0, .int .i64 M.n1, .int .i64 M.n2, .int .i64 M.n3, .int .i64 M.n4, .int .i64 M.n5, .slice A j c, .slice ac nc cc, .string M.tx, .string M.tg]
      have hbf := HBV.out.trans (hoff.below (B := w.heap.size) (fun k hk => by omega) HBV.out.size)
      have hof := own_offM HOW.out hoff (fun g hg e => by have := (HOW.out.lt g hg).1; omega)
      generalize wr.setRow (w.heap.size + 1) _ = Wf at *
      obtain ⟨y0, y1, y2, y3, y4, y5, y6, y7, y8, y9, y10⟩ := mg_block hfin
      refine bodyPost_ret (v := .agg #[.int .i64 M.k, .int .i64 M.n0, .int .i64 M.n1, .int .i64 M.n2, .int .i64 M.n3, .int .i64 M.n4, .int .i64 M.n5, .slice A j c, .slice ac nc cc, .string M.tx, .string M.tg]) (by simp [results, Try.results11, go_sem, y0, y1, y2, y3, y4, y5, y6, y7, y8, y9, y10]) rfl ?_
      refine ⟨_, rfl, ?_, hbf⟩
      rw [List.take_of_length_le (by rw [HN.out]; exact Nat.le_refl _)] at hof
      exact ⟨hof.1, hof.2.imp id (fun ⟨g, cap, cur, h1, h2, h3⟩ => ⟨g, cap, cur, h1, by omega, h3⟩)⟩
end Go.Proofs.Ytnbhiamnoapmlaa

namespace Go.Proofs.Ytnbhiamnoapmlaa
open Go.RowKit Go.Shelf
set_option maxRecDepth 100000
attribute [local go_sem] Oper.semAt_some

theorem fl2_takes : ∀ (l : List (Int × Int)) (n : Nat), fl2 (l.take n) = (fl2 l).take (n * 2)
  | [], _ => by simp [fl2]
  | _ :: _, 0 => by simp [fl2]
  | q :: r, n + 1 => by
    rw [List.take_succ_cons, fl2, fl2_takes r n, fl2, show (n + 1) * 2 = n * 2 + 1 + 1 by omega, List.take_succ_cons, List.take_succ_cons]
/-- what Cut answers -/
def CutM (B : Nat) (w : World) (e : Ending) (w' : World) : Prop := ∃ M P C, e = .returned (mV M P C) ∧ Msm M ∧ MAt w' B M P C ∧ Below w.heap.size w w'
set_option maxHeartbeats 16000000 in
theorem mcut_any (M : Mg) (ap ac : Option Addr) (np nc cp cc : Nat) (w : World) (hnp : M.p.length = np) (hnc : M.c.length = nc) (hcp : np ≤ cp) (hcc : nc ≤ cc) (B : Nat) (hB : B ≤ w.heap.size) (ha : Nums .i64 w B ap (fl2 M.p)) (hc : Nums .i64 w B ac M.c) :
    Calls Try.prog 7 #[mV M (.slice ap np cp) (.slice ac nc cc)] w fun e w' => CutM B w e w' := by
  obtain ⟨mp, hmp⟩ : ∃ mp, min np 40 = mp := ⟨_, rfl⟩
  have hmp2 : min (np : Int) 40 = (mp : Int) := by omega
  have hmp3 : mp ≤ np ∧ mp ≤ 40 := by omega
  obtain ⟨mc, hmc⟩ : ∃ mc, min nc 40 = mc := ⟨_, rfl⟩
  have hmc2 : min (nc : Int) 40 = (mc : Int) := by omega
  have hmc3 : mc ≤ nc ∧ mc ≤ 40 := by omega
  unfold mV mC
  obtain ⟨k, n0, n1, n2, n3, n4, n5, p, c, tx, tg⟩ := M
  dsimp only at *
  obtain ⟨mt, hmt⟩ : ∃ mt, min tx.size 80 = mt := ⟨_, rfl⟩
  have hmt2 : min (tx.size : Int) 80 = (mt : Int) := by omega
  have hmt3 : mt ≤ tx.size ∧ mt ≤ 80 := by omega
  obtain ⟨mg, hmg⟩ : ∃ mg, min tg.size 80 = mg := ⟨_, rfl⟩
  have hmg2 : min (tg.size : Int) 80 = (mg : Int) := by omega
  have hmg3 : mg ≤ tg.size ∧ mg ≤ 80 := by omega
  have HM3 := Lib.hid (And.intro hmp3 hmc3)
  have HD := Lib.hid (And.intro hnp (And.intro hnc (And.intro ha hc)))
  clear hmt hmg hmp hmc hnp hnc ha hc
  go_enter Try.func7, Try.ntmps7
  go_wp2
  go_region
  obtain ⟨W3, hW3⟩ : ∃ W3, W3 = ((w.alloc (.cells #[.int .i64 k, .int .i64 n0, .int .i64 n1, .int .i64 n2, .int .i64 n3, .int .i64 n4, .int .i64 n5, .slice ap mp cp, .slice ac mc cc, .string tx, .string tg] 26)).alloc (.cells #[.int .i64 0, .int .i64 0, .int .i64 0, .int .i64 0, .int .i64 0, .int .i64 0, .int .i64 0, .slice none 0 0, .slice none 0 0, .string ⟨#[]⟩, .string ⟨#[]⟩] 26)).drew := ⟨_, rfl⟩
  have r0 : W3.heap[w.heap.size]? = some (.cells #[.int .i64 k, .int .i64 n0, .int .i64 n1, .int .i64 n2, .int .i64 n3, .int .i64 n4, .int .i64 n5, .slice ap mp cp, .slice ac mc cc, .string tx, .string tg] 26 (0, 0)) := by
    rw [hW3]
    show ((w.alloc _).alloc _).heap[_]? = _
    rw [Below.heap_alloc _ _ _ (by simp)]; exact World.alloc_heap_new _ _
  have r1 : W3.heap[w.heap.size + 1]? = some (.cells #[.int .i64 0, .int .i64 0, .int .i64 0, .int .i64 0, .int .i64 0, .int .i64 0, .int .i64 0, .slice none 0 0, .slice none 0 0, .string ⟨#[]⟩, .string ⟨#[]⟩] 26 (0, 0)) := by
    have := World.alloc_heap_new (w.alloc (.cells #[.int .i64 k, .int .i64 n0, .int .i64 n1, .int .i64 n2, .int .i64 n3, .int .i64 n4, .int .i64 n5, .slice ap mp cp, .slice ac mc cc, .string tx, .string tg] 26)) (.cells #[.int .i64 0, .int .i64 0, .int .i64 0, .int .i64 0, .int .i64 0, .int .i64 0, .int .i64 0, .slice none 0 0, .slice none 0 0, .string ⟨#[]⟩, .string ⟨#[]⟩] 26)
    rw [World.size_alloc] at this
    rw [hW3]; exact this
  have hb3 : Below w.heap.size w W3 := by rw [hW3]; exact (((Below.refl _ w).alloc (Nat.le_refl _) _).alloc (by simp) _).drew
  rw [← hW3]
  have f9 := row_cell r0 9 _ rfl
  have f10 := row_cell r0 10 _ rfl
  have z9 := frozen_of_row W3 w.heap.size 9 _ _ r0
  have z10 := frozen_of_row W3 w.heap.size 10 _ _ r0
  have HR0 := Lib.hid r0
  have HR1 := Lib.hid r1
  have HB3 := Lib.hid hb3
  clear hW3 r0 r1 hb3 hmp3 hmc3 hmp2 hmc2
  go_wp2
  have htx : (tx.extract 0 mt).size ≤ 80 := by rw [ByteArray.size_extract]; omega
  have htg : (tg.extract 0 mg).size ≤ 80 := by rw [ByteArray.size_extract]; omega
  have HT := Lib.hid (And.intro htx htg)
  clear htx htg
  refine wp_region_lex2 (C := fun w' => ∃ n, w' = W3.drewN n) (by kernel_rfl) (by kernel_rfl) ⟨1, rfl⟩ ?_
  repeat (first
    | (refine wpQ2_pure rfl ?_; go_big_quiet_step (fail); refine wpQuiet_nil ?_)
    | (refine wpQ2_look rfl ?_; go_big_quiet_step (fail); refine wpQuiet_nil ?_))
  refine wpQ2_store (fun w' => ∃ n, w' = (W3.setCell ⟨w.heap.size, 9, none⟩ (.string (tx.extract 0 mt))).drewN n) rfl rfl rfl ⟨w.heap.size, 9, none⟩ (.string (tx.extract 0 mt)) rfl rfl ?_ ?_
  · rintro w1 ⟨n, rfl⟩
    refine ⟨(W3.drewN n).setCell ⟨w.heap.size, 9, none⟩ (.string (tx.extract 0 mt)), ?_, n, rfl⟩
    simp [Instr.storeAt, go_sem, f9, z9]
  repeat (first
    | (refine wpQ2_pure rfl ?_; go_big_quiet_step (fail); refine wpQuiet_nil ?_))
  refine wpQ2_store (fun w' => ∃ n, w' = ((W3.setCell ⟨w.heap.size, 9, none⟩ (.string (tx.extract 0 mt))).setCell ⟨w.heap.size, 10, none⟩ (.string (tg.extract 0 mg))).drewN n) rfl rfl rfl ⟨w.heap.size, 10, none⟩ (.string (tg.extract 0 mg)) rfl rfl ?_ ?_
  · rintro w1 ⟨n, rfl⟩
    refine ⟨((W3.setCell ⟨w.heap.size, 9, none⟩ (.string (tx.extract 0 mt))).drewN n).setCell ⟨w.heap.size, 10, none⟩ (.string (tg.extract 0 mg)), ?_, n, rfl⟩
    simp [Instr.storeAt, go_sem, f10, z10]
  rintro w4 ⟨nn, rfl⟩
  generalize tx.extract 0 mt = tx2 at *
  generalize tg.extract 0 mg = tg2 at *
  obtain ⟨W5, hW5⟩ : ∃ W5, W5 = ((W3.setCell ⟨w.heap.size, 9, none⟩ (.string tx2)).setCell ⟨w.heap.size, 10, none⟩ (.string tg2)).drewN nn := ⟨_, rfl⟩
  have r0 : W5.heap[w.heap.size]? = some (.cells #[.int .i64 k, .int .i64 n0, .int .i64 n1, .int .i64 n2, .int .i64 n3, .int .i64 n4, .int .i64 n5, .slice ap mp cp, .slice ac mc cc, .string tx2, .string tg2] 26 (0, 0)) := by
    rw [hW5]
    show ((W3.setCell _ _).setCell _ _).heap[_]? = _
    rw [setCell_at (setCell_at HR0.out)]; rfl
  have r1 : W5.heap[w.heap.size + 1]? = some (.cells #[.int .i64 0, .int .i64 0, .int .i64 0, .int .i64 0, .int .i64 0, .int .i64 0, .int .i64 0, .slice none 0 0, .slice none 0 0, .string ⟨#[]⟩, .string ⟨#[]⟩] 26 (0, 0)) := by
    rw [hW5]
    show ((W3.setCell _ _).setCell _ _).heap[_]? = _
    rw [Below.heap_setCell _ _ _ _ (by show _ ≠ w.heap.size; omega), Below.heap_setCell _ _ _ _ (by show _ ≠ w.heap.size; omega)]; exact HR1.out
  have hb5 : Below w.heap.size w W5 := by rw [hW5]; exact below_drewN ((HB3.out.setCell (p := ⟨w.heap.size, 9, none⟩) (Nat.le_refl _) _).setCell (p := ⟨w.heap.size, 10, none⟩) (Nat.le_refl _) _) nn
  have f := fun j x hx => row_cell r0 j x hx
  have f0 := f 0 _ rfl; have f1 := f 1 _ rfl; have f2 := f 2 _ rfl; have f3 := f 3 _ rfl; have f4 := f 4 _ rfl; have f5 := f 5 _ rfl
  have f6 := f 6 _ rfl; have f7 := f 7 _ rfl; have f8 := f 8 _ rfl; have f9 := f 9 _ rfl; have f10 := f 10 _ rfl
  rw [← hW5]
  have HR15 := Lib.hid r1
  have HB5 := Lib.hid hb5
  clear f hW5 r0 r1 hb5
  go_wp2_with (refine wpList_store_row rfl 26 (.tmp 2) (.tmp 35) rfl (w.heap.size + 1) #[.int .i64 k, .int .i64 n0, .int .i64 n1, .int .i64 n2, .int .i64 n3, .int .i64 n4, .int .i64 n5, .slice ap mp cp, .slice ac mc cc, .string tx2, .string tg2] rfl rfl 26 _ HR15.out mgInfo rfl (by simp [Value.oneCell']) ?_)
  have hfin := setRow_heap W5 (w.heap.size + 1) _ #[.int .i64 k, .int .i64 n0, .int .i64 n1, .int .i64 n2, .int .i64 n3, .int .i64 n4, .int .i64 n5, .slice ap mp cp, .slice ac mc cc, .string tx2, .string tg2] _ _ HR15.out
  have hoff := Off.setRow (S := fun k => k = w.heap.size + 1) (Off.refl _ W5) rfl #[.int .i64 k, .int .i64 n0, .int .i64 n1, .int .i64 n2, .int .i64 n3, .int .i64 n4, .int .i64 n5, .slice ap mp cp, .slice ac mc cc, .string tx2, .string tg2]
  have hbf := HB5.out.trans (hoff.below (B := w.heap.size) (fun k hk => by omega) HB5.out.size)
  generalize W5.setRow (w.heap.size + 1) _ = Wf at *
  have y := fun j x hx => row_cell hfin j x hx
  have y0 := y 0 _ rfl; have y1 := y 1 _ rfl; have y2 := y 2 _ rfl; have y3 := y 3 _ rfl; have y4 := y 4 _ rfl; have y5 := y 5 _ rfl
  have y6 := y 6 _ rfl; have y7 := y 7 _ rfl; have y8 := y 8 _ rfl; have y9 := y 9 _ rfl; have y10 := y 10 _ rfl
  refine bodyPost_ret (v := .agg #[.int .i64 k, .int .i64 n0, .int .i64 n1, .int .i64 n2, .int .i64 n3, .int .i64 n4, .int .i64 n5, .slice ap mp cp, .slice ac mc cc, .string tx2, .string tg2]) (by simp [results, Try.results7, go_sem, y0, y1, y2, y3, y4, y5, y6, y7, y8, y9, y10]) rfl ?_
  obtain ⟨hnp, hnc, ha, hc⟩ := HD.out
  have hmp3 : mp ≤ np ∧ mp ≤ 40 := HM3.out.1
  have hmc3 : mc ≤ nc ∧ mc ≤ 40 := HM3.out.2
  have hp1 : (p.take mp).length = mp := by rw [List.length_take]; omega
  have hc1 : (c.take mc).length = mc := by rw [List.length_take]; omega
  refine ⟨⟨k, n0, n1, n2, n3, n4, n5, p.take mp, c.take mc, tx2, tg2⟩, _, _, rfl, ⟨by dsimp only; omega, by dsimp only; omega, HT.out.1, HT.out.2⟩, ⟨⟨ap, cp, by rw [hp1], by dsimp only; omega, ?_⟩, ⟨ac, cc, by rw [hc1], by dsimp only; omega, (hc.take mc).below (hbf.mono hB)⟩⟩, hbf⟩
  dsimp only
  rw [fl2_takes]
  exact (ha.take _).below (hbf.mono hB)
end Go.Proofs.Ytnbhiamnoapmlaa

namespace Go.Proofs.Ytnbhiamnoapmlaa
open Go.RowKit Go.Shelf
set_option maxRecDepth 100000
attribute [local go_sem] Oper.semAt_some

set_option maxHeartbeats 2000000 in
theorem rtext_any (s : ByteArray) (mo : Int) (hs : s.size ≤ maxLen) (w : World) : Calls Try.prog 32 #[.string s, .int .i64 mo] w fun e w' => e = .returned (.int .i64 (wT s mo)) ∧ w = w' := by
  obtain ⟨n, hn⟩ : ∃ n, s.size = n := ⟨_, rfl⟩
  have hl : n ≤ 9223372036854775807 := by unfold maxLen at hs; omega
  clear hs
  by_cases h1 : mo < (n : Int)
  · rw [show wT s mo = 6 by unfold wT; rw [hn]; exact if_pos h1]
    go_enter Try.func32, Try.ntmps32
    go_wp2
    go_ret
    exact ⟨rfl, rfl⟩
  · obtain ⟨R, hR⟩ : ∃ R, wT s mo = R := ⟨_, rfl⟩
    rw [hR]
    have HR := Lib.hid hR
    clear hR
    go_enter Try.func32, Try.ntmps32
    go_wp2
    go_loopw [5] (fun iv wr => ∃ j : Nat, j ≤ n ∧ iv = .int .i64 (j : Int) ∧ Hid (∀ b ∈ s.data.toList.take j, byOk b) ∧ wr = w) (fun iv _ => n - (intOf iv).toNat)
    case atStart => exact ⟨0, by omega, rfl, Lib.hid (by simp), rfl⟩
    case round =>
      obtain ⟨j, hj, rfl, HB, rfl⟩ := hrel
      rcases Nat.lt_or_ge j n with hlt | hge
      · have hg : s.data.toList[j]? = some (s[j]'(by omega)) := byte_at s j (by omega)
        by_cases hb : byOk (s[j]'(by omega))
        · have HB2 : Hid (∀ b ∈ s.data.toList.take (j + 1), byOk b) := Lib.hid (fun b hb2 => by
            rw [List.take_add_one, hg, List.mem_append] at hb2
            rcases hb2 with hb2 | hb2
            · exact HB.out b hb2
            · simp at hb2; subst hb2; exact hb)
          unfold byOk at hb
          clear hg
          go_wp2
          exact ⟨⟨j + 1, by omega, by go_num, HB2, trivial⟩, by simp only [intOf]; omega⟩
        · obtain rfl : R = 19 := by
            rw [← HR.out]
            unfold wT
            rw [hn, if_neg (by omega), if_neg (fun h => hb (h _ (List.mem_of_getElem? hg)))]
          unfold byOk at hb
          clear hg
          go_wp2
          all_goals
            go_ret
            exact ⟨rfl, rfl⟩
      · obtain rfl : j = n := by omega
        obtain rfl : R = 0 := by
          rw [← HR.out]
          unfold wT
          rw [hn, if_neg (by omega), if_pos]
          have h2 := HB.out
          rwa [List.take_of_length_le (by show s.data.toList.length ≤ j; rw [Array.length_toList]; exact Nat.le_of_eq hn)] at h2
        go_wp2
        go_ret
        exact ⟨rfl, rfl⟩

set_option maxHeartbeats 4000000 in
theorem rpath_any (A : Option Addr) (n cp : Nat) (l : List (Int × Int)) (w : World) (hn : l.length = n) (hcp : n ≤ cp) (hA : Nums .i64 w w.heap.size A (fl2 l)) :
    Calls Try.prog 30 #[.slice A n cp] w fun e w' => e = .returned (.int .i64 (wP l 16)) ∧ w = w' := by
  obtain ⟨R, hR⟩ : ∃ R, wP l 16 = R := ⟨_, rfl⟩
  rw [hR]
  unfold wP wS at hR
  rw [hn] at hR
  have HN := Lib.hid hn
  have HA := Lib.hid hA
  clear hn hA
  by_cases h0 : n = 0
  · subst h0
    obtain rfl : R = 13 := by rw [← hR]; rfl
    clear hR
    go_enter Try.func30, Try.ntmps30
    go_wp2
    go_ret
    exact ⟨rfl, rfl⟩
  · have hz : ¬ (n : Int) = 0 := by omega
    have hz2 : ((n : Int) == 0) = false := by simpa using h0
    rw [if_neg hz] at hR
    by_cases h16 : 16 < (n : Int)
    · rw [if_pos h16, if_pos (by omega)] at hR
      subst hR
      go_enter Try.func30, Try.ntmps30
      go_wp2
      go_ret
      exact ⟨rfl, rfl⟩
    · rw [if_neg h16, if_neg (by omega)] at hR
      have HR := Lib.hid hR
      have hn16 : n ≤ 16 := by omega
      clear hR
      go_enter Try.func30, Try.ntmps30
      go_wp2
      go_loopw [3] (fun iv wr => ∃ j : Nat, j ≤ n ∧ iv = .int .i64 (j : Int) ∧ Hid (∀ q ∈ l.take j, ptOk q) ∧ wr = w) (fun iv _ => n - (intOf iv).toNat)
      case atStart => exact ⟨0, by omega, rfl, Lib.hid (by simp), rfl⟩
      case round =>
        obtain ⟨j, hj, rfl, HP, rfl⟩ := hrel
        rcases Nat.lt_or_ge j n with hlt | hge
        · obtain ⟨⟨x, y⟩, hq⟩ : ∃ q, l[j]? = some q := ⟨_, List.getElem?_eq_getElem (by rw [HN.out]; exact hlt)⟩
          obtain ⟨b, off, rfl, hb, c0, c1⟩ := pts_two HA.out hq
          have HQ := Lib.hid hq
          dsimp only at c0 c1
          clear hq
          go_wp2
          go_loopw [4] (fun iv wr' => ∃ i : Nat, i ≤ 2 ∧ iv = .int .i64 (i : Int) ∧ Hid ((0 < i → -1000000 ≤ x ∧ x ≤ 1000000) ∧ (1 < i → -1000000 ≤ y ∧ y ≤ 1000000)) ∧ wr' = wr) (fun iv _ => 2 - (intOf iv).toNat)
          case atStart => exact ⟨0, by omega, rfl, Lib.hid (by omega), rfl⟩
          case round =>
            obtain ⟨i, hi, rfl, HI, rfl⟩ := hrel
            obtain rfl | rfl | rfl : i = 0 ∨ i = 1 ∨ i = 2 := by omega
            · by_cases hv : -1000000 ≤ x ∧ x ≤ 1000000
              · have HI2 : Hid ((0 < 0 + 1 → -1000000 ≤ x ∧ x ≤ 1000000) ∧ (1 < 0 + 1 → -1000000 ≤ y ∧ y ≤ 1000000)) := Lib.hid ⟨fun _ => hv, fun h => by omega⟩
                go_wp2
                exact ⟨⟨0 + 1, by omega, rfl, HI2, trivial⟩, by simp only [intOf]; omega⟩
              · obtain rfl : R = 5 := by
                  rw [← HR.out, if_neg (fun h => hv ⟨(h _ (List.mem_of_getElem? HQ.out)).1, (h _ (List.mem_of_getElem? HQ.out)).2.1⟩)]
                have hv2 : x < -1000000 ∨ (-1000000 ≤ x ∧ 1000000 < x) := by omega
                clear hv
                rcases hv2 with hv | ⟨hv, hv3⟩
                all_goals
                  go_wp2
                  go_ret
                  exact ⟨rfl, rfl⟩
            · by_cases hv : -1000000 ≤ y ∧ y ≤ 1000000
              · have HI2 : Hid ((0 < 1 + 1 → -1000000 ≤ x ∧ x ≤ 1000000) ∧ (1 < 1 + 1 → -1000000 ≤ y ∧ y ≤ 1000000)) := Lib.hid ⟨fun _ => HI.out.1 (by omega), fun _ => hv⟩
                go_wp2
                exact ⟨⟨1 + 1, by omega, rfl, HI2, trivial⟩, by simp only [intOf]; omega⟩
              · obtain rfl : R = 5 := by
                  rw [← HR.out, if_neg (fun h => hv ⟨(h _ (List.mem_of_getElem? HQ.out)).2.2.1, (h _ (List.mem_of_getElem? HQ.out)).2.2.2⟩)]
                have hv2 : y < -1000000 ∨ (-1000000 ≤ y ∧ 1000000 < y) := by omega
                clear hv
                rcases hv2 with hv | ⟨hv, hv3⟩
                all_goals
                  go_wp2
                  go_ret
                  exact ⟨rfl, rfl⟩
            · have HP2 : Hid (∀ q ∈ l.take (j + 1), ptOk q) := Lib.hid (fun q hq => by
                rw [List.take_add_one, HQ.out, List.mem_append] at hq
                rcases hq with hq | hq
                · exact HP.out q hq
                · simp at hq
                  subst hq
                  have h1 := HI.out.1 (by omega)
                  have h2 := HI.out.2 (by omega)
                  exact ⟨h1.1, h1.2, h2.1, h2.2⟩)
              go_wp2
              go_roundw
              case rel => exact ⟨j + 1, by omega, by go_num, HP2, trivial⟩
              case measure => simp [intOf]; omega
        · obtain rfl : j = n := by omega
          obtain rfl : R = 0 := by
            rw [← HR.out, if_pos]
            have h1 := HP.out
            rwa [List.take_of_length_le (by rw [HN.out]; exact Nat.le_refl _)] at h1
          go_wp2
          go_ret
          exact ⟨rfl, rfl⟩

theorem cE_full {l : List Int} {j : Nat} {c : Int} (h : l[j]? = some c) (h0 : cE (-1) (l.take j) = 0) (h1 : 0 ≤ c) (h2 : c ≤ 65535) (h3 : ahd l j < c) : cE (-1) (l.take (j + 1)) = 0 := cE_next l (-1) j c h h0 h1 h2 h3
set_option maxHeartbeats 4000000 in
theorem rcells_any (A : Option Addr) (n cp : Nat) (l : List Int) (w : World) (hn : l.length = n) (hcp : n ≤ cp) (hA : Nums .i64 w w.heap.size A l) :
    Calls Try.prog 31 #[.slice A n cp] w fun e w' => e = .returned (.int .i64 (wC l 32)) ∧ Below w.heap.size w w' := by
  obtain ⟨R, hR⟩ : ∃ R, wC l 32 = R := ⟨_, rfl⟩
  rw [hR]
  unfold wC wS at hR
  rw [hn] at hR
  have HN := Lib.hid hn
  have HA := Lib.hid hA
  clear hn hA
  by_cases h0 : n = 0
  · subst h0
    obtain rfl : R = 13 := by rw [← hR]; rfl
    clear hR
    go_enter Try.func31, Try.ntmps31
    go_wp2
    go_ret
    exact ⟨rfl, Below.refl _ _⟩
  · have hz : ¬ (n : Int) = 0 := by omega
    have hz2 : ((n : Int) == 0) = false := by simpa using h0
    rw [if_neg hz] at hR
    by_cases h16 : 32 < (n : Int)
    · rw [if_pos h16, if_pos (by omega)] at hR
      subst hR
      go_enter Try.func31, Try.ntmps31
      go_wp2
      go_ret
      exact ⟨rfl, Below.refl _ _⟩
    · rw [if_neg h16, if_neg (by omega)] at hR
      have HR := Lib.hid hR
      have hn16 : n ≤ 32 := by omega
      clear hR
      go_enter Try.func31, Try.ntmps31
      go_wp2
      go_loopw [3] (fun iv wr => ∃ j : Nat, j ≤ n ∧ iv = .int .i64 (j : Int) ∧ Hid (cE (-1) (l.take j) = 0) ∧ Hid (Below w.heap.size w wr)) (fun iv _ => n - (intOf iv).toNat)
      case atStart => exact ⟨0, by omega, rfl, Lib.hid (by simp [cE]), Lib.hid (Below.refl _ _)⟩
      case round =>
        obtain ⟨j, hj, rfl, HP, HW⟩ := hrel
        rcases Nat.lt_or_ge j n with hlt | hge
        · obtain ⟨c, hq⟩ : ∃ c, l[j]? = some c := ⟨_, List.getElem?_eq_getElem (by rw [HN.out]; exact hlt)⟩
          have HQ := Lib.hid hq
          have HB := Lib.hid (cE_bad hq HP.out)
          rw [HR.out] at HB
          by_cases hv : c < 0 ∨ 65535 < c
          · rw [if_pos hv] at HB
            obtain rfl : R = 5 := HB.out
            obtain ⟨b, off, rfl, hb, c0⟩ := (HA.out.below HW.out).open hq
            have hv2 : c < 0 ∨ (0 ≤ c ∧ 65535 < c) := by omega
            clear hv hq
            rcases hv2 with hv | ⟨hv, hv3⟩
            all_goals
              go_wp2
              go_ret
              exact ⟨rfl, HW.out⟩
          · rw [if_neg hv] at HB
            have hv2 : 0 ≤ c ∧ c ≤ 65535 := by omega
            clear hv
            rcases Nat.eq_zero_or_pos j with hj0 | hj0
            · subst hj0
              have HP2 : Hid (cE (-1) (l.take (0 + 1)) = 0) := Lib.hid (cE_full hq HP.out hv2.1 hv2.2 (by unfold ahd; rw [if_pos rfl]; omega))
              obtain ⟨b, off, rfl, hb, c0⟩ := (HA.out.below HW.out).open hq
              rw [Nat.add_zero] at c0
              clear hq HB
              go_wp2
              go_quiet (fail)
              go_wp2
              exact ⟨⟨0 + 1, by omega, by go_num, HP2, Lib.hid (below_drewN HW.out _)⟩, by simp only [intOf]; omega⟩
            · obtain ⟨a, ha⟩ : ∃ a, l[j - 1]? = some a := ⟨_, List.getElem?_eq_getElem (by rw [HN.out]; omega)⟩
              have had : ahd l j = a := by unfold ahd; rw [if_neg (by omega), List.getD, ha]; rfl
              rw [had] at HB
              obtain ⟨b, off, hAe, hb, c0⟩ := (HA.out.below HW.out).open hq
              obtain ⟨b', off', hAe', _, c1⟩ := (HA.out.below HW.out).open ha
              rw [hAe] at hAe'
              injection hAe' with hAe'
              injection hAe' with e1 e2
              subst e1 e2 hAe
              have hj1 : 0 < (j : Int) := by omega
              have hjj : ((j : Int) - 1).toNat = j - 1 := by omega
              by_cases hc : c ≤ a
              · rw [if_pos hc] at HB
                obtain rfl : R = 3 := HB.out
                clear hq ha had
                go_wp2
                go_quiet (fail)
                go_wp2
                go_ret
                exact ⟨rfl, below_drewN HW.out _⟩
              · have HP2 : Hid (cE (-1) (l.take (j + 1)) = 0) := Lib.hid (cE_full hq HP.out hv2.1 hv2.2 (by omega))
                clear hq ha had HB
                go_wp2
                go_quiet (fail)
                go_wp2
                exact ⟨⟨j + 1, by omega, by go_num, HP2, Lib.hid (below_drewN HW.out _)⟩, by simp only [intOf]; omega⟩
        · obtain rfl : j = n := by omega
          obtain rfl : R = 0 := by
            rw [← HR.out]
            have h1 := HP.out
            rwa [List.take_of_length_le (by rw [HN.out]; exact Nat.le_refl _)] at h1
          go_wp2
          go_ret
          exact ⟨rfl, HW.out⟩
end Go.Proofs.Ytnbhiamnoapmlaa

namespace Go.Proofs.Ytnbhiamnoapmlaa
open Go.RowKit Go.Shelf
set_option maxRecDepth 100000
attribute [local go_sem] Oper.semAt_some

set_option maxHeartbeats 8000000 in
theorem rmsame_any (M M' : Mg) (P C P' C' : Value) (w : World) (hs : Msm M) (h1 : MAt w w.heap.size M P C) (h2 : MAt w w.heap.size M' P' C') :
    Calls Try.prog 12 #[mV M P C, mV M' P' C'] w fun e w' => e = .returned (.bool (decide (M = M'))) ∧ Below w.heap.size w w' := by
  obtain ⟨w2, hw2⟩ : ∃ w2, w2 = (w.alloc (.cells (mC M P C) 34)).alloc (.cells (mC M' P' C') 34) := ⟨_, rfl⟩
  have hb2 : Below w.heap.size w w2 := by rw [hw2]; exact ((Below.refl _ w).alloc (Nat.le_refl _) _).alloc (by simp) _
  have HW := Lib.hid hw2
  have g1 := (h1.below hb2).mono hb2.size
  have g2 := (h2.below hb2).mono hb2.size
  obtain ⟨k, n0, n1, n2, n3, n4, n5, p, c, tx, tg⟩ := M
  obtain ⟨k', n0', n1', n2', n3', n4', n5', p', c', tx', tg'⟩ := M'
  obtain ⟨⟨a, cp, rfl, hcp, ha⟩, ⟨b, cb, rfl, hcb, hb⟩⟩ := g1
  obtain ⟨⟨a', cp', rfl, hcp', ha'⟩, ⟨b', cb', rfl, hcb', hb'⟩⟩ := g2
  dsimp only at *
  have hl1 := hs.p
  have hl2 := hs.c
  dsimp only at hl1 hl2
  obtain ⟨np, hnp⟩ : ∃ np, p.length = np := ⟨_, rfl⟩
  obtain ⟨nc, hnc⟩ : ∃ nc, c.length = nc := ⟨_, rfl⟩
  obtain ⟨np', hnp'⟩ : ∃ np', p'.length = np' := ⟨_, rfl⟩
  obtain ⟨nc', hnc'⟩ : ∃ nc', c'.length = nc' := ⟨_, rfl⟩
  rw [hnp] at hcp hl1
  rw [hnc] at hcb hl2
  rw [hnp'] at hcp'
  rw [hnc'] at hcb'
  have KC := rints_any w2.heap.size b b' nc nc' cb cb' c c' w2 hnc hnc' (by omega) hb hb'
  obtain ⟨DC, hDC⟩ : ∃ DC, decide (c = c') = DC := ⟨_, rfl⟩
  rw [hDC] at KC
  have KC := Lib.hid KC
  have HA := Lib.hid (And.intro ha ha')
  unfold mV
  unfold mC at HW ⊢
  dsimp only at HW ⊢
  rw [hnp, hnc, hnp', hnc'] at HW ⊢
  have HNP := Lib.hid (And.intro hnp hnp')
  clear hw2 h1 h2 hb2 ha ha' hb hb' hs hnp hnc hnp' hnc'
  have hfin : ∀ W, Below w2.heap.size w2 W → Hid (Below w.heap.size w W) := fun W hW => by
    have hb2 : Below w.heap.size w w2 := by rw [HW.out]; exact ((Below.refl _ w).alloc (Nat.le_refl _) _).alloc (by simp) _
    exact Lib.hid (hb2.trans (hW.mono hb2.size))
  obtain ⟨D, hD⟩ : ∃ D, decide ((⟨k, n0, n1, n2, n3, n4, n5, p, c, tx, tg⟩ : Mg) = ⟨k', n0', n1', n2', n3', n4', n5', p', c', tx', tg'⟩) = D := ⟨_, rfl⟩
  rw [hD]
  by_cases hk : k = k'
  case neg =>
    have hk1 : (k != k') = true := by simpa using hk
    obtain rfl : D = false := by rw [← hD, decide_eq_false (fun e => hk (congrArg Mg.k e))]
    have HB := hfin w2 (Below.refl _ _)
    rw [HW.out] at HB
    clear hD KC hfin HW
    go_enter Try.func12, Try.ntmps12
    go_wp2
    go_ret
    exact ⟨rfl, HB.out⟩
  subst hk
  by_cases hN : [n0, n1, n2, n3, n4, n5] = [n0', n1', n2', n3', n4', n5']
  case neg =>
    have he : ∀ W, (binOp .neq 22 (.agg #[.int .i64 n0, .int .i64 n1, .int .i64 n2, .int .i64 n3, .int .i64 n4, .int .i64 n5]) (.agg #[.int .i64 n0', .int .i64 n1', .int .i64 n2', .int .i64 n3', .int .i64 n4', .int .i64 n5'])).run Try.prog W = .ok (.bool true) W := fun W => by rw [neq_six, decide_eq_false hN]; rfl
    obtain rfl : D = false := by
      rw [← hD, decide_eq_false (fun e => hN (by injection e with e0 e1 e2 e3 e4 e5 e6; rw [e1, e2, e3, e4, e5, e6]))]
    have HB := hfin w2 (Below.refl _ _)
    rw [HW.out] at HB
    clear hD KC hfin HW hN
    go_enter Try.func12, Try.ntmps12
    go_wp2
    go_ret
    exact ⟨rfl, HB.out⟩
  simp only [List.cons.injEq, and_true] at hN
  obtain ⟨rfl, rfl, rfl, rfl, rfl, rfl⟩ := hN
  have he : ∀ W, (binOp .neq 22 (.agg #[.int .i64 n0, .int .i64 n1, .int .i64 n2, .int .i64 n3, .int .i64 n4, .int .i64 n5]) (.agg #[.int .i64 n0, .int .i64 n1, .int .i64 n2, .int .i64 n3, .int .i64 n4, .int .i64 n5])).run Try.prog W = .ok (.bool false) W := fun W => by rw [neq_six, decide_eq_true rfl]; rfl
  by_cases hnn : np = np'
  case neg =>
    have hnn2 : ((np : Int) != (np' : Int)) = true := by simp; omega
    have hnn3 : ¬ (np : Int) = (np' : Int) := by omega
    obtain rfl : D = false := by
      rw [← hD, decide_eq_false (fun e => hnn (by rw [← HNP.out.1, ← HNP.out.2]; injection e with _ _ _ _ _ _ _ e7; rw [e7]))]
    have HB := hfin w2 (Below.refl _ _)
    rw [HW.out] at HB
    clear hD KC hfin HW
    go_enter Try.func12, Try.ntmps12
    go_wp2
    go_ret
    exact ⟨rfl, HB.out⟩
  subst hnn
  have q1 : w2.heap[w.heap.size]? = some (.cells #[.int .i64 k, .int .i64 n0, .int .i64 n1, .int .i64 n2, .int .i64 n3, .int .i64 n4, .int .i64 n5, .slice a np cp, .slice b nc cb, .string tx, .string tg] 34 (0, 0)) := by
    rw [HW.out, Below.heap_alloc _ _ _ (by simp)]; exact World.alloc_heap_new _ _
  have q2 : w2.heap[w.heap.size + 1]? = some (.cells #[.int .i64 k, .int .i64 n0, .int .i64 n1, .int .i64 n2, .int .i64 n3, .int .i64 n4, .int .i64 n5, .slice a' np cp', .slice b' nc' cb', .string tx', .string tg'] 34 (0, 0)) := by
    rw [HW.out, show w.heap.size + 1 = (w.alloc (.cells #[.int .i64 k, .int .i64 n0, .int .i64 n1, .int .i64 n2, .int .i64 n3, .int .i64 n4, .int .i64 n5, .slice a np cp, .slice b nc cb, .string tx, .string tg] 34)).heap.size by simp]; exact World.alloc_heap_new _ _
  have k1 := fun j x hx => row_cell q1 j x hx
  have k2 := fun j x hx => row_cell q2 j x hx
  have c7 := k1 7 _ rfl; have c9 := k1 9 _ rfl; have c10 := k1 10 _ rfl
  have d7 := k2 7 _ rfl; have d9 := k2 9 _ rfl; have d10 := k2 10 _ rfl
  clear k1 k2 q1 q2
  by_cases hc : c = c'
  case neg =>
    obtain rfl : DC = false := by rw [← hDC, decide_eq_false hc]
    obtain rfl : D = false := by rw [← hD, decide_eq_false (fun e => hc (congrArg Mg.c e))]
    clear hD hc hDC
    go_enter Try.func12, Try.ntmps12
    go_wp2_with fail
    rw [← HW.out]
    refine KC.out.mono ?_
    rintro e W1 ⟨rfl, m1, rfl⟩
    go_wp2
    go_ret
    exact ⟨rfl, (hfin _ (below_of_drewN _ _)).out⟩
  obtain rfl : DC = true := by rw [← hDC, decide_eq_true hc]
  subst hc
  clear hDC
  by_cases ht : tx = tx'
  case neg =>
    have hs := str_ne ht
    obtain rfl : D = false := by rw [← hD, decide_eq_false (fun e => ht (congrArg Mg.tx e))]
    clear hD ht
    go_enter Try.func12, Try.ntmps12
    go_wp2_with fail
    rw [← HW.out]
    refine KC.out.mono ?_
    rintro e W1 ⟨rfl, m1, rfl⟩
    go_wp2
    go_ret
    exact ⟨rfl, (hfin _ (below_of_drewN _ _)).out⟩
  subst ht
  by_cases hg : tg = tg'
  case neg =>
    have hs := str_ne hg
    obtain rfl : D = false := by rw [← hD, decide_eq_false (fun e => hg (congrArg Mg.tg e))]
    clear hD hg
    go_enter Try.func12, Try.ntmps12
    go_wp2_with fail
    rw [← HW.out]
    refine KC.out.mono ?_
    rintro e W1 ⟨rfl, m1, rfl⟩
    go_wp2
    go_ret
    exact ⟨rfl, (hfin _ (below_of_drewN _ _)).out⟩
  subst hg
  obtain rfl : D = decide (p = p') := by
    rw [← hD]
    exact decide_eq_decide.2 ⟨fun e => congrArg Mg.p e, fun e => by rw [e]⟩
  obtain ⟨E, hE⟩ : ∃ E, decide (p = p') = E := ⟨_, rfl⟩
  rw [hE]
  have HE := Lib.hid hE
  clear hD hE
  go_enter Try.func12, Try.ntmps12
  go_wp2_with fail
  rw [← HW.out]
  refine KC.out.mono ?_
  rintro e W1 ⟨rfl, m1, rfl⟩
  clear HW KC
  go_wp2
  go_loopw [5] (fun iv wr => ∃ j : Nat, j ≤ np ∧ iv = .int .i64 (j : Int) ∧ Hid (p.take j = p'.take j) ∧ ∃ n, wr = w2.drewN n) (fun iv _ => np - (intOf iv).toNat)
  case atStart => exact ⟨0, by omega, rfl, Lib.hid rfl, m1, rfl⟩
  case round =>
    obtain ⟨j, hj, rfl, HT, n, rfl⟩ := hrel
    rcases Nat.lt_or_ge j np with hlt | hge
    · obtain ⟨⟨x, x2⟩, hx⟩ : ∃ q, p[j]? = some q := ⟨_, List.getElem?_eq_getElem (by rw [HNP.out.1]; exact hlt)⟩
      obtain ⟨⟨y, y2⟩, hy⟩ : ∃ q, p'[j]? = some q := ⟨_, List.getElem?_eq_getElem (by rw [HNP.out.2]; exact hlt)⟩
      obtain ⟨g1, o1, rfl, hg1, x0, x1⟩ := pts_two HA.out.1 hx
      obtain ⟨g2, o2, rfl, hg2, y0, y1⟩ := pts_two HA.out.2 hy
      dsimp only at x0 x1 y0 y1
      have HX := Lib.hid hx
      have HY := Lib.hid hy
      clear hx hy
      by_cases hxy : x = y ∧ x2 = y2
      · obtain ⟨rfl, rfl⟩ := hxy
        have hnp2 : ∀ W, (binOp .neq 75 (.agg #[.int .i64 x, .int .i64 x2]) (.agg #[.int .i64 x, .int .i64 x2])).run Try.prog W = .ok (.bool false) W := fun W => by rw [neq_two]; simp
        have HQ : Hid (p.take (j + 1) = p'.take (j + 1)) := by
          show _ = _
          rw [List.take_add_one, List.take_add_one, HT.out, HX.out, HY.out]
        go_wp2
        go_quiet (fail)
        go_wp2
        exact ⟨⟨j + 1, by omega, by go_num, HQ, _, rfl⟩, by simp only [intOf]; omega⟩
      · have hnp2 : ∀ W, (binOp .neq 75 (.agg #[.int .i64 x, .int .i64 x2]) (.agg #[.int .i64 y, .int .i64 y2])).run Try.prog W = .ok (.bool true) W := fun W => by rw [neq_two, decide_eq_false (by simpa using hxy)]; rfl
        obtain rfl : E = false := by
          rw [← HE.out]
          refine decide_eq_false (fun e => hxy ?_)
          have h3 := HX.out
          rw [e, HY.out] at h3
          simp at h3
          exact ⟨h3.1.symm, h3.2.symm⟩
        clear hxy
        go_wp2
        go_quiet (fail)
        go_wp2
        go_ret
        exact ⟨rfl, (hfin _ (below_drewN (below_of_drewN _ _) _)).out⟩
    · obtain rfl : j = np := by omega
      obtain rfl : E = true := by
        rw [← HE.out]
        have h3 := HT.out
        rw [List.take_of_length_le (by rw [HNP.out.1]; omega), List.take_of_length_le (by rw [HNP.out.2]; omega)] at h3
        exact decide_eq_true h3
      go_wp2
      go_ret
      exact ⟨rfl, (hfin _ (below_of_drewN _ _)).out⟩
end Go.Proofs.Ytnbhiamnoapmlaa

namespace Go.Proofs.Ytnbhiamnoapmlaa
open Go.RowKit Go.Shelf
set_option maxRecDepth 100000
attribute [local go_sem] Oper.semAt_some

def hasC (L : List Fd) : Array Value := #[.bool (isS L 0), .bool (isS L 1), .bool (isS L 2), .bool (isS L 3), .bool (isS L 4), .bool (isS L 5), .bool (isS L 6)]
def numC (L : List Fd) : Array Value := #[.bool (isN L 0), .bool (isN L 1), .bool (isN L 2), .bool (isN L 3), .bool (isN L 4), .bool (isN L 5)]
theorem isS_app (L : List Fd) (f : Fd) (s : Int) : isS (L ++ [f]) s = (isS L s || decide (f.so = s)) := by simp [isS]
theorem isN_app (L : List Fd) (f : Fd) (i : Nat) : isN (L ++ [f]) i = (isN L i || (decide (f.so < 3) && decide (f.pl.toNat = i))) := by simp [isN]
theorem hasC_set {L : List Fd} {f : Fd} {s : Nat} (hs : s < 7) (h : f.so = (s : Int)) : (hasC L).setIfInBounds s (.bool true) = hasC (L ++ [f]) := by
  unfold hasC
  simp only [isS_app, h]
  rcases s with _ | _ | _ | _ | _ | _ | _ | s
  all_goals first
    | omega
    | simp
theorem numC_set {L : List Fd} {f : Fd} {i : Nat} (hi : i < 6) (h3 : f.so < 3) (h : f.pl = (i : Int)) : (numC L).setIfInBounds i (.bool true) = numC (L ++ [f]) := by
  unfold numC
  simp only [isN_app, h3, h, Int.toNat_natCast]
  rcases i with _ | _ | _ | _ | _ | _ | i
  all_goals first
    | omega
    | simp
theorem numC_same {L : List Fd} {f : Fd} (h3 : ¬ f.so < 3) : numC (L ++ [f]) = numC L := by
  unfold numC
  simp [isN_app, h3]
theorem numC_at {L : List Fd} {i : Nat} (hi : i < 6) : (numC L)[i]? = some (.bool (isN L i)) := by
  rcases i with _ | _ | _ | _ | _ | _ | i <;> first | rfl | omega
theorem hasC_at {L : List Fd} {s : Nat} (hs : s < 7) : (hasC L)[s]? = some (.bool (isS L s)) := by
  rcases s with _ | _ | _ | _ | _ | _ | _ | s <;> first | rfl | omega
/-- the two arrays of flags, bh and the next -/
structure FlB (bh : Nat) (w4 : World) (L : List Fd) (V : World) : Prop where
  has : V.heap[bh]? = some (.cells (hasC L) 70 (0, 0))
  num : V.heap[bh + 1]? = some (.cells (numC L) 71 (0, 0))
  off : Off (fun q => q = bh ∨ q = bh + 1) w4 V
theorem FlB.later {bh : Nat} {w4 V V' : World} {L : List Fd} (h : FlB bh w4 L V) (hb : Below V.heap.size V V') : FlB bh w4 L V' :=
  ⟨(hb.block _ (Array.getElem?_eq_some_iff.1 h.has).1).trans h.has, (hb.block _ (Array.getElem?_eq_some_iff.1 h.num).1).trans h.num, off_below h.off (hb.mono h.off.size)⟩
theorem str_emp {x : ByteArray} (h : x ≠ ⟨#[]⟩) : x.toList.isEmpty = false := by simpa using str_nil h
theorem str_emp0 : (ByteArray.mk #[]).toList.isEmpty = true := by rw [ByteArray.toList_eq]; rfl

set_option maxHeartbeats 32000000 in
theorem rmcheck_any (M : Mg) (P C : Value) (w : World) (hs : Msm M) (h1 : MAt w w.heap.size M P C) : Calls Try.prog 10 #[mV M P C] w fun e w' => e = .returned (.int .i64 (mck M)) ∧ Below w.heap.size w w' := by
  have KR := Lib.hid (rall_any M.k)
  obtain ⟨R, hR⟩ : ∃ R, mck M = R := ⟨_, rfl⟩
  rw [hR]
  unfold mck at hR
  have hRI := rest_iff M
  have h16 := FD_few M.k
  have KF := Lib.hid (FD_fdok M.k)
  obtain ⟨⟨ap, cp, rfl, hcp, ha⟩, ⟨ac, cc, rfl, hcc, hc⟩⟩ := h1
  obtain ⟨w1, hw1⟩ : ∃ w1, w1 = w.alloc (.cells (mC M (.slice ap M.p.length cp) (.slice ac M.c.length cc)) 34) := ⟨_, rfl⟩
  have hb1 : Below w.heap.size w w1 := by rw [hw1]; exact (Below.refl _ w).alloc (Nat.le_refl _) _
  have hs1 : w1.heap.size = w.heap.size + 1 := by rw [hw1]; simp
  have q0 : w1.heap[w.heap.size]? = some (.cells (mC M (.slice ap M.p.length cp) (.slice ac M.c.length cc)) 34 (0, 0)) := by rw [hw1]; exact World.alloc_heap_new _ _
  obtain ⟨np, hnp⟩ : ∃ np, M.p.length = np := ⟨_, rfl⟩
  obtain ⟨nc, hnc⟩ : ∃ nc, M.c.length = nc := ⟨_, rfl⟩
  unfold mV
  simp only [mC, hnp, hnc] at hw1 q0 hcp hcc ⊢
  have HW := Lib.hid hw1
  have HNN := Lib.hid (And.intro hnp hnc)
  clear hw1 hnp hnc
  go_enter Try.func10, Try.ntmps10
  go_wp2_with fail
  rw [← HW.out]
  refine (KR.out w1).mono ?_
  intro e w2 hOf
  obtain ⟨A, cA, rfl, hcA, hA, hb2⟩ := hOf
  clear KR HW
  obtain ⟨L, hL⟩ : ∃ L, FD M.k = L := ⟨_, rfl⟩
  rw [hL] at hR hRI h16 KF hcA hA ⊢
  obtain ⟨n, hn⟩ : ∃ n, L.length = n := ⟨_, rfl⟩
  rw [hn] at h16 hcA ⊢
  have HN := Lib.hid hn
  have p0 := (hb2.block _ (by omega)).trans q0
  have hb02 := hb1.trans (hb2.mono (by omega))
  have hs2 := hb2.size
  by_cases h0 : n = 0
  · subst h0
    rw [if_pos (List.eq_nil_of_length_eq_zero hn)] at hR
    subst hR
    clear hn hL hA hb1 hb2 q0 p0 hRI
    go_wp2
    go_ret
    exact ⟨rfl, hb02⟩
  rw [if_neg (fun e => h0 (by rw [← hn, e]; rfl))] at hR
  have hn0 : ((n : Int) == 0) = false := by simpa using h0
  obtain ⟨w4, hw4⟩ : ∃ w4, w4 = (w2.alloc (.cells (hasC []) 70)).alloc (.cells (numC []) 71) := ⟨_, rfl⟩
  have hs4 : w4.heap.size = w2.heap.size + 2 := by rw [hw4]; simp
  have hb24 : Below w2.heap.size w2 w4 := by rw [hw4]; exact ((Below.refl _ w2).alloc (Nat.le_refl _) _).alloc (by simp) _
  have hF4 : FlB w2.heap.size w4 [] w4 := by
    refine ⟨?_, ?_, Off.refl _ _⟩
    · rw [hw4, Below.heap_alloc _ _ _ (by simp)]; exact World.alloc_heap_new _ _
    · have := World.alloc_heap_new (w2.alloc (.cells (hasC []) 70)) (.cells (numC []) 71)
      rw [World.size_alloc] at this
      rw [hw4]; exact this
  have p4 := (hb24.block _ (by omega)).trans p0
  have hA4 : FdsIn w1.heap.size w4 A L := fun j f hj => by
    obtain ⟨g, h1, h2, h3, h4⟩ := hA j f hj
    exact ⟨g, h1, h2, by omega, fun q u hq => (hb24.cell (p := ⟨g, j * 7 + q, none⟩) h3).trans (h4 q u hq)⟩
  have hAlt : ∀ (j : Nat) f, L[j]? = some f → ∃ g, A = some ⟨g, 0, none⟩ ∧ g < w2.heap.size := fun j f hj => by
    obtain ⟨g, h1, _, h3, _⟩ := hA j f hj
    exact ⟨g, h1, h3⟩
  have HA4 := Lib.hid (And.intro hA4 hAlt)
  have HP4 := Lib.hid p4
  have HB4 := Lib.hid (hb02.trans (hb24.mono (by omega)))
  have HR := Lib.hid (And.intro hR hRI)
  have HM := Lib.hid (And.intro ha hc)
  have HF4 := Lib.hid hF4
  obtain ⟨bh, hbh⟩ : ∃ bh, w2.heap.size = bh := ⟨_, rfl⟩
  have hs14 : w.heap.size < bh := by omega
  rw [hbh] at HF4 HA4 hs4
  simp only [hasC, numC, isS, isN, List.any_nil] at hw4
  have HW4 := Lib.hid hw4
  have HBH := Lib.hid hbh
  clear hw4 hn hL hR hRI h0 hA hA4 hAlt hb1 hb2 hb24 hb02 q0 p0 p4 ha hc hF4 hs1 hs2
  go_wp2_with fail
  rw [← HW4.out]
  clear HW4 HBH hbh
  go_loopw [6] (fun iv wr => ∃ j : Nat, j ≤ n ∧ iv = .int .i64 (j : Int) ∧ Hid (∀ g ∈ L.take j, fE M g = 0) ∧ Hid (FlB bh w4 (L.take j) wr)) (fun iv _ => n - (intOf iv).toNat)
  case atStart => exact ⟨0, by omega, rfl, Lib.hid (by simp), HF4⟩
  case round =>
    obtain ⟨j, hj, rfl, HZ, HF⟩ := hrel
    have hbw : Below w.heap.size w wr := HB4.out.trans (HF.out.off.below (fun k hk => by omega) (by have := HB4.out.size; omega))
    have m0 := (HF.out.off.block w.heap.size (by omega) (by omega)).trans HP4.out
    rcases Nat.lt_or_ge j n with hlt | hge
    · obtain ⟨f, hf⟩ : ∃ f, L[j]? = some f := ⟨_, List.getElem?_eq_getElem (by rw [HN.out]; exact hlt)⟩
      obtain ⟨g, rfl, hgl, _, d0, d1, d2, d3, d4, d5, d6⟩ := HA4.out.1.seven hf
      obtain ⟨g', hg', hgb⟩ := HA4.out.2 j f hf
      injection hg' with hg'
      injection hg' with hg'
      subst hg'
      have k := fun q x (hx : w4.cell? ⟨g, q, none⟩ = some x) => HF.out.off.cell hx (by show ¬ (g = bh ∨ g = bh + 1); omega)
      have d1 := k _ _ d1
      have d2 := k _ _ d2
      have d3 := k _ _ d3
      have d4 := k _ _ d4
      clear k d0 d5 d6
      have ok := KF.out f (List.mem_of_getElem? hf)
      have hso := ok.so
      obtain ⟨E, hE⟩ : ∃ E, fE M f = E := ⟨_, rfl⟩
      have HEd := Lib.hid hE
      have hsL : (L.take (j + 1)) = L.take j ++ [f] := by rw [List.take_add_one, hf]; rfl
      have hj2 : (j : Int) < (n : Int) := by omega
      have hnA : (n : Int) ≤ (cA : Int) := by omega
      have HFf := Lib.hid hf
      have hFh := HF.out.has
      have hFn := HF.out.num
      have hblt := (Array.getElem?_eq_some_iff.1 hFn).1
      have hw4s := HF.out.off.size
      have hgwr : g < wr.heap.size := by omega
      clear hf
      by_cases h3 : f.so = 3
      · have hfe : fE M f = wP M.p 16 := by unfold fE; rw [if_pos h3, ok.mo.1 h3]
        rw [h3] at d1
        have hh := row_cell hFh 3 _ rfl
        have zh := frozen_of_row wr bh 3 _ _ hFh
        obtain ⟨V1, hV1⟩ : ∃ V1, wr.setCell ⟨bh, 3, none⟩ (.bool true) = V1 := ⟨_, rfl⟩
        have ho1 : Off (fun q => q = bh ∨ q = bh + 1) wr V1 := by rw [← hV1]; exact (Off.refl (fun q => q = bh ∨ q = bh + 1) wr).setCell (p := ⟨bh, 3, none⟩) (.inl rfl) _
        have hF1 : FlB bh w4 (L.take (j + 1)) V1 := by
          rw [hsL]
          refine ⟨by rw [← hV1, setCell_at hFh, hasC_set (s := 3) (by omega) h3], ?_, HF.out.off.trans ho1 (fun _ _ h => h)⟩
          rw [numC_same (by omega), ← hV1]
          exact (Below.heap_setCell _ _ _ _ (by show bh + 1 ≠ bh; omega)).trans hFn
        have hbV1 : Below w.heap.size w V1 := hbw.trans (ho1.below (fun k hk => by omega) hbw.size)
        have hm1 := (ho1.block w.heap.size (by omega) (by omega)).trans m0
        have ccl := row_cell hm1 7 _ rfl
        have KW := Lib.hid ((rpath_any ap np cp M.p V1 HNN.out.1 hcp ((HM.out.1.below hbV1).mono hbV1.size)).mono (fun e w' h => (⟨h.1, h.2 ▸ Below.refl _ _⟩ : e = .returned (.int .i64 (wP M.p 16)) ∧ Below V1.heap.size V1 w')))
        rw [← hfe, hE] at KW
        have HV1 := Lib.hid hV1
        have HX1 := Lib.hid hF1
        have HB1 := Lib.hid hbV1
        rw [← hV1] at ccl
        clear hfe hsL hV1 ho1 hF1 hbV1 hm1 m0 hE hFh hFn d2 d3 d4 ok
        go_wp2_with fail
        rw [HV1.out]
        refine KW.out.mono ?_
        rintro e V2 ⟨rfl, hb2⟩
        have HX2 := Lib.hid (HX1.out.later hb2)
        have HBX := Lib.hid (HB1.out.trans (hb2.mono HB1.out.size))
        clear KW HX1 HB1 hb2 HV1 hbw hh zh ccl
        by_cases hE0 : E = 0
        · subst hE0
          have HZ2 : Hid (∀ g ∈ L.take (j + 1), fE M g = 0) := Lib.hid (take_zero HFf.out HZ.out HEd.out)
          go_wp2
          exact ⟨⟨j + 1, by omega, by go_num, HZ2, HX2⟩, by simp only [intOf]; omega⟩
        · have hEn : (E != 0) = true := by simpa using hE0
          have hfe := (firstE_at L M j f HFf.out HZ.out (by rw [HEd.out]; exact hE0)).trans HEd.out
          have hR1 := HR.out.1
          rw [hfe, if_pos hE0] at hR1
          subst hR1
          clear hfe
          go_wp2
          go_ret
          exact ⟨rfl, HBX.out⟩
      by_cases h4 : f.so = 4
      · have hfe : fE M f = wC M.c 32 := by unfold fE; rw [if_neg (by omega), if_pos h4, ok.mo.2.1 h4]
        rw [h4] at d1
        have hh := row_cell hFh 4 _ rfl
        have zh := frozen_of_row wr bh 4 _ _ hFh
        obtain ⟨V1, hV1⟩ : ∃ V1, wr.setCell ⟨bh, 4, none⟩ (.bool true) = V1 := ⟨_, rfl⟩
        have ho1 : Off (fun q => q = bh ∨ q = bh + 1) wr V1 := by rw [← hV1]; exact (Off.refl (fun q => q = bh ∨ q = bh + 1) wr).setCell (p := ⟨bh, 4, none⟩) (.inl rfl) _
        have hF1 : FlB bh w4 (L.take (j + 1)) V1 := by
          rw [hsL]
          refine ⟨by rw [← hV1, setCell_at hFh, hasC_set (s := 4) (by omega) h4], ?_, HF.out.off.trans ho1 (fun _ _ h => h)⟩
          rw [numC_same (by omega), ← hV1]
          exact (Below.heap_setCell _ _ _ _ (by show bh + 1 ≠ bh; omega)).trans hFn
        have hbV1 : Below w.heap.size w V1 := hbw.trans (ho1.below (fun k hk => by omega) hbw.size)
        have hm1 := (ho1.block w.heap.size (by omega) (by omega)).trans m0
        have ccl := row_cell hm1 8 _ rfl
        have KW := Lib.hid (rcells_any ac nc cc M.c V1 HNN.out.2 hcc ((HM.out.2.below hbV1).mono hbV1.size))
        rw [← hfe, hE] at KW
        have HV1 := Lib.hid hV1
        have HX1 := Lib.hid hF1
        have HB1 := Lib.hid hbV1
        rw [← hV1] at ccl
        clear hfe hsL hV1 ho1 hF1 hbV1 hm1 m0 hE hFh hFn d2 d3 d4 ok
        go_wp2_with fail
        rw [HV1.out]
        refine KW.out.mono ?_
        rintro e V2 ⟨rfl, hb2⟩
        have HX2 := Lib.hid (HX1.out.later hb2)
        have HBX := Lib.hid (HB1.out.trans (hb2.mono HB1.out.size))
        clear KW HX1 HB1 hb2 HV1 hbw hh zh ccl
        by_cases hE0 : E = 0
        · subst hE0
          have HZ2 : Hid (∀ g ∈ L.take (j + 1), fE M g = 0) := Lib.hid (take_zero HFf.out HZ.out HEd.out)
          go_wp2
          exact ⟨⟨j + 1, by omega, by go_num, HZ2, HX2⟩, by simp only [intOf]; omega⟩
        · have hEn : (E != 0) = true := by simpa using hE0
          have hfe := (firstE_at L M j f HFf.out HZ.out (by rw [HEd.out]; exact hE0)).trans HEd.out
          have hR1 := HR.out.1
          rw [hfe, if_pos hE0] at hR1
          subst hR1
          clear hfe
          go_wp2
          go_ret
          exact ⟨rfl, HBX.out⟩
      by_cases h5 : f.so = 5
      · have hfe : fE M f = wT M.tx 64 := by unfold fE; rw [if_neg (by omega), if_neg (by omega), if_pos h5, ok.mo.2.2.1 h5]
        rw [h5] at d1
        have hh := row_cell hFh 5 _ rfl
        have zh := frozen_of_row wr bh 5 _ _ hFh
        obtain ⟨V1, hV1⟩ : ∃ V1, wr.setCell ⟨bh, 5, none⟩ (.bool true) = V1 := ⟨_, rfl⟩
        have ho1 : Off (fun q => q = bh ∨ q = bh + 1) wr V1 := by rw [← hV1]; exact (Off.refl (fun q => q = bh ∨ q = bh + 1) wr).setCell (p := ⟨bh, 5, none⟩) (.inl rfl) _
        have hF1 : FlB bh w4 (L.take (j + 1)) V1 := by
          rw [hsL]
          refine ⟨by rw [← hV1, setCell_at hFh, hasC_set (s := 5) (by omega) h5], ?_, HF.out.off.trans ho1 (fun _ _ h => h)⟩
          rw [numC_same (by omega), ← hV1]
          exact (Below.heap_setCell _ _ _ _ (by show bh + 1 ≠ bh; omega)).trans hFn
        have hbV1 : Below w.heap.size w V1 := hbw.trans (ho1.below (fun k hk => by omega) hbw.size)
        have hm1 := (ho1.block w.heap.size (by omega) (by omega)).trans m0
        have ccl := row_cell hm1 9 _ rfl
        have KW := Lib.hid ((rtext_any M.tx 64 (by have := hs.tx; unfold maxLen; omega) V1).mono (fun e w' h => (⟨h.1, h.2 ▸ Below.refl _ _⟩ : e = .returned (.int .i64 (wT M.tx 64)) ∧ Below V1.heap.size V1 w')))
        rw [← hfe, hE] at KW
        have HV1 := Lib.hid hV1
        have HX1 := Lib.hid hF1
        have HB1 := Lib.hid hbV1
        rw [← hV1] at ccl
        clear hfe hsL hV1 ho1 hF1 hbV1 hm1 m0 hE hFh hFn d2 d3 d4 ok
        go_wp2_with fail
        rw [HV1.out]
        refine KW.out.mono ?_
        rintro e V2 ⟨rfl, hb2⟩
        have HX2 := Lib.hid (HX1.out.later hb2)
        have HBX := Lib.hid (HB1.out.trans (hb2.mono HB1.out.size))
        clear KW HX1 HB1 hb2 HV1 hbw hh zh ccl
        by_cases hE0 : E = 0
        · subst hE0
          have HZ2 : Hid (∀ g ∈ L.take (j + 1), fE M g = 0) := Lib.hid (take_zero HFf.out HZ.out HEd.out)
          go_wp2
          exact ⟨⟨j + 1, by omega, by go_num, HZ2, HX2⟩, by simp only [intOf]; omega⟩
        · have hEn : (E != 0) = true := by simpa using hE0
          have hfe := (firstE_at L M j f HFf.out HZ.out (by rw [HEd.out]; exact hE0)).trans HEd.out
          have hR1 := HR.out.1
          rw [hfe, if_pos hE0] at hR1
          subst hR1
          clear hfe
          go_wp2
          go_ret
          exact ⟨rfl, HBX.out⟩
      by_cases h6 : f.so = 6
      · have hfe : fE M f = wT M.tg 16 := by unfold fE; rw [if_neg (by omega), if_neg (by omega), if_neg (by omega), if_pos h6, ok.mo.2.2.2 h6]
        rw [h6] at d1
        have hh := row_cell hFh 6 _ rfl
        have zh := frozen_of_row wr bh 6 _ _ hFh
        obtain ⟨V1, hV1⟩ : ∃ V1, wr.setCell ⟨bh, 6, none⟩ (.bool true) = V1 := ⟨_, rfl⟩
        have ho1 : Off (fun q => q = bh ∨ q = bh + 1) wr V1 := by rw [← hV1]; exact (Off.refl (fun q => q = bh ∨ q = bh + 1) wr).setCell (p := ⟨bh, 6, none⟩) (.inl rfl) _
        have hF1 : FlB bh w4 (L.take (j + 1)) V1 := by
          rw [hsL]
          refine ⟨by rw [← hV1, setCell_at hFh, hasC_set (s := 6) (by omega) h6], ?_, HF.out.off.trans ho1 (fun _ _ h => h)⟩
          rw [numC_same (by omega), ← hV1]
          exact (Below.heap_setCell _ _ _ _ (by show bh + 1 ≠ bh; omega)).trans hFn
        have hbV1 : Below w.heap.size w V1 := hbw.trans (ho1.below (fun k hk => by omega) hbw.size)
        have hm1 := (ho1.block w.heap.size (by omega) (by omega)).trans m0
        have ccl := row_cell hm1 10 _ rfl
        have KW := Lib.hid ((rtext_any M.tg 16 (by have := hs.tg; unfold maxLen; omega) V1).mono (fun e w' h => (⟨h.1, h.2 ▸ Below.refl _ _⟩ : e = .returned (.int .i64 (wT M.tg 16)) ∧ Below V1.heap.size V1 w')))
        rw [← hfe, hE] at KW
        have HV1 := Lib.hid hV1
        have HX1 := Lib.hid hF1
        have HB1 := Lib.hid hbV1
        rw [← hV1] at ccl
        clear hfe hsL hV1 ho1 hF1 hbV1 hm1 m0 hE hFh hFn d2 d3 d4 ok
        go_wp2_with fail
        rw [HV1.out]
        refine KW.out.mono ?_
        rintro e V2 ⟨rfl, hb2⟩
        have HX2 := Lib.hid (HX1.out.later hb2)
        have HBX := Lib.hid (HB1.out.trans (hb2.mono HB1.out.size))
        clear KW HX1 HB1 hb2 HV1 hbw hh zh ccl
        by_cases hE0 : E = 0
        · subst hE0
          have HZ2 : Hid (∀ g ∈ L.take (j + 1), fE M g = 0) := Lib.hid (take_zero HFf.out HZ.out HEd.out)
          go_wp2
          exact ⟨⟨j + 1, by omega, by go_num, HZ2, HX2⟩, by simp only [intOf]; omega⟩
        · have hEn : (E != 0) = true := by simpa using hE0
          have hfe := (firstE_at L M j f HFf.out HZ.out (by rw [HEd.out]; exact hE0)).trans HEd.out
          have hR1 := HR.out.1
          rw [hfe, if_pos hE0] at hR1
          subst hR1
          clear hfe
          go_wp2
          go_ret
          exact ⟨rfl, HBX.out⟩
      obtain ⟨sn, hsn⟩ : ∃ sn : Nat, f.so = (sn : Int) := ⟨f.so.toNat, by omega⟩
      obtain ⟨jn, hjn, hpl⟩ := ok.pl (by omega)
      have hfe : fE M f = wN (M.at' jn) f.le f.mo := by unfold fE; rw [if_neg h3, if_neg h4, if_neg h5, if_neg h6, hpl, Int.toNat_natCast]
      have hs7 : sn < 7 := by omega
      have hh := row_cell hFh sn _ (hasC_at hs7)
      have zh := frozen_of_row wr bh sn _ _ hFh
      obtain ⟨V1, hV1⟩ : ∃ V1, wr.setCell ⟨bh, sn, none⟩ (.bool true) = V1 := ⟨_, rfl⟩
      have hFn1 : V1.heap[bh + 1]? = some (.cells (numC (L.take j)) 71 (0, 0)) := by rw [← hV1]; exact (Below.heap_setCell _ _ _ _ (by show bh + 1 ≠ bh; omega)).trans hFn
      have hn1 := row_cell hFn1 jn _ (numC_at hjn)
      have zn := frozen_of_row V1 (bh + 1) jn _ _ hFn1
      obtain ⟨V2, hV2⟩ : ∃ V2, V1.setCell ⟨bh + 1, jn, none⟩ (.bool true) = V2 := ⟨_, rfl⟩
      have ho2 : Off (fun q => q = bh ∨ q = bh + 1) wr V2 := by rw [← hV2, ← hV1]; exact ((Off.refl (fun q => q = bh ∨ q = bh + 1) wr).setCell (p := ⟨bh, sn, none⟩) (.inl rfl) _).setCell (p := ⟨bh + 1, jn, none⟩) (.inr rfl) _
      have hF2 : FlB bh w4 (L.take (j + 1)) V2 := by
        rw [hsL]
        refine ⟨?_, by rw [← hV2, setCell_at hFn1, numC_set hjn (by omega) hpl], HF.out.off.trans ho2 (fun _ _ h => h)⟩
        rw [← hV2, Below.heap_setCell _ _ _ _ (by show bh ≠ bh + 1; omega), ← hV1, setCell_at hFh, hasC_set hs7 hsn]
      have hbV2 : Below w.heap.size w V2 := hbw.trans (ho2.below (fun k hk => by omega) hbw.size)
      have cn := mg_at (M := M) (P := .slice ap np cp) (C := .slice ac nc cc) ((ho2.block w.heap.size (by omega) (by omega)).trans m0) hjn
      have k2 := fun q x (hx : wr.cell? ⟨g, q, none⟩ = some x) => ho2.cell hx (by show ¬ (g = bh ∨ g = bh + 1); omega)
      have e2 := k2 _ _ d2
      have e3 := k2 _ _ d3
      have e4 := k2 _ _ d4
      obtain ⟨nv, hnv⟩ : ∃ nv, M.at' jn = nv := ⟨_, rfl⟩
      rw [hnv] at cn hfe
      rw [hsn] at d1
      rw [hpl] at d2 e2
      have d2' : V1.cell? ⟨g, j * 7 + 2, none⟩ = some (.int .i64 (jn : Int)) := by
        rw [← hV1]
        exact ((Off.refl (fun q => q = bh) wr).setCell (p := ⟨bh, sn, none⟩) rfl _).cell d2 (by show ¬ g = bh; omega)
      have q3 : ((sn : Int) == 3) = false := by simp; omega
      have q4 : ((sn : Int) == 4) = false := by simp; omega
      have q5 : ((sn : Int) == 5) = false := by simp; omega
      have q6 : ((sn : Int) == 6) = false := by simp; omega
      have hs7i : (sn : Int) < 7 := by omega
      have hj6 : (jn : Int) < 6 := by omega
      have d1' : V1.cell? ⟨g, j * 7 + 1, none⟩ = some (.int .i64 (sn : Int)) := by
        rw [← hV1]
        exact ((Off.refl (fun q => q = bh) wr).setCell (p := ⟨bh, sn, none⟩) rfl _).cell d1 (by show ¬ g = bh; omega)
      rw [← hV1] at d1' d2' hn1 zn
      have HV2 : Hid ((wr.setCell ⟨bh, sn, none⟩ (.bool true)).setCell ⟨bh + 1, jn, none⟩ (.bool true) = V2) := Lib.hid (by rw [hV1]; exact hV2)
      have HX2 := Lib.hid hF2
      have HBX := Lib.hid hbV2
      have HWN := Lib.hid (hfe.symm.trans hE)
      clear hfe hsL hV1 hV2 ho2 hF2 hbV2 m0 hE hFh hFn hFn1 k2 ok hsn hpl hnv d3 d4 hbw hso
      go_wp2
      rw [HV2.out]
      clear HV2 hh zh hn1 zn d1' d2' d1 d2
      by_cases hv1 : nv < f.le
      · have hEv : E = 5 := by rw [← HWN.out]; unfold wN; exact if_pos (.inl hv1)
        subst hEv
        have hfe := (firstE_at L M j f HFf.out HZ.out (by rw [HEd.out]; omega)).trans HEd.out
        have hR1 := HR.out.1
        rw [hfe, if_pos (by omega)] at hR1
        subst hR1
        clear hfe
        go_quiet (fail)
        go_wp2
        go_ret
        exact ⟨rfl, below_drewN HBX.out _⟩
      · by_cases hv2 : f.mo < nv
        · have hEv : E = 5 := by rw [← HWN.out]; unfold wN; exact if_pos (.inr hv2)
          subst hEv
          have hfe := (firstE_at L M j f HFf.out HZ.out (by rw [HEd.out]; omega)).trans HEd.out
          have hR1 := HR.out.1
          rw [hfe, if_pos (by omega)] at hR1
          subst hR1
          clear hfe
          go_quiet (fail)
          go_wp2
          go_ret
          exact ⟨rfl, below_drewN HBX.out _⟩
        · have hEv : E = 0 := by rw [← HWN.out]; unfold wN; exact if_neg (by omega)
          subst hEv
          have HZ2 : Hid (∀ g ∈ L.take (j + 1), fE M g = 0) := Lib.hid (take_zero HFf.out HZ.out HEd.out)
          go_quiet (fail)
          have HX3 := Lib.hid (HX2.out.later (below_of_drewN V2 nq))
          clear HX2 HBX
          go_wp2
          exact ⟨⟨j + 1, by omega, rfl, HZ2, HX3⟩, by simp only [intOf]; omega⟩
    · obtain rfl : j = n := by omega
      have hz := HZ.out
      have hF := HF.out
      rw [List.take_of_length_le (by rw [HN.out]; exact Nat.le_refl _)] at hz hF
      have hf0 := (firstE_zero L M).1 hz
      obtain ⟨hR1, hRI⟩ := HR.out
      rw [hf0, if_neg (by simp)] at hR1
      have HR2 := Lib.hid hR1
      have HRI := Lib.hid hRI
      have HFL := Lib.hid hF
      have HBW := Lib.hid hbw
      have HM0 := Lib.hid m0
      clear hz hf0 hR1 hRI hF hbw m0 HZ HF HR
      go_wp2
      go_loopw [8] (fun iv wr' => ∃ i : Nat, i ≤ 6 ∧ iv = .int .i64 (i : Int) ∧ Hid (∀ i' : Nat, i' < i → isN L i' = false → M.at' i' = 0) ∧ wr' = wr) (fun iv _ => 6 - (intOf iv).toNat)
      case atStart => exact ⟨0, by omega, rfl, Lib.hid (fun i h => by omega), rfl⟩
      case round =>
        obtain ⟨i, hi, rfl, HI, rfl⟩ := hrel
        rcases Nat.lt_or_ge i 6 with hlt6 | hge6
        · have cb := row_cell HFL.out.num i _ (numC_at hlt6)
          have cn := mg_at (M := M) (P := .slice ap np cp) (C := .slice ac nc cc) HM0.out hlt6
          have hi6 : (i : Int) < 6 := by omega
          cases hb : isN L i
          · rw [hb] at cb
            by_cases hz : M.at' i = 0
            · rw [hz] at cn
              have HI2 : Hid (∀ i' : Nat, i' < i + 1 → isN L i' = false → M.at' i' = 0) := Lib.hid (fun i' h hn => by
                rcases Nat.lt_or_ge i' i with h1 | h1
                · exact HI.out i' h1 hn
                · obtain rfl : i' = i := by omega
                  exact hz)
              clear hz hb
              go_wp2
              exact ⟨⟨i + 1, by omega, rfl, HI2, trivial⟩, by simp only [intOf]; omega⟩
            · have hzn : (M.at' i != 0) = true := by simpa using hz
              have hbad : ¬ (L.foldl strip M = Mg.zero M.k) := fun e => hz ((HRI.out.1 e).1 i hlt6 hb)
              have hR1 := HR2.out
              rw [if_neg hbad] at hR1
              subst hR1
              clear hbad hb
              go_wp2
              go_ret
              exact ⟨rfl, HBW.out⟩
          · rw [hb] at cb
            have HI2 : Hid (∀ i' : Nat, i' < i + 1 → isN L i' = false → M.at' i' = 0) := Lib.hid (fun i' h hn => by
              rcases Nat.lt_or_ge i' i with h1 | h1
              · exact HI.out i' h1 hn
              · obtain rfl : i' = i := by omega
                rw [hb] at hn
                cases hn)
            clear cn hb
            go_wp2
            exact ⟨⟨i + 1, by omega, rfl, HI2, trivial⟩, by simp only [intOf]; omega⟩
        · obtain rfl : i = 6 := by omega
          have h3 := row_cell HFL.out.has 3 (.bool (isS L 3)) rfl
          have h4 := row_cell HFL.out.has 4 (.bool (isS L 4)) rfl
          have h5 := row_cell HFL.out.has 5 (.bool (isS L 5)) rfl
          have h6 := row_cell HFL.out.has 6 (.bool (isS L 6)) rfl
          obtain ⟨_, _, _, _, _, _, _, c7, c8, c9, c10⟩ := mg_block (M := M) HM0.out
          have hnp := HNN.out.1
          have hnc := HNN.out.2
          have HI6 := Lib.hid HI.out
          have HRI2 := Lib.hid HRI.out
          obtain ⟨s3, hs3⟩ : ∃ s3, isS L 3 = s3 := ⟨_, rfl⟩
          obtain ⟨s4, hs4'⟩ : ∃ s4, isS L 4 = s4 := ⟨_, rfl⟩
          obtain ⟨s5, hs5⟩ : ∃ s5, isS L 5 = s5 := ⟨_, rfl⟩
          obtain ⟨s6, hs6⟩ : ∃ s6, isS L 6 = s6 := ⟨_, rfl⟩
          rw [hs3] at h3 HRI2
          rw [hs4'] at h4 HRI2
          rw [hs5] at h5 HRI2
          rw [hs6] at h6 HRI2
          have e7 : M.p = [] ↔ np = 0 := by rw [← hnp]; exact ⟨fun e => by rw [e]; rfl, fun e => List.eq_nil_of_length_eq_zero e⟩
          have e8 : M.c = [] ↔ nc = 0 := by rw [← hnc]; exact ⟨fun e => by rw [e]; rfl, fun e => List.eq_nil_of_length_eq_zero e⟩
          rw [e7, e8] at HRI2
          obtain ⟨tx, htx⟩ : ∃ tx, M.tx = tx := ⟨_, rfl⟩
          obtain ⟨tg, htg⟩ : ∃ tg, M.tg = tg := ⟨_, rfl⟩
          rw [htx] at c9 HRI2
          rw [htg] at c10 HRI2
          have hnd := fun (h : ¬ (L.foldl strip M = Mg.zero M.k)) => (show R = 3 by have hR1 := HR2.out; rw [if_neg h] at hR1; exact hR1.symm)
          have hyd := fun (h : L.foldl strip M = Mg.zero M.k) => (show R = 0 by have hR1 := HR2.out; rw [if_pos h] at hR1; exact hR1.symm)
          have HND := Lib.hid hnd
          have HYD := Lib.hid hyd
          clear hnp hnc hs3 hs4' hs5 hs6 e7 e8 htx htg hnd hyd HR2 HRI HFL HM0
          cases s3
          · by_cases e0 : np = 0
            · have z0 : false = false → np = 0 := fun _ => e0
              subst e0
              cases s4
              · by_cases e1 : nc = 0
                · have z1 : false = false → nc = 0 := fun _ => e1
                  subst e1
                  cases s5
                  · by_cases e2 : tx = ⟨#[]⟩
                    · have z2 : false = false → tx = ⟨#[]⟩ := fun _ => e2
                      subst e2
                      have u2 := str_emp0
                      cases s6
                      · by_cases e3 : tg = ⟨#[]⟩
                        · have z3 : false = false → tg = ⟨#[]⟩ := fun _ => e3
                          subst e3
                          have u3 := str_emp0
                          obtain rfl : R = 0 := HYD.out (HRI2.out.2 ⟨HI6.out, z0, z1, z2, z3⟩)
                          go_wp2
                          go_ret
                          exact ⟨rfl, HBW.out⟩
                        · obtain rfl : R = 3 := HND.out (fun e => e3 (by have h := HRI2.out.1 e; exact h.2.2.2.2 rfl))
                          have u3 := str_emp e3
                          have w3 := str_nil e3
                          go_wp2
                          go_ret
                          exact ⟨rfl, HBW.out⟩
                      · have z3 : true = false → tg = ⟨#[]⟩ := fun h => by cases h
                        obtain rfl : R = 0 := HYD.out (HRI2.out.2 ⟨HI6.out, z0, z1, z2, z3⟩)
                        go_wp2
                        go_ret
                        exact ⟨rfl, HBW.out⟩
                    · obtain rfl : R = 3 := HND.out (fun e => e2 (by have h := HRI2.out.1 e; exact h.2.2.2.1 rfl))
                      have u2 := str_emp e2
                      have w2 := str_nil e2
                      go_wp2
                      go_ret
                      exact ⟨rfl, HBW.out⟩
                  · have z2 : true = false → tx = ⟨#[]⟩ := fun h => by cases h
                    cases s6
                    · by_cases e3 : tg = ⟨#[]⟩
                      · have z3 : false = false → tg = ⟨#[]⟩ := fun _ => e3
                        subst e3
                        have u3 := str_emp0
                        obtain rfl : R = 0 := HYD.out (HRI2.out.2 ⟨HI6.out, z0, z1, z2, z3⟩)
                        go_wp2
                        go_ret
                        exact ⟨rfl, HBW.out⟩
                      · obtain rfl : R = 3 := HND.out (fun e => e3 (by have h := HRI2.out.1 e; exact h.2.2.2.2 rfl))
                        have u3 := str_emp e3
                        have w3 := str_nil e3
                        go_wp2
                        go_ret
                        exact ⟨rfl, HBW.out⟩
                    · have z3 : true = false → tg = ⟨#[]⟩ := fun h => by cases h
                      obtain rfl : R = 0 := HYD.out (HRI2.out.2 ⟨HI6.out, z0, z1, z2, z3⟩)
                      go_wp2
                      go_ret
                      exact ⟨rfl, HBW.out⟩
                · obtain rfl : R = 3 := HND.out (fun e => e1 (by have h := HRI2.out.1 e; exact h.2.2.1 rfl))
                  have u1 : 0 < (nc : Int) := by omega
                  go_wp2
                  go_ret
                  exact ⟨rfl, HBW.out⟩
              · have z1 : true = false → nc = 0 := fun h => by cases h
                cases s5
                · by_cases e2 : tx = ⟨#[]⟩
                  · have z2 : false = false → tx = ⟨#[]⟩ := fun _ => e2
                    subst e2
                    have u2 := str_emp0
                    cases s6
                    · by_cases e3 : tg = ⟨#[]⟩
                      · have z3 : false = false → tg = ⟨#[]⟩ := fun _ => e3
                        subst e3
                        have u3 := str_emp0
                        obtain rfl : R = 0 := HYD.out (HRI2.out.2 ⟨HI6.out, z0, z1, z2, z3⟩)
                        go_wp2
                        go_ret
                        exact ⟨rfl, HBW.out⟩
                      · obtain rfl : R = 3 := HND.out (fun e => e3 (by have h := HRI2.out.1 e; exact h.2.2.2.2 rfl))
                        have u3 := str_emp e3
                        have w3 := str_nil e3
                        go_wp2
                        go_ret
                        exact ⟨rfl, HBW.out⟩
                    · have z3 : true = false → tg = ⟨#[]⟩ := fun h => by cases h
                      obtain rfl : R = 0 := HYD.out (HRI2.out.2 ⟨HI6.out, z0, z1, z2, z3⟩)
                      go_wp2
                      go_ret
                      exact ⟨rfl, HBW.out⟩
                  · obtain rfl : R = 3 := HND.out (fun e => e2 (by have h := HRI2.out.1 e; exact h.2.2.2.1 rfl))
                    have u2 := str_emp e2
                    have w2 := str_nil e2
                    go_wp2
                    go_ret
                    exact ⟨rfl, HBW.out⟩
                · have z2 : true = false → tx = ⟨#[]⟩ := fun h => by cases h
                  cases s6
                  · by_cases e3 : tg = ⟨#[]⟩
                    · have z3 : false = false → tg = ⟨#[]⟩ := fun _ => e3
                      subst e3
                      have u3 := str_emp0
                      obtain rfl : R = 0 := HYD.out (HRI2.out.2 ⟨HI6.out, z0, z1, z2, z3⟩)
                      go_wp2
                      go_ret
                      exact ⟨rfl, HBW.out⟩
                    · obtain rfl : R = 3 := HND.out (fun e => e3 (by have h := HRI2.out.1 e; exact h.2.2.2.2 rfl))
                      have u3 := str_emp e3
                      have w3 := str_nil e3
                      go_wp2
                      go_ret
                      exact ⟨rfl, HBW.out⟩
                  · have z3 : true = false → tg = ⟨#[]⟩ := fun h => by cases h
                    obtain rfl : R = 0 := HYD.out (HRI2.out.2 ⟨HI6.out, z0, z1, z2, z3⟩)
                    go_wp2
                    go_ret
                    exact ⟨rfl, HBW.out⟩
            · obtain rfl : R = 3 := HND.out (fun e => e0 (by have h := HRI2.out.1 e; exact h.2.1 rfl))
              have u0 : 0 < (np : Int) := by omega
              go_wp2
              go_ret
              exact ⟨rfl, HBW.out⟩
          · have z0 : true = false → np = 0 := fun h => by cases h
            cases s4
            · by_cases e1 : nc = 0
              · have z1 : false = false → nc = 0 := fun _ => e1
                subst e1
                cases s5
                · by_cases e2 : tx = ⟨#[]⟩
                  · have z2 : false = false → tx = ⟨#[]⟩ := fun _ => e2
                    subst e2
                    have u2 := str_emp0
                    cases s6
                    · by_cases e3 : tg = ⟨#[]⟩
                      · have z3 : false = false → tg = ⟨#[]⟩ := fun _ => e3
                        subst e3
                        have u3 := str_emp0
                        obtain rfl : R = 0 := HYD.out (HRI2.out.2 ⟨HI6.out, z0, z1, z2, z3⟩)
                        go_wp2
                        go_ret
                        exact ⟨rfl, HBW.out⟩
                      · obtain rfl : R = 3 := HND.out (fun e => e3 (by have h := HRI2.out.1 e; exact h.2.2.2.2 rfl))
                        have u3 := str_emp e3
                        have w3 := str_nil e3
                        go_wp2
                        go_ret
                        exact ⟨rfl, HBW.out⟩
                    · have z3 : true = false → tg = ⟨#[]⟩ := fun h => by cases h
                      obtain rfl : R = 0 := HYD.out (HRI2.out.2 ⟨HI6.out, z0, z1, z2, z3⟩)
                      go_wp2
                      go_ret
                      exact ⟨rfl, HBW.out⟩
                  · obtain rfl : R = 3 := HND.out (fun e => e2 (by have h := HRI2.out.1 e; exact h.2.2.2.1 rfl))
                    have u2 := str_emp e2
                    have w2 := str_nil e2
                    go_wp2
                    go_ret
                    exact ⟨rfl, HBW.out⟩
                · have z2 : true = false → tx = ⟨#[]⟩ := fun h => by cases h
                  cases s6
                  · by_cases e3 : tg = ⟨#[]⟩
                    · have z3 : false = false → tg = ⟨#[]⟩ := fun _ => e3
                      subst e3
                      have u3 := str_emp0
                      obtain rfl : R = 0 := HYD.out (HRI2.out.2 ⟨HI6.out, z0, z1, z2, z3⟩)
                      go_wp2
                      go_ret
                      exact ⟨rfl, HBW.out⟩
                    · obtain rfl : R = 3 := HND.out (fun e => e3 (by have h := HRI2.out.1 e; exact h.2.2.2.2 rfl))
                      have u3 := str_emp e3
                      have w3 := str_nil e3
                      go_wp2
                      go_ret
                      exact ⟨rfl, HBW.out⟩
                  · have z3 : true = false → tg = ⟨#[]⟩ := fun h => by cases h
                    obtain rfl : R = 0 := HYD.out (HRI2.out.2 ⟨HI6.out, z0, z1, z2, z3⟩)
                    go_wp2
                    go_ret
                    exact ⟨rfl, HBW.out⟩
              · obtain rfl : R = 3 := HND.out (fun e => e1 (by have h := HRI2.out.1 e; exact h.2.2.1 rfl))
                have u1 : 0 < (nc : Int) := by omega
                go_wp2
                go_ret
                exact ⟨rfl, HBW.out⟩
            · have z1 : true = false → nc = 0 := fun h => by cases h
              cases s5
              · by_cases e2 : tx = ⟨#[]⟩
                · have z2 : false = false → tx = ⟨#[]⟩ := fun _ => e2
                  subst e2
                  have u2 := str_emp0
                  cases s6
                  · by_cases e3 : tg = ⟨#[]⟩
                    · have z3 : false = false → tg = ⟨#[]⟩ := fun _ => e3
                      subst e3
                      have u3 := str_emp0
                      obtain rfl : R = 0 := HYD.out (HRI2.out.2 ⟨HI6.out, z0, z1, z2, z3⟩)
                      go_wp2
                      go_ret
                      exact ⟨rfl, HBW.out⟩
                    · obtain rfl : R = 3 := HND.out (fun e => e3 (by have h := HRI2.out.1 e; exact h.2.2.2.2 rfl))
                      have u3 := str_emp e3
                      have w3 := str_nil e3
                      go_wp2
                      go_ret
                      exact ⟨rfl, HBW.out⟩
                  · have z3 : true = false → tg = ⟨#[]⟩ := fun h => by cases h
                    obtain rfl : R = 0 := HYD.out (HRI2.out.2 ⟨HI6.out, z0, z1, z2, z3⟩)
                    go_wp2
                    go_ret
                    exact ⟨rfl, HBW.out⟩
                · obtain rfl : R = 3 := HND.out (fun e => e2 (by have h := HRI2.out.1 e; exact h.2.2.2.1 rfl))
                  have u2 := str_emp e2
                  have w2 := str_nil e2
                  go_wp2
                  go_ret
                  exact ⟨rfl, HBW.out⟩
              · have z2 : true = false → tx = ⟨#[]⟩ := fun h => by cases h
                cases s6
                · by_cases e3 : tg = ⟨#[]⟩
                  · have z3 : false = false → tg = ⟨#[]⟩ := fun _ => e3
                    subst e3
                    have u3 := str_emp0
                    obtain rfl : R = 0 := HYD.out (HRI2.out.2 ⟨HI6.out, z0, z1, z2, z3⟩)
                    go_wp2
                    go_ret
                    exact ⟨rfl, HBW.out⟩
                  · obtain rfl : R = 3 := HND.out (fun e => e3 (by have h := HRI2.out.1 e; exact h.2.2.2.2 rfl))
                    have u3 := str_emp e3
                    have w3 := str_nil e3
                    go_wp2
                    go_ret
                    exact ⟨rfl, HBW.out⟩
                · have z3 : true = false → tg = ⟨#[]⟩ := fun h => by cases h
                  obtain rfl : R = 0 := HYD.out (HRI2.out.2 ⟨HI6.out, z0, z1, z2, z3⟩)
                  go_wp2
                  go_ret
                  exact ⟨rfl, HBW.out⟩
end Go.Proofs.Ytnbhiamnoapmlaa

namespace Go.Proofs.Ytnbhiamnoapmlaa
open Go.RowKit Go.Shelf
set_option maxRecDepth 100000
attribute [local go_sem] Oper.semAt_some

set_option maxHeartbeats 16000000 in
theorem rmproject_any (M : Mg) (ap ac : Option Addr) (np nc cp cc : Nat) (v : Int) (w : World) : Calls Try.prog 13 #[mV M (.slice ap np cp) (.slice ac nc cc), .int .i64 v] w fun e w' => e = .returned (mV (mproj M v) (.slice ap np cp) (.slice ac nc cc)) ∧ Below w.heap.size w w' := by
  obtain ⟨G, hG⟩ : ∃ G, mproj M v = G := ⟨_, rfl⟩
  rw [hG]
  unfold mproj at hG
  obtain ⟨w2, hw2⟩ : ∃ w2, w2 = (w.alloc (.cells (mC M (.slice ap np cp) (.slice ac nc cc)) 34)).alloc (.cells (mC (Mg.zero 0) (.slice none 0 0) (.slice none 0 0)) 34) := ⟨_, rfl⟩
  have hs2 : w2.heap.size = w.heap.size + 2 := by rw [hw2]; simp
  have hb2 : Below w.heap.size w w2 := by rw [hw2]; exact ((Below.refl _ w).alloc (Nat.le_refl _) _).alloc (by simp) _
  have q0 : w2.heap[w.heap.size]? = some (.cells (mC M (.slice ap np cp) (.slice ac nc cc)) 34 (0, 0)) := by
    rw [hw2, Below.heap_alloc _ _ _ (by simp)]; exact World.alloc_heap_new _ _
  have q1 : w2.heap[w.heap.size + 1]? = some (.cells (mC (Mg.zero 0) (.slice none 0 0) (.slice none 0 0)) 34 (0, 0)) := by
    have := World.alloc_heap_new (w.alloc (.cells (mC M (.slice ap np cp) (.slice ac nc cc)) 34)) (.cells (mC (Mg.zero 0) (.slice none 0 0) (.slice none 0 0)) 34)
    rw [World.size_alloc] at this
    rw [hw2]; exact this
  have KR := Lib.hid (rall_any M.k)
  unfold mV
  simp only [mC, Mg.zero] at hw2 ⊢
  have HW := Lib.hid hw2
  by_cases hv : v = 1
  case neg =>
    have hvn : (v != 1) = true := by simpa using hv
    rw [if_neg hv] at hG
    subst hG
    obtain ⟨f0, f1, f2, f3, f4, f5, f6, f7, f8, f9, f10⟩ := mg_block q0
    have HR1 := Lib.hid q1
    have HB2 := Lib.hid hb2
    have HR1' := Lib.hid (hw2 ▸ q1)
    clear f0 f1 f2 f3 f4 f5 f6 f7 f8 f9 f10 q0 q1 hb2 hw2 hs2 hv KR
    go_enter Try.func13, Try.ntmps13
    go_wp2_with (refine wpList_store_row rfl 34 (.tmp 4) (.tmp 9) rfl (w.heap.size + 1) #[.int .i64 M.k, .int .i64 M.n0, .int .i64 M.n1, .int .i64 M.n2, .int .i64 M.n3, .int .i64 M.n4, .int .i64 M.n5, .slice ap np cp, .slice ac nc cc, .string M.tx, .string M.tg] rfl rfl 34 _ HR1'.out rmInfo rfl (by simp [Value.oneCell']) ?_)
    rw [← HW.out]
    have hfin := setRow_heap w2 (w.heap.size + 1) _ #[.int .i64 M.k, .int .i64 M.n0, .int .i64 M.n1, .int .i64 M.n2, .int .i64 M.n3, .int .i64 M.n4, .int .i64 M.n5, .slice ap np cp, .slice ac nc cc, .string M.tx, .string M.tg] _ _ HR1.out
    have hoff := Off.setRow (S := fun k => k = w.heap.size + 1) (Off.refl _ w2) rfl #[.int .i64 M.k, .int .i64 M.n0, .int .i64 M.n1, .int .i64 M.n2, .int .i64 M.n3, .int .i64 M.n4, .int .i64 M.n5, .slice ap np cp, .slice ac nc cc, .string M.tx, .string M.tg]
    have hbf := HB2.out.trans (hoff.below (B := w.heap.size) (fun k hk => by omega) HB2.out.size)
    generalize w2.setRow (w.heap.size + 1) _ = Wf at *
    obtain ⟨y0, y1, y2, y3, y4, y5, y6, y7, y8, y9, y10⟩ := mg_block hfin
    refine bodyPost_ret (v := .agg #[.int .i64 M.k, .int .i64 M.n0, .int .i64 M.n1, .int .i64 M.n2, .int .i64 M.n3, .int .i64 M.n4, .int .i64 M.n5, .slice ap np cp, .slice ac nc cc, .string M.tx, .string M.tg]) (by simp [results, Try.results13, go_sem, y0, y1, y2, y3, y4, y5, y6, y7, y8, y9, y10]) rfl ?_
    exact ⟨rfl, hbf⟩
  subst hv
  rw [if_pos rfl] at hG
  have KF := Lib.hid (FD_fdok M.k)
  have h6 := FD_few M.k
  have kk := row_cell q0 0 (.int .i64 M.k) rfl
  rw [hw2] at kk
  have HQ := Lib.hid (And.intro q0 q1)
  have HB2 := Lib.hid hb2
  clear hw2 q0 q1 hb2
  go_enter Try.func13, Try.ntmps13
  go_wp2_with fail
  rw [← HW.out]
  refine (KR.out w2).mono ?_
  intro e w3 hOf
  obtain ⟨A, cA, rfl, hcA, hA, hb3⟩ := hOf
  have p0 := (hb3.block _ (by omega)).trans HQ.out.1
  have p1 := (hb3.block _ (by omega)).trans HQ.out.2
  have hs3 := hb3.size
  have HB3 := Lib.hid (HB2.out.trans (hb3.mono HB2.out.size))
  obtain ⟨L, hL⟩ : ∃ L, FD M.k = L := ⟨_, rfl⟩
  rw [hL] at hG KF h6 hcA hA ⊢
  obtain ⟨n, hn⟩ : ∃ n, L.length = n := ⟨_, rfl⟩
  rw [hn] at h6 hcA ⊢
  have HN := Lib.hid hn
  have HG := Lib.hid hG
  have HA := Lib.hid hA
  have HGE : Hid (∀ g, A = some ⟨g, 0, none⟩ → L ≠ [] → w.heap.size + 2 ≤ g) := Lib.hid (fun g hg hne => by
    obtain ⟨f, r, rfl⟩ := List.exists_cons_of_ne_nil hne
    obtain ⟨g', h1, h2, _⟩ := hA 0 f rfl
    rw [hg] at h1
    injection h1 with h1
    injection h1 with h1
    omega)
  have HP := Lib.hid (And.intro p0 p1)
  clear hL hn hG hA hb3 p0 p1 kk HQ HB2 KR HW
  go_wp2
  go_loopw [6] (fun iv wr => ∃ j : Nat, j ≤ n ∧ iv = .int .i64 (j : Int) ∧ Hid (wr.heap[w.heap.size]? = some (.cells (mC ((L.take j).foldl prj M) (.slice ap np cp) (.slice ac nc cc)) 34 (0, 0))) ∧ Hid (Off (fun q => q = w.heap.size) w3 wr)) (fun iv _ => n - (intOf iv).toNat)
  case atStart => exact ⟨0, by omega, rfl, Lib.hid HP.out.1, Lib.hid (Off.refl _ _)⟩
  case round =>
    obtain ⟨j, hj, rfl, HM, HO⟩ := hrel
    rcases Nat.lt_or_ge j n with hlt | hge
    · obtain ⟨f, hf⟩ : ∃ f, L[j]? = some f := ⟨_, List.getElem?_eq_getElem (by rw [HN.out]; exact hlt)⟩
      obtain ⟨g, rfl, _, hgl, d0, d1, d2, d3, d4, d5, d6⟩ := HA.out.seven hf
      have k := fun q x (hx : w3.cell? ⟨g, q, none⟩ = some x) => HO.out.cell hx (by show ¬ (g = w.heap.size); have := HGE.out g rfl (fun e => by rw [e] at hf; simp at hf); omega)
      have d1 := k _ _ d1
      have d2 := k _ _ d2
      have d3 := k _ _ d3
      have d5 := k _ _ d5
      have d6 := k _ _ d6
      clear k d0 d4
      have ok := KF.out f (List.mem_of_getElem? hf)
      have hst := fold_take hf prj M
      have HST := Lib.hid hst
      have hj2 : (j : Int) < (n : Int) := by omega
      have hnA : (n : Int) ≤ (cA : Int) := by omega
      obtain ⟨Mj, hMj⟩ : ∃ Mj, (L.take j).foldl prj M = Mj := ⟨_, rfl⟩
      rw [hMj] at HM HST
      have hgw : g ≠ w.heap.size := by have := HGE.out g rfl (fun e => by rw [e] at hf; simp at hf); omega
      clear hf hst hMj d3
      by_cases hsi : f.si ≤ 1
      · have hp : prj Mj f = Mj := if_pos hsi
        have q2 : (f.si == 2) = false := by simp; omega
        rw [hp] at HST
        clear hp ok hsi d1 d2 d6
        go_wp2
        exact ⟨⟨j + 1, by omega, by go_num, by rw [HST.out]; exact HM, HO⟩, by simp only [intOf]; omega⟩
      · have hs2' : f.si = 2 := by rcases ok.si with h | h <;> omega
        rw [hs2'] at d5
        by_cases h6 : f.so = 6
        · have hp : prj Mj f = { Mj with tg := ⟨#[]⟩ } := by unfold prj; rw [if_neg hsi, if_pos h6]
          have hno := ok.no (by omega)
          rw [h6] at d1
          rw [hno] at d2
          have c10 := (mg_block HM.out).2.2.2.2.2.2.2.2.2.2
          have z10 := frozen_of_row wr w.heap.size 10 _ _ HM.out
          have HM2 : Hid ((wr.setCell ⟨w.heap.size, 10, none⟩ (.string ⟨#[]⟩)).heap[w.heap.size]? = some (.cells (mC (prj Mj f) (.slice ap np cp) (.slice ac nc cc)) 34 (0, 0))) := Lib.hid (by rw [setCell_at HM.out, hp]; rfl)
          have HO2 := Lib.hid (HO.out.setCell (p := ⟨w.heap.size, 10, none⟩) rfl (.string ⟨#[]⟩))
          clear hp ok hsi hno hs2' d6
          go_wp2
          exact ⟨⟨j + 1, by omega, by go_num, by rw [HST.out]; exact HM2, HO2⟩, by simp only [intOf]; omega⟩
        · have q6 : (f.so == 6) = false := by simpa using h6
          by_cases h3 : f.so < 3
          · obtain ⟨jn, hjn, hpl⟩ := ok.pl h3
            have hp : prj Mj f = Mj.put jn f.ab := by unfold prj; rw [if_neg hsi, if_neg h6, if_pos (by omega), hpl, Int.toNat_natCast]
            rw [hpl] at d2
            have cn := mg_at HM.out hjn
            have zn := frozen_of_row wr w.heap.size (1 + jn) _ _ HM.out
            have HM2 : Hid ((wr.setCell ⟨w.heap.size, 1 + jn, none⟩ (.int .i64 f.ab)).heap[w.heap.size]? = some (.cells (mC (prj Mj f) (.slice ap np cp) (.slice ac nc cc)) 34 (0, 0))) := Lib.hid (by rw [setCell_at HM.out, mC_put hjn, hp])
            have HO2 := Lib.hid (HO.out.setCell (p := ⟨w.heap.size, 1 + jn, none⟩) rfl (.int .i64 f.ab))
            have hj6 : (jn : Int) < 6 := by omega
            clear hp ok hsi hpl hs2' h3 h6
            go_wp2
            go_region
            go_wp2
            exact ⟨⟨j + 1, by omega, by go_num, by rw [HST.out]; exact HM2, Lib.hid (off_below HO2.out ((Below.refl _ _).drew))⟩, by simp only [intOf]; omega⟩
          · have hno := ok.no h3
            have hp : prj Mj f = Mj := by unfold prj; rw [if_neg hsi, if_neg h6, if_neg (by omega)]
            rw [hp] at HST
            rw [hno] at d2
            clear hp ok hsi hno hs2' h3 d6
            go_wp2
            exact ⟨⟨j + 1, by omega, by go_num, by rw [HST.out]; exact HM, HO⟩, by simp only [intOf]; omega⟩
    · obtain rfl : j = n := by omega
      have hm := HM.out
      rw [List.take_of_length_le (by rw [HN.out]; exact Nat.le_refl _), HG.out] at hm
      obtain ⟨f0, f1, f2, f3, f4, f5, f6, f7, f8, f9, f10⟩ := mg_block hm
      have HR1 := Lib.hid ((HO.out.block (w.heap.size + 1) (by omega) (by omega)).trans HP.out.2)
      have HBW := Lib.hid (HB3.out.trans (HO.out.below (B := w.heap.size) (fun k hk => by omega) HB3.out.size))
      clear hm
      go_wp2_with (refine wpList_store_row rfl 34 (.tmp 4) (.tmp 60) rfl (w.heap.size + 1) #[.int .i64 G.k, .int .i64 G.n0, .int .i64 G.n1, .int .i64 G.n2, .int .i64 G.n3, .int .i64 G.n4, .int .i64 G.n5, .slice ap np cp, .slice ac nc cc, .string G.tx, .string G.tg] rfl rfl 34 _ HR1.out rmInfo rfl (by simp [Value.oneCell']) ?_)
      have hfin := setRow_heap wr (w.heap.size + 1) _ #[.int .i64 G.k, .int .i64 G.n0, .int .i64 G.n1, .int .i64 G.n2, .int .i64 G.n3, .int .i64 G.n4, .int .i64 G.n5, .slice ap np cp, .slice ac nc cc, .string G.tx, .string G.tg] _ _ HR1.out
      have hoff := Off.setRow (S := fun k => k = w.heap.size + 1) (Off.refl _ wr) rfl #[.int .i64 G.k, .int .i64 G.n0, .int .i64 G.n1, .int .i64 G.n2, .int .i64 G.n3, .int .i64 G.n4, .int .i64 G.n5, .slice ap np cp, .slice ac nc cc, .string G.tx, .string G.tg]
      have hbf := HBW.out.trans (hoff.below (B := w.heap.size) (fun k hk => by omega) HBW.out.size)
      generalize wr.setRow (w.heap.size + 1) _ = Wf at *
      obtain ⟨y0, y1, y2, y3, y4, y5, y6, y7, y8, y9, y10⟩ := mg_block hfin
      refine bodyPost_ret (v := .agg #[.int .i64 G.k, .int .i64 G.n0, .int .i64 G.n1, .int .i64 G.n2, .int .i64 G.n3, .int .i64 G.n4, .int .i64 G.n5, .slice ap np cp, .slice ac nc cc, .string G.tx, .string G.tg]) (by simp [results, Try.results13, go_sem, y0, y1, y2, y3, y4, y5, y6, y7, y8, y9, y10]) rfl ?_
      exact ⟨rfl, hbf⟩
end Go.Proofs.Ytnbhiamnoapmlaa

namespace Go.Proofs.Ytnbhiamnoapmlaa
open Go.RowKit Go.Shelf
set_option maxRecDepth 100000
attribute [local go_sem] Oper.semAt_some

/-- a message's box b2 of the document's, its lists in rows of its own at base or above -/
structure RnB (b2 base : Nat) (w4 : World) (M : Mg) (V : World) : Prop where
  m : ∃ P C, V.heap[b2]? = some (.cells (mC M P C) 34 (0, 0)) ∧ V.ownsRow base 75 2 P M.p.length ((fl2 M.p).map (Value.int .i64)) ∧ V.ownsRow base 3 1 C M.c.length (M.c.map (Value.int .i64))
  off : Off (fun q => q = b2) w4 V
section
variable {b2 base : Nat} {w4 V V' : World} {M M' : Mg}
theorem RnB.later (h : RnB b2 base w4 M V) (hb : Below V.heap.size V V') : RnB b2 base w4 M V' := by
  obtain ⟨P, C, h1, h2, h3⟩ := h.m
  exact ⟨⟨P, C, (hb.block _ (Array.getElem?_eq_some_iff.1 h1).1).trans h1, own_below7 h2 hb, own_below7 h3 hb⟩, off_below h.off (hb.mono h.off.size)⟩
theorem RnB.set (h : RnB b2 base w4 M V) (hb : b2 < base) (j : Nat) (u : Value) (hM : ∀ P C, V.ownsRow base 75 2 P M.p.length ((fl2 M.p).map (Value.int .i64)) → V.ownsRow base 3 1 C M.c.length (M.c.map (Value.int .i64)) → ∃ P' C', (mC M P C).setIfInBounds j u = mC M' P' C' ∧ V.ownsRow base 75 2 P' M'.p.length ((fl2 M'.p).map (Value.int .i64)) ∧ V.ownsRow base 3 1 C' M'.c.length (M'.c.map (Value.int .i64))) : RnB b2 base w4 M' (V.setCell ⟨b2, j, none⟩ u) := by
  obtain ⟨P, C, h1, h2, h3⟩ := h.m
  obtain ⟨P', C', h4, h5, h6⟩ := hM P C h2 h3
  exact ⟨⟨P', C', by rw [setCell_at h1, h4], ownsRow_setCell_below h5 (a := ⟨b2, j, none⟩) hb _, ownsRow_setCell_below h6 (a := ⟨b2, j, none⟩) hb _⟩, h.off.setCell (p := ⟨b2, j, none⟩) rfl _⟩
theorem RnB.num (h : RnB b2 base w4 M V) (hb : b2 < base) {j : Nat} (hj : j < 6) (v : Int) : RnB b2 base w4 (M.put j v) (V.setCell ⟨b2, 1 + j, none⟩ (.int .i64 v)) :=
  h.set hb (1 + j) (.int .i64 v) (fun P C h1 h2 => ⟨P, C, mC_put hj .., by rw [Mg.put_p]; exact h1, by rw [Mg.put_c]; exact h2⟩)
theorem RnB.at (h : RnB b2 base w4 M V) {j : Nat} (hj : j < 6) : V.cell? ⟨b2, 1 + j, none⟩ = some (.int .i64 (M.at' j)) ∧ V.frozen? ⟨b2, 1 + j, none⟩ = false := by
  obtain ⟨P, C, h1, _⟩ := h.m
  exact ⟨mg_at h1 hj, frozen_of_row V b2 (1 + j) _ _ h1⟩
end
theorem put_put (M : Mg) (j : Nat) (a b : Int) : (M.put j a).put j b = M.put j b := by
  rcases j with _ | _ | _ | _ | _ | _ | j <;> rfl
/-- what New answers -/
def RMR (w : World) (M : Mg) (e : Ending) (w' : World) : Prop := ∃ P C, e = .returned (mV M P C) ∧ MAt w' w'.heap.size M P C ∧ Below w.heap.size w w'
set_option maxHeartbeats 16000000 in
theorem rmnew_any (k : Int) (w : World) : Calls Try.prog 17 #[.int .i64 k] w fun e w' => RMR w (mnew k) e w' := by
  obtain ⟨G, hG⟩ : ∃ G, mnew k = G := ⟨_, rfl⟩
  rw [hG]
  unfold mnew at hG
  obtain ⟨w2, hw2⟩ : ∃ w2, w2 = (w.alloc (.cells (mC (Mg.zero 0) (.slice none 0 0) (.slice none 0 0)) 34)).alloc (.cells (mC (Mg.zero 0) (.slice none 0 0) (.slice none 0 0)) 34) := ⟨_, rfl⟩
  have hs2 : w2.heap.size = w.heap.size + 2 := by rw [hw2]; simp
  have hb2 : Below w.heap.size w w2 := by rw [hw2]; exact ((Below.refl _ w).alloc (Nat.le_refl _) _).alloc (by simp) _
  have q0 : w2.heap[w.heap.size]? = some (.cells (mC (Mg.zero 0) (.slice none 0 0) (.slice none 0 0)) 34 (0, 0)) := by
    rw [hw2, Below.heap_alloc _ _ _ (by simp)]; exact World.alloc_heap_new _ _
  have q1 : w2.heap[w.heap.size + 1]? = some (.cells (mC (Mg.zero 0) (.slice none 0 0) (.slice none 0 0)) 34 (0, 0)) := by
    have := World.alloc_heap_new (w.alloc (.cells (mC (Mg.zero 0) (.slice none 0 0) (.slice none 0 0)) 34)) (.cells (mC (Mg.zero 0) (.slice none 0 0) (.slice none 0 0)) 34)
    rw [World.size_alloc] at this
    rw [hw2]; exact this
  have KR := Lib.hid (rall_any k)
  have KF := Lib.hid (FD_fdok k)
  have h6 := FD_few k
  unfold RMR mV
  simp only [mC, Mg.zero] at hw2 ⊢
  have HW := Lib.hid hw2
  have HQ := Lib.hid (And.intro q0 q1)
  have HB2 := Lib.hid hb2
  clear hw2 q0 q1 hb2
  go_enter Try.func17, Try.ntmps17
  go_wp2_with fail
  rw [← HW.out]
  refine (KR.out w2).mono ?_
  intro e w3 hOf
  obtain ⟨A, cA, rfl, hcA, hA, hb3⟩ := hOf
  have p0 := (hb3.block _ (by omega)).trans HQ.out.1
  have p1 := (hb3.block _ (by omega)).trans HQ.out.2
  have hs3 := hb3.size
  have HB3 := Lib.hid (HB2.out.trans (hb3.mono HB2.out.size))
  obtain ⟨L, hL⟩ : ∃ L, FD k = L := ⟨_, rfl⟩
  rw [hL] at hG KF h6 hcA hA ⊢
  obtain ⟨n, hn⟩ : ∃ n, L.length = n := ⟨_, rfl⟩
  rw [hn] at h6 hcA ⊢
  have HN := Lib.hid hn
  have HG := Lib.hid hG
  have HA := Lib.hid hA
  have HGE : Hid (∀ g, A = some ⟨g, 0, none⟩ → L ≠ [] → w.heap.size + 2 ≤ g) := Lib.hid (fun g hg hne => by
    obtain ⟨f, r, rfl⟩ := List.exists_cons_of_ne_nil hne
    obtain ⟨g', h1, h2, _⟩ := hA 0 f rfl
    rw [hg] at h1
    injection h1 with h1
    injection h1 with h1
    omega)
  have HP := Lib.hid p0
  have HS0 := Lib.hid (show RnB (w.heap.size + 1) w3.heap.size w3 (Mg.zero 0) w3 from ⟨⟨_, _, p1, World.ownsRow_nil _ _ _ _, World.ownsRow_nil _ _ _ _⟩, Off.refl _ _⟩)
  clear hL hn hG hA hb3 p0 p1 HQ HB2 KR HW
  go_wp2
  go_loopw [5] (fun iv wr => ∃ j : Nat, j ≤ n ∧ iv = .int .i64 (j : Int) ∧ Hid (RnB (w.heap.size + 1) w3.heap.size w3 ((L.take j).foldl (nw k) (Mg.zero 0)) wr)) (fun iv _ => n - (intOf iv).toNat)
  case atStart => exact ⟨0, by omega, rfl, HS0⟩
  case round =>
    obtain ⟨j, hj, rfl, HM⟩ := hrel
    rcases Nat.lt_or_ge j n with hlt | hge
    · obtain ⟨f, hf⟩ : ∃ f, L[j]? = some f := ⟨_, List.getElem?_eq_getElem (by rw [HN.out]; exact hlt)⟩
      obtain ⟨g, rfl, _, hgl, d0, d1, d2, d3, d4, d5, d6⟩ := HA.out.seven hf
      have hgw : g ≠ w.heap.size + 1 := by have := HGE.out g rfl (fun e => by rw [e] at hf; simp at hf); omega
      have ok := KF.out f (List.mem_of_getElem? hf)
      have hst := fold_take hf (nw k) (Mg.zero 0)
      have HST := Lib.hid hst
      have hj2 : (j : Int) < (n : Int) := by omega
      have hnA : (n : Int) ≤ (cA : Int) := by omega
      obtain ⟨Mj, hMj⟩ : ∃ Mj, (L.take j).foldl (nw k) (Mg.zero 0) = Mj := ⟨_, rfl⟩
      rw [hMj] at HM HST
      have hnw := nw_eq k Mj f
      have hso := ok.so
      -- the kind is told first
      obtain ⟨V1, hV1⟩ : ∃ V1, wr.setCell ⟨w.heap.size + 1, 0, none⟩ (.int .i64 k) = V1 := ⟨_, rfl⟩
      have hP1 : RnB (w.heap.size + 1) w3.heap.size w3 { Mj with k := k } V1 := by
        rw [← hV1]
        exact HM.out.set (by omega) 0 (.int .i64 k) (fun P C h1 h2 => ⟨P, C, rfl, h1, h2⟩)
      have hz1 : V1.heap.size = wr.heap.size := by rw [← hV1]; simp [World.setCell]
      obtain ⟨P, C, m1, _, _⟩ := HM.out.m
      have c0 := (mg_block m1).1
      have z0 := frozen_of_row wr (w.heap.size + 1) 0 _ _ m1
      have g7 := (mg_block m1).2.2.2.2.2.2.2.1
      have g8 := (mg_block m1).2.2.2.2.2.2.2.2.1
      have y7 := frozen_of_row wr (w.heap.size + 1) 7 _ _ m1
      have y8 := frozen_of_row wr (w.heap.size + 1) 8 _ _ m1
      have hblt := (Array.getElem?_eq_some_iff.1 m1).1
      have hwz := HM.out.off.size
      have kx := fun q x (hx : w3.cell? ⟨g, q, none⟩ = some x) => hP1.off.cell hx (by show ¬ (g = w.heap.size + 1); exact hgw)
      have e1 := kx _ _ d1
      have e2 := kx _ _ d2
      have e3 := kx _ _ d3
      have e5 := kx _ _ d5
      have e6 := kx _ _ d6
      have HV1 := Lib.hid hV1
      have hgwr : g < wr.heap.size := by omega
      clear hf hst hMj kx d0 d1 d2 d3 d4 d5 d6 m1 hV1
      by_cases h3 : f.so = 3
      · rw [if_pos h3] at hnw
        rw [h3] at e1
        have hno := ok.no (by omega)
        rw [hno] at e2
        have hb4' : Below V1.heap.size V1 (V1.alloc (.cells #[.int .i64 0, .int .i64 0] 75)) := (Below.refl _ V1).alloc (Nat.le_refl _) _
        have HP5 := Lib.hid ((hP1.later hb4').set (M' := nw k Mj f) (by omega) 7 (.slice (some ⟨wr.heap.size, 0, none⟩) 1 1) (fun P C h1 h2 => ⟨_, C, by rw [hnw]; rfl, by rw [hnw]; exact own_lit' [.int .i64 0, .int .i64 0] hz1 (by omega) (by unfold maxLen; omega) rfl, by rw [hnw]; exact h2⟩))
        rw [World.setCell_alloc_past _ _ _ _ (by omega)] at HP5
        rw [← HV1.out] at HP5 e1 e2
        clear hP1 hb4' ok hno hnw e3 e5 e6
        go_wp2
        exact ⟨⟨j + 1, by omega, by go_num, by rw [HST.out]; exact HP5⟩, by simp only [intOf]; omega⟩
      by_cases h4 : f.so = 4
      · rw [if_neg (by omega), if_pos h4] at hnw
        rw [h4] at e1
        have hno := ok.no (by omega)
        rw [hno] at e2
        have hb4' : Below V1.heap.size V1 (V1.alloc (.cells #[.int .i64 0] 3)) := (Below.refl _ V1).alloc (Nat.le_refl _) _
        have HP5 := Lib.hid ((hP1.later hb4').set (M' := nw k Mj f) (by omega) 8 (.slice (some ⟨wr.heap.size, 0, none⟩) 1 1) (fun P C h1 h2 => ⟨P, _, by rw [hnw]; rfl, by rw [hnw]; exact h1, by rw [hnw]; exact own_lit' [.int .i64 0] hz1 (by omega) (by unfold maxLen; omega) rfl⟩))
        rw [World.setCell_alloc_past _ _ _ _ (by omega)] at HP5
        rw [← HV1.out] at HP5 e1 e2
        clear hP1 hb4' ok hno hnw e3 e5 e6
        go_wp2
        exact ⟨⟨j + 1, by omega, by go_num, by rw [HST.out]; exact HP5⟩, by simp only [intOf]; omega⟩
      by_cases h12 : f.so = 1 ∨ f.so = 2
      · rw [if_neg h3, if_neg h4, if_pos h12] at hnw
        obtain ⟨jn, hjn, hpl⟩ := ok.pl (by omega)
        rw [hpl, Int.toNat_natCast] at hnw
        rw [hpl] at e2
        have q3 : (f.so == 3) = false := by simp; omega
        have q4 : (f.so == 4) = false := by simp; omega
        have hj6 : (jn : Int) < 6 := by omega
        have hsi := ok.si
        obtain ⟨k1, k2⟩ := hP1.at hjn
        have HP1 := Lib.hid hP1
        have HNW := Lib.hid hnw
        have e1' := e1
        have e2' := e2
        rw [← HV1.out] at e1' e2'
        clear hP1 hnw hpl ok g7 g8 y7 y8
        go_wp2
        rw [HV1.out]
        clear HV1 c0 z0 e1' e2'
        go_region
        obtain ⟨V2, hV2⟩ : ∃ V2, (V1.setCell ⟨w.heap.size + 1, 1 + jn, none⟩ (.int .i64 f.le)).drew = V2 := ⟨_, rfl⟩
        rw [hV2]
        have hP2 : RnB (w.heap.size + 1) w3.heap.size w3 (({ Mj with k := k } : Mg).put jn f.le) V2 := by rw [← hV2]; exact (HP1.out.num (by omega) hjn f.le).later (Below.refl _ _).drew
        have ho2 : Off (fun q => q = w.heap.size + 1) V1 V2 := by rw [← hV2]; exact off_below ((Off.refl (fun q => q = w.heap.size + 1) V1).setCell (p := ⟨w.heap.size + 1, 1 + jn, none⟩) rfl _) (Below.refl _ _).drew
        have kx := fun q x (hx : V1.cell? ⟨g, q, none⟩ = some x) => ho2.cell hx (by show ¬ (g = w.heap.size + 1); exact hgw)
        have e1 := kx _ _ e1
        have e2 := kx _ _ e2
        have e3 := kx _ _ e3
        have e5 := kx _ _ e5
        have e6 := kx _ _ e6
        obtain ⟨k1, k2⟩ := hP2.at hjn
        have HP2 := Lib.hid hP2
        have hblt2 := hP2.off.size
        clear hV2 hP2 ho2 kx HP1
        by_cases hle : f.le < 0
        · have hx := HP2.out.num (by omega) hjn 0
          rw [put_put] at hx
          have HX0 := Lib.hid hx
          have ho3 : Off (fun q => q = w.heap.size + 1) V2 (V2.setCell ⟨w.heap.size + 1, 1 + jn, none⟩ (.int .i64 0)) := (Off.refl (fun q => q = w.heap.size + 1) V2).setCell (p := ⟨w.heap.size + 1, 1 + jn, none⟩) rfl _
          have e6' := ho3.cell e6 (by show ¬ (g = w.heap.size + 1); exact hgw)
          have e2' := ho3.cell e2 (by show ¬ (g = w.heap.size + 1); exact hgw)
          clear hx ho3
          rcases hsi with hsi | hsi
          · rw [hsi] at e5
            have HF : Hid (RnB (w.heap.size + 1) w3.heap.size w3 (nw k Mj f) (V2.setCell ⟨w.heap.size + 1, 1 + jn, none⟩ (.int .i64 0))) := Lib.hid (by
              rw [HNW.out]
              have hv : startV f = 0 := by unfold startV; rw [if_neg (by omega)]; omega
              rw [hv]
              exact HX0.out)
            go_wp2
            exact ⟨⟨j + 1, by omega, by go_num, by rw [HST.out]; exact HF⟩, by simp only [intOf]; omega⟩
          · rw [hsi] at e5
            have HX : Hid (RnB (w.heap.size + 1) w3.heap.size w3 (nw k Mj f) (((V2.setCell ⟨w.heap.size + 1, 1 + jn, none⟩ (.int .i64 0)).setCell ⟨w.heap.size + 1, 1 + jn, none⟩ (.int .i64 f.ab)).drew)) := Lib.hid (by
              rw [HNW.out]
              have hv : startV f = f.ab := by unfold startV; rw [if_pos (by omega)]
              rw [hv]
              have h := (HX0.out).num (by omega) hjn f.ab
              rw [put_put] at h
              exact h.later (Below.refl _ _).drew)
            have eb : (V2.setCell ⟨w.heap.size + 1, 1 + jn, none⟩ (.int .i64 0)).cell? ⟨g, j * 7 + 6, none⟩ = some (.int .i64 f.ab) := e6'
            have e0 : (V2.setCell ⟨w.heap.size + 1, 1 + jn, none⟩ (.int .i64 0)).cell? ⟨g, j * 7 + 2, none⟩ = some (.int .i64 (jn : Int)) := e2'
            have eo := (HX0.out).at hjn
            obtain ⟨v1, v2⟩ := eo
            go_wp2
            go_region
            go_wp2
            exact ⟨⟨j + 1, by omega, by go_num, by rw [HST.out]; exact HX⟩, by simp only [intOf]; omega⟩
        · have hle2 : 0 ≤ f.le := by omega
          rcases hsi with hsi | hsi
          · rw [hsi] at e5
            have HF : Hid (RnB (w.heap.size + 1) w3.heap.size w3 (nw k Mj f) (V2)) := Lib.hid (by
              rw [HNW.out]
              have hv : startV f = f.le := by unfold startV; rw [if_neg (by omega)]; omega
              rw [hv]
              exact HP2.out)
            go_wp2
            exact ⟨⟨j + 1, by omega, by go_num, by rw [HST.out]; exact HF⟩, by simp only [intOf]; omega⟩
          · rw [hsi] at e5
            have HX : Hid (RnB (w.heap.size + 1) w3.heap.size w3 (nw k Mj f) (((V2).setCell ⟨w.heap.size + 1, 1 + jn, none⟩ (.int .i64 f.ab)).drew)) := Lib.hid (by
              rw [HNW.out]
              have hv : startV f = f.ab := by unfold startV; rw [if_pos (by omega)]
              rw [hv]
              have h := (HP2.out).num (by omega) hjn f.ab
              rw [put_put] at h
              exact h.later (Below.refl _ _).drew)
            have eb : (V2).cell? ⟨g, j * 7 + 6, none⟩ = some (.int .i64 f.ab) := e6
            have e0 : (V2).cell? ⟨g, j * 7 + 2, none⟩ = some (.int .i64 (jn : Int)) := e2
            have eo := (HP2.out).at hjn
            obtain ⟨v1, v2⟩ := eo
            go_wp2
            go_region
            go_wp2
            exact ⟨⟨j + 1, by omega, by go_num, by rw [HST.out]; exact HX⟩, by simp only [intOf]; omega⟩
      rw [if_neg h3, if_neg h4, if_neg h12] at hnw
      have hno := ok.no (by omega)
      rw [hno] at e2
      have q3 : (f.so == 3) = false := by simp; omega
      have q4 : (f.so == 4) = false := by simp; omega
      have HF : Hid (RnB (w.heap.size + 1) w3.heap.size w3 (nw k Mj f) (wr.setCell ⟨w.heap.size + 1, 0, none⟩ (.int .i64 k))) := Lib.hid (by rw [HV1.out, hnw]; exact hP1)
      rw [← HV1.out] at e1 e2
      clear hP1 ok hno hnw e3 e5 e6
      go_wp2
      exact ⟨⟨j + 1, by omega, by go_num, by rw [HST.out]; exact HF⟩, by simp only [intOf]; omega⟩
    · obtain rfl : j = n := by omega
      have hP := HM.out
      rw [List.take_of_length_le (by rw [HN.out]; exact Nat.le_refl _), HG.out] at hP
      obtain ⟨P, C, m1, m2, m3⟩ := hP.m
      obtain ⟨a3, cp3, rfl, hcp3, hn3⟩ := nums_of_own m2 (by omega)
      obtain ⟨b3, cb3, rfl, hcb3, hn4⟩ := nums_of_own m3 (by omega)
      obtain ⟨np, hnp⟩ : ∃ np, G.p.length = np := ⟨_, rfl⟩
      obtain ⟨nc, hnc⟩ : ∃ nc, G.c.length = nc := ⟨_, rfl⟩
      rw [hnp, hnc] at m1
      rw [hnp] at m2
      rw [hnc] at m3
      obtain ⟨f0, f1, f2, f3, f4, f5, f6, f7, f8, f9, f10⟩ := mg_block m1
      have HR1 := Lib.hid ((hP.off.block w.heap.size (by omega) (by omega)).trans HP.out)
      have HBW := Lib.hid (HB3.out.trans (hP.off.below (B := w.heap.size) (fun k hk => by omega) HB3.out.size))
      have HOR := Lib.hid (And.intro m2 m3)
      have HNP := Lib.hid (And.intro hnp hnc)
      clear m1 m2 m3 hP hcp3 hcb3 hn3 hn4 hnp hnc
      go_wp2_with (refine wpList_store_row rfl 34 (.tmp 2) (.tmp 82) rfl w.heap.size #[.int .i64 G.k, .int .i64 G.n0, .int .i64 G.n1, .int .i64 G.n2, .int .i64 G.n3, .int .i64 G.n4, .int .i64 G.n5, .slice a3 np cp3, .slice b3 nc cb3, .string G.tx, .string G.tg] rfl rfl 34 _ HR1.out rmInfo rfl (by simp [Value.oneCell']) ?_)
      have hfin := setRow_heap wr w.heap.size _ #[.int .i64 G.k, .int .i64 G.n0, .int .i64 G.n1, .int .i64 G.n2, .int .i64 G.n3, .int .i64 G.n4, .int .i64 G.n5, .slice a3 np cp3, .slice b3 nc cb3, .string G.tx, .string G.tg] _ _ HR1.out
      have hoff := Off.setRow (S := fun k => k = w.heap.size) (Off.refl _ wr) rfl #[.int .i64 G.k, .int .i64 G.n0, .int .i64 G.n1, .int .i64 G.n2, .int .i64 G.n3, .int .i64 G.n4, .int .i64 G.n5, .slice a3 np cp3, .slice b3 nc cb3, .string G.tx, .string G.tg]
      have hbf := HBW.out.trans (hoff.below (B := w.heap.size) (fun k hk => by omega) HBW.out.size)
      have ho1 := own_offM HOR.out.1 hoff (fun g hg e => by have := (HOR.out.1.lt g hg).1; omega)
      have ho2 := own_offM HOR.out.2 hoff (fun g hg e => by have := (HOR.out.2.lt g hg).1; omega)
      generalize wr.setRow w.heap.size _ = Wf at *
      obtain ⟨y0, y1, y2, y3, y4, y5, y6, y7, y8, y9, y10⟩ := mg_block hfin
      refine bodyPost_ret (v := .agg #[.int .i64 G.k, .int .i64 G.n0, .int .i64 G.n1, .int .i64 G.n2, .int .i64 G.n3, .int .i64 G.n4, .int .i64 G.n5, .slice a3 np cp3, .slice b3 nc cb3, .string G.tx, .string G.tg]) (by simp [results, Try.results17, go_sem, y0, y1, y2, y3, y4, y5, y6, y7, y8, y9, y10]) rfl ?_
      obtain ⟨hnp, hnc⟩ := HNP.out
      obtain ⟨_, _, e1, e2, e3⟩ := nums_of_own ho1 (by omega)
      obtain ⟨_, _, e4, e5, e6⟩ := nums_of_own ho2 (by omega)
      refine ⟨_, _, rfl, ⟨⟨_, _, by rw [hnp]; exact e1, by rw [hnp]; exact e2, e3⟩, ⟨_, _, by rw [hnc]; exact e4, by rw [hnc]; exact e5, e6⟩⟩, hbf⟩
end Go.Proofs.Ytnbhiamnoapmlaa

namespace Go.Proofs.Ytnbhiamnoapmlaa
open Go.RowKit
section
variable {P : Program} {l : List Oper} {I : World → Prop} {fs : List Tmp} {FS : Tmp → Value → World → Prop} {E : Act → Prop} {o : Oper} {rest : List Oper} {a : Act}
/-- an operation that enters no function and looks at a value that is known by what it is good for alone -/
theorem wpF_useval (s : Tmp) (j : Nat) (v : Value) (hs : s ∈ fs) (hj : (l[j]?).bind (·.dst) = some s) (hje : (o.after.any fun e => Region.binds .any e && e.on == j) = true)
    (hn : ((o.looksAt l.toArray).all fun d => !fs.contains d || d == s) = true) (hdst : (match o.dst with | some d => !fs.contains d | none => true) = true) (hw : ∀ x, Region.wanted o (yielded l.toArray (a.put (some s) x).tmps) = true)
    (hrun : ∀ x w, I w → FS s x w → (execOp (a.put (some s) x).eval o).run P w = .ok (.value v) w) (h : wpF P l.toArray I fs FS E rest (a.put o.dst v)) : wpF P l.toArray I fs FS E (o :: rest) a := by
  refine ⟨v, .inr (.inr (.inl ⟨s, hs, ⟨j, by simpa using hj, hje⟩, fun d hd hf => ?_, fun d hd hf => ?_, fun x w hI hx => ⟨hw x, ?_⟩⟩)), h⟩
  · rw [List.all_eq_true] at hn
    have := hn d hd
    simpa [hf] using this
  · rw [hd] at hdst
    simp [hf] at hdst
  · rw [hrun x w hI hx]
    exact ⟨rfl, rfl⟩
end
end Go.Proofs.Ytnbhiamnoapmlaa

namespace Go.Proofs.Ytnbhiamnoapmlaa
open Go.RowKit Go.Shelf
set_option maxRecDepth 100000
attribute [local go_sem] Oper.semAt_some

theorem mproj_p (M : Mg) (v : Int) : (mproj M v).p = M.p := by
  unfold mproj
  split
  · exact fold_prj_p _ _
  · rfl
theorem mproj_c (M : Mg) (v : Int) : (mproj M v).c = M.c := by
  unfold mproj
  split
  · exact fold_prj_c _ _
  · rfl
theorem prj_small {M : Mg} (h : Msm M) (f : Fd) : Msm (prj M f) := by
  refine ⟨by rw [prj_p]; exact h.p, by rw [prj_c]; exact h.c, ?_, ?_⟩
  · unfold prj
    repeat' split
    · exact h.tx
    · exact h.tx
    · rw [Mg.put_tx]; exact h.tx
    · exact h.tx
  · unfold prj
    repeat' split
    · exact h.tg
    · exact Nat.zero_le _
    · rw [Mg.put_tg]; exact h.tg
    · exact h.tg
theorem fold_prj_small : ∀ (L : List Fd) {M : Mg}, Msm M → Msm (L.foldl prj M)
  | [], _, h => h
  | f :: r, _, h => by rw [List.foldl_cons]; exact fold_prj_small r (prj_small h f)
theorem mproj_small {M : Mg} (h : Msm M) (v : Int) : Msm (mproj M v) := by
  unfold mproj
  split
  · exact fold_prj_small _ h
  · exact h
theorem mnew_small (k : Int) : Msm (mnew k) := by
  rcases kind_ways k with rfl | rfl | rfl | rfl | rfl | ⟨h1, h2, h3, h4, h5⟩
  case' inr.inr.inr.inr.inr => rw [show mnew k = Mg.zero 0 by unfold mnew; rw [show FD k = [] by simp [FD, raw, h1, h2, h3, h4, h5, pls]]; rfl]
  all_goals exact ⟨by decide, by decide, by decide, by decide⟩
/-- a message that a call has made -/
def FMs (M : Mg) (x : Value) (W : World) : Prop := ∃ P C, x = mV M P C ∧ MAt W W.heap.size M P C
theorem FMs.later {M : Mg} {x : Value} {W W' : World} (h : FMs M x W) (hb : Below W.heap.size W W') : FMs M x W' := by
  obtain ⟨P, C, h1, h2⟩ := h
  exact ⟨P, C, h1, h2.later hb⟩
/-- .. once more: a fact of the call alone -/
def AnsF (M : Mg) (W : World) (e : Ending) (w' : World) : Prop := ∃ u, e = .returned u ∧ FMs M u w' ∧ Below W.heap.size W w'
section
variable {M M' : Mg} {x y : Value} {W : World}
theorem cut_F {B : Nat} {P C : Value} (hB : B ≤ W.heap.size) (h : MAt W B M P C) : Calls Try.prog 7 #[mV M P C] W fun e w' => ∃ u, e = .returned u ∧ (∃ M P C, Msm M ∧ u = mV M P C ∧ MAt w' B M P C) ∧ Below W.heap.size W w' := by
  obtain ⟨⟨a, c, rfl, h1, h2⟩, ⟨a', c', rfl, h3, h4⟩⟩ := h
  refine (mcut_any M a a' _ _ c c' W rfl rfl h1 h3 B hB h2 h4).mono fun e w' h => ?_
  obtain ⟨M, P, C, rfl, hs, hm, hb⟩ := h
  exact ⟨_, rfl, ⟨M, P, C, hs, rfl, hm⟩, hb⟩
theorem of_F (hs : Msm M) (h : FMs M x W) : Calls Try.prog 11 #[x] W fun e w' => ∃ u, e = .returned u ∧ FMs M u w' ∧ Below W.heap.size W w' := by
  obtain ⟨P, C, rfl, h1⟩ := h
  refine (mof_any M P C W hs h1).mono fun e w' h => ?_
  obtain ⟨P', rfl, ho, hb⟩ := h
  obtain ⟨a, c, g1, g2, g3⟩ := nums_of_own ho (by omega)
  exact ⟨_, rfl, ⟨P', C, rfl, ⟨a, c, g1, g2, g3⟩, (h1.later hb).c⟩, hb⟩
theorem chk_F (hs : Msm M) (h : FMs M x W) : Calls Try.prog 8 #[x] W fun e w' => e = .returned (.int .i64 (mck M)) ∧ Below W.heap.size W w' := by
  obtain ⟨P, C, rfl, h1⟩ := h
  exact mcheck_any M P C W hs h1
theorem proj_F (v : Int) (hs : Msm M) (h : FMs M x W) : Calls Try.prog 9 #[x, .int .i64 v] W fun e w' => ∃ u, e = .returned u ∧ FMs (mproj M v) u w' ∧ Below W.heap.size W w' := by
  obtain ⟨P, C, rfl, h1⟩ := h
  refine (mproject_any M P C v W hs h1).mono fun e w' h => ?_
  obtain ⟨P, C, rfl, ho, hb⟩ := h
  exact ⟨_, rfl, ⟨P, C, rfl, ho.at⟩, hb⟩
theorem same_F (hs : Msm M) (h : FMs M x W) (h' : FMs M' y W) : Calls Try.prog 14 #[x, y] W fun e w' => e = .returned (.bool (decide (M = M'))) ∧ Below W.heap.size W w' := by
  obtain ⟨P, C, rfl, h1⟩ := h
  obtain ⟨P', C', rfl, h2⟩ := h'
  exact msame_any M M' P C P' C' W hs h1 h2
theorem new_F (k : Int) : Calls Try.prog 15 #[.int .i64 k] W fun e w' => ∃ u, e = .returned u ∧ FMs (mnew k) u w' ∧ Below W.heap.size W w' := by
  refine (mnew_any k W).mono fun e w' h => ?_
  obtain ⟨P, C, rfl, ho, hb⟩ := h
  exact ⟨_, rfl, ⟨P, C, rfl, ho.at⟩, hb⟩
theorem rchk_F (hs : Msm M) (h : FMs M x W) : Calls Try.prog 10 #[x] W fun e w' => e = .returned (.int .i64 (mck M)) ∧ Below W.heap.size W w' := by
  obtain ⟨P, C, rfl, h1⟩ := h
  exact rmcheck_any M P C W hs h1
theorem rproj_F (v : Int) (h : FMs M x W) : Calls Try.prog 13 #[x, .int .i64 v] W fun e w' => ∃ u, e = .returned u ∧ FMs (mproj M v) u w' ∧ Below W.heap.size W w' := by
  obtain ⟨P, C, rfl, ⟨⟨a, c, rfl, h1, h2⟩, ⟨a', c', rfl, h3, h4⟩⟩⟩ := h
  refine (rmproject_any M a a' _ _ c c' v W).mono fun e w' h => ?_
  obtain ⟨rfl, hb⟩ := h
  refine ⟨_, rfl, ⟨_, _, rfl, ⟨a, c, by rw [mproj_p], by rw [mproj_p]; exact h1, ?_⟩, ⟨a', c', by rw [mproj_c], by rw [mproj_c]; exact h3, ?_⟩⟩, hb⟩
  · rw [mproj_p]; exact (h2.below hb).mono hb.size
  · rw [mproj_c]; exact (h4.below hb).mono hb.size
theorem rsame_F (hs : Msm M) (h : FMs M x W) (h' : FMs M' y W) : Calls Try.prog 12 #[x, y] W fun e w' => e = .returned (.bool (decide (M = M'))) ∧ Below W.heap.size W w' := by
  obtain ⟨P, C, rfl, h1⟩ := h
  obtain ⟨P', C', rfl, h2⟩ := h'
  exact rmsame_any M M' P C P' C' W hs h1 h2
theorem rnew_F (k : Int) : Calls Try.prog 17 #[.int .i64 k] W fun e w' => ∃ u, e = .returned u ∧ FMs (mnew k) u w' ∧ Below W.heap.size W w' := by
  refine (rmnew_any k W).mono fun e w' h => ?_
  obtain ⟨P, C, rfl, ho, hb⟩ := h
  exact ⟨_, rfl, ⟨P, C, rfl, ho⟩, hb⟩
theorem copy_F (hs : Msm M) (h : FMs M x W) : Calls Try.prog 18 #[x] W fun e w' => ∃ u, e = .returned u ∧ FMs M u w' ∧ Below W.heap.size W w' := by
  obtain ⟨P, C, rfl, h1⟩ := h
  refine (mcopy_any M P C W hs h1).mono fun e w' h => ?_
  obtain ⟨P, C, rfl, ho, hb⟩ := h
  exact ⟨_, rfl, ⟨P, C, rfl, ho.at⟩, hb⟩
end
/-- a message's box, read -/
theorem mg_read {W : World} {b : Nat} {M : Mg} {P C : Value} {t : TypeId} (h : W.heap[b]? = some (.cells (mC M P C) t (0, 0))) :
    (Instr.loadAt 26 (.pointer (some ⟨b, 0, none⟩))).run Try.prog W = .ok (mV M P C) W := by
  obtain ⟨f0, f1, f2, f3, f4, f5, f6, f7, f8, f9, f10⟩ := mg_block h
  simp [Instr.loadAt, go_sem, f0, f1, f2, f3, f4, f5, f6, f7, f8, f9, f10, mV, mC]
end Go.Proofs.Ytnbhiamnoapmlaa

namespace Go.Proofs.Ytnbhiamnoapmlaa
open Go.RowKit Go.Shelf
set_option maxRecDepth 100000
attribute [local go_sem] Oper.semAt_some

theorem rsame_T {M M' : Mg} {x y : Value} {W : World} {e : Bool} (hs : Msm M) (h : FMs M x W) (h' : FMs M' y W) (he : decide (M = M') = e) : Calls Try.prog 12 #[x, y] W fun e' w' => ∃ u, e' = .returned u ∧ u = .bool e ∧ Below W.heap.size W w' :=
  (rsame_F hs h h').mono fun e' w' h => ⟨.bool e, by rw [h.1, he], rfl, h.2⟩
theorem same_T {M : Mg} {x y : Value} {W : World} (hs : Msm M) (h : FMs M x W) (h' : FMs M y W) : Calls Try.prog 14 #[x, y] W fun e' w' => e' = .returned (.bool true) ∧ Below W.heap.size W w' :=
  (same_F hs h h').mono fun e' w' h => ⟨by rw [h.1, decide_eq_true rfl], h.2⟩
theorem proj_T {M G : Mg} {v : Int} {x : Value} {W : World} (he : mproj M v = G) (hs : Msm M) (h : FMs M x W) : Calls Try.prog 9 #[x, .int .i64 v] W fun e w' => ∃ u, e = .returned u ∧ FMs G u w' ∧ Below W.heap.size W w' := by
  have := proj_F v hs h
  rwa [he] at this
/-- what a cut is good for -/
def FCut (lo : Nat) (u : Value) (W : World) : Prop := lo ≤ W.heap.size ∧ ∃ M P C, Msm M ∧ u = mV M P C ∧ MAt W lo M P C
theorem FCut.later {lo : Nat} {u : Value} {W W' : World} (h : FCut lo u W) (hb : Below W.heap.size W W') : FCut lo u W' := by
  obtain ⟨h0, M, P, C, h1, h2, h3⟩ := h
  exact ⟨Nat.le_trans h0 hb.size, M, P, C, h1, h2, h3.below (hb.mono h0)⟩
theorem cut_T {M : Mg} {W : World} {B : Nat} {P C : Value} (hB : B ≤ W.heap.size) (h : MAt W B M P C) : Calls Try.prog 7 #[mV M P C] W fun e w' => ∃ u, e = .returned u ∧ FCut B u w' ∧ Below W.heap.size W w' :=
  (cut_F hB h).mono fun e w' h => by
    obtain ⟨u, h1, h2, h3⟩ := h
    exact ⟨u, h1, ⟨Nat.le_trans hB h3.size, h2⟩, h3⟩
/-- what the region's calls hand each other -/
def FCk (A B G : Mg) (D : Bool) (s : Tmp) (x : Value) (W : World) : Prop :=
  if s = 33 then x = .bool true else if s = 44 then x = .bool D else FMs (if s = 28 ∨ s = 32 ∨ s = 50 then G else if s = 43 then B else A) x W
theorem FCk.later {A B G : Mg} {D : Bool} {s : Tmp} {x : Value} {W W' : World} (h : FCk A B G D s x W) (hb : Below W.heap.size W W') : FCk A B G D s x W' := by
  unfold FCk at h ⊢
  split
  · rename_i hs; rw [if_pos hs] at h; exact h
  · rename_i hs
    rw [if_neg hs] at h
    split
    · rename_i hs; rw [if_pos hs] at h; exact h
    · rename_i hs; rw [if_neg hs] at h; exact h.later hb

set_option maxHeartbeats 16000000 in
theorem checks_go (X Y : Mg) (P Q R T : Value) (v kind : Int) (w : World) (h1 : MAt w w.heap.size X P Q) (h2 : MAt w w.heap.size Y R T) : Calls Try.prog 3 #[mV X P Q, mV Y R T, .int .i64 v, .int .i64 kind] w fun e w' => e = .returned (.bool true) ∧ Below w.heap.size w w' := by
  obtain ⟨⟨a1, c1, rfl, _, _⟩, ⟨b1, d1, rfl, _, _⟩⟩ := id h1
  obtain ⟨np1, hnp1⟩ : ∃ n, X.p.length = n := ⟨_, rfl⟩
  obtain ⟨nc1, hnc1⟩ : ∃ n, X.c.length = n := ⟨_, rfl⟩
  obtain ⟨⟨a2, c2, rfl, _, _⟩, ⟨b2, d2, rfl, _, _⟩⟩ := id h2
  obtain ⟨np2, hnp2⟩ : ∃ n, Y.p.length = n := ⟨_, rfl⟩
  obtain ⟨nc2, hnc2⟩ : ∃ n, Y.c.length = n := ⟨_, rfl⟩
  unfold mV mC
  rw [hnp1, hnc1] at h1 ⊢
  rw [hnp2, hnc2] at h2 ⊢
  obtain ⟨w2, hw2⟩ : ∃ w2, (w.alloc (.cells #[.int .i64 X.k, .int .i64 X.n0, .int .i64 X.n1, .int .i64 X.n2, .int .i64 X.n3, .int .i64 X.n4, .int .i64 X.n5, .slice a1 np1 c1, .slice b1 nc1 d1, .string X.tx, .string X.tg] 26)).alloc (.cells #[.int .i64 Y.k, .int .i64 Y.n0, .int .i64 Y.n1, .int .i64 Y.n2, .int .i64 Y.n3, .int .i64 Y.n4, .int .i64 Y.n5, .slice a2 np2 c2, .slice b2 nc2 d2, .string Y.tx, .string Y.tg] 26) = w2 := ⟨_, rfl⟩
  have hs2 : w2.heap.size = w.heap.size + 2 := by rw [← hw2]; simp
  have hb2 : Below w.heap.size w w2 := by rw [← hw2]; exact ((Below.refl _ w).alloc (Nat.le_refl _) _).alloc (by simp) _
  have q0 : w2.heap[w.heap.size]? = some (.cells (mC X (.slice a1 np1 c1) (.slice b1 nc1 d1)) 26 (0, 0)) := by
    rw [← hw2, Below.heap_alloc _ _ _ (by simp)]; exact World.alloc_heap_new _ _
  have q1 : w2.heap[w.heap.size + 1]? = some (.cells (mC Y (.slice a2 np2 c2) (.slice b2 nc2 d2)) 26 (0, 0)) := by
    have := World.alloc_heap_new (w.alloc (.cells #[.int .i64 X.k, .int .i64 X.n0, .int .i64 X.n1, .int .i64 X.n2, .int .i64 X.n3, .int .i64 X.n4, .int .i64 X.n5, .slice a1 np1 c1, .slice b1 nc1 d1, .string X.tx, .string X.tg] 26)) (.cells #[.int .i64 Y.k, .int .i64 Y.n0, .int .i64 Y.n1, .int .i64 Y.n2, .int .i64 Y.n3, .int .i64 Y.n4, .int .i64 Y.n5, .slice a2 np2 c2, .slice b2 nc2 d2, .string Y.tx, .string Y.tg] 26)
    rw [World.size_alloc] at this
    rw [← hw2]; exact this
  have HX := Lib.hid (h1.below hb2)
  have HY := Lib.hid (h2.below hb2)
  have HW := Lib.hid hw2
  have HB2 := Lib.hid hb2
  have HQ := Lib.hid (And.intro q0 q1)
  have hw22 : w.heap.size ≤ w2.heap.size := hb2.size
  have lX : ∀ W, Below w2.heap.size w2 W → (Instr.loadAt 26 (.pointer (some ⟨w.heap.size, 0, none⟩))).run Try.prog W = .ok (.agg #[.int .i64 X.k, .int .i64 X.n0, .int .i64 X.n1, .int .i64 X.n2, .int .i64 X.n3, .int .i64 X.n4, .int .i64 X.n5, .slice a1 np1 c1, .slice b1 nc1 d1, .string X.tx, .string X.tg]) W := fun W hW => mg_read ((hW.block _ (by omega)).trans HQ.out.1)
  have lY : ∀ W, Below w2.heap.size w2 W → (Instr.loadAt 26 (.pointer (some ⟨w.heap.size + 1, 0, none⟩))).run Try.prog W = .ok (.agg #[.int .i64 Y.k, .int .i64 Y.n0, .int .i64 Y.n1, .int .i64 Y.n2, .int .i64 Y.n3, .int .i64 Y.n4, .int .i64 Y.n5, .slice a2 np2 c2, .slice b2 nc2 d2, .string Y.tx, .string Y.tg]) W := fun W hW => mg_read ((hW.block _ (by omega)).trans HQ.out.2)
  have KX := Lib.hid (show ∀ W, Below w2.heap.size w2 W → Calls Try.prog 7 #[.agg #[.int .i64 X.k, .int .i64 X.n0, .int .i64 X.n1, .int .i64 X.n2, .int .i64 X.n3, .int .i64 X.n4, .int .i64 X.n5, .slice a1 np1 c1, .slice b1 nc1 d1, .string X.tx, .string X.tg]] W fun e w' => ∃ u, e = .returned u ∧ FCut w.heap.size u w' ∧ Below W.heap.size W w' from fun W hW => cut_T (Nat.le_trans hw22 hW.size) (HX.out.below (hW.mono hw22)))
  have KY := Lib.hid (show ∀ W, Below w2.heap.size w2 W → Calls Try.prog 7 #[.agg #[.int .i64 Y.k, .int .i64 Y.n0, .int .i64 Y.n1, .int .i64 Y.n2, .int .i64 Y.n3, .int .i64 Y.n4, .int .i64 Y.n5, .slice a2 np2 c2, .slice b2 nc2 d2, .string Y.tx, .string Y.tg]] W fun e w' => ∃ u, e = .returned u ∧ FCut w.heap.size u w' ∧ Below W.heap.size W w' from fun W hW => cut_T (Nat.le_trans hw22 hW.size) (HY.out.below (hW.mono hw22)))
  clear hw2 hb2 q0 q1 h1 h2 hnp1 hnc1 hnp2 hnc2
  go_enter Try.func3, Try.ntmps3
  go_wp2_with fail
  rw [HW.out]
  refine wp_region_FT 84 4 [13, 15] (fun _ => FCut w.heap.size) (fun W => Below w2.heap.size w2 W) (by kernel_rfl) (by kernel_rfl) (by rfl) (by kernel_rfl) (by kernel_rfl) (by kernel_rfl) (by rfl) (by simp) (fun W W' h hb => h.trans (hb.mono h.size)) (fun q x W W' h hb => h.later hb) (Below.refl _ _).drew ?_
  simp only [List.take_succ_cons, List.take_zero, List.drop_succ_cons, List.drop_zero]
  refine wpF_load (ad := ⟨w.heap.size, 0, none⟩) (.agg #[.int .i64 X.k, .int .i64 X.n0, .int .i64 X.n1, .int .i64 X.n2, .int .i64 X.n3, .int .i64 X.n4, .int .i64 X.n5, .slice a1 np1 c1, .slice b1 nc1 d1, .string X.tx, .string X.tg]) rfl (by rfl) (by rfl) (by rfl) lX ?_
  simp only [Act.put, List.setIfInBounds_toArray, List.set_cons_succ, List.set_cons_zero]
  refine wpF_callsrc 13 (f := 7) (args := #[.agg #[.int .i64 X.k, .int .i64 X.n0, .int .i64 X.n1, .int .i64 X.n2, .int .i64 X.n3, .int .i64 X.n4, .int .i64 X.n5, .slice a1 np1 c1, .slice b1 nc1 d1, .string X.tx, .string X.tg]]) (by simp) rfl rfl rfl (fun x => by first | rfl | (simp [go_sem]; done)) (fun W hW => KX.out W hW) ?_
  simp only [Act.put, List.setIfInBounds_toArray, List.set_cons_succ, List.set_cons_zero]
  refine wpF_load (ad := ⟨w.heap.size + 1, 0, none⟩) (.agg #[.int .i64 Y.k, .int .i64 Y.n0, .int .i64 Y.n1, .int .i64 Y.n2, .int .i64 Y.n3, .int .i64 Y.n4, .int .i64 Y.n5, .slice a2 np2 c2, .slice b2 nc2 d2, .string Y.tx, .string Y.tg]) rfl (by rfl) (by rfl) (by rfl) lY ?_
  simp only [Act.put, List.setIfInBounds_toArray, List.set_cons_succ, List.set_cons_zero]
  refine wpF_callsrc 15 (f := 7) (args := #[.agg #[.int .i64 Y.k, .int .i64 Y.n0, .int .i64 Y.n1, .int .i64 Y.n2, .int .i64 Y.n3, .int .i64 Y.n4, .int .i64 Y.n5, .slice a2 np2 c2, .slice b2 nc2 d2, .string Y.tx, .string Y.tg]]) (by simp) rfl rfl rfl (fun x => by first | rfl | (simp [go_sem]; done)) (fun W hW => KY.out W hW) ?_
  simp only [Act.put, List.setIfInBounds_toArray, List.set_cons_succ, List.set_cons_zero]
  intro xs w3 hW3 hxs
  obtain ⟨_, A, P, C, hsA, hx13, hA⟩ := hxs 13 (by simp)
  obtain ⟨_, B, R, T, hsB, hx15, hB⟩ := hxs 15 (by simp)
  simp only [fill, hx13, hx15]
  simp only [Act.put, List.setIfInBounds_toArray, List.set_cons_succ, List.set_cons_zero]
  obtain ⟨⟨a3, c3, rfl, _, _⟩, ⟨b3, d3, rfl, _, _⟩⟩ := id hA
  obtain ⟨np3, hnp3⟩ : ∃ n, A.p.length = n := ⟨_, rfl⟩
  obtain ⟨nc3, hnc3⟩ : ∃ n, A.c.length = n := ⟨_, rfl⟩
  obtain ⟨⟨a4, c4, rfl, _, _⟩, ⟨b4, d4, rfl, _, _⟩⟩ := id hB
  obtain ⟨np4, hnp4⟩ : ∃ n, B.p.length = n := ⟨_, rfl⟩
  obtain ⟨nc4, hnc4⟩ : ∃ n, B.c.length = n := ⟨_, rfl⟩
  unfold mV mC
  rw [hnp3, hnc3] at hA ⊢
  rw [hnp4, hnc4] at hB ⊢
  have r0 := (hW3.block _ (by omega)).trans HQ.out.1
  have r1 := (hW3.block _ (by omega)).trans HQ.out.2
  obtain ⟨w4, hw4⟩ : ∃ w4, (w3.setRow w.heap.size #[.int .i64 A.k, .int .i64 A.n0, .int .i64 A.n1, .int .i64 A.n2, .int .i64 A.n3, .int .i64 A.n4, .int .i64 A.n5, .slice a3 np3 c3, .slice b3 nc3 d3, .string A.tx, .string A.tg]).setRow (w.heap.size + 1) #[.int .i64 B.k, .int .i64 B.n0, .int .i64 B.n1, .int .i64 B.n2, .int .i64 B.n3, .int .i64 B.n4, .int .i64 B.n5, .slice a4 np4 c4, .slice b4 nc4 d4, .string B.tx, .string B.tg] = w4 := ⟨_, rfl⟩
  have r1' : (w3.setRow w.heap.size #[.int .i64 A.k, .int .i64 A.n0, .int .i64 A.n1, .int .i64 A.n2, .int .i64 A.n3, .int .i64 A.n4, .int .i64 A.n5, .slice a3 np3 c3, .slice b3 nc3 d3, .string A.tx, .string A.tg]).heap[w.heap.size + 1]? = some (.cells (mC Y (.slice a2 np2 c2) (.slice b2 nc2 d2)) 26 (0, 0)) := (setRow_other _ _ _ _ (by omega)).trans r1
  have s1 := setRow_heap (w3.setRow w.heap.size #[.int .i64 A.k, .int .i64 A.n0, .int .i64 A.n1, .int .i64 A.n2, .int .i64 A.n3, .int .i64 A.n4, .int .i64 A.n5, .slice a3 np3 c3, .slice b3 nc3 d3, .string A.tx, .string A.tg]) (w.heap.size + 1) _ #[.int .i64 B.k, .int .i64 B.n0, .int .i64 B.n1, .int .i64 B.n2, .int .i64 B.n3, .int .i64 B.n4, .int .i64 B.n5, .slice a4 np4 c4, .slice b4 nc4 d4, .string B.tx, .string B.tg] _ _ r1'
  have s0 := setRow_heap w3 (w.heap.size) _ #[.int .i64 A.k, .int .i64 A.n0, .int .i64 A.n1, .int .i64 A.n2, .int .i64 A.n3, .int .i64 A.n4, .int .i64 A.n5, .slice a3 np3 c3, .slice b3 nc3 d3, .string A.tx, .string A.tg] _ _ r0
  have hoff := Off.setRow (S := fun k => w.heap.size ≤ k) (Off.setRow (S := fun k => w.heap.size ≤ k) (Off.refl _ w3) (Nat.le_refl _) #[.int .i64 A.k, .int .i64 A.n0, .int .i64 A.n1, .int .i64 A.n2, .int .i64 A.n3, .int .i64 A.n4, .int .i64 A.n5, .slice a3 np3 c3, .slice b3 nc3 d3, .string A.tx, .string A.tg]) (g := w.heap.size + 1) (by omega) #[.int .i64 B.k, .int .i64 B.n0, .int .i64 B.n1, .int .i64 B.n2, .int .i64 B.n3, .int .i64 B.n4, .int .i64 B.n5, .slice a4 np4 c4, .slice b4 nc4 d4, .string B.tx, .string B.tg]
  have hs3 := hW3.size
  have hb34 : Below w.heap.size w3 w4 := by rw [← hw4]; exact hoff.below (B := w.heap.size) (fun k hk => by omega) (by omega)
  have q1 : w4.heap[w.heap.size + 1]? = some (.cells (mC B (.slice a4 np4 c4) (.slice b4 nc4 d4)) 26 (0, 0)) := by rw [← hw4]; exact s1
  have q0 : w4.heap[w.heap.size]? = some (.cells (mC A (.slice a3 np3 c3) (.slice b3 nc3 d3)) 26 (0, 0)) := by rw [← hw4]; exact (setRow_other _ _ _ _ (by omega)).trans s0
  have hb4 : Below w.heap.size w w4 := HB2.out.trans ((hW3.mono hw22).trans hb34)
  have hw44 : w.heap.size + 1 < w4.heap.size := (Array.getElem?_eq_some_iff.1 q1).1
  have HA4 := Lib.hid (hA.below hb34)
  have HB4' := Lib.hid (hB.below hb34)
  have HB4 := Lib.hid hb4
  have HQ4 := Lib.hid (And.intro q0 q1)
  have HW4 := Lib.hid hw4
  have HR0 := Lib.hid r0
  have HR1 := Lib.hid r1'
  have HM : Hid (∀ W, Below w4.heap.size w4 W → FMs A (.agg #[.int .i64 A.k, .int .i64 A.n0, .int .i64 A.n1, .int .i64 A.n2, .int .i64 A.n3, .int .i64 A.n4, .int .i64 A.n5, .slice a3 np3 c3, .slice b3 nc3 d3, .string A.tx, .string A.tg]) W ∧ FMs B (.agg #[.int .i64 B.k, .int .i64 B.n0, .int .i64 B.n1, .int .i64 B.n2, .int .i64 B.n3, .int .i64 B.n4, .int .i64 B.n5, .slice a4 np4 c4, .slice b4 nc4 d4, .string B.tx, .string B.tg]) W) := Lib.hid fun W hW => ⟨⟨_, _, rfl, by
      have := (HA4.out.below (hW.mono (by omega))).mono (show w.heap.size ≤ W.heap.size by have := hW.size; omega)
      rwa [← hnp3, ← hnc3] at this ⊢⟩, ⟨_, _, rfl, by
      have := (HB4'.out.below (hW.mono (by omega))).mono (show w.heap.size ≤ W.heap.size by have := hW.size; omega)
      rwa [← hnp4, ← hnc4] at this ⊢⟩⟩
  clear hw4 hxs hx13 hx15 hA hB r0 r1 r1' s0 s1 hoff hs3 hb34 q0 q1 hb4 hW3 lX lY KX KY HX HY HQ HB2 HW
  clear hnp3 hnc3 hnp4 hnc4
  obtain ⟨E, hE⟩ : ∃ E, mck A = E := ⟨_, rfl⟩
  obtain ⟨D, hD⟩ : ∃ D, decide (A = B) = D := ⟨_, rfl⟩
  obtain ⟨G, hG⟩ : ∃ G, mproj A v = G := ⟨_, rfl⟩
  have hsG : Msm G := by rw [← hG]; exact mproj_small hsA v
  have hGG : mproj G v = G := by rw [← hG, mproj_twice]
  have hGE : E = 0 → mck G = 0 := fun h => by rw [← hG]; exact mck_proj A v (by rw [hE]; exact h)
  have HE := Lib.hid hE
  have HD := Lib.hid hD
  have HG := Lib.hid hG
  have HGG := Lib.hid hGG
  have HGE := Lib.hid hGE
  clear hE hD hG hGG hGE
  obtain ⟨f0, f1, f2, f3, f4, f5, f6, f7, f8, f9, f10⟩ := mg_block HQ4.out.1
  rw [← HW4.out] at f0 f1 f2 f3 f4 f5 f6 f7 f8 f9 f10
  have K2 := Lib.hid (HE.out ▸ chk_F hsA (HM.out w4 (Below.refl _ _)).1)
  go_wp2_with (first | refine wpList_store_row rfl 26 (.tmp 4) (.tmp 13) rfl (w.heap.size) #[.int .i64 A.k, .int .i64 A.n0, .int .i64 A.n1, .int .i64 A.n2, .int .i64 A.n3, .int .i64 A.n4, .int .i64 A.n5, .slice a3 np3 c3, .slice b3 nc3 d3, .string A.tx, .string A.tg] rfl rfl 26 _ HR0.out mgInfo rfl (by simp [Value.oneCell']) ?_ | refine wpList_store_row rfl 26 (.tmp 5) (.tmp 15) rfl (w.heap.size + 1) #[.int .i64 B.k, .int .i64 B.n0, .int .i64 B.n1, .int .i64 B.n2, .int .i64 B.n3, .int .i64 B.n4, .int .i64 B.n5, .slice a4 np4 c4, .slice b4 nc4 d4, .string B.tx, .string B.tg] rfl rfl 26 _ HR1.out mgInfo rfl (by simp [Value.oneCell']) ?_)
  rw [HW4.out]
  clear HR0 HR1 HW4
  refine K2.out.mono ?_
  rintro e w5 ⟨rfl, hb5⟩
  clear f0 f1 f2 f3 f4 f5 f6 f7 f8 f9 f10
  have K3 := Lib.hid (HG.out ▸ proj_F v hsA (HM.out w5 hb5).1)
  have HB5 := Lib.hid hb5
  have p0 := (hb5.block _ (by omega)).trans HQ4.out.1
  obtain ⟨f0, f1, f2, f3, f4, f5, f6, f7, f8, f9, f10⟩ := mg_block p0
  clear K2 hb5 p0
  go_wp2_with fail
  refine K3.out.mono ?_
  intro e w6 hAn
  obtain ⟨_, rfl, ⟨P, C, rfl, hG6⟩, hb6⟩ := hAn
  obtain ⟨⟨a5, c5, rfl, _, _⟩, ⟨b5, d5, rfl, _, _⟩⟩ := id hG6
  obtain ⟨np5, hnp5⟩ : ∃ n, G.p.length = n := ⟨_, rfl⟩
  obtain ⟨nc5, hnc5⟩ : ∃ n, G.c.length = n := ⟨_, rfl⟩
  unfold mV mC
  rw [hnp5, hnc5] at hG6 ⊢
  obtain ⟨w7, hw7⟩ : ∃ w7, w6.alloc (.cells #[.int .i64 G.k, .int .i64 G.n0, .int .i64 G.n1, .int .i64 G.n2, .int .i64 G.n3, .int .i64 G.n4, .int .i64 G.n5, .slice a5 np5 c5, .slice b5 nc5 d5, .string G.tx, .string G.tg] 26) = w7 := ⟨_, rfl⟩
  have hb67 : Below w6.heap.size w6 w7 := by rw [← hw7]; exact (Below.refl _ w6).alloc (Nat.le_refl _) _
  have q2 : w7.heap[w6.heap.size]? = some (.cells (mC G (.slice a5 np5 c5) (.slice b5 nc5 d5)) 26 (0, 0)) := by rw [← hw7]; exact World.alloc_heap_new _ _
  have hb47 : Below w4.heap.size w4 w7 := HB5.out.trans ((hb6.mono HB5.out.size).trans (hb67.mono (Nat.le_trans HB5.out.size hb6.size)))
  have hs67 : w6.heap.size < w7.heap.size := (Array.getElem?_eq_some_iff.1 q2).1
  have hG7 := (hG6.below hb67).mono hb67.size
  have hs47 := hb47.size
  have HQ7 := Lib.hid (And.intro ((hb47.block _ (by omega)).trans HQ4.out.1) (And.intro ((hb47.block _ hw44).trans HQ4.out.2) q2))
  have HFA : Hid (∀ W, Below w7.heap.size w7 W → FMs A (.agg #[.int .i64 A.k, .int .i64 A.n0, .int .i64 A.n1, .int .i64 A.n2, .int .i64 A.n3, .int .i64 A.n4, .int .i64 A.n5, .slice a3 np3 c3, .slice b3 nc3 d3, .string A.tx, .string A.tg]) W) := Lib.hid fun W hW => (HM.out W (hb47.trans (hW.mono hs47))).1
  have HFB : Hid (∀ W, Below w7.heap.size w7 W → FMs B (.agg #[.int .i64 B.k, .int .i64 B.n0, .int .i64 B.n1, .int .i64 B.n2, .int .i64 B.n3, .int .i64 B.n4, .int .i64 B.n5, .slice a4 np4 c4, .slice b4 nc4 d4, .string B.tx, .string B.tg]) W) := Lib.hid fun W hW => (HM.out W (hb47.trans (hW.mono hs47))).2
  have HFG : Hid (∀ W, Below w7.heap.size w7 W → FMs G (.agg #[.int .i64 G.k, .int .i64 G.n0, .int .i64 G.n1, .int .i64 G.n2, .int .i64 G.n3, .int .i64 G.n4, .int .i64 G.n5, .slice a5 np5 c5, .slice b5 nc5 d5, .string G.tx, .string G.tg]) W) := Lib.hid fun W hW => ⟨_, _, rfl, by
      have := (hG7.below hW).mono hW.size
      rwa [← hnp5, ← hnc5] at this ⊢⟩
  have HB7 := Lib.hid (HB4.out.trans (hb47.mono (by omega)))
  have HW7 := Lib.hid hw7
  have lA : ∀ W, Below w7.heap.size w7 W → (Instr.loadAt 26 (.pointer (some ⟨w.heap.size, 0, none⟩))).run Try.prog W = .ok (.agg #[.int .i64 A.k, .int .i64 A.n0, .int .i64 A.n1, .int .i64 A.n2, .int .i64 A.n3, .int .i64 A.n4, .int .i64 A.n5, .slice a3 np3 c3, .slice b3 nc3 d3, .string A.tx, .string A.tg]) W := fun W hW => mg_read ((hW.block _ (by omega)).trans HQ7.out.1)
  have lB : ∀ W, Below w7.heap.size w7 W → (Instr.loadAt 26 (.pointer (some ⟨w.heap.size + 1, 0, none⟩))).run Try.prog W = .ok (.agg #[.int .i64 B.k, .int .i64 B.n0, .int .i64 B.n1, .int .i64 B.n2, .int .i64 B.n3, .int .i64 B.n4, .int .i64 B.n5, .slice a4 np4 c4, .slice b4 nc4 d4, .string B.tx, .string B.tg]) W := fun W hW => mg_read ((hW.block _ (by omega)).trans HQ7.out.2.1)
  have lG : ∀ W, Below w7.heap.size w7 W → (Instr.loadAt 26 (.pointer (some ⟨w6.heap.size, 0, none⟩))).run Try.prog W = .ok (.agg #[.int .i64 G.k, .int .i64 G.n0, .int .i64 G.n1, .int .i64 G.n2, .int .i64 G.n3, .int .i64 G.n4, .int .i64 G.n5, .slice a5 np5 c5, .slice b5 nc5 d5, .string G.tx, .string G.tg]) W := fun W hW => mg_read ((hW.block _ (by omega)).trans HQ7.out.2.2)
  clear hw7 hb67 q2 hb47 hG7 hG6 hb6 HB5 K3 HM HQ4 HB4 HA4 HB4' hnp5 hnc5
  clear f0 f1 f2 f3 f4 f5 f6 f7 f8 f9 f10
  go_wp2_with fail
  rw [HW7.out]
  clear HW7
  refine wp_region_F 84 [23, 28, 30, 32, 33, 41, 43, 44, 50] (FCk A B G D) (fun W => Below w7.heap.size w7 W) (by kernel_rfl) (by kernel_rfl) (by rfl) (by simp) (fun W W' h hb => h.trans (hb.mono h.size)) (fun s x W W' h hb => h.later hb) (Below.refl _ _).drew ?_
  repeat (refine wpF_pure rfl rfl ?_; go_big_quiet_step (fail); refine wpQuiet_nil ?_)
  refine wpF_load (ad := ⟨w.heap.size, 0, none⟩) (.agg #[.int .i64 A.k, .int .i64 A.n0, .int .i64 A.n1, .int .i64 A.n2, .int .i64 A.n3, .int .i64 A.n4, .int .i64 A.n5, .slice a3 np3 c3, .slice b3 nc3 d3, .string A.tx, .string A.tg]) rfl (by rfl) (by rfl) (by rfl) lA ?_
  simp only [Act.put, List.setIfInBounds_toArray, List.set_cons_succ, List.set_cons_zero]
  refine wpF_callsrc 23 (f := 11) (args := #[.agg #[.int .i64 A.k, .int .i64 A.n0, .int .i64 A.n1, .int .i64 A.n2, .int .i64 A.n3, .int .i64 A.n4, .int .i64 A.n5, .slice a3 np3 c3, .slice b3 nc3 d3, .string A.tx, .string A.tg]]) (by simp) rfl rfl rfl (fun x => by first | rfl | (simp [go_sem]; done)) (fun W hW => of_F hsA (HFA.out W hW)) ?_
  simp only [Act.put, List.setIfInBounds_toArray, List.set_cons_succ, List.set_cons_zero]
  refine wpF_use 23 2 (f := 10) (fun x => #[x]) (.int .i64 E) (by simp) rfl (by kernel_rfl) (by kernel_rfl) (by kernel_rfl) (fun _ => rfl) (fun v x => by first | rfl | (simp [go_sem]; done)) (fun x W hW hx => HE.out ▸ rchk_F hsA hx) ?_
  simp only [Act.put, List.setIfInBounds_toArray, List.set_cons_succ, List.set_cons_zero]
  repeat (refine wpF_pure rfl rfl ?_; go_big_quiet_step (fail); refine wpQuiet_nil ?_)
  refine wpF_load (ad := ⟨w6.heap.size, 0, none⟩) (.agg #[.int .i64 G.k, .int .i64 G.n0, .int .i64 G.n1, .int .i64 G.n2, .int .i64 G.n3, .int .i64 G.n4, .int .i64 G.n5, .slice a5 np5 c5, .slice b5 nc5 d5, .string G.tx, .string G.tg]) rfl (by rfl) (by rfl) (by rfl) lG ?_
  simp only [Act.put, List.setIfInBounds_toArray, List.set_cons_succ, List.set_cons_zero]
  refine wpF_callsrc 28 (f := 11) (args := #[.agg #[.int .i64 G.k, .int .i64 G.n0, .int .i64 G.n1, .int .i64 G.n2, .int .i64 G.n3, .int .i64 G.n4, .int .i64 G.n5, .slice a5 np5 c5, .slice b5 nc5 d5, .string G.tx, .string G.tg]]) (by simp) rfl rfl rfl (fun x => by first | rfl | (simp [go_sem]; done)) (fun W hW => of_F hsG (HFG.out W hW)) ?_
  simp only [Act.put, List.setIfInBounds_toArray, List.set_cons_succ, List.set_cons_zero]
  refine wpF_load (ad := ⟨w.heap.size, 0, none⟩) (.agg #[.int .i64 A.k, .int .i64 A.n0, .int .i64 A.n1, .int .i64 A.n2, .int .i64 A.n3, .int .i64 A.n4, .int .i64 A.n5, .slice a3 np3 c3, .slice b3 nc3 d3, .string A.tx, .string A.tg]) rfl (by rfl) (by rfl) (by rfl) lA ?_
  simp only [Act.put, List.setIfInBounds_toArray, List.set_cons_succ, List.set_cons_zero]
  refine wpF_callsrc 30 (f := 11) (args := #[.agg #[.int .i64 A.k, .int .i64 A.n0, .int .i64 A.n1, .int .i64 A.n2, .int .i64 A.n3, .int .i64 A.n4, .int .i64 A.n5, .slice a3 np3 c3, .slice b3 nc3 d3, .string A.tx, .string A.tg]]) (by simp) rfl rfl rfl (fun x => by first | rfl | (simp [go_sem]; done)) (fun W hW => of_F hsA (HFA.out W hW)) ?_
  simp only [Act.put, List.setIfInBounds_toArray, List.set_cons_succ, List.set_cons_zero]
  repeat (refine wpF_pure rfl rfl ?_; go_big_quiet_step (fail); refine wpQuiet_nil ?_)
  refine wpF_mixcall 32 [30] (f := 13) (fun xs => #[xs 30, .int .i64 v]) (by simp) rfl (by kernel_rfl) (by kernel_rfl) (fun xs => by rfl) (fun xs W => by first | rfl | (simp [fill, Act.put, Act.eval, go_sem]; done)) (fun xs W hW hx => HG.out ▸ rproj_F v (hx 30 (by simp))) ?_
  simp only [Act.put, List.setIfInBounds_toArray, List.set_cons_succ, List.set_cons_zero]
  refine wpF_mixcall 33 [28, 32] (f := 12) (fun xs => #[xs 28, xs 32]) (by simp) rfl (by kernel_rfl) (by kernel_rfl) (fun xs => by rfl) (fun xs W => by first | rfl | (simp [fill, Act.put, Act.eval, go_sem]; done)) (fun xs W hW hx => rsame_T (M' := G) hsG (hx 28 (by simp)) (hx 32 (by simp)) (decide_eq_true rfl)) ?_
  simp only [Act.put, List.setIfInBounds_toArray, List.set_cons_succ, List.set_cons_zero]
  refine wpF_useval 33 12 (.bool false) (by simp) (by rfl) (by kernel_rfl) (by kernel_rfl) (by rfl) (fun x => by rfl) (fun x W hW hx => by rw [show x = .bool true from hx]; first | rfl | (simp [go_sem]; done)) ?_
  simp only [Act.put, List.setIfInBounds_toArray, List.set_cons_succ, List.set_cons_zero]
  repeat (refine wpF_pure rfl rfl ?_; go_big_quiet_step (fail); refine wpQuiet_nil ?_)
  refine wpF_load (ad := ⟨w.heap.size, 0, none⟩) (.agg #[.int .i64 A.k, .int .i64 A.n0, .int .i64 A.n1, .int .i64 A.n2, .int .i64 A.n3, .int .i64 A.n4, .int .i64 A.n5, .slice a3 np3 c3, .slice b3 nc3 d3, .string A.tx, .string A.tg]) rfl (by rfl) (by rfl) (by rfl) lA ?_
  simp only [Act.put, List.setIfInBounds_toArray, List.set_cons_succ, List.set_cons_zero]
  refine wpF_load (ad := ⟨w.heap.size + 1, 0, none⟩) (.agg #[.int .i64 B.k, .int .i64 B.n0, .int .i64 B.n1, .int .i64 B.n2, .int .i64 B.n3, .int .i64 B.n4, .int .i64 B.n5, .slice a4 np4 c4, .slice b4 nc4 d4, .string B.tx, .string B.tg]) rfl (by rfl) (by rfl) (by rfl) lB ?_
  simp only [Act.put, List.setIfInBounds_toArray, List.set_cons_succ, List.set_cons_zero]
  refine wpF_call (f := 14) (args := #[.agg #[.int .i64 A.k, .int .i64 A.n0, .int .i64 A.n1, .int .i64 A.n2, .int .i64 A.n3, .int .i64 A.n4, .int .i64 A.n5, .slice a3 np3 c3, .slice b3 nc3 d3, .string A.tx, .string A.tg], .agg #[.int .i64 B.k, .int .i64 B.n0, .int .i64 B.n1, .int .i64 B.n2, .int .i64 B.n3, .int .i64 B.n4, .int .i64 B.n5, .slice a4 np4 c4, .slice b4 nc4 d4, .string B.tx, .string B.tg]]) (.bool D) rfl rfl (fun x => by first | rfl | (simp [go_sem]; done)) (fun W hW => HD.out ▸ same_F hsA (HFA.out W hW) (HFB.out W hW)) ?_
  simp only [Act.put, List.setIfInBounds_toArray, List.set_cons_succ, List.set_cons_zero]
  refine wpF_load (ad := ⟨w.heap.size, 0, none⟩) (.agg #[.int .i64 A.k, .int .i64 A.n0, .int .i64 A.n1, .int .i64 A.n2, .int .i64 A.n3, .int .i64 A.n4, .int .i64 A.n5, .slice a3 np3 c3, .slice b3 nc3 d3, .string A.tx, .string A.tg]) rfl (by rfl) (by rfl) (by rfl) lA ?_
  simp only [Act.put, List.setIfInBounds_toArray, List.set_cons_succ, List.set_cons_zero]
  refine wpF_callsrc 41 (f := 11) (args := #[.agg #[.int .i64 A.k, .int .i64 A.n0, .int .i64 A.n1, .int .i64 A.n2, .int .i64 A.n3, .int .i64 A.n4, .int .i64 A.n5, .slice a3 np3 c3, .slice b3 nc3 d3, .string A.tx, .string A.tg]]) (by simp) rfl rfl rfl (fun x => by first | rfl | (simp [go_sem]; done)) (fun W hW => of_F hsA (HFA.out W hW)) ?_
  simp only [Act.put, List.setIfInBounds_toArray, List.set_cons_succ, List.set_cons_zero]
  refine wpF_load (ad := ⟨w.heap.size + 1, 0, none⟩) (.agg #[.int .i64 B.k, .int .i64 B.n0, .int .i64 B.n1, .int .i64 B.n2, .int .i64 B.n3, .int .i64 B.n4, .int .i64 B.n5, .slice a4 np4 c4, .slice b4 nc4 d4, .string B.tx, .string B.tg]) rfl (by rfl) (by rfl) (by rfl) lB ?_
  simp only [Act.put, List.setIfInBounds_toArray, List.set_cons_succ, List.set_cons_zero]
  refine wpF_callsrc 43 (f := 11) (args := #[.agg #[.int .i64 B.k, .int .i64 B.n0, .int .i64 B.n1, .int .i64 B.n2, .int .i64 B.n3, .int .i64 B.n4, .int .i64 B.n5, .slice a4 np4 c4, .slice b4 nc4 d4, .string B.tx, .string B.tg]]) (by simp) rfl rfl rfl (fun x => by first | rfl | (simp [go_sem]; done)) (fun W hW => of_F hsB (HFB.out W hW)) ?_
  simp only [Act.put, List.setIfInBounds_toArray, List.set_cons_succ, List.set_cons_zero]
  refine wpF_mixcall 44 [41, 43] (f := 12) (fun xs => #[xs 41, xs 43]) (by simp) rfl (by kernel_rfl) (by kernel_rfl) (fun xs => by rfl) (fun xs W => by first | rfl | (simp [fill, Act.put, Act.eval, go_sem]; done)) (fun xs W hW hx => rsame_T (M' := B) hsA (hx 41 (by simp)) (hx 43 (by simp)) HD.out) ?_
  simp only [Act.put, List.setIfInBounds_toArray, List.set_cons_succ, List.set_cons_zero]
  refine wpF_useval 44 23 (.bool false) (by simp) (by rfl) (by kernel_rfl) (by kernel_rfl) (by rfl) (fun x => by rfl) (fun x W hW hx => by rw [show x = .bool D from hx]; simp [go_sem]) ?_
  simp only [Act.put, List.setIfInBounds_toArray, List.set_cons_succ, List.set_cons_zero]
  repeat (refine wpF_pure rfl rfl ?_; go_big_quiet_step (fail); refine wpQuiet_nil ?_)
  refine wpF_load (ad := ⟨w6.heap.size, 0, none⟩) (.agg #[.int .i64 G.k, .int .i64 G.n0, .int .i64 G.n1, .int .i64 G.n2, .int .i64 G.n3, .int .i64 G.n4, .int .i64 G.n5, .slice a5 np5 c5, .slice b5 nc5 d5, .string G.tx, .string G.tg]) rfl (by rfl) (by rfl) (by rfl) lG ?_
  simp only [Act.put, List.setIfInBounds_toArray, List.set_cons_succ, List.set_cons_zero]
  repeat (refine wpF_pure rfl rfl ?_; go_big_quiet_step (fail); refine wpQuiet_nil ?_)
  refine wpF_callsrc 50 (f := 9) (args := #[.agg #[.int .i64 G.k, .int .i64 G.n0, .int .i64 G.n1, .int .i64 G.n2, .int .i64 G.n3, .int .i64 G.n4, .int .i64 G.n5, .slice a5 np5 c5, .slice b5 nc5 d5, .string G.tx, .string G.tg], .int .i64 v]) (by simp) rfl rfl rfl (fun x => by first | rfl | (simp [go_sem]; done)) (fun W hW => proj_T HGG.out hsG (HFG.out W hW)) ?_
  simp only [Act.put, List.setIfInBounds_toArray, List.set_cons_succ, List.set_cons_zero]
  refine wpF_load (ad := ⟨w6.heap.size, 0, none⟩) (.agg #[.int .i64 G.k, .int .i64 G.n0, .int .i64 G.n1, .int .i64 G.n2, .int .i64 G.n3, .int .i64 G.n4, .int .i64 G.n5, .slice a5 np5 c5, .slice b5 nc5 d5, .string G.tx, .string G.tg]) rfl (by rfl) (by rfl) (by rfl) lG ?_
  simp only [Act.put, List.setIfInBounds_toArray, List.set_cons_succ, List.set_cons_zero]
  refine wpF_use 50 29 (f := 14) (fun x => #[x, .agg #[.int .i64 G.k, .int .i64 G.n0, .int .i64 G.n1, .int .i64 G.n2, .int .i64 G.n3, .int .i64 G.n4, .int .i64 G.n5, .slice a5 np5 c5, .slice b5 nc5 d5, .string G.tx, .string G.tg]]) (.bool true) (by simp) rfl (by kernel_rfl) (by kernel_rfl) (by kernel_rfl) (fun _ => rfl) (fun v x => by first | rfl | (simp [go_sem]; done)) (fun x W hW hx => same_T (M := G) hsG hx (HFG.out W hW)) ?_
  simp only [Act.put, List.setIfInBounds_toArray, List.set_cons_succ, List.set_cons_zero]
  repeat (refine wpF_pure rfl rfl ?_; go_big_quiet_step (fail); refine wpQuiet_nil ?_)
  intro xs w8 hW8 hxs
  simp only [fill]
  generalize xs 23 = x23
  generalize xs 28 = x28
  generalize xs 30 = x30
  generalize xs 32 = x32
  generalize xs 33 = x33
  generalize xs 41 = x41
  generalize xs 43 = x43
  generalize xs 44 = x44
  generalize xs 50 = x50
  simp only [Act.put, List.setIfInBounds_toArray, List.set_cons_succ, List.set_cons_zero]
  have HB8 := Lib.hid (HB7.out.trans (hW8.mono (by omega)))
  have K6 := Lib.hid (new_F kind (W := w8))
  have HQ8 := Lib.hid ((hW8.block _ (by omega)).trans HQ7.out.2.2)
  have HG8 := Lib.hid (HFG.out w8 hW8)
  have hs8 := hW8.size
  clear hW8 hxs lA lB lG HFA HFB HFG HB7 HQ7
  go_wp2_with fail
  refine K6.out.mono ?_
  intro e w9 hAn
  obtain ⟨_, rfl, ⟨P, C, rfl, hN9⟩, hb9⟩ := hAn
  obtain ⟨N, hN⟩ : ∃ N, mnew kind = N := ⟨_, rfl⟩
  have hsN := mnew_small kind
  have hckN := mck_new kind
  rw [hN] at hN9 hsN hckN ⊢
  obtain ⟨⟨a6, c6, rfl, _, _⟩, ⟨b6, d6, rfl, _, _⟩⟩ := id hN9
  obtain ⟨np6, hnp6⟩ : ∃ n, N.p.length = n := ⟨_, rfl⟩
  obtain ⟨nc6, hnc6⟩ : ∃ n, N.c.length = n := ⟨_, rfl⟩
  have hFN9 : FMs N (mV N (.slice a6 N.p.length c6) (.slice b6 N.c.length d6)) w9 := ⟨_, _, rfl, hN9⟩
  unfold mV mC at hFN9 ⊢
  rw [hnp6, hnc6] at hFN9 ⊢
  obtain ⟨wA, hwA⟩ : ∃ w10, w9.alloc (.cells #[.int .i64 N.k, .int .i64 N.n0, .int .i64 N.n1, .int .i64 N.n2, .int .i64 N.n3, .int .i64 N.n4, .int .i64 N.n5, .slice a6 np6 c6, .slice b6 nc6 d6, .string N.tx, .string N.tg] 26) = w10 := ⟨_, rfl⟩
  have hb9A : Below w9.heap.size w9 wA := by rw [← hwA]; exact (Below.refl _ w9).alloc (Nat.le_refl _) _
  have qN : wA.heap[w9.heap.size]? = some (.cells (mC N (.slice a6 np6 c6) (.slice b6 nc6 d6)) 26 (0, 0)) := by rw [← hwA]; exact World.alloc_heap_new _ _
  have hs9A : w9.heap.size < wA.heap.size := (Array.getElem?_eq_some_iff.1 qN).1
  have hs9 := hb9.size
  have hb8A := hb9.trans (hb9A.mono hs9)
  have HQA := Lib.hid (And.intro ((hb8A.block _ (by omega)).trans HQ8.out) qN)
  have HGA := Lib.hid (HG8.out.later hb8A)
  have HNA := Lib.hid (hFN9.later hb9A)
  have HBA := Lib.hid (HB8.out.trans (hb8A.mono (by omega)))
  have HWA := Lib.hid hwA
  have KA := Lib.hid (mknown_any wA)
  have HN := Lib.hid hN
  have HCN := Lib.hid hckN
  clear hN9 hFN9 hb9 hb9A hwA qN hb8A HB8 HQ8 HG8 K6 hnp6 hnc6 hN hckN
  go_wp2_with fail
  rw [HWA.out]
  clear HWA
  refine KA.out.mono ?_
  rintro e wB ⟨rfl, hbB⟩
  have HNB := Lib.hid (HNA.out.later hbB)
  have HGB := Lib.hid (HGA.out.later hbB)
  have HQB := Lib.hid (And.intro ((hbB.block _ (by omega)).trans HQA.out.1) ((hbB.block _ hs9A).trans HQA.out.2))
  have HBB := Lib.hid (HBA.out.trans (hbB.mono (by omega)))
  have hsB' := hbB.size
  obtain ⟨n0, n1, n2, n3, n4, n5, n6, n7, n8, n9, n10⟩ := mg_block HQB.out.2
  have KB := Lib.hid (of_F hsN HNB.out)
  clear hbB HNA HGA HQA HBA KA
  go_wp2_with fail
  refine KB.out.mono ?_
  intro e wC hAn
  obtain ⟨u1, rfl, hu1, hbC⟩ := hAn
  have HU1 := Lib.hid hu1
  have HNC := Lib.hid (HNB.out.later hbC)
  have HGC := Lib.hid (HGB.out.later hbC)
  have HQC := Lib.hid (And.intro ((hbC.block _ (by omega)).trans HQB.out.1) ((hbC.block _ (by omega)).trans HQB.out.2))
  have HBC := Lib.hid (HBB.out.trans (hbC.mono (by omega)))
  have hsC := hbC.size
  have KC := Lib.hid (HN.out ▸ rnew_F kind (W := wC))
  clear n0 n1 n2 n3 n4 n5 n6 n7 n8 n9 n10
  clear hu1 hbC HNB HGB HQB HBB KB
  go_wp2_with fail
  refine KC.out.mono ?_
  intro e wD hAn
  obtain ⟨u2, rfl, hu2, hbD⟩ := hAn
  have HND := Lib.hid (HNC.out.later hbD)
  have HGD := Lib.hid (HGC.out.later hbD)
  have HQD := Lib.hid (And.intro ((hbD.block _ (by omega)).trans HQC.out.1) ((hbD.block _ (by omega)).trans HQC.out.2))
  have HBD := Lib.hid (HBC.out.trans (hbD.mono (by omega)))
  have hsD := hbD.size
  have KD := rsame_F hsN (HU1.out.later hbD) hu2
  rw [decide_eq_true rfl] at KD
  have KD := Lib.hid KD
  clear hu2 hbD HNC HGC HQC HBC KC HU1
  go_wp2_with fail
  refine KD.out.mono ?_
  rintro e wE ⟨rfl, hbE⟩
  have HNE := Lib.hid (HND.out.later hbE)
  have HGE' := Lib.hid (HGD.out.later hbE)
  have HQE := Lib.hid (And.intro ((hbE.block _ (by omega)).trans HQD.out.1) ((hbE.block _ (by omega)).trans HQD.out.2))
  have HBE := Lib.hid (HBD.out.trans (hbE.mono (by omega)))
  have hsE := hbE.size
  clear hbE HND HGD HQD HBD KD
  have hlast : ∀ W, Below wE.heap.size wE W → Hid (Below w.heap.size w W) := fun W hW => Lib.hid (HBE.out.trans (hW.mono (by omega)))
  by_cases hE0 : E = 0
  · subst hE0
    have KG := Lib.hid ((HGE.out rfl) ▸ chk_F hsG HGE'.out)
    obtain ⟨g0, g1, g2, g3, g4, g5, g6, g7, g8, g9, g10⟩ := mg_block HQE.out.1
    obtain ⟨n0, n1, n2, n3, n4, n5, n6, n7, n8, n9, n10⟩ := mg_block HQE.out.2
    go_wp2_with fail
    refine KG.out.mono ?_
    rintro e wF ⟨rfl, hbF⟩
    have hsF := hbF.size
    clear g0 g1 g2 g3 g4 g5 g6 g7 g8 g9 g10 n0 n1 n2 n3 n4 n5 n6 n7 n8 n9 n10
    have HQF := Lib.hid ((hbF.block _ (by omega)).trans HQE.out.2)
    have HLF := Lib.hid (hlast wF hbF)
    have KN := Lib.hid (chk_F hsN (HNE.out.later hbF))
    have hlN := (Array.getElem?_eq_some_iff.1 HQF.out).1
    clear hbF KG
    obtain ⟨n0, n1, n2, n3, n4, n5, n6, n7, n8, n9, n10⟩ := mg_block HQF.out
    by_cases hk : N.k = 0
    · go_wp2
      go_ret
      exact ⟨rfl, HLF.out.out⟩
    · have KN' := Lib.hid ((HCN.out.resolve_left hk) ▸ KN.out)
      go_wp2_with fail
      refine KN'.out.mono ?_
      rintro e wG ⟨rfl, hbG⟩
      have HLG := Lib.hid (HLF.out.out.trans (hbG.mono HLF.out.out.size))
      clear hbG
      clear n0 n1 n2 n3 n4 n5 n6 n7 n8 n9 n10
      go_wp2
      go_ret
      exact ⟨rfl, HLG.out⟩
  · have KN := Lib.hid (chk_F hsN HNE.out)
    have HLE := Lib.hid HBE.out
    obtain ⟨n0, n1, n2, n3, n4, n5, n6, n7, n8, n9, n10⟩ := mg_block HQE.out.2
    by_cases hk : N.k = 0
    · go_wp2
      go_ret
      exact ⟨rfl, HLE.out⟩
    · have KN' := Lib.hid ((HCN.out.resolve_left hk) ▸ KN.out)
      go_wp2_with fail
      refine KN'.out.mono ?_
      rintro e wG ⟨rfl, hbG⟩
      have HLG := Lib.hid (HLE.out.trans (hbG.mono HLE.out.size))
      clear hbG
      clear n0 n1 n2 n3 n4 n5 n6 n7 n8 n9 n10
      go_wp2
      go_ret
      exact ⟨rfl, HLG.out⟩
end Go.Proofs.Ytnbhiamnoapmlaa

namespace Go.Proofs.Ytnbhiamnoapmlaa.msgChecks
open Go.ChangeShapes Go.WideShapes Go.ChangeAt Go.RowKit
open Go.ChangeMaps (open_string shut_string)
set_option linter.unusedVariables false

theorem own : ownKnob Try.prog.godebug = none := by kernel_rfl
theorem laidOut : laidOutB Try.prog = true := by kernel_rfl

set_option maxRecDepth 100000 in
theorem lifted (os : Os) (started : os.Started) (H : Type) (enc : TypeId × Value → H) :
    ReturnsInHanded {} Try.checked os 3 .any (Rows.msgChecksSpec.pre6 enc Try.prog Try.f3 Rows.msgChecksRow.domain false) (Rows.msgChecksSpec.post enc Try.prog Try.f3 false true false false) := by
  refine returnsInHanded_of_change (C := Try.checked) own started (by kernel_rfl) Try.func3
    (ChangeSpec.witness6 (enc := enc) (C := Try.checked) false ⟨#[], #[.agg #[.int .i64 0, .int .i64 0, .int .i64 0, .int .i64 0, .int .i64 0, .int .i64 0, .int .i64 0, .slice none 0 0, .slice none 0 0, .string ⟨#[]⟩, .string ⟨#[]⟩], .agg #[.int .i64 0, .int .i64 0, .int .i64 0, .int .i64 0, .int .i64 0, .int .i64 0, .int .i64 0, .slice none 0 0, .slice none 0 0, .string ⟨#[]⟩, .string ⟨#[]⟩], .int .i64 0, .int .i64 0], []⟩ 8 (by kernel_rfl) (by kernel_rfl) (by kernel_rfl) (by kernel_rfl)) ?_
  intro W base args ds gs before hval0 hW hcnd _
  have hval : ∀ (j : Nat) t v, Try.f3.params[j]? = some t → args[j]? = some v → Value.okWide Try.prog W .any base t v := hval0
  have hW' := hW
  obtain ⟨p, q, hA0, hV, rfl, hfz, hnd⟩ := hW
  have hA : DataW.TrodAll enc Try.prog W 0 (fun _ => true) true Try.f3.params.toList args.toList ds p := hA0
  rw [Try.params3] at hA hval
  obtain ⟨v0, vs0, d0, ds0, p0, q0, hargs, rfl, rfl, h0, r0⟩ := trodAll_cons hA
  obtain ⟨v1, vs1, d1, ds1, p1, q1, rfl, rfl, rfl, h1, r1⟩ := trodAll_cons r0
  obtain ⟨v2, vs2, d2, ds2, p2, q2, rfl, rfl, rfl, h2, r2⟩ := trodAll_cons r1
  obtain ⟨v3, vs3, d3, ds3, p3, q3, rfl, rfl, rfl, h3, r3⟩ := trodAll_cons r2
  obtain ⟨rfl, rfl, rfl⟩ := trodAll_nil r3
  obtain rfl : args = #[v0, v1, v2, v3] := by cases args; simp_all
  obtain ⟨rfl, rfl⟩ := trodVars_none hV
  have k0 := h0
  have lt0 : ∀ x ∈ p0, x.block < W.heap.size := by obtain ⟨m, hm⟩ := k0; exact DataW.trod_lt m _ _ _ hm
  obtain ⟨mM0, mP0, mC0, rfl, y0⟩ := open_msg (hval 0 26 v0 rfl rfl) h0
  have k1 := h1
  have lt1 : ∀ x ∈ p1, x.block < W.heap.size := by obtain ⟨m, hm⟩ := k1; exact DataW.trod_lt m _ _ _ hm
  obtain ⟨mM1, mP1, mC1, rfl, y1⟩ := open_msg (hval 1 26 v1 rfl rfl) h1
  obtain ⟨a2, rfl, rfl, rfl, w2⟩ := open_int Try.underlying3 (hval 2 3 v2 rfl rfl) h2
  obtain ⟨a3, rfl, rfl, rfl, w3⟩ := open_int Try.underlying3 (hval 3 3 v3 rfl rfl) h3
  clear hA0 hval0
  refine (checks_go mM0 mM1 mP0 mC0 mP1 mC1 a2 a3 W y0 y1).mono fun e W' ⟨he, bel⟩ => ?_
  subst he
  exact ⟨_, rfl, _, _, _, [], _, [], hW', trodAll_mk1 (shut_bool Try.underlying4 _), (trodAll_cons_mk (Below.trod laidOut (by kernel_rfl) (of_decide_eq_true (by kernel_rfl)) k0 bel lt0) (trodAll_cons_mk (Below.trod laidOut (by kernel_rfl) (of_decide_eq_true (by kernel_rfl)) k1 bel lt1) (trodAll_cons_mk (shut_int Try.underlying3 w2) (trodAll_cons_mk (shut_int Try.underlying3 w3) trodAll_mk0)))), rfl, bel.frame _, fun h => by cases h⟩

theorem over : Rows.msgChecksRow.holds Try.pinned (OpenSpec.ofChange Rows.msgChecksSpec) :=
  OpenClaim.holds_of_wide 3 Try.f3 rfl rfl rfl rfl rfl rfl rfl ⟨rfl, rfl, rfl, rfl, rfl⟩ rfl rfl rfl rfl rfl (by kernel_rfl) Try.func3 (by kernel_rfl)
    (of_decide_eq_true (by kernel_rfl)) (by unfold Func.isWrapper; first | (rw [if_pos (by decide +kernel)]; kernel_rfl) | (rw [if_neg (by decide +kernel)]; exact ⟨rfl, rfl⟩))
    (fun os started H enc _ => lifted os started H enc)

theorem proved : Rows.MsgChecksSaid := over
#print axioms proved
end Go.Proofs.Ytnbhiamnoapmlaa.msgChecks
