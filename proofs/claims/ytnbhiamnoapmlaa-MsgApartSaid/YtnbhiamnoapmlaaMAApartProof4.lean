/-
  MsgApart: a copy, a projected one, and one with another number, share nothing with a message: whatever is written into their lists, the message stays as it was; for every message and version, with no condition.
-/
import Derived.BigQuiet
import Derived.Deep.QuietTactic
import Derived.Deep.LoopGhost
import Derived.WalkMore
import Derived.Test.YtnbhiamnoapmlaaRows
import Derived.Below
import Derived.WalkKit
import Derived.ProofKit
import Derived.OpenShut
import Derived.ShutString
import Derived.ChangeOld
import Derived.Test.YtnbhiamnoapmlaaMAApartProof3
namespace Go.Proofs.Ytnbhiamnoapmlaa
open Go.RowKit Go.Shelf
set_option maxRecDepth 100000
attribute [local go_sem] Oper.semAt_some

theorem rmInfo : (Try.prog.info? 34).map (·.size) = some 11 := by kernel_rfl
theorem r2Info : (Try.prog.info? 75).map (fun i => (i.zero, i.size, i.bytes)) = some (some (.agg #[.int .i64 0, .int .i64 0]), 2, 16) := by kernel_rfl
/-- what Of answers -/
def OfM (w : World) (M : Mg) (C : Value) (e : Ending) (w' : World) : Prop := ∃ P, e = .returned (mV M P C) ∧ w'.ownsRow w.heap.size 75 2 P M.p.length ((fl2 M.p).map (Value.int .i64)) ∧ Below w.heap.size w w'
theorem fl2_take {l : List (Int × Int)} {j : Nat} {q : Int × Int} (h : l[j]? = some q) : fl2 (l.take (j + 1)) = fl2 (l.take j) ++ [q.1, q.2] := by
  rw [List.take_add_one, h, fl2_app]
  rfl
set_option maxHeartbeats 8000000 in
theorem mof_any (M : Mg) (P C : Value) (w : World) (hs : Msm M) (h1 : MAt w w.heap.size M P C) : Calls Try.prog 11 #[mV M P C] w fun e w' => OfM w M C e w' := by
  obtain ⟨r0, hr, hz0, hz1, hz2⟩ := info_parts r2Info
  obtain ⟨w3, hw3⟩ : ∃ w3, w3 = ((w.alloc (.cells (mC M P C) 26)).alloc (.cells (mC (Mg.zero 0) (.slice none 0 0) (.slice none 0 0)) 34)).alloc (.cells (mC M (.slice none 0 0) C) 34) := ⟨_, rfl⟩
  have hs3 : w3.heap.size = w.heap.size + 3 := by rw [hw3]; simp
  have hb3 : Below w.heap.size w w3 := by rw [hw3]; exact (((Below.refl _ w).alloc (Nat.le_refl _) _).alloc (by simp) _).alloc (by simp; omega) _
  have q0 : w3.heap[w.heap.size]? = some (.cells (mC M P C) 26 (0, 0)) := by
    rw [hw3, Below.heap_alloc _ _ _ (by simp; omega), Below.heap_alloc _ _ _ (by simp)]; exact World.alloc_heap_new _ _
  have q1 : w3.heap[w.heap.size + 1]? = some (.cells (mC (Mg.zero 0) (.slice none 0 0) (.slice none 0 0)) 34 (0, 0)) := by
    have := World.alloc_heap_new (w.alloc (.cells (mC M P C) 26)) (.cells (mC (Mg.zero 0) (.slice none 0 0) (.slice none 0 0)) 34)
    rw [World.size_alloc] at this
    rw [hw3, Below.heap_alloc _ _ _ (by simp)]; exact this
  have q2 : w3.heap[w.heap.size + 1 + 1]? = some (.cells (mC M (.slice none 0 0) C) 34 (0, 0)) := by
    have := World.alloc_heap_new ((w.alloc (.cells (mC M P C) 26)).alloc (.cells (mC (Mg.zero 0) (.slice none 0 0) (.slice none 0 0)) 34)) (.cells (mC M (.slice none 0 0) C) 34)
    rw [World.size_alloc, World.size_alloc] at this
    rw [hw3]; exact this
  obtain ⟨⟨ap, cp, rfl, hcp, ha⟩, ⟨ac, cc, rfl, hcc, hc⟩⟩ := h1
  obtain ⟨np, hnp⟩ : ∃ np, M.p.length = np := ⟨_, rfl⟩
  obtain ⟨nc, hnc⟩ : ∃ nc, M.c.length = nc := ⟨_, rfl⟩
  have hl1 := hs.p
  rw [hnp] at hl1 hcp
  unfold OfM mV
  simp only [mC, Mg.zero, hnp, hnc] at hw3 ⊢
  have HN := Lib.hid hnp
  have HA := Lib.hid ha
  have HB3 := Lib.hid hb3
  have HQ := Lib.hid (And.intro q0 (And.intro q1 q2))
  rw [hnp, hnc] at HQ
  clear ha hc hcc hs hnp hnc q0 q1 q2 hb3
  have HW := Lib.hid hw3
  clear hw3
  go_enter Try.func11, Try.ntmps11
  go_wp2_with fail
  rw [← HW.out]
  go_loopw [4] (fun iv wr => ∃ j : Nat, j ≤ np ∧ iv = .int .i64 (j : Int) ∧ Hid (∃ A c, wr.heap[w.heap.size + 1 + 1]? = some (.cells (mC M (.slice A j c) (.slice ac nc cc)) 34 (0, 0)) ∧ j ≤ c ∧ wr.ownsRow (w.heap.size + 3) 75 2 (.slice A j c) j ((fl2 (M.p.take j)).map (Value.int .i64))) ∧ Hid (Off (fun q => q = w.heap.size + 1 + 1) w3 wr)) (fun iv _ => np - (intOf iv).toNat)
  case atStart => exact ⟨0, by omega, rfl, Lib.hid ⟨none, 0, HQ.out.2.2, Nat.le_refl _, World.ownsRow_nil _ _ _ _⟩, Lib.hid (Off.refl _ _)⟩
  case round =>
    obtain ⟨j, hj, rfl, HX, HO⟩ := hrel
    obtain ⟨A, c, hm, hjc, hown⟩ := HX.out
    clear HX
    have m0 := (HO.out.block w.heap.size (by omega) (by omega)).trans HQ.out.1
    obtain ⟨_, _, _, _, _, _, _, d7, _⟩ := mg_block m0
    rcases Nat.lt_or_ge j np with hlt | hge
    · obtain ⟨⟨x, y⟩, hq⟩ : ∃ q, M.p[j]? = some q := ⟨_, List.getElem?_eq_getElem (by rw [HN.out]; exact hlt)⟩
      have hbw : Below w.heap.size w wr := HB3.out.trans (HO.out.below (fun k hk => by omega) (by omega))
      obtain ⟨ga, off, rfl, hga, x0, x1⟩ := pts_two (HA.out.below hbw) hq
      dsimp only at x0 x1
      have hft := fl2_take hq
      have HF := Lib.hid hft
      obtain ⟨_, _, _, _, _, _, _, e7, _⟩ := mg_block hm
      have hblt := (Array.getElem?_eq_some_iff.1 hm).1
      have hwr : w.heap.size < wr.heap.size := by omega
      have hgr : ga < wr.heap.size := by omega
      have hj2 : (j : Int) < (np : Int) := by omega
      have hnc2 : (np : Int) ≤ (cp : Int) := by omega
      have lP : ∀ W, Below wr.heap.size wr W → (Instr.loadAt 23 (.pointer (some ⟨w.heap.size, 7, none⟩))).run Try.prog W = .ok (.slice (some ⟨ga, off, none⟩) np cp) W := fun W hW => by
        have hx := (hW.cell (p := ⟨w.heap.size, 7, none⟩) hwr).trans d7
        simp [Instr.loadAt, go_sem, hx]
      have lW : ∀ W, Below wr.heap.size wr W → (Instr.loadAt 32 (.pointer (some ⟨w.heap.size + 1 + 1, 7, none⟩))).run Try.prog W = .ok (.slice A j c) W := fun W hW => by
        have hx := (hW.cell (p := ⟨w.heap.size + 1 + 1, 7, none⟩) hblt).trans e7
        simp [Instr.loadAt, go_sem, hx]
      have lx : ∀ W, Below wr.heap.size wr W → (Instr.loadAt 3 (.pointer (some ⟨ga, off + j * 2, none⟩))).run Try.prog W = .ok (.int .i64 x) W := fun W hW => by
        have hx := (hW.cell (p := ⟨ga, off + j * 2, none⟩) hgr).trans x0
        simp [Instr.loadAt, go_sem, hx]
      have ly : ∀ W, Below wr.heap.size wr W → (Instr.loadAt 3 (.pointer (some ⟨ga, off + j * 2 + 1, none⟩))).run Try.prog W = .ok (.int .i64 y) W := fun W hW => by
        have hx := (hW.cell (p := ⟨ga, off + j * 2 + 1, none⟩) hgr).trans x1
        simp [Instr.loadAt, go_sem, hx]
      have HOW := Lib.hid hown
      have HM := Lib.hid hm
      have HBW := Lib.hid hbw
      clear hm hown hft hq m0 x0 x1 e7 hbw
      go_wp2_with fail
      refine wp_region_FT 42 16 [38] (fun q u W => ∃ b, u = .slice (some ⟨b, 0, none⟩) 1 1 ∧ W.heap[b]? = some (.cells #[.int .i64 x, .int .i64 y] 75 (0, 0))) (fun W => Below wr.heap.size wr W) (by kernel_rfl) (by kernel_rfl) (by rfl) (by kernel_rfl) (by kernel_rfl) (by kernel_rfl) (by rfl) (by simp) (fun W W' h hb => h.trans (hb.mono h.size)) (fun q u W W' h hb => by
        obtain ⟨b, h1, h2⟩ := h
        exact ⟨b, h1, (hb.block _ (Array.getElem?_eq_some_iff.1 h2).1).trans h2⟩) (Below.refl _ _).drew ?_
      simp only [List.take_succ_cons, List.take_zero, List.drop_succ_cons, List.drop_zero]
      repeat (refine wpF_pure rfl rfl ?_; go_big_quiet_step (fail); refine wpQuiet_nil ?_)
      refine wpF_load (ad := ⟨w.heap.size + 1 + 1, 7, none⟩) (.slice A j c) rfl (by rfl) (by rfl) (by rfl) lW ?_
      simp only [Act.put, List.setIfInBounds_toArray, List.set_cons_succ, List.set_cons_zero]
      repeat (refine wpF_pure rfl rfl ?_; go_big_quiet_step (fail); refine wpQuiet_nil ?_)
      refine wpF_load (ad := ⟨w.heap.size, 7, none⟩) (.slice (some ⟨ga, off, none⟩) np cp) rfl (by rfl) (by rfl) (by rfl) lP ?_
      simp only [Act.put, List.setIfInBounds_toArray, List.set_cons_succ, List.set_cons_zero]
      repeat (refine wpF_pure rfl rfl ?_; go_big_quiet_step (fail); refine wpQuiet_nil ?_)
      refine wpF_load (ad := ⟨ga, off + j * 2, none⟩) (.int .i64 x) rfl (by rfl) (by rfl) (by rfl) lx ?_
      simp only [Act.put, List.setIfInBounds_toArray, List.set_cons_succ, List.set_cons_zero]
      repeat (refine wpF_pure rfl rfl ?_; go_big_quiet_step (fail); refine wpQuiet_nil ?_)
      refine wpF_load (ad := ⟨w.heap.size, 7, none⟩) (.slice (some ⟨ga, off, none⟩) np cp) rfl (by rfl) (by rfl) (by rfl) lP ?_
      simp only [Act.put, List.setIfInBounds_toArray, List.set_cons_succ, List.set_cons_zero]
      repeat (refine wpF_pure rfl rfl ?_; go_big_quiet_step (fail); refine wpQuiet_nil ?_)
      refine wpF_load (ad := ⟨ga, off + j * 2 + 1, none⟩) (.int .i64 y) rfl (by rfl) (by rfl) (by rfl) ly ?_
      simp only [Act.put, List.setIfInBounds_toArray, List.set_cons_succ, List.set_cons_zero]
      refine wpF_val (.agg #[.int .i64 x, .int .i64 y]) (by rfl) (by rfl) (fun W _ => by simp [go_sem]) ?_
      simp only [Act.put, List.setIfInBounds_toArray, List.set_cons_succ, List.set_cons_zero]
      refine wpF_src 38 (by simp) rfl rfl rfl (fun W hW => ⟨.slice (some ⟨W.heap.size, 0, none⟩) 1 1, W.alloc (.cells #[.int .i64 x, .int .i64 y] 75), by simp [go_sem], ⟨_, rfl, World.alloc_heap_new _ _⟩, (Below.refl _ _).alloc (Nat.le_refl _) _⟩) ?_
      simp only [Act.put, List.setIfInBounds_toArray, List.set_cons_succ, List.set_cons_zero]
      intro xs W hW hx
      obtain ⟨b, hxb, hbl⟩ := hx 38 (by simp)
      simp only [fill, Act.put, List.setIfInBounds_toArray, List.set_cons_succ, List.set_cons_zero]
      rw [hxb]
      have HRow := Lib.hid (own_below7 HOW.out hW)
      have HNW : Hid (∀ (q : Nat) (u : Value), [Value.int .i64 x, .int .i64 y][q]? = some u → W.cell? ((⟨b, 0, none⟩ : Addr).add q) = some u) := fun q u hq => by
        rw [Addr.add_lit, Nat.zero_add]
        simp only [World.cell?, hbl]
        simpa using hq
      have hmW := (hW.block _ hblt).trans HM.out
      have HMW := Lib.hid hmW
      have HBS := Lib.hid (show w.heap.size + 3 ≤ W.heap.size by have := hW.size; have := HO.out.size; omega)
      have HOW2 := Lib.hid (off_below HO.out (hW.mono HO.out.size))
      have hge3 : ∀ g, (Value.slice A j c).ownBlock = some g → w.heap.size + 3 ≤ g := fun g hg => (HRow.out.lt g hg).1
      have HGE := Lib.hid hge3
      clear hx hxb hbl lP lW lx ly hW hmW HOW HM HBW hge3 HO
      go_wp2_with (at_builtin; refine wpList_append_own_at _ rfl (.tmp 24) (.tmp 38) 32 rfl (w.heap.size + 3) 75 r0 _ 2 16 Try.underlying32 hr hz0 hz1 hz2 rfl (by decide) _ _ _ rfl HRow.out ⟨b, 0, none⟩ 1 1 [Value.int .i64 x, .int .i64 y] rfl rfl HNW.out (by simp [Value.oneCell']) (by unfold maxLen; omega) (by omega) HBS.out ?_)
      intro u4 W4 hown4 hg4 _ _
      obtain ⟨A4, c4, rfl, hc4, _⟩ := nums_of_own (k := .i64) (zs := fl2 (M.p.take j) ++ [x, y]) (by simpa using hown4) (by omega)
      have hs4 := hg4.size
      have hm4 := (hg4.block (w.heap.size + 1 + 1) (by have := HBS.out; omega) (fun e => by have := HGE.out _ e.symm; omega)).trans HMW.out
      have ho4 : Off (fun q => q = w.heap.size + 1 + 1) w3 W4 := ⟨hg4.os.trans HOW2.out.os, hg4.tape.trans HOW2.out.tape, hg4.output.trans HOW2.out.output, Nat.le_trans HOW2.out.size hs4, fun q hq hne => (hg4.block q (by have := HOW2.out.size; omega) (fun e => by have := HGE.out _ e.symm; omega)).trans (HOW2.out.block q hq hne)⟩
      have HO5 := Lib.hid (ho4.setCell (p := ⟨w.heap.size + 1 + 1, 7, none⟩) rfl (.slice A4 (j + 1) c4))
      have HM5 := Lib.hid (setCell_at (j := 7) (u := .slice A4 (j + 1) c4) hm4)
      have HOW5 := Lib.hid (ownsRow_setCell_below hown4 (a := ⟨w.heap.size + 1 + 1, 7, none⟩) (by show w.heap.size + 1 + 1 < _; omega) (.slice A4 (j + 1) c4))
      have k7 := (mg_block hm4).2.2.2.2.2.2.2.1
      have z7 := frozen_of_row W4 (w.heap.size + 1 + 1) 7 _ _ hm4
      clear hown4 hg4 hm4 ho4 hs4 HRow HNW HMW HOW2 HGE HBS
      go_wp2
      refine ⟨⟨j + 1, by omega, by go_num, ?_, HO5⟩, by simp only [intOf]; omega⟩
      refine Lib.hid ⟨A4, c4, HM5.out, hc4, ?_⟩
      rw [HF.out]
      simpa using HOW5.out
    · obtain rfl : j = np := by omega
      rename_i np
      obtain ⟨f0, f1, f2, f3, f4, f5, f6, f7, f8, f9, f10⟩ := mg_block hm
      have r1 := (HO.out.block (w.heap.size + 1) (by omega) (by omega)).trans HQ.out.2.1
      have HR1 := Lib.hid r1
      have HOW := Lib.hid hown
      have HBV := Lib.hid (HB3.out.trans (HO.out.below (B := w.heap.size) (fun k hk => by omega) (by omega)))
      clear hm hown r1 m0
      go_wp2_with (refine wpList_store_row rfl 34 (.tmp 2) (.tmp 41) rfl (w.heap.size + 1) #[.int .i64 M.k, .int .i64 M.n0, .int .i64 M.n1, .int .i64 M.n2, .int .i64 M.n3, .int .i64 M.n4, .int .i64 M.n5, .slice A j c, .slice ac nc cc, .string M.tx, .string M.tg] rfl rfl 34 _ HR1.out rmInfo rfl (by simp [Value.oneCell']) ?_)
      have hfin := setRow_heap wr (w.heap.size + 1) _ #[.int .i64 M.k, .int .i64 M.n0, .int .i64 M.n1, .int .i64 M.n2, .int .i64 M.n3, .int .i64 M.n4, .int .i64 M.n5, .slice A j c, .slice ac nc cc, .string M.tx, .string M.tg] _ _ HR1.out
      have hoff := Off.setRow (S := fun k => k = w.heap.size + 1) (Off.refl _ wr) rfl #[.int .i64 M.k, .int .i64 M.n0, .int .i64 M.n1, .int .i64 M.n2, .int .i64 M.n3, .int .i64 M.n4, .int .i64 M.n5, .slice A j c, .slice ac nc cc, .string M.tx, .string M.tg]
      have hbf := HBV.out.trans (hoff.below (B := w.heap.size) (fun k hk => by omega) HBV.out.size)
      have hof := own_offM HOW.out hoff (fun g hg e => by have := (HOW.out.lt g hg).1; omega)
      generalize wr.setRow (w.heap.size + 1) _ = Wf at *
      obtain ⟨y0, y1, y2, y3, y4, y5, y6, y7, y8, y9, y10⟩ := mg_block hfin
      refine bodyPost_ret (v := .agg #[.int .i64 M.k, .int .i64 M.n0, .int .i64 M.n1, .int .i64 M.n2, .int .i64 M.n3, .int .i64 M.n4, .int .i64 M.n5, .slice A j c, .slice ac nc cc, .string M.tx, .string M.tg]) (by simp [results, Try.results11, go_sem, y0, y1, y2, y3, y4, y5, y6, y7, y8, y9, y10]) rfl ?_
      refine ⟨_, rfl, ?_, hbf⟩
      rw [List.take_of_length_le (by rw [HN.out]; exact Nat.le_refl _)] at hof
      exact ⟨hof.1, hof.2.imp id (fun ⟨g, cap, cur, h1, h2, h3⟩ => ⟨g, cap, cur, h1, by omega, h3⟩)⟩
end Go.Proofs.Ytnbhiamnoapmlaa

namespace Go.Proofs.Ytnbhiamnoapmlaa
open Go.RowKit Go.Shelf
set_option maxRecDepth 100000
attribute [local go_sem] Oper.semAt_some

theorem fl2_takes : ∀ (l : List (Int × Int)) (n : Nat), fl2 (l.take n) = (fl2 l).take (n * 2)
  | [], _ => by simp [fl2]
  | _ :: _, 0 => by simp [fl2]
  | q :: r, n + 1 => by
    rw [List.take_succ_cons, fl2, fl2_takes r n, fl2, show (n + 1) * 2 = n * 2 + 1 + 1 by omega, List.take_succ_cons, List.take_succ_cons]
/-- what Cut answers -/
def CutM (B : Nat) (w : World) (e : Ending) (w' : World) : Prop := ∃ M P C, e = .returned (mV M P C) ∧ Msm M ∧ MAt w' B M P C ∧ Below w.heap.size w w'
set_option maxHeartbeats 16000000 in
theorem mcut_any (M : Mg) (ap ac : Option Addr) (np nc cp cc : Nat) (w : World) (hnp : M.p.length = np) (hnc : M.c.length = nc) (hcp : np ≤ cp) (hcc : nc ≤ cc) (B : Nat) (hB : B ≤ w.heap.size) (ha : Nums .i64 w B ap (fl2 M.p)) (hc : Nums .i64 w B ac M.c) :
    Calls Try.prog 7 #[mV M (.slice ap np cp) (.slice ac nc cc)] w fun e w' => CutM B w e w' := by
  obtain ⟨mp, hmp⟩ : ∃ mp, min np 40 = mp := ⟨_, rfl⟩
  have hmp2 : min (np : Int) 40 = (mp : Int) := by omega
  have hmp3 : mp ≤ np ∧ mp ≤ 40 := by omega
  obtain ⟨mc, hmc⟩ : ∃ mc, min nc 40 = mc := ⟨_, rfl⟩
  have hmc2 : min (nc : Int) 40 = (mc : Int) := by omega
  have hmc3 : mc ≤ nc ∧ mc ≤ 40 := by omega
  unfold mV mC
  obtain ⟨k, n0, n1, n2, n3, n4, n5, p, c, tx, tg⟩ := M
  dsimp only at *
  obtain ⟨mt, hmt⟩ : ∃ mt, min tx.size 80 = mt := ⟨_, rfl⟩
  have hmt2 : min (tx.size : Int) 80 = (mt : Int) := by omega
  have hmt3 : mt ≤ tx.size ∧ mt ≤ 80 := by omega
  obtain ⟨mg, hmg⟩ : ∃ mg, min tg.size 80 = mg := ⟨_, rfl⟩
  have hmg2 : min (tg.size : Int) 80 = (mg : Int) := by omega
  have hmg3 : mg ≤ tg.size ∧ mg ≤ 80 := by omega
  have HM3 := Lib.hid (And.intro hmp3 hmc3)
  have HD := Lib.hid (And.intro hnp (And.intro hnc (And.intro ha hc)))
  clear hmt hmg hmp hmc hnp hnc ha hc
  go_enter Try.func7, Try.ntmps7
  go_wp2
  go_region
  obtain ⟨W3, hW3⟩ : ∃ W3, W3 = ((w.alloc (.cells #[.int .i64 k, .int .i64 n0, .int .i64 n1, .int .i64 n2, .int .i64 n3, .int .i64 n4, .int .i64 n5, .slice ap mp cp, .slice ac mc cc, .string tx, .string tg] 26)).alloc (.cells #[.int .i64 0, .int .i64 0, .int .i64 0, .int .i64 0, .int .i64 0, .int .i64 0, .int .i64 0, .slice none 0 0, .slice none 0 0, .string ⟨#[]⟩, .string ⟨#[]⟩] 26)).drew := ⟨_, rfl⟩
  have r0 : W3.heap[w.heap.size]? = some (.cells #[.int .i64 k, .int .i64 n0, .int .i64 n1, .int .i64 n2, .int .i64 n3, .int .i64 n4, .int .i64 n5, .slice ap mp cp, .slice ac mc cc, .string tx, .string tg] 26 (0, 0)) := by
    rw [hW3]
    show ((w.alloc _).alloc _).heap[_]? = _
    rw [Below.heap_alloc _ _ _ (by simp)]; exact World.alloc_heap_new _ _
  have r1 : W3.heap[w.heap.size + 1]? = some (.cells #[.int .i64 0, .int .i64 0, .int .i64 0, .int .i64 0, .int .i64 0, .int .i64 0, .int .i64 0, .slice none 0 0, .slice none 0 0, .string ⟨#[]⟩, .string ⟨#[]⟩] 26 (0, 0)) := by
    have := World.alloc_heap_new (w.alloc (.cells #[.int .i64 k, .int .i64 n0, .int .i64 n1, .int .i64 n2, .int .i64 n3, .int .i64 n4, .int .i64 n5, .slice ap mp cp, .slice ac mc cc, .string tx, .string tg] 26)) (.cells #[.int .i64 0, .int .i64 0, .int .i64 0, .int .i64 0, .int .i64 0, .int .i64 0, .int .i64 0, .slice none 0 0, .slice none 0 0, .string ⟨#[]⟩, .string ⟨#[]⟩] 26)
    rw [World.size_alloc] at this
    rw [hW3]; exact this
  have hb3 : Below w.heap.size w W3 := by rw [hW3]; exact (((Below.refl _ w).alloc (Nat.le_refl _) _).alloc (by simp) _).drew
  rw [← hW3]
  have f9 := row_cell r0 9 _ rfl
  have f10 := row_cell r0 10 _ rfl
  have z9 := frozen_of_row W3 w.heap.size 9 _ _ r0
  have z10 := frozen_of_row W3 w.heap.size 10 _ _ r0
  have HR0 := Lib.hid r0
  have HR1 := Lib.hid r1
  have HB3 := Lib.hid hb3
  clear hW3 r0 r1 hb3 hmp3 hmc3 hmp2 hmc2
  go_wp2
  have htx : (tx.extract 0 mt).size ≤ 80 := by rw [ByteArray.size_extract]; omega
  have htg : (tg.extract 0 mg).size ≤ 80 := by rw [ByteArray.size_extract]; omega
  have HT := Lib.hid (And.intro htx htg)
  clear htx htg
  refine wp_region_lex2 (C := fun w' => ∃ n, w' = W3.drewN n) (by kernel_rfl) (by kernel_rfl) ⟨1, rfl⟩ ?_
  repeat (first
    | (refine wpQ2_pure rfl ?_; go_big_quiet_step (fail); refine wpQuiet_nil ?_)
    | (refine wpQ2_look rfl ?_; go_big_quiet_step (fail); refine wpQuiet_nil ?_))
  refine wpQ2_store (fun w' => ∃ n, w' = (W3.setCell ⟨w.heap.size, 9, none⟩ (.string (tx.extract 0 mt))).drewN n) rfl rfl rfl ⟨w.heap.size, 9, none⟩ (.string (tx.extract 0 mt)) rfl rfl ?_ ?_
  · rintro w1 ⟨n, rfl⟩
    refine ⟨(W3.drewN n).setCell ⟨w.heap.size, 9, none⟩ (.string (tx.extract 0 mt)), ?_, n, rfl⟩
    simp [Instr.storeAt, go_sem, f9, z9]
  repeat (first
    | (refine wpQ2_pure rfl ?_; go_big_quiet_step (fail); refine wpQuiet_nil ?_))
  refine wpQ2_store (fun w' => ∃ n, w' = ((W3.setCell ⟨w.heap.size, 9, none⟩ (.string (tx.extract 0 mt))).setCell ⟨w.heap.size, 10, none⟩ (.string (tg.extract 0 mg))).drewN n) rfl rfl rfl ⟨w.heap.size, 10, none⟩ (.string (tg.extract 0 mg)) rfl rfl ?_ ?_
  · rintro w1 ⟨n, rfl⟩
    refine ⟨((W3.setCell ⟨w.heap.size, 9, none⟩ (.string (tx.extract 0 mt))).drewN n).setCell ⟨w.heap.size, 10, none⟩ (.string (tg.extract 0 mg)), ?_, n, rfl⟩
    simp [Instr.storeAt, go_sem, f10, z10]
  rintro w4 ⟨nn, rfl⟩
  generalize tx.extract 0 mt = tx2 at *
  generalize tg.extract 0 mg = tg2 at *
  obtain ⟨W5, hW5⟩ : ∃ W5, W5 = ((W3.setCell ⟨w.heap.size, 9, none⟩ (.string tx2)).setCell ⟨w.heap.size, 10, none⟩ (.string tg2)).drewN nn := ⟨_, rfl⟩
  have r0 : W5.heap[w.heap.size]? = some (.cells #[.int .i64 k, .int .i64 n0, .int .i64 n1, .int .i64 n2, .int .i64 n3, .int .i64 n4, .int .i64 n5, .slice ap mp cp, .slice ac mc cc, .string tx2, .string tg2] 26 (0, 0)) := by
    rw [hW5]
    show ((W3.setCell _ _).setCell _ _).heap[_]? = _
    rw [setCell_at (setCell_at HR0.out)]; rfl
  have r1 : W5.heap[w.heap.size + 1]? = some (.cells #[.int .i64 0, .int .i64 0, .int .i64 0, .int .i64 0, .int .i64 0, .int .i64 0, .int .i64 0, .slice none 0 0, .slice none 0 0, .string ⟨#[]⟩, .string ⟨#[]⟩] 26 (0, 0)) := by
    rw [hW5]
    show ((W3.setCell _ _).setCell _ _).heap[_]? = _
    rw [Below.heap_setCell _ _ _ _ (by show _ ≠ w.heap.size; omega), Below.heap_setCell _ _ _ _ (by show _ ≠ w.heap.size; omega)]; exact HR1.out
  have hb5 : Below w.heap.size w W5 := by rw [hW5]; exact below_drewN ((HB3.out.setCell (p := ⟨w.heap.size, 9, none⟩) (Nat.le_refl _) _).setCell (p := ⟨w.heap.size, 10, none⟩) (Nat.le_refl _) _) nn
  have f := fun j x hx => row_cell r0 j x hx
  have f0 := f 0 _ rfl; have f1 := f 1 _ rfl; have f2 := f 2 _ rfl; have f3 := f 3 _ rfl; have f4 := f 4 _ rfl; have f5 := f 5 _ rfl
  have f6 := f 6 _ rfl; have f7 := f 7 _ rfl; have f8 := f 8 _ rfl; have f9 := f 9 _ rfl; have f10 := f 10 _ rfl
  rw [← hW5]
  have HR15 := Lib.hid r1
  have HB5 := Lib.hid hb5
  clear f hW5 r0 r1 hb5
  go_wp2_with (refine wpList_store_row rfl 26 (.tmp 2) (.tmp 35) rfl (w.heap.size + 1) #[.int .i64 k, .int .i64 n0, .int .i64 n1, .int .i64 n2, .int .i64 n3, .int .i64 n4, .int .i64 n5, .slice ap mp cp, .slice ac mc cc, .string tx2, .string tg2] rfl rfl 26 _ HR15.out mgInfo rfl (by simp [Value.oneCell']) ?_)
  have hfin := setRow_heap W5 (w.heap.size + 1) _ #[.int .i64 k, .int .i64 n0, .int .i64 n1, .int .i64 n2, .int .i64 n3, .int .i64 n4, .int .i64 n5, .slice ap mp cp, .slice ac mc cc, .string tx2, .string tg2] _ _ HR15.out
  have hoff := Off.setRow (S := fun k => k = w.heap.size + 1) (Off.refl _ W5) rfl #[.int .i64 k, .int .i64 n0, .int .i64 n1, .int .i64 n2, .int .i64 n3, .int .i64 n4, .int .i64 n5, .slice ap mp cp, .slice ac mc cc, .string tx2, .string tg2]
  have hbf := HB5.out.trans (hoff.below (B := w.heap.size) (fun k hk => by omega) HB5.out.size)
  generalize W5.setRow (w.heap.size + 1) _ = Wf at *
  have y := fun j x hx => row_cell hfin j x hx
  have y0 := y 0 _ rfl; have y1 := y 1 _ rfl; have y2 := y 2 _ rfl; have y3 := y 3 _ rfl; have y4 := y 4 _ rfl; have y5 := y 5 _ rfl
  have y6 := y 6 _ rfl; have y7 := y 7 _ rfl; have y8 := y 8 _ rfl; have y9 := y 9 _ rfl; have y10 := y 10 _ rfl
  refine bodyPost_ret (v := .agg #[.int .i64 k, .int .i64 n0, .int .i64 n1, .int .i64 n2, .int .i64 n3, .int .i64 n4, .int .i64 n5, .slice ap mp cp, .slice ac mc cc, .string tx2, .string tg2]) (by simp [results, Try.results7, go_sem, y0, y1, y2, y3, y4, y5, y6, y7, y8, y9, y10]) rfl ?_
  obtain ⟨hnp, hnc, ha, hc⟩ := HD.out
  have hmp3 : mp ≤ np ∧ mp ≤ 40 := HM3.out.1
  have hmc3 : mc ≤ nc ∧ mc ≤ 40 := HM3.out.2
  have hp1 : (p.take mp).length = mp := by rw [List.length_take]; omega
  have hc1 : (c.take mc).length = mc := by rw [List.length_take]; omega
  refine ⟨⟨k, n0, n1, n2, n3, n4, n5, p.take mp, c.take mc, tx2, tg2⟩, _, _, rfl, ⟨by dsimp only; omega, by dsimp only; omega, HT.out.1, HT.out.2⟩, ⟨⟨ap, cp, by rw [hp1], by dsimp only; omega, ?_⟩, ⟨ac, cc, by rw [hc1], by dsimp only; omega, (hc.take mc).below (hbf.mono hB)⟩⟩, hbf⟩
  dsimp only
  rw [fl2_takes]
  exact (ha.take _).below (hbf.mono hB)
end Go.Proofs.Ytnbhiamnoapmlaa

namespace Go.Proofs.Ytnbhiamnoapmlaa
open Go.RowKit Go.Shelf
set_option maxRecDepth 100000
attribute [local go_sem] Oper.semAt_some

set_option maxHeartbeats 2000000 in
theorem rtext_any (s : ByteArray) (mo : Int) (hs : s.size ≤ maxLen) (w : World) : Calls Try.prog 32 #[.string s, .int .i64 mo] w fun e w' => e = .returned (.int .i64 (wT s mo)) ∧ w = w' := by
  obtain ⟨n, hn⟩ : ∃ n, s.size = n := ⟨_, rfl⟩
  have hl : n ≤ 9223372036854775807 := by unfold maxLen at hs; omega
  clear hs
  by_cases h1 : mo < (n : Int)
  · rw [show wT s mo = 6 by unfold wT; rw [hn]; exact if_pos h1]
    go_enter Try.func32, Try.ntmps32
    go_wp2
    go_ret
    exact ⟨rfl, rfl⟩
  · obtain ⟨R, hR⟩ : ∃ R, wT s mo = R := ⟨_, rfl⟩
    rw [hR]
    have HR := Lib.hid hR
    clear hR
    go_enter Try.func32, Try.ntmps32
    go_wp2
    go_loopw [5] (fun iv wr => ∃ j : Nat, j ≤ n ∧ iv = .int .i64 (j : Int) ∧ Hid (∀ b ∈ s.data.toList.take j, byOk b) ∧ wr = w) (fun iv _ => n - (intOf iv).toNat)
    case atStart => exact ⟨0, by omega, rfl, Lib.hid (by simp), rfl⟩
    case round =>
      obtain ⟨j, hj, rfl, HB, rfl⟩ := hrel
      rcases Nat.lt_or_ge j n with hlt | hge
      · have hg : s.data.toList[j]? = some (s[j]'(by omega)) := byte_at s j (by omega)
        by_cases hb : byOk (s[j]'(by omega))
        · have HB2 : Hid (∀ b ∈ s.data.toList.take (j + 1), byOk b) := Lib.hid (fun b hb2 => by
            rw [List.take_add_one, hg, List.mem_append] at hb2
            rcases hb2 with hb2 | hb2
            · exact HB.out b hb2
            · simp at hb2; subst hb2; exact hb)
          unfold byOk at hb
          clear hg
          go_wp2
          exact ⟨⟨j + 1, by omega, by go_num, HB2, trivial⟩, by simp only [intOf]; omega⟩
        · obtain rfl : R = 19 := by
            rw [← HR.out]
            unfold wT
            rw [hn, if_neg (by omega), if_neg (fun h => hb (h _ (List.mem_of_getElem? hg)))]
          unfold byOk at hb
          clear hg
          go_wp2
          all_goals
            go_ret
            exact ⟨rfl, rfl⟩
      · obtain rfl : j = n := by omega
        obtain rfl : R = 0 := by
          rw [← HR.out]
          unfold wT
          rw [hn, if_neg (by omega), if_pos]
          have h2 := HB.out
          rwa [List.take_of_length_le (by show s.data.toList.length ≤ j; rw [Array.length_toList]; exact Nat.le_of_eq hn)] at h2
        go_wp2
        go_ret
        exact ⟨rfl, rfl⟩

set_option maxHeartbeats 4000000 in
theorem rpath_any (A : Option Addr) (n cp : Nat) (l : List (Int × Int)) (w : World) (hn : l.length = n) (hcp : n ≤ cp) (hA : Nums .i64 w w.heap.size A (fl2 l)) :
    Calls Try.prog 30 #[.slice A n cp] w fun e w' => e = .returned (.int .i64 (wP l 16)) ∧ w = w' := by
  obtain ⟨R, hR⟩ : ∃ R, wP l 16 = R := ⟨_, rfl⟩
  rw [hR]
  unfold wP wS at hR
  rw [hn] at hR
  have HN := Lib.hid hn
  have HA := Lib.hid hA
  clear hn hA
  by_cases h0 : n = 0
  · subst h0
    obtain rfl : R = 13 := by rw [← hR]; rfl
    clear hR
    go_enter Try.func30, Try.ntmps30
    go_wp2
    go_ret
    exact ⟨rfl, rfl⟩
  · have hz : ¬ (n : Int) = 0 := by omega
    have hz2 : ((n : Int) == 0) = false := by simpa using h0
    rw [if_neg hz] at hR
    by_cases h16 : 16 < (n : Int)
    · rw [if_pos h16, if_pos (by omega)] at hR
      subst hR
      go_enter Try.func30, Try.ntmps30
      go_wp2
      go_ret
      exact ⟨rfl, rfl⟩
    · rw [if_neg h16, if_neg (by omega)] at hR
      have HR := Lib.hid hR
      have hn16 : n ≤ 16 := by omega
      clear hR
      go_enter Try.func30, Try.ntmps30
      go_wp2
      go_loopw [3] (fun iv wr => ∃ j : Nat, j ≤ n ∧ iv = .int .i64 (j : Int) ∧ Hid (∀ q ∈ l.take j, ptOk q) ∧ wr = w) (fun iv _ => n - (intOf iv).toNat)
      case atStart => exact ⟨0, by omega, rfl, Lib.hid (by simp), rfl⟩
      case round =>
        obtain ⟨j, hj, rfl, HP, rfl⟩ := hrel
        rcases Nat.lt_or_ge j n with hlt | hge
        · obtain ⟨⟨x, y⟩, hq⟩ : ∃ q, l[j]? = some q := ⟨_, List.getElem?_eq_getElem (by rw [HN.out]; exact hlt)⟩
          obtain ⟨b, off, rfl, hb, c0, c1⟩ := pts_two HA.out hq
          have HQ := Lib.hid hq
          dsimp only at c0 c1
          clear hq
          go_wp2
          go_loopw [4] (fun iv wr' => ∃ i : Nat, i ≤ 2 ∧ iv = .int .i64 (i : Int) ∧ Hid ((0 < i → -1000000 ≤ x ∧ x ≤ 1000000) ∧ (1 < i → -1000000 ≤ y ∧ y ≤ 1000000)) ∧ wr' = wr) (fun iv _ => 2 - (intOf iv).toNat)
          case atStart => exact ⟨0, by omega, rfl, Lib.hid (by omega), rfl⟩
          case round =>
            obtain ⟨i, hi, rfl, HI, rfl⟩ := hrel
            obtain rfl | rfl | rfl : i = 0 ∨ i = 1 ∨ i = 2 := by omega
            · by_cases hv : -1000000 ≤ x ∧ x ≤ 1000000
              · have HI2 : Hid ((0 < 0 + 1 → -1000000 ≤ x ∧ x ≤ 1000000) ∧ (1 < 0 + 1 → -1000000 ≤ y ∧ y ≤ 1000000)) := Lib.hid ⟨fun _ => hv, fun h => by omega⟩
                go_wp2
                exact ⟨⟨0 + 1, by omega, rfl, HI2, trivial⟩, by simp only [intOf]; omega⟩
              · obtain rfl : R = 5 := by
                  rw [← HR.out, if_neg (fun h => hv ⟨(h _ (List.mem_of_getElem? HQ.out)).1, (h _ (List.mem_of_getElem? HQ.out)).2.1⟩)]
                have hv2 : x < -1000000 ∨ (-1000000 ≤ x ∧ 1000000 < x) := by omega
                clear hv
                rcases hv2 with hv | ⟨hv, hv3⟩
                all_goals
                  go_wp2
                  go_ret
                  exact ⟨rfl, rfl⟩
            · by_cases hv : -1000000 ≤ y ∧ y ≤ 1000000
              · have HI2 : Hid ((0 < 1 + 1 → -1000000 ≤ x ∧ x ≤ 1000000) ∧ (1 < 1 + 1 → -1000000 ≤ y ∧ y ≤ 1000000)) := Lib.hid ⟨fun _ => HI.out.1 (by omega), fun _ => hv⟩
                go_wp2
                exact ⟨⟨1 + 1, by omega, rfl, HI2, trivial⟩, by simp only [intOf]; omega⟩
              · obtain rfl : R = 5 := by
                  rw [← HR.out, if_neg (fun h => hv ⟨(h _ (List.mem_of_getElem? HQ.out)).2.2.1, (h _ (List.mem_of_getElem? HQ.out)).2.2.2⟩)]
                have hv2 : y < -1000000 ∨ (-1000000 ≤ y ∧ 1000000 < y) := by omega
                clear hv
                rcases hv2 with hv | ⟨hv, hv3⟩
                all_goals
                  go_wp2
                  go_ret
                  exact ⟨rfl, rfl⟩
            · have HP2 : Hid (∀ q ∈ l.take (j + 1), ptOk q) := Lib.hid (fun q hq => by
                rw [List.take_add_one, HQ.out, List.mem_append] at hq
                rcases hq with hq | hq
                · exact HP.out q hq
                · simp at hq
                  subst hq
                  have h1 := HI.out.1 (by omega)
                  have h2 := HI.out.2 (by omega)
                  exact ⟨h1.1, h1.2, h2.1, h2.2⟩)
              go_wp2
              go_roundw
              case rel => exact ⟨j + 1, by omega, by go_num, HP2, trivial⟩
              case measure => simp [intOf]; omega
        · obtain rfl : j = n := by omega
          obtain rfl : R = 0 := by
            rw [← HR.out, if_pos]
            have h1 := HP.out
            rwa [List.take_of_length_le (by rw [HN.out]; exact Nat.le_refl _)] at h1
          go_wp2
          go_ret
          exact ⟨rfl, rfl⟩

theorem cE_full {l : List Int} {j : Nat} {c : Int} (h : l[j]? = some c) (h0 : cE (-1) (l.take j) = 0) (h1 : 0 ≤ c) (h2 : c ≤ 65535) (h3 : ahd l j < c) : cE (-1) (l.take (j + 1)) = 0 := cE_next l (-1) j c h h0 h1 h2 h3
set_option maxHeartbeats 4000000 in
theorem rcells_any (A : Option Addr) (n cp : Nat) (l : List Int) (w : World) (hn : l.length = n) (hcp : n ≤ cp) (hA : Nums .i64 w w.heap.size A l) :
    Calls Try.prog 31 #[.slice A n cp] w fun e w' => e = .returned (.int .i64 (wC l 32)) ∧ Below w.heap.size w w' := by
  obtain ⟨R, hR⟩ : ∃ R, wC l 32 = R := ⟨_, rfl⟩
  rw [hR]
  unfold wC wS at hR
  rw [hn] at hR
  have HN := Lib.hid hn
  have HA := Lib.hid hA
  clear hn hA
  by_cases h0 : n = 0
  · subst h0
    obtain rfl : R = 13 := by rw [← hR]; rfl
    clear hR
    go_enter Try.func31, Try.ntmps31
    go_wp2
    go_ret
    exact ⟨rfl, Below.refl _ _⟩
  · have hz : ¬ (n : Int) = 0 := by omega
    have hz2 : ((n : Int) == 0) = false := by simpa using h0
    rw [if_neg hz] at hR
    by_cases h16 : 32 < (n : Int)
    · rw [if_pos h16, if_pos (by omega)] at hR
      subst hR
      go_enter Try.func31, Try.ntmps31
      go_wp2
      go_ret
      exact ⟨rfl, Below.refl _ _⟩
    · rw [if_neg h16, if_neg (by omega)] at hR
      have HR := Lib.hid hR
      have hn16 : n ≤ 32 := by omega
      clear hR
      go_enter Try.func31, Try.ntmps31
      go_wp2
      go_loopw [3] (fun iv wr => ∃ j : Nat, j ≤ n ∧ iv = .int .i64 (j : Int) ∧ Hid (cE (-1) (l.take j) = 0) ∧ Hid (Below w.heap.size w wr)) (fun iv _ => n - (intOf iv).toNat)
      case atStart => exact ⟨0, by omega, rfl, Lib.hid (by simp [cE]), Lib.hid (Below.refl _ _)⟩
      case round =>
        obtain ⟨j, hj, rfl, HP, HW⟩ := hrel
        rcases Nat.lt_or_ge j n with hlt | hge
        · obtain ⟨c, hq⟩ : ∃ c, l[j]? = some c := ⟨_, List.getElem?_eq_getElem (by rw [HN.out]; exact hlt)⟩
          have HQ := Lib.hid hq
          have HB := Lib.hid (cE_bad hq HP.out)
          rw [HR.out] at HB
          by_cases hv : c < 0 ∨ 65535 < c
          · rw [if_pos hv] at HB
            obtain rfl : R = 5 := HB.out
            obtain ⟨b, off, rfl, hb, c0⟩ := (HA.out.below HW.out).open hq
            have hv2 : c < 0 ∨ (0 ≤ c ∧ 65535 < c) := by omega
            clear hv hq
            rcases hv2 with hv | ⟨hv, hv3⟩
            all_goals
              go_wp2
              go_ret
              exact ⟨rfl, HW.out⟩
          · rw [if_neg hv] at HB
            have hv2 : 0 ≤ c ∧ c ≤ 65535 := by omega
            clear hv
            rcases Nat.eq_zero_or_pos j with hj0 | hj0
            · subst hj0
              have HP2 : Hid (cE (-1) (l.take (0 + 1)) = 0) := Lib.hid (cE_full hq HP.out hv2.1 hv2.2 (by unfold ahd; rw [if_pos rfl]; omega))
              obtain ⟨b, off, rfl, hb, c0⟩ := (HA.out.below HW.out).open hq
              rw [Nat.add_zero] at c0
              clear hq HB
              go_wp2
              go_quiet (fail)
              go_wp2
              exact ⟨⟨0 + 1, by omega, by go_num, HP2, Lib.hid (below_drewN HW.out _)⟩, by simp only [intOf]; omega⟩
            · obtain ⟨a, ha⟩ : ∃ a, l[j - 1]? = some a := ⟨_, List.getElem?_eq_getElem (by rw [HN.out]; omega)⟩
              have had : ahd l j = a := by unfold ahd; rw [if_neg (by omega), List.getD, ha]; rfl
              rw [had] at HB
              obtain ⟨b, off, hAe, hb, c0⟩ := (HA.out.below HW.out).open hq
              obtain ⟨b', off', hAe', _, c1⟩ := (HA.out.below HW.out).open ha
              rw [hAe] at hAe'
              injection hAe' with hAe'
              injection hAe' with e1 e2
              subst e1 e2 hAe
              have hj1 : 0 < (j : Int) := by omega
              have hjj : ((j : Int) - 1).toNat = j - 1 := by omega
              by_cases hc : c ≤ a
              · rw [if_pos hc] at HB
                obtain rfl : R = 3 := HB.out
                clear hq ha had
                go_wp2
                go_quiet (fail)
                go_wp2
                go_ret
                exact ⟨rfl, below_drewN HW.out _⟩
              · have HP2 : Hid (cE (-1) (l.take (j + 1)) = 0) := Lib.hid (cE_full hq HP.out hv2.1 hv2.2 (by omega))
                clear hq ha had HB
                go_wp2
                go_quiet (fail)
                go_wp2
                exact ⟨⟨j + 1, by omega, by go_num, HP2, Lib.hid (below_drewN HW.out _)⟩, by simp only [intOf]; omega⟩
        · obtain rfl : j = n := by omega
          obtain rfl : R = 0 := by
            rw [← HR.out]
            have h1 := HP.out
            rwa [List.take_of_length_le (by rw [HN.out]; exact Nat.le_refl _)] at h1
          go_wp2
          go_ret
          exact ⟨rfl, HW.out⟩
end Go.Proofs.Ytnbhiamnoapmlaa

namespace Go.Proofs.Ytnbhiamnoapmlaa
open Go.RowKit Go.Shelf
set_option maxRecDepth 100000
attribute [local go_sem] Oper.semAt_some

set_option maxHeartbeats 8000000 in
theorem rmsame_any (M M' : Mg) (P C P' C' : Value) (w : World) (hs : Msm M) (h1 : MAt w w.heap.size M P C) (h2 : MAt w w.heap.size M' P' C') :
    Calls Try.prog 12 #[mV M P C, mV M' P' C'] w fun e w' => e = .returned (.bool (decide (M = M'))) ∧ Below w.heap.size w w' := by
  obtain ⟨w2, hw2⟩ : ∃ w2, w2 = (w.alloc (.cells (mC M P C) 34)).alloc (.cells (mC M' P' C') 34) := ⟨_, rfl⟩
  have hb2 : Below w.heap.size w w2 := by rw [hw2]; exact ((Below.refl _ w).alloc (Nat.le_refl _) _).alloc (by simp) _
  have HW := Lib.hid hw2
  have g1 := (h1.below hb2).mono hb2.size
  have g2 := (h2.below hb2).mono hb2.size
  obtain ⟨k, n0, n1, n2, n3, n4, n5, p, c, tx, tg⟩ := M
  obtain ⟨k', n0', n1', n2', n3', n4', n5', p', c', tx', tg'⟩ := M'
  obtain ⟨⟨a, cp, rfl, hcp, ha⟩, ⟨b, cb, rfl, hcb, hb⟩⟩ := g1
  obtain ⟨⟨a', cp', rfl, hcp', ha'⟩, ⟨b', cb', rfl, hcb', hb'⟩⟩ := g2
  dsimp only at *
  have hl1 := hs.p
  have hl2 := hs.c
  dsimp only at hl1 hl2
  obtain ⟨np, hnp⟩ : ∃ np, p.length = np := ⟨_, rfl⟩
  obtain ⟨nc, hnc⟩ : ∃ nc, c.length = nc := ⟨_, rfl⟩
  obtain ⟨np', hnp'⟩ : ∃ np', p'.length = np' := ⟨_, rfl⟩
  obtain ⟨nc', hnc'⟩ : ∃ nc', c'.length = nc' := ⟨_, rfl⟩
  rw [hnp] at hcp hl1
  rw [hnc] at hcb hl2
  rw [hnp'] at hcp'
  rw [hnc'] at hcb'
  have KC := rints_any w2.heap.size b b' nc nc' cb cb' c c' w2 hnc hnc' (by omega) hb hb'
  obtain ⟨DC, hDC⟩ : ∃ DC, decide (c = c') = DC := ⟨_, rfl⟩
  rw [hDC] at KC
  have KC := Lib.hid KC
  have HA := Lib.hid (And.intro ha ha')
  unfold mV
  unfold mC at HW ⊢
  dsimp only at HW ⊢
  rw [hnp, hnc, hnp', hnc'] at HW ⊢
  have HNP := Lib.hid (And.intro hnp hnp')
  clear hw2 h1 h2 hb2 ha ha' hb hb' hs hnp hnc hnp' hnc'
  have hfin : ∀ W, Below w2.heap.size w2 W → Hid (Below w.heap.size w W) := fun W hW => by
    have hb2 : Below w.heap.size w w2 := by rw [HW.out]; exact ((Below.refl _ w).alloc (Nat.le_refl _) _).alloc (by simp) _
    exact Lib.hid (hb2.trans (hW.mono hb2.size))
  obtain ⟨D, hD⟩ : ∃ D, decide ((⟨k, n0, n1, n2, n3, n4, n5, p, c, tx, tg⟩ : Mg) = ⟨k', n0', n1', n2', n3', n4', n5', p', c', tx', tg'⟩) = D := ⟨_, rfl⟩
  rw [hD]
  by_cases hk : k = k'
  case neg =>
    have hk1 : (k != k') = true := by simpa using hk
    obtain rfl : D = false := by rw [← hD, decide_eq_false (fun e => hk (congrArg Mg.k e))]
    have HB := hfin w2 (Below.refl _ _)
    rw [HW.out] at HB
    clear hD KC hfin HW
    go_enter Try.func12, Try.ntmps12
    go_wp2
    go_ret
    exact ⟨rfl, HB.out⟩
  subst hk
  by_cases hN : [n0, n1, n2, n3, n4, n5] = [n0', n1', n2', n3', n4', n5']
  case neg =>
    have he : ∀ W, (binOp .neq 22 (.agg #[.int .i64 n0, .int .i64 n1, .int .i64 n2, .int .i64 n3, .int .i64 n4, .int .i64 n5]) (.agg #[.int .i64 n0', .int .i64 n1', .int .i64 n2', .int .i64 n3', .int .i64 n4', .int .i64 n5'])).run Try.prog W = .ok (.bool true) W := fun W => by rw [neq_six, decide_eq_false hN]; rfl
    obtain rfl : D = false := by
      rw [← hD, decide_eq_false (fun e => hN (by injection e with e0 e1 e2 e3 e4 e5 e6; rw [e1, e2, e3, e4, e5, e6]))]
    have HB := hfin w2 (Below.refl _ _)
    rw [HW.out] at HB
    clear hD KC hfin HW hN
    go_enter Try.func12, Try.ntmps12
    go_wp2
    go_ret
    exact ⟨rfl, HB.out⟩
  simp only [List.cons.injEq, and_true] at hN
  obtain ⟨rfl, rfl, rfl, rfl, rfl, rfl⟩ := hN
  have he : ∀ W, (binOp .neq 22 (.agg #[.int .i64 n0, .int .i64 n1, .int .i64 n2, .int .i64 n3, .int .i64 n4, .int .i64 n5]) (.agg #[.int .i64 n0, .int .i64 n1, .int .i64 n2, .int .i64 n3, .int .i64 n4, .int .i64 n5])).run Try.prog W = .ok (.bool false) W := fun W => by rw [neq_six, decide_eq_true rfl]; rfl
  by_cases hnn : np = np'
  case neg =>
    have hnn2 : ((np : Int) != (np' : Int)) = true := by simp; omega
    have hnn3 : ¬ (np : Int) = (np' : Int) := by omega
    obtain rfl : D = false := by
      rw [← hD, decide_eq_false (fun e => hnn (by rw [← HNP.out.1, ← HNP.out.2]; injection e with _ _ _ _ _ _ _ e7; rw [e7]))]
    have HB := hfin w2 (Below.refl _ _)
    rw [HW.out] at HB
    clear hD KC hfin HW
    go_enter Try.func12, Try.ntmps12
    go_wp2
    go_ret
    exact ⟨rfl, HB.out⟩
  subst hnn
  have q1 : w2.heap[w.heap.size]? = some (.cells #[.int .i64 k, .int .i64 n0, .int .i64 n1, .int .i64 n2, .int .i64 n3, .int .i64 n4, .int .i64 n5, .slice a np cp, .slice b nc cb, .string tx, .string tg] 34 (0, 0)) := by
    rw [HW.out, Below.heap_alloc _ _ _ (by simp)]; exact World.alloc_heap_new _ _
  have q2 : w2.heap[w.heap.size + 1]? = some (.cells #[.int .i64 k, .int .i64 n0, .int .i64 n1, .int .i64 n2, .int .i64 n3, .int .i64 n4, .int .i64 n5, .slice a' np cp', .slice b' nc' cb', .string tx', .string tg'] 34 (0, 0)) := by
    rw [HW.out, show w.heap.size + 1 = (w.alloc (.cells #[.int .i64 k, .int .i64 n0, .int .i64 n1, .int .i64 n2, .int .i64 n3, .int .i64 n4, .int .i64 n5, .slice a np cp, .slice b nc cb, .string tx, .string tg] 34)).heap.size by simp]; exact World.alloc_heap_new _ _
  have k1 := fun j x hx => row_cell q1 j x hx
  have k2 := fun j x hx => row_cell q2 j x hx
  have c7 := k1 7 _ rfl; have c9 := k1 9 _ rfl; have c10 := k1 10 _ rfl
  have d7 := k2 7 _ rfl; have d9 := k2 9 _ rfl; have d10 := k2 10 _ rfl
  clear k1 k2 q1 q2
  by_cases hc : c = c'
  case neg =>
    obtain rfl : DC = false := by rw [← hDC, decide_eq_false hc]
    obtain rfl : D = false := by rw [← hD, decide_eq_false (fun e => hc (congrArg Mg.c e))]
    clear hD hc hDC
    go_enter Try.func12, Try.ntmps12
    go_wp2_with fail
    rw [← HW.out]
    refine KC.out.mono ?_
    rintro e W1 ⟨rfl, m1, rfl⟩
    go_wp2
    go_ret
    exact ⟨rfl, (hfin _ (below_of_drewN _ _)).out⟩
  obtain rfl : DC = true := by rw [← hDC, decide_eq_true hc]
  subst hc
  clear hDC
  by_cases ht : tx = tx'
  case neg =>
    have hs := str_ne ht
    obtain rfl : D = false := by rw [← hD, decide_eq_false (fun e => ht (congrArg Mg.tx e))]
    clear hD ht
    go_enter Try.func12, Try.ntmps12
    go_wp2_with fail
    rw [← HW.out]
    refine KC.out.mono ?_
    rintro e W1 ⟨rfl, m1, rfl⟩
    go_wp2
    go_ret
    exact ⟨rfl, (hfin _ (below_of_drewN _ _)).out⟩
  subst ht
  by_cases hg : tg = tg'
  case neg =>
    have hs := str_ne hg
    obtain rfl : D = false := by rw [← hD, decide_eq_false (fun e => hg (congrArg Mg.tg e))]
    clear hD hg
    go_enter Try.func12, Try.ntmps12
    go_wp2_with fail
    rw [← HW.out]
    refine KC.out.mono ?_
    rintro e W1 ⟨rfl, m1, rfl⟩
    go_wp2
    go_ret
    exact ⟨rfl, (hfin _ (below_of_drewN _ _)).out⟩
  subst hg
  obtain rfl : D = decide (p = p') := by
    rw [← hD]
    exact decide_eq_decide.2 ⟨fun e => congrArg Mg.p e, fun e => by rw [e]⟩
  obtain ⟨E, hE⟩ : ∃ E, decide (p = p') = E := ⟨_, rfl⟩
  rw [hE]
  have HE := Lib.hid hE
  clear hD hE
  go_enter Try.func12, Try.ntmps12
  go_wp2_with fail
  rw [← HW.out]
  refine KC.out.mono ?_
  rintro e W1 ⟨rfl, m1, rfl⟩
  clear HW KC
  go_wp2
  go_loopw [5] (fun iv wr => ∃ j : Nat, j ≤ np ∧ iv = .int .i64 (j : Int) ∧ Hid (p.take j = p'.take j) ∧ ∃ n, wr = w2.drewN n) (fun iv _ => np - (intOf iv).toNat)
  case atStart => exact ⟨0, by omega, rfl, Lib.hid rfl, m1, rfl⟩
  case round =>
    obtain ⟨j, hj, rfl, HT, n, rfl⟩ := hrel
    rcases Nat.lt_or_ge j np with hlt | hge
    · obtain ⟨⟨x, x2⟩, hx⟩ : ∃ q, p[j]? = some q := ⟨_, List.getElem?_eq_getElem (by rw [HNP.out.1]; exact hlt)⟩
      obtain ⟨⟨y, y2⟩, hy⟩ : ∃ q, p'[j]? = some q := ⟨_, List.getElem?_eq_getElem (by rw [HNP.out.2]; exact hlt)⟩
      obtain ⟨g1, o1, rfl, hg1, x0, x1⟩ := pts_two HA.out.1 hx
      obtain ⟨g2, o2, rfl, hg2, y0, y1⟩ := pts_two HA.out.2 hy
      dsimp only at x0 x1 y0 y1
      have HX := Lib.hid hx
      have HY := Lib.hid hy
      clear hx hy
      by_cases hxy : x = y ∧ x2 = y2
      · obtain ⟨rfl, rfl⟩ := hxy
        have hnp2 : ∀ W, (binOp .neq 75 (.agg #[.int .i64 x, .int .i64 x2]) (.agg #[.int .i64 x, .int .i64 x2])).run Try.prog W = .ok (.bool false) W := fun W => by rw [neq_two]; simp
        have HQ : Hid (p.take (j + 1) = p'.take (j + 1)) := by
          show _ = _
          rw [List.take_add_one, List.take_add_one, HT.out, HX.out, HY.out]
        go_wp2
        go_quiet (fail)
        go_wp2
        exact ⟨⟨j + 1, by omega, by go_num, HQ, _, rfl⟩, by simp only [intOf]; omega⟩
      · have hnp2 : ∀ W, (binOp .neq 75 (.agg #[.int .i64 x, .int .i64 x2]) (.agg #[.int .i64 y, .int .i64 y2])).run Try.prog W = .ok (.bool true) W := fun W => by rw [neq_two, decide_eq_false (by simpa using hxy)]; rfl
        obtain rfl : E = false := by
          rw [← HE.out]
          refine decide_eq_false (fun e => hxy ?_)
          have h3 := HX.out
          rw [e, HY.out] at h3
          simp at h3
          exact ⟨h3.1.symm, h3.2.symm⟩
        clear hxy
        go_wp2
        go_quiet (fail)
        go_wp2
        go_ret
        exact ⟨rfl, (hfin _ (below_drewN (below_of_drewN _ _) _)).out⟩
    · obtain rfl : j = np := by omega
      obtain rfl : E = true := by
        rw [← HE.out]
        have h3 := HT.out
        rw [List.take_of_length_le (by rw [HNP.out.1]; omega), List.take_of_length_le (by rw [HNP.out.2]; omega)] at h3
        exact decide_eq_true h3
      go_wp2
      go_ret
      exact ⟨rfl, (hfin _ (below_of_drewN _ _)).out⟩
end Go.Proofs.Ytnbhiamnoapmlaa

namespace Go.Proofs.Ytnbhiamnoapmlaa
open Go.RowKit Go.Shelf
set_option maxRecDepth 100000
attribute [local go_sem] Oper.semAt_some

def hasC (L : List Fd) : Array Value := #[.bool (isS L 0), .bool (isS L 1), .bool (isS L 2), .bool (isS L 3), .bool (isS L 4), .bool (isS L 5), .bool (isS L 6)]
def numC (L : List Fd) : Array Value := #[.bool (isN L 0), .bool (isN L 1), .bool (isN L 2), .bool (isN L 3), .bool (isN L 4), .bool (isN L 5)]
theorem isS_app (L : List Fd) (f : Fd) (s : Int) : isS (L ++ [f]) s = (isS L s || decide (f.so = s)) := by simp [isS]
theorem isN_app (L : List Fd) (f : Fd) (i : Nat) : isN (L ++ [f]) i = (isN L i || (decide (f.so < 3) && decide (f.pl.toNat = i))) := by simp [isN]
theorem hasC_set {L : List Fd} {f : Fd} {s : Nat} (hs : s < 7) (h : f.so = (s : Int)) : (hasC L).setIfInBounds s (.bool true) = hasC (L ++ [f]) := by
  unfold hasC
  simp only [isS_app, h]
  rcases s with _ | _ | _ | _ | _ | _ | _ | s
  all_goals first
    | omega
    | simp
theorem numC_set {L : List Fd} {f : Fd} {i : Nat} (hi : i < 6) (h3 : f.so < 3) (h : f.pl = (i : Int)) : (numC L).setIfInBounds i (.bool true) = numC (L ++ [f]) := by
  unfold numC
  simp only [isN_app, h3, h, Int.toNat_natCast]
  rcases i with _ | _ | _ | _ | _ | _ | i
  all_goals first
    | omega
    | simp
theorem numC_same {L : List Fd} {f : Fd} (h3 : ¬ f.so < 3) : numC (L ++ [f]) = numC L := by
  unfold numC
  simp [isN_app, h3]
theorem numC_at {L : List Fd} {i : Nat} (hi : i < 6) : (numC L)[i]? = some (.bool (isN L i)) := by
  rcases i with _ | _ | _ | _ | _ | _ | i <;> first | rfl | omega
theorem hasC_at {L : List Fd} {s : Nat} (hs : s < 7) : (hasC L)[s]? = some (.bool (isS L s)) := by
  rcases s with _ | _ | _ | _ | _ | _ | _ | s <;> first | rfl | omega
/-- the two arrays of flags, bh and the next -/
structure FlB (bh : Nat) (w4 : World) (L : List Fd) (V : World) : Prop where
  has : V.heap[bh]? = some (.cells (hasC L) 70 (0, 0))
  num : V.heap[bh + 1]? = some (.cells (numC L) 71 (0, 0))
  off : Off (fun q => q = bh ∨ q = bh + 1) w4 V
theorem FlB.later {bh : Nat} {w4 V V' : World} {L : List Fd} (h : FlB bh w4 L V) (hb : Below V.heap.size V V') : FlB bh w4 L V' :=
  ⟨(hb.block _ (Array.getElem?_eq_some_iff.1 h.has).1).trans h.has, (hb.block _ (Array.getElem?_eq_some_iff.1 h.num).1).trans h.num, off_below h.off (hb.mono h.off.size)⟩
theorem str_emp {x : ByteArray} (h : x ≠ ⟨#[]⟩) : x.toList.isEmpty = false := by simpa using str_nil h
theorem str_emp0 : (ByteArray.mk #[]).toList.isEmpty = true := by rw [ByteArray.toList_eq]; rfl

set_option maxHeartbeats 32000000 in
theorem rmcheck_any (M : Mg) (P C : Value) (w : World) (hs : Msm M) (h1 : MAt w w.heap.size M P C) : Calls Try.prog 10 #[mV M P C] w fun e w' => e = .returned (.int .i64 (mck M)) ∧ Below w.heap.size w w' := by
  have KR := Lib.hid (rall_any M.k)
  obtain ⟨R, hR⟩ : ∃ R, mck M = R := ⟨_, rfl⟩
  rw [hR]
  unfold mck at hR
  have hRI := rest_iff M
  have h16 := FD_few M.k
  have KF := Lib.hid (FD_fdok M.k)
  obtain ⟨⟨ap, cp, rfl, hcp, ha⟩, ⟨ac, cc, rfl, hcc, hc⟩⟩ := h1
  obtain ⟨w1, hw1⟩ : ∃ w1, w1 = w.alloc (.cells (mC M (.slice ap M.p.length cp) (.slice ac M.c.length cc)) 34) := ⟨_, rfl⟩
  have hb1 : Below w.heap.size w w1 := by rw [hw1]; exact (Below.refl _ w).alloc (Nat.le_refl _) _
  have hs1 : w1.heap.size = w.heap.size + 1 := by rw [hw1]; simp
  have q0 : w1.heap[w.heap.size]? = some (.cells (mC M (.slice ap M.p.length cp) (.slice ac M.c.length cc)) 34 (0, 0)) := by rw [hw1]; exact World.alloc_heap_new _ _
  obtain ⟨np, hnp⟩ : ∃ np, M.p.length = np := ⟨_, rfl⟩
  obtain ⟨nc, hnc⟩ : ∃ nc, M.c.length = nc := ⟨_, rfl⟩
  unfold mV
  simp only [mC, hnp, hnc] at hw1 q0 hcp hcc ⊢
  have HW := Lib.hid hw1
  have HNN := Lib.hid (And.intro hnp hnc)
  clear hw1 hnp hnc
  go_enter Try.func10, Try.ntmps10
  go_wp2_with fail
  rw [← HW.out]
  refine (KR.out w1).mono ?_
  intro e w2 hOf
  obtain ⟨A, cA, rfl, hcA, hA, hb2⟩ := hOf
  clear KR HW
  obtain ⟨L, hL⟩ : ∃ L, FD M.k = L := ⟨_, rfl⟩
  rw [hL] at hR hRI h16 KF hcA hA ⊢
  obtain ⟨n, hn⟩ : ∃ n, L.length = n := ⟨_, rfl⟩
  rw [hn] at h16 hcA ⊢
  have HN := Lib.hid hn
  have p0 := (hb2.block _ (by omega)).trans q0
  have hb02 := hb1.trans (hb2.mono (by omega))
  have hs2 := hb2.size
  by_cases h0 : n = 0
  · subst h0
    rw [if_pos (List.eq_nil_of_length_eq_zero hn)] at hR
    subst hR
    clear hn hL hA hb1 hb2 q0 p0 hRI
    go_wp2
    go_ret
    exact ⟨rfl, hb02⟩
  rw [if_neg (fun e => h0 (by rw [← hn, e]; rfl))] at hR
  have hn0 : ((n : Int) == 0) = false := by simpa using h0
  obtain ⟨w4, hw4⟩ : ∃ w4, w4 = (w2.alloc (.cells (hasC []) 70)).alloc (.cells (numC []) 71) := ⟨_, rfl⟩
  have hs4 : w4.heap.size = w2.heap.size + 2 := by rw [hw4]; simp
  have hb24 : Below w2.heap.size w2 w4 := by rw [hw4]; exact ((Below.refl _ w2).alloc (Nat.le_refl _) _).alloc (by simp) _
  have hF4 : FlB w2.heap.size w4 [] w4 := by
    refine ⟨?_, ?_, Off.refl _ _⟩
    · rw [hw4, Below.heap_alloc _ _ _ (by simp)]; exact World.alloc_heap_new _ _
    · have := World.alloc_heap_new (w2.alloc (.cells (hasC []) 70)) (.cells (numC []) 71)
      rw [World.size_alloc] at this
      rw [hw4]; exact this
  have p4 := (hb24.block _ (by omega)).trans p0
  have hA4 : FdsIn w1.heap.size w4 A L := fun j f hj => by
    obtain ⟨g, h1, h2, h3, h4⟩ := hA j f hj
    exact ⟨g, h1, h2, by omega, fun q u hq => (hb24.cell (p := ⟨g, j * 7 + q, none⟩) h3).trans (h4 q u hq)⟩
  have hAlt : ∀ (j : Nat) f, L[j]? = some f → ∃ g, A = some ⟨g, 0, none⟩ ∧ g < w2.heap.size := fun j f hj => by
    obtain ⟨g, h1, _, h3, _⟩ := hA j f hj
    exact ⟨g, h1, h3⟩
  have HA4 := Lib.hid (And.intro hA4 hAlt)
  have HP4 := Lib.hid p4
  have HB4 := Lib.hid (hb02.trans (hb24.mono (by omega)))
  have HR := Lib.hid (And.intro hR hRI)
  have HM := Lib.hid (And.intro ha hc)
  have HF4 := Lib.hid hF4
  obtain ⟨bh, hbh⟩ : ∃ bh, w2.heap.size = bh := ⟨_, rfl⟩
  have hs14 : w.heap.size < bh := by omega
  rw [hbh] at HF4 HA4 hs4
  simp only [hasC, numC, isS, isN, List.any_nil] at hw4
  have HW4 := Lib.hid hw4
  have HBH := Lib.hid hbh
  clear hw4 hn hL hR hRI h0 hA hA4 hAlt hb1 hb2 hb24 hb02 q0 p0 p4 ha hc hF4 hs1 hs2
  go_wp2_with fail
  rw [← HW4.out]
  clear HW4 HBH hbh
  go_loopw [6] (fun iv wr => ∃ j : Nat, j ≤ n ∧ iv = .int .i64 (j : Int) ∧ Hid (∀ g ∈ L.take j, fE M g = 0) ∧ Hid (FlB bh w4 (L.take j) wr)) (fun iv _ => n - (intOf iv).toNat)
  case atStart => exact ⟨0, by omega, rfl, Lib.hid (by simp), HF4⟩
  case round =>
    obtain ⟨j, hj, rfl, HZ, HF⟩ := hrel
    have hbw : Below w.heap.size w wr := HB4.out.trans (HF.out.off.below (fun k hk => by omega) (by have := HB4.out.size; omega))
    have m0 := (HF.out.off.block w.heap.size (by omega) (by omega)).trans HP4.out
    rcases Nat.lt_or_ge j n with hlt | hge
    · obtain ⟨f, hf⟩ : ∃ f, L[j]? = some f := ⟨_, List.getElem?_eq_getElem (by rw [HN.out]; exact hlt)⟩
      obtain ⟨g, rfl, hgl, _, d0, d1, d2, d3, d4, d5, d6⟩ := HA4.out.1.seven hf
      obtain ⟨g', hg', hgb⟩ := HA4.out.2 j f hf
      injection hg' with hg'
      injection hg' with hg'
      subst hg'
      have k := fun q x (hx : w4.cell? ⟨g, q, none⟩ = some x) => HF.out.off.cell hx (by show ¬ (g = bh ∨ g = bh + 1); omega)
      have d1 := k _ _ d1
      have d2 := k _ _ d2
      have d3 := k _ _ d3
      have d4 := k _ _ d4
      clear k d0 d5 d6
      have ok := KF.out f (List.mem_of_getElem? hf)
      have hso := ok.so
      obtain ⟨E, hE⟩ : ∃ E, fE M f = E := ⟨_, rfl⟩
      have HEd := Lib.hid hE
      have hsL : (L.take (j + 1)) = L.take j ++ [f] := by rw [List.take_add_one, hf]; rfl
      have hj2 : (j : Int) < (n : Int) := by omega
      have hnA : (n : Int) ≤ (cA : Int) := by omega
      have HFf := Lib.hid hf
      have hFh := HF.out.has
      have hFn := HF.out.num
      have hblt := (Array.getElem?_eq_some_iff.1 hFn).1
      have hw4s := HF.out.off.size
      have hgwr : g < wr.heap.size := by omega
      clear hf
      by_cases h3 : f.so = 3
      · have hfe : fE M f = wP M.p 16 := by unfold fE; rw [if_pos h3, ok.mo.1 h3]
        rw [h3] at d1
        have hh := row_cell hFh 3 _ rfl
        have zh := frozen_of_row wr bh 3 _ _ hFh
        obtain ⟨V1, hV1⟩ : ∃ V1, wr.setCell ⟨bh, 3, none⟩ (.bool true) = V1 := ⟨_, rfl⟩
        have ho1 : Off (fun q => q = bh ∨ q = bh + 1) wr V1 := by rw [← hV1]; exact (Off.refl (fun q => q = bh ∨ q = bh + 1) wr).setCell (p := ⟨bh, 3, none⟩) (.inl rfl) _
        have hF1 : FlB bh w4 (L.take (j + 1)) V1 := by
          rw [hsL]
          refine ⟨by rw [← hV1, setCell_at hFh, hasC_set (s := 3) (by omega) h3], ?_, HF.out.off.trans ho1 (fun _ _ h => h)⟩
          rw [numC_same (by omega), ← hV1]
          exact (Below.heap_setCell _ _ _ _ (by show bh + 1 ≠ bh; omega)).trans hFn
        have hbV1 : Below w.heap.size w V1 := hbw.trans (ho1.below (fun k hk => by omega) hbw.size)
        have hm1 := (ho1.block w.heap.size (by omega) (by omega)).trans m0
        have ccl := row_cell hm1 7 _ rfl
        have KW := Lib.hid ((rpath_any ap np cp M.p V1 HNN.out.1 hcp ((HM.out.1.below hbV1).mono hbV1.size)).mono (fun e w' h => (⟨h.1, h.2 ▸ Below.refl _ _⟩ : e = .returned (.int .i64 (wP M.p 16)) ∧ Below V1.heap.size V1 w')))
        rw [← hfe, hE] at KW
        have HV1 := Lib.hid hV1
        have HX1 := Lib.hid hF1
        have HB1 := Lib.hid hbV1
        rw [← hV1] at ccl
        clear hfe hsL hV1 ho1 hF1 hbV1 hm1 m0 hE hFh hFn d2 d3 d4 ok
        go_wp2_with fail
        rw [HV1.out]
        refine KW.out.mono ?_
        rintro e V2 ⟨rfl, hb2⟩
        have HX2 := Lib.hid (HX1.out.later hb2)
        have HBX := Lib.hid (HB1.out.trans (hb2.mono HB1.out.size))
        clear KW HX1 HB1 hb2 HV1 hbw hh zh ccl
        by_cases hE0 : E = 0
        · subst hE0
          have HZ2 : Hid (∀ g ∈ L.take (j + 1), fE M g = 0) := Lib.hid (take_zero HFf.out HZ.out HEd.out)
          go_wp2
          exact ⟨⟨j + 1, by omega, by go_num, HZ2, HX2⟩, by simp only [intOf]; omega⟩
        · have hEn : (E != 0) = true := by simpa using hE0
          have hfe := (firstE_at L M j f HFf.out HZ.out (by rw [HEd.out]; exact hE0)).trans HEd.out
          have hR1 := HR.out.1
          rw [hfe, if_pos hE0] at hR1
          subst hR1
          clear hfe
          go_wp2
          go_ret
          exact ⟨rfl, HBX.out⟩
      by_cases h4 : f.so = 4
      · have hfe : fE M f = wC M.c 32 := by unfold fE; rw [if_neg (by omega), if_pos h4, ok.mo.2.1 h4]
        rw [h4] at d1
        have hh := row_cell hFh 4 _ rfl
        have zh := frozen_of_row wr bh 4 _ _ hFh
        obtain ⟨V1, hV1⟩ : ∃ V1, wr.setCell ⟨bh, 4, none⟩ (.bool true) = V1 := ⟨_, rfl⟩
        have ho1 : Off (fun q => q = bh ∨ q = bh + 1) wr V1 := by rw [← hV1]; exact (Off.refl (fun q => q = bh ∨ q = bh + 1) wr).setCell (p := ⟨bh, 4, none⟩) (.inl rfl) _
        have hF1 : FlB bh w4 (L.take (j + 1)) V1 := by
          rw [hsL]
          refine ⟨by rw [← hV1, setCell_at hFh, hasC_set (s := 4) (by omega) h4], ?_, HF.out.off.trans ho1 (fun _ _ h => h)⟩
          rw [numC_same (by omega), ← hV1]
          exact (Below.heap_setCell _ _ _ _ (by show bh + 1 ≠ bh; omega)).trans hFn
        have hbV1 : Below w.heap.size w V1 := hbw.trans (ho1.below (fun k hk => by omega) hbw.size)
        have hm1 := (ho1.block w.heap.size (by omega) (by omega)).trans m0
        have ccl := row_cell hm1 8 _ rfl
        have KW := Lib.hid (rcells_any ac nc cc M.c V1 HNN.out.2 hcc ((HM.out.2.below hbV1).mono hbV1.size))
        rw [← hfe, hE] at KW
        have HV1 := Lib.hid hV1
        have HX1 := Lib.hid hF1
        have HB1 := Lib.hid hbV1
        rw [← hV1] at ccl
        clear hfe hsL hV1 ho1 hF1 hbV1 hm1 m0 hE hFh hFn d2 d3 d4 ok
        go_wp2_with fail
        rw [HV1.out]
        refine KW.out.mono ?_
        rintro e V2 ⟨rfl, hb2⟩
        have HX2 := Lib.hid (HX1.out.later hb2)
        have HBX := Lib.hid (HB1.out.trans (hb2.mono HB1.out.size))
        clear KW HX1 HB1 hb2 HV1 hbw hh zh ccl
        by_cases hE0 : E = 0
        · subst hE0
          have HZ2 : Hid (∀ g ∈ L.take (j + 1), fE M g = 0) := Lib.hid (take_zero HFf.out HZ.out HEd.out)
          go_wp2
          exact ⟨⟨j + 1, by omega, by go_num, HZ2, HX2⟩, by simp only [intOf]; omega⟩
        · have hEn : (E != 0) = true := by simpa using hE0
          have hfe := (firstE_at L M j f HFf.out HZ.out (by rw [HEd.out]; exact hE0)).trans HEd.out
          have hR1 := HR.out.1
          rw [hfe, if_pos hE0] at hR1
          subst hR1
          clear hfe
          go_wp2
          go_ret
          exact ⟨rfl, HBX.out⟩
      by_cases h5 : f.so = 5
      · have hfe : fE M f = wT M.tx 64 := by unfold fE; rw [if_neg (by omega), if_neg (by omega), if_pos h5, ok.mo.2.2.1 h5]
        rw [h5] at d1
        have hh := row_cell hFh 5 _ rfl
        have zh := frozen_of_row wr bh 5 _ _ hFh
        obtain ⟨V1, hV1⟩ : ∃ V1, wr.setCell ⟨bh, 5, none⟩ (.bool true) = V1 := ⟨_, rfl⟩
        have ho1 : Off (fun q => q = bh ∨ q = bh + 1) wr V1 := by rw [← hV1]; exact (Off.refl (fun q => q = bh ∨ q = bh + 1) wr).setCell (p := ⟨bh, 5, none⟩) (.inl rfl) _
        have hF1 : FlB bh w4 (L.take (j + 1)) V1 := by
          rw [hsL]
          refine ⟨by rw [← hV1, setCell_at hFh, hasC_set (s := 5) (by omega) h5], ?_, HF.out.off.trans ho1 (fun _ _ h => h)⟩
          rw [numC_same (by omega), ← hV1]
          exact (Below.heap_setCell _ _ _ _ (by show bh + 1 ≠ bh; omega)).trans hFn
        have hbV1 : Below w.heap.size w V1 := hbw.trans (ho1.below (fun k hk => by omega) hbw.size)
        have hm1 := (ho1.block w.heap.size (by omega) (by omega)).trans m0
        have ccl := row_cell hm1 9 _ rfl
        have KW := Lib.hid ((rtext_any M.tx 64 (by have := hs.tx; unfold maxLen; omega) V1).mono (fun e w' h => (⟨h.1, h.2 ▸ Below.refl _ _⟩ : e = .returned (.int .i64 (wT M.tx 64)) ∧ Below V1.heap.size V1 w')))
        rw [← hfe, hE] at KW
        have HV1 := Lib.hid hV1
        have HX1 := Lib.hid hF1
        have HB1 := Lib.hid hbV1
        rw [← hV1] at ccl
        clear hfe hsL hV1 ho1 hF1 hbV1 hm1 m0 hE hFh hFn d2 d3 d4 ok
        go_wp2_with fail
        rw [HV1.out]
        refine KW.out.mono ?_
        rintro e V2 ⟨rfl, hb2⟩
        have HX2 := Lib.hid (HX1.out.later hb2)
        have HBX := Lib.hid (HB1.out.trans (hb2.mono HB1.out.size))
        clear KW HX1 HB1 hb2 HV1 hbw hh zh ccl
        by_cases hE0 : E = 0
        · subst hE0
          have HZ2 : Hid (∀ g ∈ L.take (j + 1), fE M g = 0) := Lib.hid (take_zero HFf.out HZ.out HEd.out)
          go_wp2
          exact ⟨⟨j + 1, by omega, by go_num, HZ2, HX2⟩, by simp only [intOf]; omega⟩
        · have hEn : (E != 0) = true := by simpa using hE0
          have hfe := (firstE_at L M j f HFf.out HZ.out (by rw [HEd.out]; exact hE0)).trans HEd.out
          have hR1 := HR.out.1
          rw [hfe, if_pos hE0] at hR1
          subst hR1
          clear hfe
          go_wp2
          go_ret
          exact ⟨rfl, HBX.out⟩
      by_cases h6 : f.so = 6
      · have hfe : fE M f = wT M.tg 16 := by unfold fE; rw [if_neg (by omega), if_neg (by omega), if_neg (by omega), if_pos h6, ok.mo.2.2.2 h6]
        rw [h6] at d1
        have hh := row_cell hFh 6 _ rfl
        have zh := frozen_of_row wr bh 6 _ _ hFh
        obtain ⟨V1, hV1⟩ : ∃ V1, wr.setCell ⟨bh, 6, none⟩ (.bool true) = V1 := ⟨_, rfl⟩
        have ho1 : Off (fun q => q = bh ∨ q = bh + 1) wr V1 := by rw [← hV1]; exact (Off.refl (fun q => q = bh ∨ q = bh + 1) wr).setCell (p := ⟨bh, 6, none⟩) (.inl rfl) _
        have hF1 : FlB bh w4 (L.take (j + 1)) V1 := by
          rw [hsL]
          refine ⟨by rw [← hV1, setCell_at hFh, hasC_set (s := 6) (by omega) h6], ?_, HF.out.off.trans ho1 (fun _ _ h => h)⟩
          rw [numC_same (by omega), ← hV1]
          exact (Below.heap_setCell _ _ _ _ (by show bh + 1 ≠ bh; omega)).trans hFn
        have hbV1 : Below w.heap.size w V1 := hbw.trans (ho1.below (fun k hk => by omega) hbw.size)
        have hm1 := (ho1.block w.heap.size (by omega) (by omega)).trans m0
        have ccl := row_cell hm1 10 _ rfl
        have KW := Lib.hid ((rtext_any M.tg 16 (by have := hs.tg; unfold maxLen; omega) V1).mono (fun e w' h => (⟨h.1, h.2 ▸ Below.refl _ _⟩ : e = .returned (.int .i64 (wT M.tg 16)) ∧ Below V1.heap.size V1 w')))
        rw [← hfe, hE] at KW
        have HV1 := Lib.hid hV1
        have HX1 := Lib.hid hF1
        have HB1 := Lib.hid hbV1
        rw [← hV1] at ccl
        clear hfe hsL hV1 ho1 hF1 hbV1 hm1 m0 hE hFh hFn d2 d3 d4 ok
        go_wp2_with fail
        rw [HV1.out]
        refine KW.out.mono ?_
        rintro e V2 ⟨rfl, hb2⟩
        have HX2 := Lib.hid (HX1.out.later hb2)
        have HBX := Lib.hid (HB1.out.trans (hb2.mono HB1.out.size))
        clear KW HX1 HB1 hb2 HV1 hbw hh zh ccl
        by_cases hE0 : E = 0
        · subst hE0
          have HZ2 : Hid (∀ g ∈ L.take (j + 1), fE M g = 0) := Lib.hid (take_zero HFf.out HZ.out HEd.out)
          go_wp2
          exact ⟨⟨j + 1, by omega, by go_num, HZ2, HX2⟩, by simp only [intOf]; omega⟩
        · have hEn : (E != 0) = true := by simpa using hE0
          have hfe := (firstE_at L M j f HFf.out HZ.out (by rw [HEd.out]; exact hE0)).trans HEd.out
          have hR1 := HR.out.1
          rw [hfe, if_pos hE0] at hR1
          subst hR1
          clear hfe
          go_wp2
          go_ret
          exact ⟨rfl, HBX.out⟩
      obtain ⟨sn, hsn⟩ : ∃ sn : Nat, f.so = (sn : Int) := ⟨f.so.toNat, by omega⟩
      obtain ⟨jn, hjn, hpl⟩ := ok.pl (by omega)
      have hfe : fE M f = wN (M.at' jn) f.le f.mo := by unfold fE; rw [if_neg h3, if_neg h4, if_neg h5, if_neg h6, hpl, Int.toNat_natCast]
      have hs7 : sn < 7 := by omega
      have hh := row_cell hFh sn _ (hasC_at hs7)
      have zh := frozen_of_row wr bh sn _ _ hFh
      obtain ⟨V1, hV1⟩ : ∃ V1, wr.setCell ⟨bh, sn, none⟩ (.bool true) = V1 := ⟨_, rfl⟩
      have hFn1 : V1.heap[bh + 1]? = some (.cells (numC (L.take j)) 71 (0, 0)) := by rw [← hV1]; exact (Below.heap_setCell _ _ _ _ (by show bh + 1 ≠ bh; omega)).trans hFn
      have hn1 := row_cell hFn1 jn _ (numC_at hjn)
      have zn := frozen_of_row V1 (bh + 1) jn _ _ hFn1
      obtain ⟨V2, hV2⟩ : ∃ V2, V1.setCell ⟨bh + 1, jn, none⟩ (.bool true) = V2 := ⟨_, rfl⟩
      have ho2 : Off (fun q => q = bh ∨ q = bh + 1) wr V2 := by rw [← hV2, ← hV1]; exact ((Off.refl (fun q => q = bh ∨ q = bh + 1) wr).setCell (p := ⟨bh, sn, none⟩) (.inl rfl) _).setCell (p := ⟨bh + 1, jn, none⟩) (.inr rfl) _
      have hF2 : FlB bh w4 (L.take (j + 1)) V2 := by
        rw [hsL]
        refine ⟨?_, by rw [← hV2, setCell_at hFn1, numC_set hjn (by omega) hpl], HF.out.off.trans ho2 (fun _ _ h => h)⟩
        rw [← hV2, Below.heap_setCell _ _ _ _ (by show bh ≠ bh + 1; omega), ← hV1, setCell_at hFh, hasC_set hs7 hsn]
      have hbV2 : Below w.heap.size w V2 := hbw.trans (ho2.below (fun k hk => by omega) hbw.size)
      have cn := mg_at (M := M) (P := .slice ap np cp) (C := .slice ac nc cc) ((ho2.block w.heap.size (by omega) (by omega)).trans m0) hjn
      have k2 := fun q x (hx : wr.cell? ⟨g, q, none⟩ = some x) => ho2.cell hx (by show ¬ (g = bh ∨ g = bh + 1); omega)
      have e2 := k2 _ _ d2
      have e3 := k2 _ _ d3
      have e4 := k2 _ _ d4
      obtain ⟨nv, hnv⟩ : ∃ nv, M.at' jn = nv := ⟨_, rfl⟩
      rw [hnv] at cn hfe
      rw [hsn] at d1
      rw [hpl] at d2 e2
      have d2' : V1.cell? ⟨g, j * 7 + 2, none⟩ = some (.int .i64 (jn : Int)) := by
        rw [← hV1]
        exact ((Off.refl (fun q => q = bh) wr).setCell (p := ⟨bh, sn, none⟩) rfl _).cell d2 (by show ¬ g = bh; omega)
      have q3 : ((sn : Int) == 3) = false := by simp; omega
      have q4 : ((sn : Int) == 4) = false := by simp; omega
      have q5 : ((sn : Int) == 5) = false := by simp; omega
      have q6 : ((sn : Int) == 6) = false := by simp; omega
      have hs7i : (sn : Int) < 7 := by omega
      have hj6 : (jn : Int) < 6 := by omega
      have d1' : V1.cell? ⟨g, j * 7 + 1, none⟩ = some (.int .i64 (sn : Int)) := by
        rw [← hV1]
        exact ((Off.refl (fun q => q = bh) wr).setCell (p := ⟨bh, sn, none⟩) rfl _).cell d1 (by show ¬ g = bh; omega)
      rw [← hV1] at d1' d2' hn1 zn
      have HV2 : Hid ((wr.setCell ⟨bh, sn, none⟩ (.bool true)).setCell ⟨bh + 1, jn, none⟩ (.bool true) = V2) := Lib.hid (by rw [hV1]; exact hV2)
      have HX2 := Lib.hid hF2
      have HBX := Lib.hid hbV2
      have HWN := Lib.hid (hfe.symm.trans hE)
      clear hfe hsL hV1 hV2 ho2 hF2 hbV2 m0 hE hFh hFn hFn1 k2 ok hsn hpl hnv d3 d4 hbw hso
      go_wp2
      rw [HV2.out]
      clear HV2 hh zh hn1 zn d1' d2' d1 d2
      by_cases hv1 : nv < f.le
      · have hEv : E = 5 := by rw [← HWN.out]; unfold wN; exact if_pos (.inl hv1)
        subst hEv
        have hfe := (firstE_at L M j f HFf.out HZ.out (by rw [HEd.out]; omega)).trans HEd.out
        have hR1 := HR.out.1
        rw [hfe, if_pos (by omega)] at hR1
        subst hR1
        clear hfe
        go_quiet (fail)
        go_wp2
        go_ret
        exact ⟨rfl, below_drewN HBX.out _⟩
      · by_cases hv2 : f.mo < nv
        · have hEv : E = 5 := by rw [← HWN.out]; unfold wN; exact if_pos (.inr hv2)
          subst hEv
          have hfe := (firstE_at L M j f HFf.out HZ.out (by rw [HEd.out]; omega)).trans HEd.out
          have hR1 := HR.out.1
          rw [hfe, if_pos (by omega)] at hR1
          subst hR1
          clear hfe
          go_quiet (fail)
          go_wp2
          go_ret
          exact ⟨rfl, below_drewN HBX.out _⟩
        · have hEv : E = 0 := by rw [← HWN.out]; unfold wN; exact if_neg (by omega)
          subst hEv
          have HZ2 : Hid (∀ g ∈ L.take (j + 1), fE M g = 0) := Lib.hid (take_zero HFf.out HZ.out HEd.out)
          go_quiet (fail)
          have HX3 := Lib.hid (HX2.out.later (below_of_drewN V2 nq))
          clear HX2 HBX
          go_wp2
          exact ⟨⟨j + 1, by omega, rfl, HZ2, HX3⟩, by simp only [intOf]; omega⟩
    · obtain rfl : j = n := by omega
      have hz := HZ.out
      have hF := HF.out
      rw [List.take_of_length_le (by rw [HN.out]; exact Nat.le_refl _)] at hz hF
      have hf0 := (firstE_zero L M).1 hz
      obtain ⟨hR1, hRI⟩ := HR.out
      rw [hf0, if_neg (by simp)] at hR1
      have HR2 := Lib.hid hR1
      have HRI := Lib.hid hRI
      have HFL := Lib.hid hF
      have HBW := Lib.hid hbw
      have HM0 := Lib.hid m0
      clear hz hf0 hR1 hRI hF hbw m0 HZ HF HR
      go_wp2
      go_loopw [8] (fun iv wr' => ∃ i : Nat, i ≤ 6 ∧ iv = .int .i64 (i : Int) ∧ Hid (∀ i' : Nat, i' < i → isN L i' = false → M.at' i' = 0) ∧ wr' = wr) (fun iv _ => 6 - (intOf iv).toNat)
      case atStart => exact ⟨0, by omega, rfl, Lib.hid (fun i h => by omega), rfl⟩
      case round =>
        obtain ⟨i, hi, rfl, HI, rfl⟩ := hrel
        rcases Nat.lt_or_ge i 6 with hlt6 | hge6
        · have cb := row_cell HFL.out.num i _ (numC_at hlt6)
          have cn := mg_at (M := M) (P := .slice ap np cp) (C := .slice ac nc cc) HM0.out hlt6
          have hi6 : (i : Int) < 6 := by omega
          cases hb : isN L i
          · rw [hb] at cb
            by_cases hz : M.at' i = 0
            · rw [hz] at cn
              have HI2 : Hid (∀ i' : Nat, i' < i + 1 → isN L i' = false → M.at' i' = 0) := Lib.hid (fun i' h hn => by
                rcases Nat.lt_or_ge i' i with h1 | h1
                · exact HI.out i' h1 hn
                · obtain rfl : i' = i := by omega
                  exact hz)
              clear hz hb
              go_wp2
              exact ⟨⟨i + 1, by omega, rfl, HI2, trivial⟩, by simp only [intOf]; omega⟩
            · have hzn : (M.at' i != 0) = true := by simpa using hz
              have hbad : ¬ (L.foldl strip M = Mg.zero M.k) := fun e => hz ((HRI.out.1 e).1 i hlt6 hb)
              have hR1 := HR2.out
              rw [if_neg hbad] at hR1
              subst hR1
              clear hbad hb
              go_wp2
              go_ret
              exact ⟨rfl, HBW.out⟩
          · rw [hb] at cb
            have HI2 : Hid (∀ i' : Nat, i' < i + 1 → isN L i' = false → M.at' i' = 0) := Lib.hid (fun i' h hn => by
              rcases Nat.lt_or_ge i' i with h1 | h1
              · exact HI.out i' h1 hn
              · obtain rfl : i' = i := by omega
                rw [hb] at hn
                cases hn)
            clear cn hb
            go_wp2
            exact ⟨⟨i + 1, by omega, rfl, HI2, trivial⟩, by simp only [intOf]; omega⟩
        · obtain rfl : i = 6 := by omega
          have h3 := row_cell HFL.out.has 3 (.bool (isS L 3)) rfl
          have h4 := row_cell HFL.out.has 4 (.bool (isS L 4)) rfl
          have h5 := row_cell HFL.out.has 5 (.bool (isS L 5)) rfl
          have h6 := row_cell HFL.out.has 6 (.bool (isS L 6)) rfl
          obtain ⟨_, _, _, _, _, _, _, c7, c8, c9, c10⟩ := mg_block (M := M) HM0.out
          have hnp := HNN.out.1
          have hnc := HNN.out.2
          have HI6 := Lib.hid HI.out
          have HRI2 := Lib.hid HRI.out
          obtain ⟨s3, hs3⟩ : ∃ s3, isS L 3 = s3 := ⟨_, rfl⟩
          obtain ⟨s4, hs4'⟩ : ∃ s4, isS L 4 = s4 := ⟨_, rfl⟩
          obtain ⟨s5, hs5⟩ : ∃ s5, isS L 5 = s5 := ⟨_, rfl⟩
          obtain ⟨s6, hs6⟩ : ∃ s6, isS L 6 = s6 := ⟨_, rfl⟩
          rw [hs3] at h3 HRI2
          rw [hs4'] at h4 HRI2
          rw [hs5] at h5 HRI2
          rw [hs6] at h6 HRI2
          have e7 : M.p = [] ↔ np = 0 := by rw [← hnp]; exact ⟨fun e => by rw [e]; rfl, fun e => List.eq_nil_of_length_eq_zero e⟩
          have e8 : M.c = [] ↔ nc = 0 := by rw [← hnc]; exact ⟨fun e => by rw [e]; rfl, fun e => List.eq_nil_of_length_eq_zero e⟩
          rw [e7, e8] at HRI2
          obtain ⟨tx, htx⟩ : ∃ tx, M.tx = tx := ⟨_, rfl⟩
          obtain ⟨tg, htg⟩ : ∃ tg, M.tg = tg := ⟨_, rfl⟩
          rw [htx] at c9 HRI2
          rw [htg] at c10 HRI2
          have hnd := fun (h : ¬ (L.foldl strip M = Mg.zero M.k)) => (show R = 3 by have hR1 := HR2.out; rw [if_neg h] at hR1; exact hR1.symm)
          have hyd := fun (h : L.foldl strip M = Mg.zero M.k) => (show R = 0 by have hR1 := HR2.out; rw [if_pos h] at hR1; exact hR1.symm)
          have HND := Lib.hid hnd
          have HYD := Lib.hid hyd
          clear hnp hnc hs3 hs4' hs5 hs6 e7 e8 htx htg hnd hyd HR2 HRI HFL HM0
          cases s3
          · by_cases e0 : np = 0
            · have z0 : false = false → np = 0 := fun _ => e0
              subst e0
              cases s4
              · by_cases e1 : nc = 0
                · have z1 : false = false → nc = 0 := fun _ => e1
                  subst e1
                  cases s5
                  · by_cases e2 : tx = ⟨#[]⟩
                    · have z2 : false = false → tx = ⟨#[]⟩ := fun _ => e2
                      subst e2
                      have u2 := str_emp0
                      cases s6
                      · by_cases e3 : tg = ⟨#[]⟩
                        · have z3 : false = false → tg = ⟨#[]⟩ := fun _ => e3
                          subst e3
                          have u3 := str_emp0
                          obtain rfl : R = 0 := HYD.out (HRI2.out.2 ⟨HI6.out, z0, z1, z2, z3⟩)
                          go_wp2
                          go_ret
                          exact ⟨rfl, HBW.out⟩
                        · obtain rfl : R = 3 := HND.out (fun e => e3 (by have h := HRI2.out.1 e; exact h.2.2.2.2 rfl))
                          have u3 := str_emp e3
                          have w3 := str_nil e3
                          go_wp2
                          go_ret
                          exact ⟨rfl, HBW.out⟩
                      · have z3 : true = false → tg = ⟨#[]⟩ := fun h => by cases h
                        obtain rfl : R = 0 := HYD.out (HRI2.out.2 ⟨HI6.out, z0, z1, z2, z3⟩)
                        go_wp2
                        go_ret
                        exact ⟨rfl, HBW.out⟩
                    · obtain rfl : R = 3 := HND.out (fun e => e2 (by have h := HRI2.out.1 e; exact h.2.2.2.1 rfl))
                      have u2 := str_emp e2
                      have w2 := str_nil e2
                      go_wp2
                      go_ret
                      exact ⟨rfl, HBW.out⟩
                  · have z2 : true = false → tx = ⟨#[]⟩ := fun h => by cases h
                    cases s6
                    · by_cases e3 : tg = ⟨#[]⟩
                      · have z3 : false = false → tg = ⟨#[]⟩ := fun _ => e3
                        subst e3
                        have u3 := str_emp0
                        obtain rfl : R = 0 := HYD.out (HRI2.out.2 ⟨HI6.out, z0, z1, z2, z3⟩)
                        go_wp2
                        go_ret
                        exact ⟨rfl, HBW.out⟩
                      · obtain rfl : R = 3 := HND.out (fun e => e3 (by have h := HRI2.out.1 e; exact h.2.2.2.2 rfl))
                        have u3 := str_emp e3
                        have w3 := str_nil e3
                        go_wp2
                        go_ret
                        exact ⟨rfl, HBW.out⟩
                    · have z3 : true = false → tg = ⟨#[]⟩ := fun h => by cases h
                      obtain rfl : R = 0 := HYD.out (HRI2.out.2 ⟨HI6.out, z0, z1, z2, z3⟩)
                      go_wp2
                      go_ret
                      exact ⟨rfl, HBW.out⟩
                · obtain rfl : R = 3 := HND.out (fun e => e1 (by have h := HRI2.out.1 e; exact h.2.2.1 rfl))
                  have u1 : 0 < (nc : Int) := by omega
                  go_wp2
                  go_ret
                  exact ⟨rfl, HBW.out⟩
              · have z1 : true = false → nc = 0 := fun h => by cases h
                cases s5
                · by_cases e2 : tx = ⟨#[]⟩
                  · have z2 : false = false → tx = ⟨#[]⟩ := fun _ => e2
                    subst e2
                    have u2 := str_emp0
                    cases s6
                    · by_cases e3 : tg = ⟨#[]⟩
                      · have z3 : false = false → tg = ⟨#[]⟩ := fun _ => e3
                        subst e3
                        have u3 := str_emp0
                        obtain rfl : R = 0 := HYD.out (HRI2.out.2 ⟨HI6.out, z0, z1, z2, z3⟩)
                        go_wp2
                        go_ret
                        exact ⟨rfl, HBW.out⟩
                      · obtain rfl : R = 3 := HND.out (fun e => e3 (by have h := HRI2.out.1 e; exact h.2.2.2.2 rfl))
                        have u3 := str_emp e3
                        have w3 := str_nil e3
                        go_wp2
                        go_ret
                        exact ⟨rfl, HBW.out⟩
                    · have z3 : true = false → tg = ⟨#[]⟩ := fun h => by cases h
                      obtain rfl : R = 0 := HYD.out (HRI2.out.2 ⟨HI6.out, z0, z1, z2, z3⟩)
                      go_wp2
                      go_ret
                      exact ⟨rfl, HBW.out⟩
                  · obtain rfl : R = 3 := HND.out (fun e => e2 (by have h := HRI2.out.1 e; exact h.2.2.2.1 rfl))
                    have u2 := str_emp e2
                    have w2 := str_nil e2
                    go_wp2
                    go_ret
                    exact ⟨rfl, HBW.out⟩
                · have z2 : true = false → tx = ⟨#[]⟩ := fun h => by cases h
                  cases s6
                  · by_cases e3 : tg = ⟨#[]⟩
                    · have z3 : false = false → tg = ⟨#[]⟩ := fun _ => e3
                      subst e3
                      have u3 := str_emp0
                      obtain rfl : R = 0 := HYD.out (HRI2.out.2 ⟨HI6.out, z0, z1, z2, z3⟩)
                      go_wp2
                      go_ret
                      exact ⟨rfl, HBW.out⟩
                    · obtain rfl : R = 3 := HND.out (fun e => e3 (by have h := HRI2.out.1 e; exact h.2.2.2.2 rfl))
                      have u3 := str_emp e3
                      have w3 := str_nil e3
                      go_wp2
                      go_ret
                      exact ⟨rfl, HBW.out⟩
                  · have z3 : true = false → tg = ⟨#[]⟩ := fun h => by cases h
                    obtain rfl : R = 0 := HYD.out (HRI2.out.2 ⟨HI6.out, z0, z1, z2, z3⟩)
                    go_wp2
                    go_ret
                    exact ⟨rfl, HBW.out⟩
            · obtain rfl : R = 3 := HND.out (fun e => e0 (by have h := HRI2.out.1 e; exact h.2.1 rfl))
              have u0 : 0 < (np : Int) := by omega
              go_wp2
              go_ret
              exact ⟨rfl, HBW.out⟩
          · have z0 : true = false → np = 0 := fun h => by cases h
            cases s4
            · by_cases e1 : nc = 0
              · have z1 : false = false → nc = 0 := fun _ => e1
                subst e1
                cases s5
                · by_cases e2 : tx = ⟨#[]⟩
                  · have z2 : false = false → tx = ⟨#[]⟩ := fun _ => e2
                    subst e2
                    have u2 := str_emp0
                    cases s6
                    · by_cases e3 : tg = ⟨#[]⟩
                      · have z3 : false = false → tg = ⟨#[]⟩ := fun _ => e3
                        subst e3
                        have u3 := str_emp0
                        obtain rfl : R = 0 := HYD.out (HRI2.out.2 ⟨HI6.out, z0, z1, z2, z3⟩)
                        go_wp2
                        go_ret
                        exact ⟨rfl, HBW.out⟩
                      · obtain rfl : R = 3 := HND.out (fun e => e3 (by have h := HRI2.out.1 e; exact h.2.2.2.2 rfl))
                        have u3 := str_emp e3
                        have w3 := str_nil e3
                        go_wp2
                        go_ret
                        exact ⟨rfl, HBW.out⟩
                    · have z3 : true = false → tg = ⟨#[]⟩ := fun h => by cases h
                      obtain rfl : R = 0 := HYD.out (HRI2.out.2 ⟨HI6.out, z0, z1, z2, z3⟩)
                      go_wp2
                      go_ret
                      exact ⟨rfl, HBW.out⟩
                  · obtain rfl : R = 3 := HND.out (fun e => e2 (by have h := HRI2.out.1 e; exact h.2.2.2.1 rfl))
                    have u2 := str_emp e2
                    have w2 := str_nil e2
                    go_wp2
                    go_ret
                    exact ⟨rfl, HBW.out⟩
                · have z2 : true = false → tx = ⟨#[]⟩ := fun h => by cases h
                  cases s6
                  · by_cases e3 : tg = ⟨#[]⟩
                    · have z3 : false = false → tg = ⟨#[]⟩ := fun _ => e3
                      subst e3
                      have u3 := str_emp0
                      obtain rfl : R = 0 := HYD.out (HRI2.out.2 ⟨HI6.out, z0, z1, z2, z3⟩)
                      go_wp2
                      go_ret
                      exact ⟨rfl, HBW.out⟩
                    · obtain rfl : R = 3 := HND.out (fun e => e3 (by have h := HRI2.out.1 e; exact h.2.2.2.2 rfl))
                      have u3 := str_emp e3
                      have w3 := str_nil e3
                      go_wp2
                      go_ret
                      exact ⟨rfl, HBW.out⟩
                  · have z3 : true = false → tg = ⟨#[]⟩ := fun h => by cases h
                    obtain rfl : R = 0 := HYD.out (HRI2.out.2 ⟨HI6.out, z0, z1, z2, z3⟩)
                    go_wp2
                    go_ret
                    exact ⟨rfl, HBW.out⟩
              · obtain rfl : R = 3 := HND.out (fun e => e1 (by have h := HRI2.out.1 e; exact h.2.2.1 rfl))
                have u1 : 0 < (nc : Int) := by omega
                go_wp2
                go_ret
                exact ⟨rfl, HBW.out⟩
            · have z1 : true = false → nc = 0 := fun h => by cases h
              cases s5
              · by_cases e2 : tx = ⟨#[]⟩
                · have z2 : false = false → tx = ⟨#[]⟩ := fun _ => e2
                  subst e2
                  have u2 := str_emp0
                  cases s6
                  · by_cases e3 : tg = ⟨#[]⟩
                    · have z3 : false = false → tg = ⟨#[]⟩ := fun _ => e3
                      subst e3
                      have u3 := str_emp0
                      obtain rfl : R = 0 := HYD.out (HRI2.out.2 ⟨HI6.out, z0, z1, z2, z3⟩)
                      go_wp2
                      go_ret
                      exact ⟨rfl, HBW.out⟩
                    · obtain rfl : R = 3 := HND.out (fun e => e3 (by have h := HRI2.out.1 e; exact h.2.2.2.2 rfl))
                      have u3 := str_emp e3
                      have w3 := str_nil e3
                      go_wp2
                      go_ret
                      exact ⟨rfl, HBW.out⟩
                  · have z3 : true = false → tg = ⟨#[]⟩ := fun h => by cases h
                    obtain rfl : R = 0 := HYD.out (HRI2.out.2 ⟨HI6.out, z0, z1, z2, z3⟩)
                    go_wp2
                    go_ret
                    exact ⟨rfl, HBW.out⟩
                · obtain rfl : R = 3 := HND.out (fun e => e2 (by have h := HRI2.out.1 e; exact h.2.2.2.1 rfl))
                  have u2 := str_emp e2
                  have w2 := str_nil e2
                  go_wp2
                  go_ret
                  exact ⟨rfl, HBW.out⟩
              · have z2 : true = false → tx = ⟨#[]⟩ := fun h => by cases h
                cases s6
                · by_cases e3 : tg = ⟨#[]⟩
                  · have z3 : false = false → tg = ⟨#[]⟩ := fun _ => e3
                    subst e3
                    have u3 := str_emp0
                    obtain rfl : R = 0 := HYD.out (HRI2.out.2 ⟨HI6.out, z0, z1, z2, z3⟩)
                    go_wp2
                    go_ret
                    exact ⟨rfl, HBW.out⟩
                  · obtain rfl : R = 3 := HND.out (fun e => e3 (by have h := HRI2.out.1 e; exact h.2.2.2.2 rfl))
                    have u3 := str_emp e3
                    have w3 := str_nil e3
                    go_wp2
                    go_ret
                    exact ⟨rfl, HBW.out⟩
                · have z3 : true = false → tg = ⟨#[]⟩ := fun h => by cases h
                  obtain rfl : R = 0 := HYD.out (HRI2.out.2 ⟨HI6.out, z0, z1, z2, z3⟩)
                  go_wp2
                  go_ret
                  exact ⟨rfl, HBW.out⟩
end Go.Proofs.Ytnbhiamnoapmlaa

namespace Go.Proofs.Ytnbhiamnoapmlaa
open Go.RowKit Go.Shelf
set_option maxRecDepth 100000
attribute [local go_sem] Oper.semAt_some

set_option maxHeartbeats 16000000 in
theorem rmproject_any (M : Mg) (ap ac : Option Addr) (np nc cp cc : Nat) (v : Int) (w : World) : Calls Try.prog 13 #[mV M (.slice ap np cp) (.slice ac nc cc), .int .i64 v] w fun e w' => e = .returned (mV (mproj M v) (.slice ap np cp) (.slice ac nc cc)) ∧ Below w.heap.size w w' := by
  obtain ⟨G, hG⟩ : ∃ G, mproj M v = G := ⟨_, rfl⟩
  rw [hG]
  unfold mproj at hG
  obtain ⟨w2, hw2⟩ : ∃ w2, w2 = (w.alloc (.cells (mC M (.slice ap np cp) (.slice ac nc cc)) 34)).alloc (.cells (mC (Mg.zero 0) (.slice none 0 0) (.slice none 0 0)) 34) := ⟨_, rfl⟩
  have hs2 : w2.heap.size = w.heap.size + 2 := by rw [hw2]; simp
  have hb2 : Below w.heap.size w w2 := by rw [hw2]; exact ((Below.refl _ w).alloc (Nat.le_refl _) _).alloc (by simp) _
  have q0 : w2.heap[w.heap.size]? = some (.cells (mC M (.slice ap np cp) (.slice ac nc cc)) 34 (0, 0)) := by
    rw [hw2, Below.heap_alloc _ _ _ (by simp)]; exact World.alloc_heap_new _ _
  have q1 : w2.heap[w.heap.size + 1]? = some (.cells (mC (Mg.zero 0) (.slice none 0 0) (.slice none 0 0)) 34 (0, 0)) := by
    have := World.alloc_heap_new (w.alloc (.cells (mC M (.slice ap np cp) (.slice ac nc cc)) 34)) (.cells (mC (Mg.zero 0) (.slice none 0 0) (.slice none 0 0)) 34)
    rw [World.size_alloc] at this
    rw [hw2]; exact this
  have KR := Lib.hid (rall_any M.k)
  unfold mV
  simp only [mC, Mg.zero] at hw2 ⊢
  have HW := Lib.hid hw2
  by_cases hv : v = 1
  case neg =>
    have hvn : (v != 1) = true := by simpa using hv
    rw [if_neg hv] at hG
    subst hG
    obtain ⟨f0, f1, f2, f3, f4, f5, f6, f7, f8, f9, f10⟩ := mg_block q0
    have HR1 := Lib.hid q1
    have HB2 := Lib.hid hb2
    have HR1' := Lib.hid (hw2 ▸ q1)
    clear f0 f1 f2 f3 f4 f5 f6 f7 f8 f9 f10 q0 q1 hb2 hw2 hs2 hv KR
    go_enter Try.func13, Try.ntmps13
    go_wp2_with (refine wpList_store_row rfl 34 (.tmp 4) (.tmp 9) rfl (w.heap.size + 1) #[.int .i64 M.k, .int .i64 M.n0, .int .i64 M.n1, .int .i64 M.n2, .int .i64 M.n3, .int .i64 M.n4, .int .i64 M.n5, .slice ap np cp, .slice ac nc cc, .string M.tx, .string M.tg] rfl rfl 34 _ HR1'.out rmInfo rfl (by simp [Value.oneCell']) ?_)
    rw [← HW.out]
    have hfin := setRow_heap w2 (w.heap.size + 1) _ #[.int .i64 M.k, .int .i64 M.n0, .int .i64 M.n1, .int .i64 M.n2, .int .i64 M.n3, .int .i64 M.n4, .int .i64 M.n5, .slice ap np cp, .slice ac nc cc, .string M.tx, .string M.tg] _ _ HR1.out
    have hoff := Off.setRow (S := fun k => k = w.heap.size + 1) (Off.refl _ w2) rfl #[.int .i64 M.k, .int .i64 M.n0, .int .i64 M.n1, .int .i64 M.n2, .int .i64 M.n3, .int .i64 M.n4, .int .i64 M.n5, .slice ap np cp, .slice ac nc cc, .string M.tx, .string M.tg]
    have hbf := HB2.out.trans (hoff.below (B := w.heap.size) (fun k hk => by omega) HB2.out.size)
    generalize w2.setRow (w.heap.size + 1) _ = Wf at *
    obtain ⟨y0, y1, y2, y3, y4, y5, y6, y7, y8, y9, y10⟩ := mg_block hfin
    refine bodyPost_ret (v := .agg #[.int .i64 M.k, .int .i64 M.n0, .int .i64 M.n1, .int .i64 M.n2, .int .i64 M.n3, .int .i64 M.n4, .int .i64 M.n5, .slice ap np cp, .slice ac nc cc, .string M.tx, .string M.tg]) (by simp [results, Try.results13, go_sem, y0, y1, y2, y3, y4, y5, y6, y7, y8, y9, y10]) rfl ?_
    exact ⟨rfl, hbf⟩
  subst hv
  rw [if_pos rfl] at hG
  have KF := Lib.hid (FD_fdok M.k)
  have h6 := FD_few M.k
  have kk := row_cell q0 0 (.int .i64 M.k) rfl
  rw [hw2] at kk
  have HQ := Lib.hid (And.intro q0 q1)
  have HB2 := Lib.hid hb2
  clear hw2 q0 q1 hb2
  go_enter Try.func13, Try.ntmps13
  go_wp2_with fail
  rw [← HW.out]
  refine (KR.out w2).mono ?_
  intro e w3 hOf
  obtain ⟨A, cA, rfl, hcA, hA, hb3⟩ := hOf
  have p0 := (hb3.block _ (by omega)).trans HQ.out.1
  have p1 := (hb3.block _ (by omega)).trans HQ.out.2
  have hs3 := hb3.size
  have HB3 := Lib.hid (HB2.out.trans (hb3.mono HB2.out.size))
  obtain ⟨L, hL⟩ : ∃ L, FD M.k = L := ⟨_, rfl⟩
  rw [hL] at hG KF h6 hcA hA ⊢
  obtain ⟨n, hn⟩ : ∃ n, L.length = n := ⟨_, rfl⟩
  rw [hn] at h6 hcA ⊢
  have HN := Lib.hid hn
  have HG := Lib.hid hG
  have HA := Lib.hid hA
  have HGE : Hid (∀ g, A = some ⟨g, 0, none⟩ → L ≠ [] → w.heap.size + 2 ≤ g) := Lib.hid (fun g hg hne => by
    obtain ⟨f, r, rfl⟩ := List.exists_cons_of_ne_nil hne
    obtain ⟨g', h1, h2, _⟩ := hA 0 f rfl
    rw [hg] at h1
    injection h1 with h1
    injection h1 with h1
    omega)
  have HP := Lib.hid (And.intro p0 p1)
  clear hL hn hG hA hb3 p0 p1 kk HQ HB2 KR HW
  go_wp2
  go_loopw [6] (fun iv wr => ∃ j : Nat, j ≤ n ∧ iv = .int .i64 (j : Int) ∧ Hid (wr.heap[w.heap.size]? = some (.cells (mC ((L.take j).foldl prj M) (.slice ap np cp) (.slice ac nc cc)) 34 (0, 0))) ∧ Hid (Off (fun q => q = w.heap.size) w3 wr)) (fun iv _ => n - (intOf iv).toNat)
  case atStart => exact ⟨0, by omega, rfl, Lib.hid HP.out.1, Lib.hid (Off.refl _ _)⟩
  case round =>
    obtain ⟨j, hj, rfl, HM, HO⟩ := hrel
    rcases Nat.lt_or_ge j n with hlt | hge
    · obtain ⟨f, hf⟩ : ∃ f, L[j]? = some f := ⟨_, List.getElem?_eq_getElem (by rw [HN.out]; exact hlt)⟩
      obtain ⟨g, rfl, _, hgl, d0, d1, d2, d3, d4, d5, d6⟩ := HA.out.seven hf
      have k := fun q x (hx : w3.cell? ⟨g, q, none⟩ = some x) => HO.out.cell hx (by show ¬ (g = w.heap.size); have := HGE.out g rfl (fun e => by rw [e] at hf; simp at hf); omega)
      have d1 := k _ _ d1
      have d2 := k _ _ d2
      have d3 := k _ _ d3
      have d5 := k _ _ d5
      have d6 := k _ _ d6
      clear k d0 d4
      have ok := KF.out f (List.mem_of_getElem? hf)
      have hst := fold_take hf prj M
      have HST := Lib.hid hst
      have hj2 : (j : Int) < (n : Int) := by omega
      have hnA : (n : Int) ≤ (cA : Int) := by omega
      obtain ⟨Mj, hMj⟩ : ∃ Mj, (L.take j).foldl prj M = Mj := ⟨_, rfl⟩
      rw [hMj] at HM HST
      have hgw : g ≠ w.heap.size := by have := HGE.out g rfl (fun e => by rw [e] at hf; simp at hf); omega
      clear hf hst hMj d3
      by_cases hsi : f.si ≤ 1
      · have hp : prj Mj f = Mj := if_pos hsi
        have q2 : (f.si == 2) = false := by simp; omega
        rw [hp] at HST
        clear hp ok hsi d1 d2 d6
        go_wp2
        exact ⟨⟨j + 1, by omega, by go_num, by rw [HST.out]; exact HM, HO⟩, by simp only [intOf]; omega⟩
      · have hs2' : f.si = 2 := by rcases ok.si with h | h <;> omega
        rw [hs2'] at d5
        by_cases h6 : f.so = 6
        · have hp : prj Mj f = { Mj with tg := ⟨#[]⟩ } := by unfold prj; rw [if_neg hsi, if_pos h6]
          have hno := ok.no (by omega)
          rw [h6] at d1
          rw [hno] at d2
          have c10 := (mg_block HM.out).2.2.2.2.2.2.2.2.2.2
          have z10 := frozen_of_row wr w.heap.size 10 _ _ HM.out
          have HM2 : Hid ((wr.setCell ⟨w.heap.size, 10, none⟩ (.string ⟨#[]⟩)).heap[w.heap.size]? = some (.cells (mC (prj Mj f) (.slice ap np cp) (.slice ac nc cc)) 34 (0, 0))) := Lib.hid (by rw [setCell_at HM.out, hp]; rfl)
          have HO2 := Lib.hid (HO.out.setCell (p := ⟨w.heap.size, 10, none⟩) rfl (.string ⟨#[]⟩))
          clear hp ok hsi hno hs2' d6
          go_wp2
          exact ⟨⟨j + 1, by omega, by go_num, by rw [HST.out]; exact HM2, HO2⟩, by simp only [intOf]; omega⟩
        · have q6 : (f.so == 6) = false := by simpa using h6
          by_cases h3 : f.so < 3
          · obtain ⟨jn, hjn, hpl⟩ := ok.pl h3
            have hp : prj Mj f = Mj.put jn f.ab := by unfold prj; rw [if_neg hsi, if_neg h6, if_pos (by omega), hpl, Int.toNat_natCast]
            rw [hpl] at d2
            have cn := mg_at HM.out hjn
            have zn := frozen_of_row wr w.heap.size (1 + jn) _ _ HM.out
            have HM2 : Hid ((wr.setCell ⟨w.heap.size, 1 + jn, none⟩ (.int .i64 f.ab)).heap[w.heap.size]? = some (.cells (mC (prj Mj f) (.slice ap np cp) (.slice ac nc cc)) 34 (0, 0))) := Lib.hid (by rw [setCell_at HM.out, mC_put hjn, hp])
            have HO2 := Lib.hid (HO.out.setCell (p := ⟨w.heap.size, 1 + jn, none⟩) rfl (.int .i64 f.ab))
            have hj6 : (jn : Int) < 6 := by omega
            clear hp ok hsi hpl hs2' h3 h6
            go_wp2
            go_region
            go_wp2
            exact ⟨⟨j + 1, by omega, by go_num, by rw [HST.out]; exact HM2, Lib.hid (off_below HO2.out ((Below.refl _ _).drew))⟩, by simp only [intOf]; omega⟩
          · have hno := ok.no h3
            have hp : prj Mj f = Mj := by unfold prj; rw [if_neg hsi, if_neg h6, if_neg (by omega)]
            rw [hp] at HST
            rw [hno] at d2
            clear hp ok hsi hno hs2' h3 d6
            go_wp2
            exact ⟨⟨j + 1, by omega, by go_num, by rw [HST.out]; exact HM, HO⟩, by simp only [intOf]; omega⟩
    · obtain rfl : j = n := by omega
      have hm := HM.out
      rw [List.take_of_length_le (by rw [HN.out]; exact Nat.le_refl _), HG.out] at hm
      obtain ⟨f0, f1, f2, f3, f4, f5, f6, f7, f8, f9, f10⟩ := mg_block hm
      have HR1 := Lib.hid ((HO.out.block (w.heap.size + 1) (by omega) (by omega)).trans HP.out.2)
      have HBW := Lib.hid (HB3.out.trans (HO.out.below (B := w.heap.size) (fun k hk => by omega) HB3.out.size))
      clear hm
      go_wp2_with (refine wpList_store_row rfl 34 (.tmp 4) (.tmp 60) rfl (w.heap.size + 1) #[.int .i64 G.k, .int .i64 G.n0, .int .i64 G.n1, .int .i64 G.n2, .int .i64 G.n3, .int .i64 G.n4, .int .i64 G.n5, .slice ap np cp, .slice ac nc cc, .string G.tx, .string G.tg] rfl rfl 34 _ HR1.out rmInfo rfl (by simp [Value.oneCell']) ?_)
      have hfin := setRow_heap wr (w.heap.size + 1) _ #[.int .i64 G.k, .int .i64 G.n0, .int .i64 G.n1, .int .i64 G.n2, .int .i64 G.n3, .int .i64 G.n4, .int .i64 G.n5, .slice ap np cp, .slice ac nc cc, .string G.tx, .string G.tg] _ _ HR1.out
      have hoff := Off.setRow (S := fun k => k = w.heap.size + 1) (Off.refl _ wr) rfl #[.int .i64 G.k, .int .i64 G.n0, .int .i64 G.n1, .int .i64 G.n2, .int .i64 G.n3, .int .i64 G.n4, .int .i64 G.n5, .slice ap np cp, .slice ac nc cc, .string G.tx, .string G.tg]
      have hbf := HBW.out.trans (hoff.below (B := w.heap.size) (fun k hk => by omega) HBW.out.size)
      generalize wr.setRow (w.heap.size + 1) _ = Wf at *
      obtain ⟨y0, y1, y2, y3, y4, y5, y6, y7, y8, y9, y10⟩ := mg_block hfin
      refine bodyPost_ret (v := .agg #[.int .i64 G.k, .int .i64 G.n0, .int .i64 G.n1, .int .i64 G.n2, .int .i64 G.n3, .int .i64 G.n4, .int .i64 G.n5, .slice ap np cp, .slice ac nc cc, .string G.tx, .string G.tg]) (by simp [results, Try.results13, go_sem, y0, y1, y2, y3, y4, y5, y6, y7, y8, y9, y10]) rfl ?_
      exact ⟨rfl, hbf⟩
end Go.Proofs.Ytnbhiamnoapmlaa

namespace Go.Proofs.Ytnbhiamnoapmlaa
open Go.RowKit Go.Shelf
set_option maxRecDepth 100000
attribute [local go_sem] Oper.semAt_some

/-- a message's box b2 of the document's, its lists in rows of its own at base or above -/
structure RnB (b2 base : Nat) (w4 : World) (M : Mg) (V : World) : Prop where
  m : ∃ P C, V.heap[b2]? = some (.cells (mC M P C) 34 (0, 0)) ∧ V.ownsRow base 75 2 P M.p.length ((fl2 M.p).map (Value.int .i64)) ∧ V.ownsRow base 3 1 C M.c.length (M.c.map (Value.int .i64))
  off : Off (fun q => q = b2) w4 V
section
variable {b2 base : Nat} {w4 V V' : World} {M M' : Mg}
theorem RnB.later (h : RnB b2 base w4 M V) (hb : Below V.heap.size V V') : RnB b2 base w4 M V' := by
  obtain ⟨P, C, h1, h2, h3⟩ := h.m
  exact ⟨⟨P, C, (hb.block _ (Array.getElem?_eq_some_iff.1 h1).1).trans h1, own_below7 h2 hb, own_below7 h3 hb⟩, off_below h.off (hb.mono h.off.size)⟩
theorem RnB.set (h : RnB b2 base w4 M V) (hb : b2 < base) (j : Nat) (u : Value) (hM : ∀ P C, V.ownsRow base 75 2 P M.p.length ((fl2 M.p).map (Value.int .i64)) → V.ownsRow base 3 1 C M.c.length (M.c.map (Value.int .i64)) → ∃ P' C', (mC M P C).setIfInBounds j u = mC M' P' C' ∧ V.ownsRow base 75 2 P' M'.p.length ((fl2 M'.p).map (Value.int .i64)) ∧ V.ownsRow base 3 1 C' M'.c.length (M'.c.map (Value.int .i64))) : RnB b2 base w4 M' (V.setCell ⟨b2, j, none⟩ u) := by
  obtain ⟨P, C, h1, h2, h3⟩ := h.m
  obtain ⟨P', C', h4, h5, h6⟩ := hM P C h2 h3
  exact ⟨⟨P', C', by rw [setCell_at h1, h4], ownsRow_setCell_below h5 (a := ⟨b2, j, none⟩) hb _, ownsRow_setCell_below h6 (a := ⟨b2, j, none⟩) hb _⟩, h.off.setCell (p := ⟨b2, j, none⟩) rfl _⟩
theorem RnB.num (h : RnB b2 base w4 M V) (hb : b2 < base) {j : Nat} (hj : j < 6) (v : Int) : RnB b2 base w4 (M.put j v) (V.setCell ⟨b2, 1 + j, none⟩ (.int .i64 v)) :=
  h.set hb (1 + j) (.int .i64 v) (fun P C h1 h2 => ⟨P, C, mC_put hj .., by rw [Mg.put_p]; exact h1, by rw [Mg.put_c]; exact h2⟩)
theorem RnB.at (h : RnB b2 base w4 M V) {j : Nat} (hj : j < 6) : V.cell? ⟨b2, 1 + j, none⟩ = some (.int .i64 (M.at' j)) ∧ V.frozen? ⟨b2, 1 + j, none⟩ = false := by
  obtain ⟨P, C, h1, _⟩ := h.m
  exact ⟨mg_at h1 hj, frozen_of_row V b2 (1 + j) _ _ h1⟩
end
theorem put_put (M : Mg) (j : Nat) (a b : Int) : (M.put j a).put j b = M.put j b := by
  rcases j with _ | _ | _ | _ | _ | _ | j <;> rfl
/-- what New answers -/
def RMR (w : World) (M : Mg) (e : Ending) (w' : World) : Prop := ∃ P C, e = .returned (mV M P C) ∧ MAt w' w'.heap.size M P C ∧ Below w.heap.size w w'
set_option maxHeartbeats 16000000 in
theorem rmnew_any (k : Int) (w : World) : Calls Try.prog 17 #[.int .i64 k] w fun e w' => RMR w (mnew k) e w' := by
  obtain ⟨G, hG⟩ : ∃ G, mnew k = G := ⟨_, rfl⟩
  rw [hG]
  unfold mnew at hG
  obtain ⟨w2, hw2⟩ : ∃ w2, w2 = (w.alloc (.cells (mC (Mg.zero 0) (.slice none 0 0) (.slice none 0 0)) 34)).alloc (.cells (mC (Mg.zero 0) (.slice none 0 0) (.slice none 0 0)) 34) := ⟨_, rfl⟩
  have hs2 : w2.heap.size = w.heap.size + 2 := by rw [hw2]; simp
  have hb2 : Below w.heap.size w w2 := by rw [hw2]; exact ((Below.refl _ w).alloc (Nat.le_refl _) _).alloc (by simp) _
  have q0 : w2.heap[w.heap.size]? = some (.cells (mC (Mg.zero 0) (.slice none 0 0) (.slice none 0 0)) 34 (0, 0)) := by
    rw [hw2, Below.heap_alloc _ _ _ (by simp)]; exact World.alloc_heap_new _ _
  have q1 : w2.heap[w.heap.size + 1]? = some (.cells (mC (Mg.zero 0) (.slice none 0 0) (.slice none 0 0)) 34 (0, 0)) := by
    have := World.alloc_heap_new (w.alloc (.cells (mC (Mg.zero 0) (.slice none 0 0) (.slice none 0 0)) 34)) (.cells (mC (Mg.zero 0) (.slice none 0 0) (.slice none 0 0)) 34)
    rw [World.size_alloc] at this
    rw [hw2]; exact this
  have KR := Lib.hid (rall_any k)
  have KF := Lib.hid (FD_fdok k)
  have h6 := FD_few k
  unfold RMR mV
  simp only [mC, Mg.zero] at hw2 ⊢
  have HW := Lib.hid hw2
  have HQ := Lib.hid (And.intro q0 q1)
  have HB2 := Lib.hid hb2
  clear hw2 q0 q1 hb2
  go_enter Try.func17, Try.ntmps17
  go_wp2_with fail
  rw [← HW.out]
  refine (KR.out w2).mono ?_
  intro e w3 hOf
  obtain ⟨A, cA, rfl, hcA, hA, hb3⟩ := hOf
  have p0 := (hb3.block _ (by omega)).trans HQ.out.1
  have p1 := (hb3.block _ (by omega)).trans HQ.out.2
  have hs3 := hb3.size
  have HB3 := Lib.hid (HB2.out.trans (hb3.mono HB2.out.size))
  obtain ⟨L, hL⟩ : ∃ L, FD k = L := ⟨_, rfl⟩
  rw [hL] at hG KF h6 hcA hA ⊢
  obtain ⟨n, hn⟩ : ∃ n, L.length = n := ⟨_, rfl⟩
  rw [hn] at h6 hcA ⊢
  have HN := Lib.hid hn
  have HG := Lib.hid hG
  have HA := Lib.hid hA
  have HGE : Hid (∀ g, A = some ⟨g, 0, none⟩ → L ≠ [] → w.heap.size + 2 ≤ g) := Lib.hid (fun g hg hne => by
    obtain ⟨f, r, rfl⟩ := List.exists_cons_of_ne_nil hne
    obtain ⟨g', h1, h2, _⟩ := hA 0 f rfl
    rw [hg] at h1
    injection h1 with h1
    injection h1 with h1
    omega)
  have HP := Lib.hid p0
  have HS0 := Lib.hid (show RnB (w.heap.size + 1) w3.heap.size w3 (Mg.zero 0) w3 from ⟨⟨_, _, p1, World.ownsRow_nil _ _ _ _, World.ownsRow_nil _ _ _ _⟩, Off.refl _ _⟩)
  clear hL hn hG hA hb3 p0 p1 HQ HB2 KR HW
  go_wp2
  go_loopw [5] (fun iv wr => ∃ j : Nat, j ≤ n ∧ iv = .int .i64 (j : Int) ∧ Hid (RnB (w.heap.size + 1) w3.heap.size w3 ((L.take j).foldl (nw k) (Mg.zero 0)) wr)) (fun iv _ => n - (intOf iv).toNat)
  case atStart => exact ⟨0, by omega, rfl, HS0⟩
  case round =>
    obtain ⟨j, hj, rfl, HM⟩ := hrel
    rcases Nat.lt_or_ge j n with hlt | hge
    · obtain ⟨f, hf⟩ : ∃ f, L[j]? = some f := ⟨_, List.getElem?_eq_getElem (by rw [HN.out]; exact hlt)⟩
      obtain ⟨g, rfl, _, hgl, d0, d1, d2, d3, d4, d5, d6⟩ := HA.out.seven hf
      have hgw : g ≠ w.heap.size + 1 := by have := HGE.out g rfl (fun e => by rw [e] at hf; simp at hf); omega
      have ok := KF.out f (List.mem_of_getElem? hf)
      have hst := fold_take hf (nw k) (Mg.zero 0)
      have HST := Lib.hid hst
      have hj2 : (j : Int) < (n : Int) := by omega
      have hnA : (n : Int) ≤ (cA : Int) := by omega
      obtain ⟨Mj, hMj⟩ : ∃ Mj, (L.take j).foldl (nw k) (Mg.zero 0) = Mj := ⟨_, rfl⟩
      rw [hMj] at HM HST
      have hnw := nw_eq k Mj f
      have hso := ok.so
      -- the kind is told first
      obtain ⟨V1, hV1⟩ : ∃ V1, wr.setCell ⟨w.heap.size + 1, 0, none⟩ (.int .i64 k) = V1 := ⟨_, rfl⟩
      have hP1 : RnB (w.heap.size + 1) w3.heap.size w3 { Mj with k := k } V1 := by
        rw [← hV1]
        exact HM.out.set (by omega) 0 (.int .i64 k) (fun P C h1 h2 => ⟨P, C, rfl, h1, h2⟩)
      have hz1 : V1.heap.size = wr.heap.size := by rw [← hV1]; simp [World.setCell]
      obtain ⟨P, C, m1, _, _⟩ := HM.out.m
      have c0 := (mg_block m1).1
      have z0 := frozen_of_row wr (w.heap.size + 1) 0 _ _ m1
      have g7 := (mg_block m1).2.2.2.2.2.2.2.1
      have g8 := (mg_block m1).2.2.2.2.2.2.2.2.1
      have y7 := frozen_of_row wr (w.heap.size + 1) 7 _ _ m1
      have y8 := frozen_of_row wr (w.heap.size + 1) 8 _ _ m1
      have hblt := (Array.getElem?_eq_some_iff.1 m1).1
      have hwz := HM.out.off.size
      have kx := fun q x (hx : w3.cell? ⟨g, q, none⟩ = some x) => hP1.off.cell hx (by show ¬ (g = w.heap.size + 1); exact hgw)
      have e1 := kx _ _ d1
      have e2 := kx _ _ d2
      have e3 := kx _ _ d3
      have e5 := kx _ _ d5
      have e6 := kx _ _ d6
      have HV1 := Lib.hid hV1
      have hgwr : g < wr.heap.size := by omega
      clear hf hst hMj kx d0 d1 d2 d3 d4 d5 d6 m1 hV1
      by_cases h3 : f.so = 3
      · rw [if_pos h3] at hnw
        rw [h3] at e1
        have hno := ok.no (by omega)
        rw [hno] at e2
        have hb4' : Below V1.heap.size V1 (V1.alloc (.cells #[.int .i64 0, .int .i64 0] 75)) := (Below.refl _ V1).alloc (Nat.le_refl _) _
        have HP5 := Lib.hid ((hP1.later hb4').set (M' := nw k Mj f) (by omega) 7 (.slice (some ⟨wr.heap.size, 0, none⟩) 1 1) (fun P C h1 h2 => ⟨_, C, by rw [hnw]; rfl, by rw [hnw]; exact own_lit' [.int .i64 0, .int .i64 0] hz1 (by omega) (by unfold maxLen; omega) rfl, by rw [hnw]; exact h2⟩))
        rw [World.setCell_alloc_past _ _ _ _ (by omega)] at HP5
        rw [← HV1.out] at HP5 e1 e2
        clear hP1 hb4' ok hno hnw e3 e5 e6
        go_wp2
        exact ⟨⟨j + 1, by omega, by go_num, by rw [HST.out]; exact HP5⟩, by simp only [intOf]; omega⟩
      by_cases h4 : f.so = 4
      · rw [if_neg (by omega), if_pos h4] at hnw
        rw [h4] at e1
        have hno := ok.no (by omega)
        rw [hno] at e2
        have hb4' : Below V1.heap.size V1 (V1.alloc (.cells #[.int .i64 0] 3)) := (Below.refl _ V1).alloc (Nat.le_refl _) _
        have HP5 := Lib.hid ((hP1.later hb4').set (M' := nw k Mj f) (by omega) 8 (.slice (some ⟨wr.heap.size, 0, none⟩) 1 1) (fun P C h1 h2 => ⟨P, _, by rw [hnw]; rfl, by rw [hnw]; exact h1, by rw [hnw]; exact own_lit' [.int .i64 0] hz1 (by omega) (by unfold maxLen; omega) rfl⟩))
        rw [World.setCell_alloc_past _ _ _ _ (by omega)] at HP5
        rw [← HV1.out] at HP5 e1 e2
        clear hP1 hb4' ok hno hnw e3 e5 e6
        go_wp2
        exact ⟨⟨j + 1, by omega, by go_num, by rw [HST.out]; exact HP5⟩, by simp only [intOf]; omega⟩
      by_cases h12 : f.so = 1 ∨ f.so = 2
      · rw [if_neg h3, if_neg h4, if_pos h12] at hnw
        obtain ⟨jn, hjn, hpl⟩ := ok.pl (by omega)
        rw [hpl, Int.toNat_natCast] at hnw
        rw [hpl] at e2
        have q3 : (f.so == 3) = false := by simp; omega
        have q4 : (f.so == 4) = false := by simp; omega
        have hj6 : (jn : Int) < 6 := by omega
        have hsi := ok.si
        obtain ⟨k1, k2⟩ := hP1.at hjn
        have HP1 := Lib.hid hP1
        have HNW := Lib.hid hnw
        have e1' := e1
        have e2' := e2
        rw [← HV1.out] at e1' e2'
        clear hP1 hnw hpl ok g7 g8 y7 y8
        go_wp2
        rw [HV1.out]
        clear HV1 c0 z0 e1' e2'
        go_region
        obtain ⟨V2, hV2⟩ : ∃ V2, (V1.setCell ⟨w.heap.size + 1, 1 + jn, none⟩ (.int .i64 f.le)).drew = V2 := ⟨_, rfl⟩
        rw [hV2]
        have hP2 : RnB (w.heap.size + 1) w3.heap.size w3 (({ Mj with k := k } : Mg).put jn f.le) V2 := by rw [← hV2]; exact (HP1.out.num (by omega) hjn f.le).later (Below.refl _ _).drew
        have ho2 : Off (fun q => q = w.heap.size + 1) V1 V2 := by rw [← hV2]; exact off_below ((Off.refl (fun q => q = w.heap.size + 1) V1).setCell (p := ⟨w.heap.size + 1, 1 + jn, none⟩) rfl _) (Below.refl _ _).drew
        have kx := fun q x (hx : V1.cell? ⟨g, q, none⟩ = some x) => ho2.cell hx (by show ¬ (g = w.heap.size + 1); exact hgw)
        have e1 := kx _ _ e1
        have e2 := kx _ _ e2
        have e3 := kx _ _ e3
        have e5 := kx _ _ e5
        have e6 := kx _ _ e6
        obtain ⟨k1, k2⟩ := hP2.at hjn
        have HP2 := Lib.hid hP2
        have hblt2 := hP2.off.size
        clear hV2 hP2 ho2 kx HP1
        by_cases hle : f.le < 0
        · have hx := HP2.out.num (by omega) hjn 0
          rw [put_put] at hx
          have HX0 := Lib.hid hx
          have ho3 : Off (fun q => q = w.heap.size + 1) V2 (V2.setCell ⟨w.heap.size + 1, 1 + jn, none⟩ (.int .i64 0)) := (Off.refl (fun q => q = w.heap.size + 1) V2).setCell (p := ⟨w.heap.size + 1, 1 + jn, none⟩) rfl _
          have e6' := ho3.cell e6 (by show ¬ (g = w.heap.size + 1); exact hgw)
          have e2' := ho3.cell e2 (by show ¬ (g = w.heap.size + 1); exact hgw)
          clear hx ho3
          rcases hsi with hsi | hsi
          · rw [hsi] at e5
            have HF : Hid (RnB (w.heap.size + 1) w3.heap.size w3 (nw k Mj f) (V2.setCell ⟨w.heap.size + 1, 1 + jn, none⟩ (.int .i64 0))) := Lib.hid (by
              rw [HNW.out]
              have hv : startV f = 0 := by unfold startV; rw [if_neg (by omega)]; omega
              rw [hv]
              exact HX0.out)
            go_wp2
            exact ⟨⟨j + 1, by omega, by go_num, by rw [HST.out]; exact HF⟩, by simp only [intOf]; omega⟩
          · rw [hsi] at e5
            have HX : Hid (RnB (w.heap.size + 1) w3.heap.size w3 (nw k Mj f) (((V2.setCell ⟨w.heap.size + 1, 1 + jn, none⟩ (.int .i64 0)).setCell ⟨w.heap.size + 1, 1 + jn, none⟩ (.int .i64 f.ab)).drew)) := Lib.hid (by
              rw [HNW.out]
              have hv : startV f = f.ab := by unfold startV; rw [if_pos (by omega)]
              rw [hv]
              have h := (HX0.out).num (by omega) hjn f.ab
              rw [put_put] at h
              exact h.later (Below.refl _ _).drew)
            have eb : (V2.setCell ⟨w.heap.size + 1, 1 + jn, none⟩ (.int .i64 0)).cell? ⟨g, j * 7 + 6, none⟩ = some (.int .i64 f.ab) := e6'
            have e0 : (V2.setCell ⟨w.heap.size + 1, 1 + jn, none⟩ (.int .i64 0)).cell? ⟨g, j * 7 + 2, none⟩ = some (.int .i64 (jn : Int)) := e2'
            have eo := (HX0.out).at hjn
            obtain ⟨v1, v2⟩ := eo
            go_wp2
            go_region
            go_wp2
            exact ⟨⟨j + 1, by omega, by go_num, by rw [HST.out]; exact HX⟩, by simp only [intOf]; omega⟩
        · have hle2 : 0 ≤ f.le := by omega
          rcases hsi with hsi | hsi
          · rw [hsi] at e5
            have HF : Hid (RnB (w.heap.size + 1) w3.heap.size w3 (nw k Mj f) (V2)) := Lib.hid (by
              rw [HNW.out]
              have hv : startV f = f.le := by unfold startV; rw [if_neg (by omega)]; omega
              rw [hv]
              exact HP2.out)
            go_wp2
            exact ⟨⟨j + 1, by omega, by go_num, by rw [HST.out]; exact HF⟩, by simp only [intOf]; omega⟩
          · rw [hsi] at e5
            have HX : Hid (RnB (w.heap.size + 1) w3.heap.size w3 (nw k Mj f) (((V2).setCell ⟨w.heap.size + 1, 1 + jn, none⟩ (.int .i64 f.ab)).drew)) := Lib.hid (by
              rw [HNW.out]
              have hv : startV f = f.ab := by unfold startV; rw [if_pos (by omega)]
              rw [hv]
              have h := (HP2.out).num (by omega) hjn f.ab
              rw [put_put] at h
              exact h.later (Below.refl _ _).drew)
            have eb : (V2).cell? ⟨g, j * 7 + 6, none⟩ = some (.int .i64 f.ab) := e6
            have e0 : (V2).cell? ⟨g, j * 7 + 2, none⟩ = some (.int .i64 (jn : Int)) := e2
            have eo := (HP2.out).at hjn
            obtain ⟨v1, v2⟩ := eo
            go_wp2
            go_region
            go_wp2
            exact ⟨⟨j + 1, by omega, by go_num, by rw [HST.out]; exact HX⟩, by simp only [intOf]; omega⟩
      rw [if_neg h3, if_neg h4, if_neg h12] at hnw
      have hno := ok.no (by omega)
      rw [hno] at e2
      have q3 : (f.so == 3) = false := by simp; omega
      have q4 : (f.so == 4) = false := by simp; omega
      have HF : Hid (RnB (w.heap.size + 1) w3.heap.size w3 (nw k Mj f) (wr.setCell ⟨w.heap.size + 1, 0, none⟩ (.int .i64 k))) := Lib.hid (by rw [HV1.out, hnw]; exact hP1)
      rw [← HV1.out] at e1 e2
      clear hP1 ok hno hnw e3 e5 e6
      go_wp2
      exact ⟨⟨j + 1, by omega, by go_num, by rw [HST.out]; exact HF⟩, by simp only [intOf]; omega⟩
    · obtain rfl : j = n := by omega
      have hP := HM.out
      rw [List.take_of_length_le (by rw [HN.out]; exact Nat.le_refl _), HG.out] at hP
      obtain ⟨P, C, m1, m2, m3⟩ := hP.m
      obtain ⟨a3, cp3, rfl, hcp3, hn3⟩ := nums_of_own m2 (by omega)
      obtain ⟨b3, cb3, rfl, hcb3, hn4⟩ := nums_of_own m3 (by omega)
      obtain ⟨np, hnp⟩ : ∃ np, G.p.length = np := ⟨_, rfl⟩
      obtain ⟨nc, hnc⟩ : ∃ nc, G.c.length = nc := ⟨_, rfl⟩
      rw [hnp, hnc] at m1
      rw [hnp] at m2
      rw [hnc] at m3
      obtain ⟨f0, f1, f2, f3, f4, f5, f6, f7, f8, f9, f10⟩ := mg_block m1
      have HR1 := Lib.hid ((hP.off.block w.heap.size (by omega) (by omega)).trans HP.out)
      have HBW := Lib.hid (HB3.out.trans (hP.off.below (B := w.heap.size) (fun k hk => by omega) HB3.out.size))
      have HOR := Lib.hid (And.intro m2 m3)
      have HNP := Lib.hid (And.intro hnp hnc)
      clear m1 m2 m3 hP hcp3 hcb3 hn3 hn4 hnp hnc
      go_wp2_with (refine wpList_store_row rfl 34 (.tmp 2) (.tmp 82) rfl w.heap.size #[.int .i64 G.k, .int .i64 G.n0, .int .i64 G.n1, .int .i64 G.n2, .int .i64 G.n3, .int .i64 G.n4, .int .i64 G.n5, .slice a3 np cp3, .slice b3 nc cb3, .string G.tx, .string G.tg] rfl rfl 34 _ HR1.out rmInfo rfl (by simp [Value.oneCell']) ?_)
      have hfin := setRow_heap wr w.heap.size _ #[.int .i64 G.k, .int .i64 G.n0, .int .i64 G.n1, .int .i64 G.n2, .int .i64 G.n3, .int .i64 G.n4, .int .i64 G.n5, .slice a3 np cp3, .slice b3 nc cb3, .string G.tx, .string G.tg] _ _ HR1.out
      have hoff := Off.setRow (S := fun k => k = w.heap.size) (Off.refl _ wr) rfl #[.int .i64 G.k, .int .i64 G.n0, .int .i64 G.n1, .int .i64 G.n2, .int .i64 G.n3, .int .i64 G.n4, .int .i64 G.n5, .slice a3 np cp3, .slice b3 nc cb3, .string G.tx, .string G.tg]
      have hbf := HBW.out.trans (hoff.below (B := w.heap.size) (fun k hk => by omega) HBW.out.size)
      have ho1 := own_offM HOR.out.1 hoff (fun g hg e => by have := (HOR.out.1.lt g hg).1; omega)
      have ho2 := own_offM HOR.out.2 hoff (fun g hg e => by have := (HOR.out.2.lt g hg).1; omega)
      generalize wr.setRow w.heap.size _ = Wf at *
      obtain ⟨y0, y1, y2, y3, y4, y5, y6, y7, y8, y9, y10⟩ := mg_block hfin
      refine bodyPost_ret (v := .agg #[.int .i64 G.k, .int .i64 G.n0, .int .i64 G.n1, .int .i64 G.n2, .int .i64 G.n3, .int .i64 G.n4, .int .i64 G.n5, .slice a3 np cp3, .slice b3 nc cb3, .string G.tx, .string G.tg]) (by simp [results, Try.results17, go_sem, y0, y1, y2, y3, y4, y5, y6, y7, y8, y9, y10]) rfl ?_
      obtain ⟨hnp, hnc⟩ := HNP.out
      obtain ⟨_, _, e1, e2, e3⟩ := nums_of_own ho1 (by omega)
      obtain ⟨_, _, e4, e5, e6⟩ := nums_of_own ho2 (by omega)
      refine ⟨_, _, rfl, ⟨⟨_, _, by rw [hnp]; exact e1, by rw [hnp]; exact e2, e3⟩, ⟨_, _, by rw [hnc]; exact e4, by rw [hnc]; exact e5, e6⟩⟩, hbf⟩
end Go.Proofs.Ytnbhiamnoapmlaa

namespace Go.Proofs.Ytnbhiamnoapmlaa
open Go.RowKit
section
variable {P : Program} {l : List Oper} {I : World → Prop} {fs : List Tmp} {FS : Tmp → Value → World → Prop} {E : Act → Prop} {o : Oper} {rest : List Oper} {a : Act}
/-- an operation that enters no function and looks at a value that is known by what it is good for alone -/
theorem wpF_useval (s : Tmp) (j : Nat) (v : Value) (hs : s ∈ fs) (hj : (l[j]?).bind (·.dst) = some s) (hje : (o.after.any fun e => Region.binds .any e && e.on == j) = true)
    (hn : ((o.looksAt l.toArray).all fun d => !fs.contains d || d == s) = true) (hdst : (match o.dst with | some d => !fs.contains d | none => true) = true) (hw : ∀ x, Region.wanted o (yielded l.toArray (a.put (some s) x).tmps) = true)
    (hrun : ∀ x w, I w → FS s x w → (execOp (a.put (some s) x).eval o).run P w = .ok (.value v) w) (h : wpF P l.toArray I fs FS E rest (a.put o.dst v)) : wpF P l.toArray I fs FS E (o :: rest) a := by
  refine ⟨v, .inr (.inr (.inl ⟨s, hs, ⟨j, by simpa using hj, hje⟩, fun d hd hf => ?_, fun d hd hf => ?_, fun x w hI hx => ⟨hw x, ?_⟩⟩)), h⟩
  · rw [List.all_eq_true] at hn
    have := hn d hd
    simpa [hf] using this
  · rw [hd] at hdst
    simp [hf] at hdst
  · rw [hrun x w hI hx]
    exact ⟨rfl, rfl⟩
end
end Go.Proofs.Ytnbhiamnoapmlaa

namespace Go.Proofs.Ytnbhiamnoapmlaa
open Go.RowKit Go.Shelf
set_option maxRecDepth 100000
attribute [local go_sem] Oper.semAt_some

theorem mproj_p (M : Mg) (v : Int) : (mproj M v).p = M.p := by
  unfold mproj
  split
  · exact fold_prj_p _ _
  · rfl
theorem mproj_c (M : Mg) (v : Int) : (mproj M v).c = M.c := by
  unfold mproj
  split
  · exact fold_prj_c _ _
  · rfl
theorem prj_small {M : Mg} (h : Msm M) (f : Fd) : Msm (prj M f) := by
  refine ⟨by rw [prj_p]; exact h.p, by rw [prj_c]; exact h.c, ?_, ?_⟩
  · unfold prj
    repeat' split
    · exact h.tx
    · exact h.tx
    · rw [Mg.put_tx]; exact h.tx
    · exact h.tx
  · unfold prj
    repeat' split
    · exact h.tg
    · exact Nat.zero_le _
    · rw [Mg.put_tg]; exact h.tg
    · exact h.tg
theorem fold_prj_small : ∀ (L : List Fd) {M : Mg}, Msm M → Msm (L.foldl prj M)
  | [], _, h => h
  | f :: r, _, h => by rw [List.foldl_cons]; exact fold_prj_small r (prj_small h f)
theorem mproj_small {M : Mg} (h : Msm M) (v : Int) : Msm (mproj M v) := by
  unfold mproj
  split
  · exact fold_prj_small _ h
  · exact h
theorem mnew_small (k : Int) : Msm (mnew k) := by
  rcases kind_ways k with rfl | rfl | rfl | rfl | rfl | ⟨h1, h2, h3, h4, h5⟩
  case' inr.inr.inr.inr.inr => rw [show mnew k = Mg.zero 0 by unfold mnew; rw [show FD k = [] by simp [FD, raw, h1, h2, h3, h4, h5, pls]]; rfl]
  all_goals exact ⟨by decide, by decide, by decide, by decide⟩
/-- a message that a call has made -/
def FMs (M : Mg) (x : Value) (W : World) : Prop := ∃ P C, x = mV M P C ∧ MAt W W.heap.size M P C
theorem FMs.later {M : Mg} {x : Value} {W W' : World} (h : FMs M x W) (hb : Below W.heap.size W W') : FMs M x W' := by
  obtain ⟨P, C, h1, h2⟩ := h
  exact ⟨P, C, h1, h2.later hb⟩
/-- .. once more: a fact of the call alone -/
def AnsF (M : Mg) (W : World) (e : Ending) (w' : World) : Prop := ∃ u, e = .returned u ∧ FMs M u w' ∧ Below W.heap.size W w'
section
variable {M M' : Mg} {x y : Value} {W : World}
theorem cut_F {B : Nat} {P C : Value} (hB : B ≤ W.heap.size) (h : MAt W B M P C) : Calls Try.prog 7 #[mV M P C] W fun e w' => ∃ u, e = .returned u ∧ (∃ M P C, Msm M ∧ u = mV M P C ∧ MAt w' B M P C) ∧ Below W.heap.size W w' := by
  obtain ⟨⟨a, c, rfl, h1, h2⟩, ⟨a', c', rfl, h3, h4⟩⟩ := h
  refine (mcut_any M a a' _ _ c c' W rfl rfl h1 h3 B hB h2 h4).mono fun e w' h => ?_
  obtain ⟨M, P, C, rfl, hs, hm, hb⟩ := h
  exact ⟨_, rfl, ⟨M, P, C, hs, rfl, hm⟩, hb⟩
theorem of_F (hs : Msm M) (h : FMs M x W) : Calls Try.prog 11 #[x] W fun e w' => ∃ u, e = .returned u ∧ FMs M u w' ∧ Below W.heap.size W w' := by
  obtain ⟨P, C, rfl, h1⟩ := h
  refine (mof_any M P C W hs h1).mono fun e w' h => ?_
  obtain ⟨P', rfl, ho, hb⟩ := h
  obtain ⟨a, c, g1, g2, g3⟩ := nums_of_own ho (by omega)
  exact ⟨_, rfl, ⟨P', C, rfl, ⟨a, c, g1, g2, g3⟩, (h1.later hb).c⟩, hb⟩
theorem chk_F (hs : Msm M) (h : FMs M x W) : Calls Try.prog 8 #[x] W fun e w' => e = .returned (.int .i64 (mck M)) ∧ Below W.heap.size W w' := by
  obtain ⟨P, C, rfl, h1⟩ := h
  exact mcheck_any M P C W hs h1
theorem proj_F (v : Int) (hs : Msm M) (h : FMs M x W) : Calls Try.prog 9 #[x, .int .i64 v] W fun e w' => ∃ u, e = .returned u ∧ FMs (mproj M v) u w' ∧ Below W.heap.size W w' := by
  obtain ⟨P, C, rfl, h1⟩ := h
  refine (mproject_any M P C v W hs h1).mono fun e w' h => ?_
  obtain ⟨P, C, rfl, ho, hb⟩ := h
  exact ⟨_, rfl, ⟨P, C, rfl, ho.at⟩, hb⟩
theorem same_F (hs : Msm M) (h : FMs M x W) (h' : FMs M' y W) : Calls Try.prog 14 #[x, y] W fun e w' => e = .returned (.bool (decide (M = M'))) ∧ Below W.heap.size W w' := by
  obtain ⟨P, C, rfl, h1⟩ := h
  obtain ⟨P', C', rfl, h2⟩ := h'
  exact msame_any M M' P C P' C' W hs h1 h2
theorem new_F (k : Int) : Calls Try.prog 15 #[.int .i64 k] W fun e w' => ∃ u, e = .returned u ∧ FMs (mnew k) u w' ∧ Below W.heap.size W w' := by
  refine (mnew_any k W).mono fun e w' h => ?_
  obtain ⟨P, C, rfl, ho, hb⟩ := h
  exact ⟨_, rfl, ⟨P, C, rfl, ho.at⟩, hb⟩
theorem rchk_F (hs : Msm M) (h : FMs M x W) : Calls Try.prog 10 #[x] W fun e w' => e = .returned (.int .i64 (mck M)) ∧ Below W.heap.size W w' := by
  obtain ⟨P, C, rfl, h1⟩ := h
  exact rmcheck_any M P C W hs h1
theorem rproj_F (v : Int) (h : FMs M x W) : Calls Try.prog 13 #[x, .int .i64 v] W fun e w' => ∃ u, e = .returned u ∧ FMs (mproj M v) u w' ∧ Below W.heap.size W w' := by
  obtain ⟨P, C, rfl, ⟨⟨a, c, rfl, h1, h2⟩, ⟨a', c', rfl, h3, h4⟩⟩⟩ := h
  refine (rmproject_any M a a' _ _ c c' v W).mono fun e w' h => ?_
  obtain ⟨rfl, hb⟩ := h
  refine ⟨_, rfl, ⟨_, _, rfl, ⟨a, c, by rw [mproj_p], by rw [mproj_p]; exact h1, ?_⟩, ⟨a', c', by rw [mproj_c], by rw [mproj_c]; exact h3, ?_⟩⟩, hb⟩
  · rw [mproj_p]; exact (h2.below hb).mono hb.size
  · rw [mproj_c]; exact (h4.below hb).mono hb.size
theorem rsame_F (hs : Msm M) (h : FMs M x W) (h' : FMs M' y W) : Calls Try.prog 12 #[x, y] W fun e w' => e = .returned (.bool (decide (M = M'))) ∧ Below W.heap.size W w' := by
  obtain ⟨P, C, rfl, h1⟩ := h
  obtain ⟨P', C', rfl, h2⟩ := h'
  exact rmsame_any M M' P C P' C' W hs h1 h2
theorem rnew_F (k : Int) : Calls Try.prog 17 #[.int .i64 k] W fun e w' => ∃ u, e = .returned u ∧ FMs (mnew k) u w' ∧ Below W.heap.size W w' := by
  refine (rmnew_any k W).mono fun e w' h => ?_
  obtain ⟨P, C, rfl, ho, hb⟩ := h
  exact ⟨_, rfl, ⟨P, C, rfl, ho⟩, hb⟩
theorem copy_F (hs : Msm M) (h : FMs M x W) : Calls Try.prog 18 #[x] W fun e w' => ∃ u, e = .returned u ∧ FMs M u w' ∧ Below W.heap.size W w' := by
  obtain ⟨P, C, rfl, h1⟩ := h
  refine (mcopy_any M P C W hs h1).mono fun e w' h => ?_
  obtain ⟨P, C, rfl, ho, hb⟩ := h
  exact ⟨_, rfl, ⟨P, C, rfl, ho.at⟩, hb⟩
end
/-- a message's box, read -/
theorem mg_read {W : World} {b : Nat} {M : Mg} {P C : Value} {t : TypeId} (h : W.heap[b]? = some (.cells (mC M P C) t (0, 0))) :
    (Instr.loadAt 26 (.pointer (some ⟨b, 0, none⟩))).run Try.prog W = .ok (mV M P C) W := by
  obtain ⟨f0, f1, f2, f3, f4, f5, f6, f7, f8, f9, f10⟩ := mg_block h
  simp [Instr.loadAt, go_sem, f0, f1, f2, f3, f4, f5, f6, f7, f8, f9, f10, mV, mC]
end Go.Proofs.Ytnbhiamnoapmlaa

namespace Go.Proofs.Ytnbhiamnoapmlaa
open Go.RowKit Go.Shelf
set_option maxRecDepth 100000
attribute [local go_sem] Oper.semAt_some

/-- the literal []int{} -/
theorem wp_build0 {o : Oper} {a : Act} {w : World} {K : Act → World → Prop} {Q : Exit → Act → World → Prop} (ho : o.op = .buildSlice 24 0 #[])
    (h : K (a.put o.dst (.slice (some ⟨w.heap.size, 0, none⟩) 0 0)) (w.alloc (.cells #[] 3))) : o.wp Try.prog a w K Q := by
  have hr : (execOp a.eval o).run Try.prog w = .ok (.value (.slice (some ⟨w.heap.size, 0, none⟩) 0 0)) (w.alloc (.cells #[] 3)) := by
    unfold execOp
    simp only [ho]
    simp [go_sem]
  unfold Oper.wp
  rw [hr]
  exact h
theorem wpList_build0 {ops : Array Oper} {rest : List Oper} {o : Oper} {a : Act} {w : World} {Q : Exit → Act → World → Prop} (hg : o.guard = none) (ho : o.op = .buildSlice 24 0 #[]) (d : Option Tmp) (hd : o.dst = d) (N : Nat) (hN : w.heap.size = N)
    (h : wpList Try.prog ops Q rest (a.put d (.slice (some ⟨N, 0, none⟩) 0 0)) (w.alloc (.cells #[] 3))) : wpList Try.prog ops Q (o :: rest) a w :=
  wpList_plain hg fun _ hK => wp_build0 ho (hK _ _ (by rw [hd, hN]; exact h))
/-- a row of numbers of the call's own, whatever they are -/
def Row (H : Nat) (V : World) (T : TypeId) (s n : Nat) (v : Value) : Prop := ∃ xs : List Int, V.ownsRow H T s v n (xs.map (Value.int .i64))
section
variable {H : Nat} {V V' : World} {T : TypeId} {s n : Nat} {v : Value}
theorem Row.set (h : Row H V T s n v) (b j : Nat) (z : Int) : Row H (V.setCell ⟨b, j, none⟩ (.int .i64 z)) T s n v := by
  obtain ⟨xs, h1, h2⟩ := h
  rcases h2 with ⟨rfl, h0⟩ | ⟨g, cap, cur, rfl, hg, hh, r1, r2, r3, r4⟩
  · exact ⟨xs, h1, .inl ⟨rfl, h0⟩⟩
  · by_cases e : g = b
    · subst e
      refine ⟨xs.set j z, by simpa using h1, .inr ⟨g, cap, _, rfl, hg, setCell_at hh, r1, r2, by simpa using r3, ?_⟩⟩
      rw [Array.toList_setIfInBounds, List.take_set, r4, List.map_set]
    · exact ⟨xs, ownsRow_setCell_other ⟨h1, .inr ⟨g, cap, cur, rfl, hg, hh, r1, r2, r3, r4⟩⟩ (by simp [Value.ownBlock]; exact e) _⟩
theorem Row.offM {S : Nat → Prop} (h : Row H V T s n v) (hf : Off S V V') (hn : ∀ g, v.ownBlock = some g → ¬ S g) : Row H V' T s n v := by
  obtain ⟨xs, h⟩ := h
  exact ⟨xs, own_offM h hf hn⟩
theorem Row.later (h : Row H V T s n v) (hb : Below V.heap.size V V') : Row H V' T s n v := by
  obtain ⟨xs, h1, h2⟩ := h
  refine ⟨xs, h1, ?_⟩
  rcases h2 with h2 | ⟨g, cap, cur, hv, hg, hh, r⟩
  · exact .inl h2
  · exact .inr ⟨g, cap, cur, hv, hg, (hb.block g (Array.getElem?_eq_some_iff.1 hh).1).trans hh, r⟩
/-- the block of a row of elements -/
theorem Row.open (h : Row H V T s n v) {i : Nat} (hi : i < n) : ∃ g cap cur, v = .slice (some ⟨g, 0, none⟩) n cap ∧ H ≤ g ∧ V.heap[g]? = some (.cells cur T (0, 0)) ∧ n * s ≤ cur.size := by
  obtain ⟨xs, h1, h2⟩ := h
  rcases h2 with ⟨rfl, h0⟩ | ⟨g, cap, cur, rfl, hg, hh, r1, r2, r3, r4⟩
  · omega
  · exact ⟨g, cap, cur, rfl, hg, hh, by rw [r3]; exact Nat.mul_le_mul_right s r1⟩
theorem Row.slice (h : Row H V T s n v) : ∃ a cap, v = .slice a n cap := by
  obtain ⟨xs, h1, h2⟩ := h
  rcases h2 with ⟨rfl, h0⟩ | ⟨g, cap, cur, rfl, hg, hh, r1, r2, r3, r4⟩
  · exact ⟨none, 0, by rw [h0]⟩
  · exact ⟨_, _, rfl⟩
/-- a row's block is no box -/
theorem Row.not_box (h : Row H V T s n v) {g : Nat} {cs : Array Value} (hb : V.heap[g]? = some (.cells cs 26 (0, 0))) (hT : T ≠ 26) : ∀ q, v.ownBlock = some q → q ≠ g := by
  obtain ⟨xs, h1, h2⟩ := h
  intro q hq e
  subst e
  rcases h2 with ⟨rfl, h0⟩ | ⟨g, cap, cur, rfl, hg, hh, _⟩
  · cases hq
  · injection hq with hq
    subst hq
    rw [hh] at hb
    injection hb with hb
    injection hb with _ hb
    exact hT hb
end
/-- boxes of messages, the rows that hang on them, and what lies below -/
structure ApI (H : Nat) (w5 : World) (Bx : List (Nat × Array Value)) (R : List (TypeId × Nat × Nat × Value)) (V : World) : Prop where
  box : ∀ q ∈ Bx, H ≤ q.1 ∧ V.heap[q.1]? = some (.cells q.2 26 (0, 0))
  row : ∀ q ∈ R, q.1 ≠ 26 ∧ Row H V q.1 q.2.1 q.2.2.1 q.2.2.2
  off : Off (fun k => H ≤ k) w5 V
section
variable {H : Nat} {w5 V V' : World} {Bx : List (Nat × Array Value)} {R : List (TypeId × Nat × Nat × Value)}
theorem ApI.set (h : ApI H w5 Bx R V) {b j : Nat} {cur : Array Value} {T : TypeId} (hb : V.heap[b]? = some (.cells cur T (0, 0))) (hT : T ≠ 26) (hH : H ≤ b) (z : Int) : ApI H w5 Bx R (V.setCell ⟨b, j, none⟩ (.int .i64 z)) := by
  refine ⟨fun q hq => ⟨(h.box q hq).1, ?_⟩, fun q hq => ⟨(h.row q hq).1, (h.row q hq).2.set b j z⟩, h.off.setCell (p := ⟨b, j, none⟩) hH _⟩
  have hq2 := (h.box q hq).2
  refine (Below.heap_setCell V ⟨b, j, none⟩ _ q.1 (fun e => ?_)).trans hq2
  rw [e] at hq2
  rw [hb] at hq2
  injection hq2 with hq2
  injection hq2 with _ hq2
  exact hT hq2
theorem ApI.drew (h : ApI H w5 Bx R V) : ApI H w5 Bx R V.drew := ⟨h.box, h.row, ⟨h.off.os, h.off.tape, h.off.output, h.off.size, h.off.block⟩⟩
theorem ApI.drewN (h : ApI H w5 Bx R V) (n : Nat) : ApI H w5 Bx R (V.drewN n) := ⟨h.box, h.row, ⟨h.off.os, h.off.tape, h.off.output, h.off.size, h.off.block⟩⟩
/-- one element's number is written -/
theorem ApI.store (h : ApI H w5 Bx R V) {T : TypeId} {s n : Nat} {v : Value} (hq : (T, s, n, v) ∈ R) {i d : Nat} (hi : i < n) (hd : d < s) {g cap : Nat} (hv : v = .slice (some ⟨g, 0, none⟩) n cap) (z : Int) :
    (Instr.storeAt 3 (.pointer (some ⟨g, i * s + d, none⟩)) (.int .i64 z)).run Try.prog V = .ok () (V.setCell ⟨g, i * s + d, none⟩ (.int .i64 z)) ∧ ApI H w5 Bx R (V.setCell ⟨g, i * s + d, none⟩ (.int .i64 z)) := by
  obtain ⟨hT, hr⟩ := h.row _ hq
  dsimp only at hT hr
  obtain ⟨g', cap', cur, e, hg, hh, hn⟩ := hr.open hi
  rw [hv] at e
  injection e with e
  injection e with e
  injection e with e
  subst e
  have hlt : i * s + d < cur.size := by
    have h1 : (i + 1) * s ≤ n * s := Nat.mul_le_mul_right s hi
    rw [Nat.succ_mul] at h1
    omega
  have hc : V.cell? ⟨g, i * s + d, none⟩ = some cur[i * s + d] := row_cell hh _ _ (Array.getElem?_eq_getElem hlt)
  have hz := frozen_of_row V g (i * s + d) _ _ hh
  exact ⟨by simp [Instr.storeAt, go_sem, hc, hz], h.set hh hT hg z⟩
end
/-- a box of a message, whose lists are the call's own -/
def BoxO (H g : Nat) (W : World) : Prop := H ≤ g ∧ ∃ M P C, W.heap[g]? = some (.cells (mC M P C) 26 (0, 0)) ∧ Msm M ∧ MOwn H W M P C
theorem mown_box {H g : Nat} {W : World} {M : Mg} {P C : Value} {cs : Array Value} (h : MOwn H W M P C) (hb : W.heap[g]? = some (.cells cs 26 (0, 0))) (arr : Array Value) : MOwn H (W.setRow g arr) M P C := by
  have hoff := Off.setRow (S := fun k => k = g) (Off.refl _ W) rfl arr
  exact ⟨own_offM h.p hoff (fun q hq e => Row.not_box ⟨_, h.p⟩ hb (by decide) q hq e), own_offM h.c hoff (fun q hq e => Row.not_box ⟨_, h.c⟩ hb (by decide) q hq e)⟩
theorem BoxO.store {H g g' : Nat} {W : World} {M : Mg} {P C : Value} {cs : Array Value} (h : BoxO H g' W) (hb : W.heap[g]? = some (.cells cs 26 (0, 0))) (hs : Msm M) (ho : MOwn H W M P C) : BoxO H g' (W.setRow g (mC M P C)) := by
  obtain ⟨hH, M', P', C', h1, h2, h3⟩ := h
  by_cases e : g' = g
  · subst e
    exact ⟨hH, M, P, C, setRow_heap W _ _ _ _ _ hb, hs, mown_box ho hb _⟩
  · exact ⟨hH, M', P', C', (setRow_other _ _ _ _ e).trans h1, h2, mown_box h3 hb _⟩
/-- two boxes, one perhaps the other, each stored whole -/
theorem two_boxes {H g6 g7 : Nat} {wA : World} {M6 M7 : Mg} {P6 C6 P7 C7 : Value} {cs6 cs7 : Array Value} (hc6 : wA.heap[g6]? = some (.cells cs6 26 (0, 0))) (hc7 : (wA.setRow g6 (mC M6 P6 C6)).heap[g7]? = some (.cells cs7 26 (0, 0)))
    (hg6 : H ≤ g6) (hg7 : H ≤ g7) (hs6 : Msm M6) (hs7 : Msm M7) (ho6 : MOwn H wA M6 P6 C6) (ho7 : MOwn H wA M7 P7 C7) :
    BoxO H g6 ((wA.setRow g6 (mC M6 P6 C6)).setRow g7 (mC M7 P7 C7)) ∧ BoxO H g7 ((wA.setRow g6 (mC M6 P6 C6)).setRow g7 (mC M7 P7 C7)) ∧ Off (fun k => H ≤ k) wA ((wA.setRow g6 (mC M6 P6 C6)).setRow g7 (mC M7 P7 C7)) := by
  have h7 := mown_box ho7 hc6 (mC M6 P6 C6)
  have b6 : BoxO H g6 (wA.setRow g6 (mC M6 P6 C6)) := ⟨hg6, M6, P6, C6, setRow_heap wA _ _ _ _ _ hc6, hs6, mown_box ho6 hc6 _⟩
  exact ⟨b6.store hc7 hs7 h7, ⟨hg7, M7, P7, C7, setRow_heap _ _ _ _ _ _ hc7, hs7, mown_box h7 hc7 _⟩, Off.setRow (S := fun k => H ≤ k) (Off.setRow (S := fun k => H ≤ k) (Off.refl _ wA) hg6 _) hg7 _⟩
end Go.Proofs.Ytnbhiamnoapmlaa

namespace Go.Proofs.Ytnbhiamnoapmlaa
open Go.RowKit Go.Shelf
set_option maxRecDepth 100000
attribute [local go_sem] Oper.semAt_some

theorem run_min3 (ts : Array TypeId) (t : TypeId) (x y z r : Int) (h : min (min x y) z = r) (W : World) : (Builtin.min_ ts t #[.int .i64 x, .int .i64 y, .int .i64 z]).run Try.prog W = .ok (.int .i64 r) W := by
  have h1 : (if y < x then y else x) = min x y := by split <;> omega
  have h2 : ∀ k : Int, (if z < k then z else k) = min k z := fun k => by split <;> omega
  simp only [Builtin.min_, Builtin.min2, List.foldlM, Sem.run_bind, Sem.run_pure, Result.andThen, h1, h2, h]
theorem setM_small {M : Mg} (h : Msm M) (nm : ByteArray) (v : Int) : Msm (setM M nm v) := by
  refine ⟨by rw [setM_p]; exact h.p, by rw [setM_c]; exact h.c, ?_, ?_⟩
  · unfold setM
    split
    · rw [Mg.put_tx]; exact h.tx
    · exact h.tx
  · unfold setM
    split
    · rw [Mg.put_tg]; exact h.tg
    · exact h.tg
/-- a box of the document's message, read -/
theorem mr_read {W : World} {b : Nat} {M : Mg} {P C : Value} {t : TypeId} (h : W.heap[b]? = some (.cells (mC M P C) t (0, 0))) :
    (Instr.loadAt 34 (.pointer (some ⟨b, 0, none⟩))).run Try.prog W = .ok (mV M P C) W := by
  obtain ⟨f0, f1, f2, f3, f4, f5, f6, f7, f8, f9, f10⟩ := mg_block h
  simp [Instr.loadAt, go_sem, f0, f1, f2, f3, f4, f5, f6, f7, f8, f9, f10, mV, mC]
/-- three boxes of messages, and their lists -/
def Tri (H : Nat) (w9 : World) (g6 g7 g8 : Nat) (M6 M7 M8 : Mg) (P6 P7 P8 C6 C7 C8 : Value) (V : World) : Prop :=
  ApI H w9 [(g6, mC M6 P6 C6), (g7, mC M7 P7 C7), (g8, mC M8 P8 C8)]
    [(57, 2, M6.p.length, P6), (57, 2, M7.p.length, P7), (57, 2, M8.p.length, P8), (3, 1, M6.c.length, C6), (3, 1, M7.c.length, C7), (3, 1, M8.c.length, C8)] V
section
variable {H g6 g7 g8 : Nat} {w9 V : World} {M6 M7 M8 : Mg} {P6 P7 P8 C6 C7 C8 : Value}
theorem tri_make (h6 : BoxO H g6 V) (h7 : BoxO H g7 V) (h8 : BoxO H g8 V) (hO : Off (fun k => H ≤ k) w9 V) :
    ∃ M6 M7 M8 P6 P7 P8 C6 C7 C8, Msm M6 ∧ Msm M7 ∧ Msm M8 ∧ Tri H w9 g6 g7 g8 M6 M7 M8 P6 P7 P8 C6 C7 C8 V := by
  obtain ⟨k6, M6, P6, C6, b6, s6, o6⟩ := h6
  obtain ⟨k7, M7, P7, C7, b7, s7, o7⟩ := h7
  obtain ⟨k8, M8, P8, C8, b8, s8, o8⟩ := h8
  refine ⟨M6, M7, M8, P6, P7, P8, C6, C7, C8, s6, s7, s8, ?_, ?_, hO⟩
  · intro q hq
    simp only [List.mem_cons, List.not_mem_nil, or_false] at hq
    rcases hq with rfl | rfl | rfl
    · exact ⟨k6, b6⟩
    · exact ⟨k7, b7⟩
    · exact ⟨k8, b8⟩
  · intro q hq
    simp only [List.mem_cons, List.not_mem_nil, or_false] at hq
    rcases hq with rfl | rfl | rfl | rfl | rfl | rfl
    · exact ⟨(by decide : (57 : TypeId) ≠ 26), _, o6.p⟩
    · exact ⟨(by decide : (57 : TypeId) ≠ 26), _, o7.p⟩
    · exact ⟨(by decide : (57 : TypeId) ≠ 26), _, o8.p⟩
    · exact ⟨(by decide : (3 : TypeId) ≠ 26), _, o6.c⟩
    · exact ⟨(by decide : (3 : TypeId) ≠ 26), _, o7.c⟩
    · exact ⟨(by decide : (3 : TypeId) ≠ 26), _, o8.c⟩
theorem Tri.box6 (h : Tri H w9 g6 g7 g8 M6 M7 M8 P6 P7 P8 C6 C7 C8 V) : V.heap[g6]? = some (.cells (mC M6 P6 C6) 26 (0, 0)) := (ApI.box h (g6, mC M6 P6 C6) (by simp)).2
theorem Tri.box7 (h : Tri H w9 g6 g7 g8 M6 M7 M8 P6 P7 P8 C6 C7 C8 V) : V.heap[g7]? = some (.cells (mC M7 P7 C7) 26 (0, 0)) := (ApI.box h (g7, mC M7 P7 C7) (by simp)).2
theorem Tri.box8 (h : Tri H w9 g6 g7 g8 M6 M7 M8 P6 P7 P8 C6 C7 C8 V) : V.heap[g8]? = some (.cells (mC M8 P8 C8) 26 (0, 0)) := (ApI.box h (g8, mC M8 P8 C8) (by simp)).2
/-- a third box, new and stored whole -/
theorem BoxO.later {g : Nat} {W W' : World} (h : BoxO H g W) (hb : Below W.heap.size W W') : BoxO H g W' := by
  obtain ⟨h1, M, P, C, h2, h3, h4⟩ := h
  exact ⟨h1, M, P, C, (hb.block _ (Array.getElem?_eq_some_iff.1 h2).1).trans h2, h3, h4.later hb⟩
theorem box_third {wC : World} {b : Nat} {Z : Array Value} {S : Mg} {P8 C8 : Value} (h6 : BoxO H g6 wC) (h7 : BoxO H g7 wC) (hs : Msm S) (ho : MOwn b wC S P8 C8) (hb : H ≤ b) (hH : H ≤ wC.heap.size) :
    BoxO H g6 ((wC.alloc (.cells Z 26)).setRow wC.heap.size (mC S P8 C8)) ∧ BoxO H g7 ((wC.alloc (.cells Z 26)).setRow wC.heap.size (mC S P8 C8)) ∧ BoxO H wC.heap.size ((wC.alloc (.cells Z 26)).setRow wC.heap.size (mC S P8 C8)) ∧
      Off (fun k => H ≤ k) wC ((wC.alloc (.cells Z 26)).setRow wC.heap.size (mC S P8 C8)) := by
  have hbl : Below wC.heap.size wC (wC.alloc (.cells Z 26)) := (Below.refl _ wC).alloc (Nat.le_refl _) _
  have hn : (wC.alloc (.cells Z 26)).heap[wC.heap.size]? = some (.cells Z 26 (0, 0)) := World.alloc_heap_new _ _
  have ho' := (ho.less hb).later hbl
  exact ⟨(h6.later hbl).store hn hs ho', (h7.later hbl).store hn hs ho', ⟨hH, S, P8, C8, setRow_heap _ _ _ _ _ _ hn, hs, mown_box ho' hn _⟩,
    Off.setRow (S := fun k => H ≤ k) ((Off.of_below hbl)) hH _⟩
/-- the slices' cells -/
theorem Tri.cells (h : Tri H w9 g6 g7 g8 M6 M7 M8 P6 P7 P8 C6 C7 C8 V) :
    V.cell? ⟨g6, 7, none⟩ = some P6 ∧ V.cell? ⟨g7, 7, none⟩ = some P7 ∧ V.cell? ⟨g8, 7, none⟩ = some P8 ∧ V.cell? ⟨g6, 8, none⟩ = some C6 ∧ V.cell? ⟨g7, 8, none⟩ = some C7 ∧ V.cell? ⟨g8, 8, none⟩ = some C8 :=
  ⟨row_cell h.box6 7 _ rfl, row_cell h.box7 7 _ rfl, row_cell h.box8 7 _ rfl, row_cell h.box6 8 _ rfl, row_cell h.box7 8 _ rfl, row_cell h.box8 8 _ rfl⟩
theorem Tri.drew (h : Tri H w9 g6 g7 g8 M6 M7 M8 P6 P7 P8 C6 C7 C8 V) : Tri H w9 g6 g7 g8 M6 M7 M8 P6 P7 P8 C6 C7 C8 V.drew := ApI.drew h
theorem Tri.off (h : Tri H w9 g6 g7 g8 M6 M7 M8 P6 P7 P8 C6 C7 C8 V) : Off (fun k => H ≤ k) w9 V := ApI.off h
theorem Tri.slices (h : Tri H w9 g6 g7 g8 M6 M7 M8 P6 P7 P8 C6 C7 C8 V) : (∃ a c, P6 = .slice a M6.p.length c) ∧ (∃ a c, P7 = .slice a M7.p.length c) ∧ (∃ a c, P8 = .slice a M8.p.length c) ∧ (∃ a c, C6 = .slice a M6.c.length c) ∧ (∃ a c, C7 = .slice a M7.c.length c) ∧ (∃ a c, C8 = .slice a M8.c.length c) :=
  ⟨(ApI.row h (57, 2, M6.p.length, P6) (by simp)).2.slice, (ApI.row h (57, 2, M7.p.length, P7) (by simp)).2.slice, (ApI.row h (57, 2, M8.p.length, P8) (by simp)).2.slice,
   (ApI.row h (3, 1, M6.c.length, C6) (by simp)).2.slice, (ApI.row h (3, 1, M7.c.length, C7) (by simp)).2.slice, (ApI.row h (3, 1, M8.c.length, C8) (by simp)).2.slice⟩
/-- the points' rows, where there is an i-th -/
theorem Tri.points (h : Tri H w9 g6 g7 g8 M6 M7 M8 P6 P7 P8 C6 C7 C8 V) {i : Nat} (h6 : i < M6.p.length) (h7 : i < M7.p.length) (h8 : i < M8.p.length) :
    (∃ g c, P6 = .slice (some ⟨g, 0, none⟩) M6.p.length c) ∧ (∃ g c, P7 = .slice (some ⟨g, 0, none⟩) M7.p.length c) ∧ (∃ g c, P8 = .slice (some ⟨g, 0, none⟩) M8.p.length c) := by
  obtain ⟨g, c, _, e1, _⟩ := (ApI.row h (57, 2, M6.p.length, P6) (by simp)).2.open h6
  obtain ⟨g', c', _, e2, _⟩ := (ApI.row h (57, 2, M7.p.length, P7) (by simp)).2.open h7
  obtain ⟨g'', c'', _, e3, _⟩ := (ApI.row h (57, 2, M8.p.length, P8) (by simp)).2.open h8
  exact ⟨⟨g, c, e1⟩, ⟨g', c', e2⟩, ⟨g'', c'', e3⟩⟩
theorem Tri.nums (h : Tri H w9 g6 g7 g8 M6 M7 M8 P6 P7 P8 C6 C7 C8 V) {i : Nat} (h6 : i < M6.c.length) (h7 : i < M7.c.length) (h8 : i < M8.c.length) :
    (∃ g c, C6 = .slice (some ⟨g, 0, none⟩) M6.c.length c) ∧ (∃ g c, C7 = .slice (some ⟨g, 0, none⟩) M7.c.length c) ∧ (∃ g c, C8 = .slice (some ⟨g, 0, none⟩) M8.c.length c) := by
  obtain ⟨g, c, _, e1, _⟩ := (ApI.row h (3, 1, M6.c.length, C6) (by simp)).2.open h6
  obtain ⟨g', c', _, e2, _⟩ := (ApI.row h (3, 1, M7.c.length, C7) (by simp)).2.open h7
  obtain ⟨g'', c'', _, e3, _⟩ := (ApI.row h (3, 1, M8.c.length, C8) (by simp)).2.open h8
  exact ⟨⟨g, c, e1⟩, ⟨g', c', e2⟩, ⟨g'', c'', e3⟩⟩
theorem Tri.store (h : Tri H w9 g6 g7 g8 M6 M7 M8 P6 P7 P8 C6 C7 C8 V) {T : TypeId} {s n : Nat} {v : Value} (hq : (T, s, n, v) ∈ [(57, 2, M6.p.length, P6), (57, 2, M7.p.length, P7), (57, 2, M8.p.length, P8), (3, 1, M6.c.length, C6), (3, 1, M7.c.length, C7), (3, 1, M8.c.length, C8)])
    {i d : Nat} (hi : i < n) (hd : d < s) {g cap : Nat} (hv : v = .slice (some ⟨g, 0, none⟩) n cap) (z : Int) :
    ∃ V', (Instr.storeAt 3 (.pointer (some ⟨g, i * s + d, none⟩)) (.int .i64 z)).run Try.prog V = .ok () V' ∧ Tri H w9 g6 g7 g8 M6 M7 M8 P6 P7 P8 C6 C7 C8 V' :=
  ⟨_, ApI.store h hq hi hd hv z⟩
theorem Tri.st6 {b n k i : Nat} (h : Tri H w9 g6 g7 g8 M6 M7 M8 (.slice (some ⟨b, 0, none⟩) n k) P7 P8 C6 C7 C8 V) (hn : M6.p.length = n) (hi : i < n) (z : Int) :
    ∃ V', (Instr.storeAt 3 (.pointer (some ⟨b, i * 2, none⟩)) (.int .i64 z)).run Try.prog V = .ok () V' ∧ Tri H w9 g6 g7 g8 M6 M7 M8 (.slice (some ⟨b, 0, none⟩) n k) P7 P8 C6 C7 C8 V' := by
    subst hn
    have := Tri.store h (T := 57) (s := 2) (n := M6.p.length) (v := .slice (some ⟨b, 0, none⟩) M6.p.length k) (by simp) (i := i) (d := 0) hi (by decide) rfl z
    rwa [Nat.add_zero] at this
theorem Tri.st7 {b n k i : Nat} (h : Tri H w9 g6 g7 g8 M6 M7 M8 P6 (.slice (some ⟨b, 0, none⟩) n k) P8 C6 C7 C8 V) (hn : M7.p.length = n) (hi : i < n) (z : Int) :
    ∃ V', (Instr.storeAt 3 (.pointer (some ⟨b, i * 2 + 1, none⟩)) (.int .i64 z)).run Try.prog V = .ok () V' ∧ Tri H w9 g6 g7 g8 M6 M7 M8 P6 (.slice (some ⟨b, 0, none⟩) n k) P8 C6 C7 C8 V' := by
    subst hn
    have := Tri.store h (T := 57) (s := 2) (n := M7.p.length) (v := .slice (some ⟨b, 0, none⟩) M7.p.length k) (by simp) (i := i) (d := 1) hi (by decide) rfl z
    exact this
theorem Tri.st8 {b n k i : Nat} (h : Tri H w9 g6 g7 g8 M6 M7 M8 P6 P7 (.slice (some ⟨b, 0, none⟩) n k) C6 C7 C8 V) (hn : M8.p.length = n) (hi : i < n) (z : Int) :
    ∃ V', (Instr.storeAt 3 (.pointer (some ⟨b, i * 2, none⟩)) (.int .i64 z)).run Try.prog V = .ok () V' ∧ Tri H w9 g6 g7 g8 M6 M7 M8 P6 P7 (.slice (some ⟨b, 0, none⟩) n k) C6 C7 C8 V' := by
    subst hn
    have := Tri.store h (T := 57) (s := 2) (n := M8.p.length) (v := .slice (some ⟨b, 0, none⟩) M8.p.length k) (by simp) (i := i) (d := 0) hi (by decide) rfl z
    rwa [Nat.add_zero] at this
theorem Tri.sn6 {b n k i : Nat} (h : Tri H w9 g6 g7 g8 M6 M7 M8 P6 P7 P8 (.slice (some ⟨b, 0, none⟩) n k) C7 C8 V) (hn : M6.c.length = n) (hi : i < n) (z : Int) :
    ∃ V', (Instr.storeAt 3 (.pointer (some ⟨b, i, none⟩)) (.int .i64 z)).run Try.prog V = .ok () V' ∧ Tri H w9 g6 g7 g8 M6 M7 M8 P6 P7 P8 (.slice (some ⟨b, 0, none⟩) n k) C7 C8 V' := by
    subst hn
    have := Tri.store h (T := 3) (s := 1) (n := M6.c.length) (v := .slice (some ⟨b, 0, none⟩) M6.c.length k) (by simp) (i := i) (d := 0) hi (by decide) rfl z
    rwa [Nat.mul_one, Nat.add_zero] at this
theorem Tri.sn7 {b n k i : Nat} (h : Tri H w9 g6 g7 g8 M6 M7 M8 P6 P7 P8 C6 (.slice (some ⟨b, 0, none⟩) n k) C8 V) (hn : M7.c.length = n) (hi : i < n) (z : Int) :
    ∃ V', (Instr.storeAt 3 (.pointer (some ⟨b, i, none⟩)) (.int .i64 z)).run Try.prog V = .ok () V' ∧ Tri H w9 g6 g7 g8 M6 M7 M8 P6 P7 P8 C6 (.slice (some ⟨b, 0, none⟩) n k) C8 V' := by
    subst hn
    have := Tri.store h (T := 3) (s := 1) (n := M7.c.length) (v := .slice (some ⟨b, 0, none⟩) M7.c.length k) (by simp) (i := i) (d := 0) hi (by decide) rfl z
    rwa [Nat.mul_one, Nat.add_zero] at this
theorem Tri.sn8 {b n k i : Nat} (h : Tri H w9 g6 g7 g8 M6 M7 M8 P6 P7 P8 C6 C7 (.slice (some ⟨b, 0, none⟩) n k) V) (hn : M8.c.length = n) (hi : i < n) (z : Int) :
    ∃ V', (Instr.storeAt 3 (.pointer (some ⟨b, i, none⟩)) (.int .i64 z)).run Try.prog V = .ok () V' ∧ Tri H w9 g6 g7 g8 M6 M7 M8 P6 P7 P8 C6 C7 (.slice (some ⟨b, 0, none⟩) n k) V' := by
    subst hn
    have := Tri.store h (T := 3) (s := 1) (n := M8.c.length) (v := .slice (some ⟨b, 0, none⟩) M8.c.length k) (by simp) (i := i) (d := 0) hi (by decide) rfl z
    rwa [Nat.mul_one, Nat.add_zero] at this
end
end Go.Proofs.Ytnbhiamnoapmlaa

namespace Go.Proofs.Ytnbhiamnoapmlaa
open Go.RowKit Go.Shelf
set_option maxRecDepth 100000
attribute [local go_sem] Oper.semAt_some

/-- a message whose lists are the call's own, from H on; a box of a message, from H on -/
def FAp (H : Nat) (s : Tmp) (x : Value) (W : World) : Prop :=
  if s = 23 ∨ s = 26 then H ≤ W.heap.size ∧ ∃ M P C, x = mV M P C ∧ Msm M ∧ MOwn H W M P C
  else ∃ g cs, x = .pointer (some ⟨g, 0, none⟩) ∧ H ≤ g ∧ W.heap[g]? = some (.cells cs 26 (0, 0)) ∧ cs.size = 11
theorem FAp.later {H : Nat} {s : Tmp} {x : Value} {W W' : World} (h : FAp H s x W) (hb : Below W.heap.size W W') : FAp H s x W' := by
  unfold FAp at h ⊢
  split
  · rename_i hs
    rw [if_pos hs] at h
    obtain ⟨h0, M, P, C, h1, h2, h3⟩ := h
    exact ⟨Nat.le_trans h0 hb.size, M, P, C, h1, h2, h3.later hb⟩
  · rename_i hs
    rw [if_neg hs] at h
    obtain ⟨g, cs, h1, h2, h3, h4⟩ := h
    exact ⟨g, cs, h1, h2, (hb.block g (Array.getElem?_eq_some_iff.1 h3).1).trans h3, h4⟩
theorem FAp.box {H : Nat} {s : Tmp} {W : World} (hH : H ≤ W.heap.size) (h1 : s ≠ 23) (h2 : s ≠ 26) : FAp H s (.pointer (some ⟨W.heap.size, 0, none⟩)) (W.alloc (.cells #[.int .i64 0, .int .i64 0, .int .i64 0, .int .i64 0, .int .i64 0, .int .i64 0, .int .i64 0, .slice none 0 0, .slice none 0 0, .string ⟨#[]⟩, .string ⟨#[]⟩] 26)) := by
  unfold FAp
  rw [if_neg (fun h => h.elim h1 h2)]
  exact ⟨_, _, rfl, hH, World.alloc_heap_new _ _, rfl⟩
theorem copy_O {H : Nat} {M : Mg} {x : Value} {W : World} (hH : H ≤ W.heap.size) (hs : Msm M) (h : FMs M x W) : Calls Try.prog 18 #[x] W fun e w' => ∃ u, e = .returned u ∧ FAp H 23 u w' ∧ Below W.heap.size W w' := by
  obtain ⟨P, C, rfl, h1⟩ := h
  refine (mcopy_any M P C W hs h1).mono fun e w' h => ?_
  obtain ⟨P, C, rfl, ho, hb⟩ := h
  refine ⟨_, rfl, ?_, hb⟩
  unfold FAp
  rw [if_pos (.inl rfl)]
  exact ⟨Nat.le_trans hH hb.size, M, P, C, rfl, hs, ho.less hH⟩
theorem proj_O {H : Nat} {M : Mg} {x : Value} {W : World} (v : Int) (hH : H ≤ W.heap.size) (hs : Msm M) (h : FMs M x W) : Calls Try.prog 9 #[x, .int .i64 v] W fun e w' => ∃ u, e = .returned u ∧ FAp H 26 u w' ∧ Below W.heap.size W w' := by
  obtain ⟨P, C, rfl, h1⟩ := h
  refine (mproject_any M P C v W hs h1).mono fun e w' h => ?_
  obtain ⟨P, C, rfl, ho, hb⟩ := h
  refine ⟨_, rfl, ?_, hb⟩
  unfold FAp
  rw [if_pos (.inr rfl)]
  exact ⟨Nat.le_trans hH hb.size, mproj M v, P, C, rfl, mproj_small hs v, ho.less hH⟩

set_option maxHeartbeats 16000000 in
theorem apart_go (X : Mg) (P Q : Value) (v : Int) (w : World) (h1 : MAt w w.heap.size X P Q) : Calls Try.prog 5 #[mV X P Q, .int .i64 v] w fun e w' => e = .returned (.bool true) ∧ Below w.heap.size w w' := by
  obtain ⟨⟨a1, c1, rfl, -, -⟩, ⟨b1, d1, rfl, -, -⟩⟩ := id h1
  obtain ⟨np1, hnp1⟩ : ∃ n, X.p.length = n := ⟨_, rfl⟩
  obtain ⟨nc1, hnc1⟩ : ∃ n, X.c.length = n := ⟨_, rfl⟩
  obtain ⟨ii, hii, hzi, hzi1, hzi2⟩ := info_parts i64Info
  unfold mV mC
  rw [hnp1, hnc1] at h1 ⊢
  obtain ⟨w1, hw1⟩ : ∃ w1, w.alloc (.cells #[.int .i64 X.k, .int .i64 X.n0, .int .i64 X.n1, .int .i64 X.n2, .int .i64 X.n3, .int .i64 X.n4, .int .i64 X.n5, .slice a1 np1 c1, .slice b1 nc1 d1, .string X.tx, .string X.tg] 26) = w1 := ⟨_, rfl⟩
  have hb1 : Below w.heap.size w w1 := by rw [← hw1]; exact (Below.refl _ w).alloc (Nat.le_refl _) _
  have q0 : w1.heap[w.heap.size]? = some (.cells (mC X (.slice a1 np1 c1) (.slice b1 nc1 d1)) 26 (0, 0)) := by rw [← hw1]; exact World.alloc_heap_new _ _
  have KX := Lib.hid (show Calls Try.prog 7 #[.agg #[.int .i64 X.k, .int .i64 X.n0, .int .i64 X.n1, .int .i64 X.n2, .int .i64 X.n3, .int .i64 X.n4, .int .i64 X.n5, .slice a1 np1 c1, .slice b1 nc1 d1, .string X.tx, .string X.tg]] w1 fun e w' => ∃ u, e = .returned u ∧ (∃ M P C, Msm M ∧ u = mV M P C ∧ MAt w' w.heap.size M P C) ∧ Below w1.heap.size w1 w' from cut_F hb1.size (h1.below hb1))
  have HW1 := Lib.hid hw1
  have HB1 := Lib.hid hb1
  have HQ0 := Lib.hid q0
  obtain ⟨f0, f1, f2, f3, f4, f5, f6, f7, f8, f9, f10⟩ := mg_block q0
  rw [← hw1] at f0 f1 f2 f3 f4 f5 f6 f7 f8 f9 f10
  clear hw1 hb1 q0 h1 hnp1 hnc1
  go_enter Try.func5, Try.ntmps5
  go_wp2_with fail
  rw [HW1.out]
  clear f0 f1 f2 f3 f4 f5 f6 f7 f8 f9 f10
  refine KX.out.mono ?_
  intro e w2 hC
  obtain ⟨_, rfl, ⟨A, P, C, hsA, rfl, hA⟩, hb2⟩ := hC
  obtain ⟨⟨a3, c3, rfl, -, -⟩, ⟨b3, d3, rfl, -, -⟩⟩ := id hA
  obtain ⟨np, hnp⟩ : ∃ n, A.p.length = n := ⟨_, rfl⟩
  obtain ⟨nc, hnc⟩ : ∃ n, A.c.length = n := ⟨_, rfl⟩
  have hlp := hsA.p
  have hlc := hsA.c
  unfold mV mC
  rw [hnp, hnc] at hA ⊢
  rw [hnp] at hlp
  rw [hnc] at hlc
  have hs1 := HB1.out.size
  have r0 := (hb2.block _ (Array.getElem?_eq_some_iff.1 HQ0.out).1).trans HQ0.out
  obtain ⟨w3, hw3⟩ : ∃ w3, w2.setRow w.heap.size #[.int .i64 A.k, .int .i64 A.n0, .int .i64 A.n1, .int .i64 A.n2, .int .i64 A.n3, .int .i64 A.n4, .int .i64 A.n5, .slice a3 np c3, .slice b3 nc d3, .string A.tx, .string A.tg] = w3 := ⟨_, rfl⟩
  have q0 : w3.heap[w.heap.size]? = some (.cells (mC A (.slice a3 np c3) (.slice b3 nc d3)) 26 (0, 0)) := by rw [← hw3]; exact setRow_heap w2 _ _ #[.int .i64 A.k, .int .i64 A.n0, .int .i64 A.n1, .int .i64 A.n2, .int .i64 A.n3, .int .i64 A.n4, .int .i64 A.n5, .slice a3 np c3, .slice b3 nc d3, .string A.tx, .string A.tg] _ _ r0
  have hoff := Off.setRow (S := fun k => w.heap.size ≤ k) (Off.refl _ w2) (Nat.le_refl w.heap.size) #[.int .i64 A.k, .int .i64 A.n0, .int .i64 A.n1, .int .i64 A.n2, .int .i64 A.n3, .int .i64 A.n4, .int .i64 A.n5, .slice a3 np c3, .slice b3 nc d3, .string A.tx, .string A.tg]
  have hs2 := hb2.size
  have hb23 : Below w.heap.size w2 w3 := by rw [← hw3]; exact hoff.below (B := w.heap.size) (fun k hk => by omega) (by omega)
  have HB3 := Lib.hid (HB1.out.trans ((hb2.mono hs1).trans hb23))
  have hl3 : w.heap.size < w3.heap.size := (Array.getElem?_eq_some_iff.1 q0).1
  have HNP := Lib.hid (And.intro hnp hnc)
  have HMA : Hid (∀ W, Below w3.heap.size w3 W → MAt W w.heap.size A (.slice a3 np c3) (.slice b3 nc d3)) := Lib.hid fun W hW => (hA.below hb23).below (hW.mono (by omega))
  have hmv := fun W (hW : Below w3.heap.size w3 W) => (show FMs A (.agg #[.int .i64 A.k, .int .i64 A.n0, .int .i64 A.n1, .int .i64 A.n2, .int .i64 A.n3, .int .i64 A.n4, .int .i64 A.n5, .slice a3 np c3, .slice b3 nc d3, .string A.tx, .string A.tg]) W from ⟨_, _, rfl, by have := (HMA.out W hW).mono (show w.heap.size ≤ W.heap.size by have := hW.size; omega); rwa [← hnp, ← hnc] at this ⊢⟩)
  have HMV := Lib.hid hmv
  clear hmv
  have HQ3 := Lib.hid q0
  have HW3 := Lib.hid hw3
  have HR0 := Lib.hid r0
  have K2 := Lib.hid (copy_F hsA (HMV.out w3 (Below.refl _ _)))
  obtain ⟨f0, f1, f2, f3, f4, f5, f6, f7, f8, f9, f10⟩ := mg_block q0
  rw [← hw3] at f0 f1 f2 f3 f4 f5 f6 f7 f8 f9 f10
  clear hw3 q0 hoff hb23 hA r0 hb2 HB1 KX HW1 HQ0
  go_wp2_with (refine wpList_store_row rfl 26 (.tmp 2) (.tmp 13) rfl (w.heap.size) #[.int .i64 A.k, .int .i64 A.n0, .int .i64 A.n1, .int .i64 A.n2, .int .i64 A.n3, .int .i64 A.n4, .int .i64 A.n5, .slice a3 np c3, .slice b3 nc d3, .string A.tx, .string A.tg] rfl rfl 26 _ HR0.out mgInfo rfl (by simp [Value.oneCell']) ?_)
  rw [HW3.out]
  clear f0 f1 f2 f3 f4 f5 f6 f7 f8 f9 f10
  clear HW3 HR0
  refine K2.out.mono ?_
  intro e w4 hC
  obtain ⟨u1, rfl, hu1, hb4⟩ := hC
  have HB4 := Lib.hid hb4
  have K3 := Lib.hid (of_F hsA hu1)
  clear hb4 hu1 K2
  go_wp2_with fail
  refine K3.out.mono ?_
  intro e w5 hC
  obtain ⟨_, rfl, ⟨P, C, rfl, hZ⟩, hb5⟩ := hC
  obtain ⟨⟨a5, c5, rfl, -, -⟩, ⟨b5, d5, rfl, -, -⟩⟩ := id hZ
  unfold mV mC
  rw [hnp, hnc] at hZ ⊢
  have hb35 : Below w3.heap.size w3 w5 := HB4.out.trans (hb5.mono HB4.out.size)
  have hs35 := hb35.size
  obtain ⟨w6, hw6⟩ : ∃ w6, ((w5.alloc (.cells #[.int .i64 0, .int .i64 0, .int .i64 0, .int .i64 0, .int .i64 0, .int .i64 0, .int .i64 0, .slice none 0 0, .slice none 0 0, .string ⟨#[]⟩, .string ⟨#[]⟩] 34)).setRow w5.heap.size #[.int .i64 A.k, .int .i64 A.n0, .int .i64 A.n1, .int .i64 A.n2, .int .i64 A.n3, .int .i64 A.n4, .int .i64 A.n5, .slice a5 np c5, .slice b5 nc d5, .string A.tx, .string A.tg]) = w6 := ⟨_, rfl⟩
  have hb55 : Below w5.heap.size w5 (w5.alloc (.cells #[.int .i64 0, .int .i64 0, .int .i64 0, .int .i64 0, .int .i64 0, .int .i64 0, .int .i64 0, .slice none 0 0, .slice none 0 0, .string ⟨#[]⟩, .string ⟨#[]⟩] 34)) := (Below.refl _ w5).alloc (Nat.le_refl _) _
  have hb56 : Below w5.heap.size w5 w6 := by
    rw [← hw6]
    exact hb55.trans ((Off.setRow (S := fun k => w5.heap.size ≤ k) (Off.refl _ _) (Nat.le_refl w5.heap.size) #[.int .i64 A.k, .int .i64 A.n0, .int .i64 A.n1, .int .i64 A.n2, .int .i64 A.n3, .int .i64 A.n4, .int .i64 A.n5, .slice a5 np c5, .slice b5 nc d5, .string A.tx, .string A.tg]).below (B := w5.heap.size) (fun k hk => by omega) hb55.size)
  have q5 : w6.heap[w5.heap.size]? = some (.cells (mC A (.slice a5 np c5) (.slice b5 nc d5)) 34 (0, 0)) := by rw [← hw6]; exact setRow_heap _ _ _ #[.int .i64 A.k, .int .i64 A.n0, .int .i64 A.n1, .int .i64 A.n2, .int .i64 A.n3, .int .i64 A.n4, .int .i64 A.n5, .slice a5 np c5, .slice b5 nc d5, .string A.tx, .string A.tg] _ _ (World.alloc_heap_new _ _)
  have hl5 : w5.heap.size < w6.heap.size := (Array.getElem?_eq_some_iff.1 q5).1
  obtain ⟨w7, hw7⟩ : ∃ w7, w6.alloc (.cells #[] 3) = w7 := ⟨_, rfl⟩
  have hs67 : w7.heap.size = w6.heap.size + 1 := by rw [← hw7]; simp
  have hb67 : Below w6.heap.size w6 w7 := by rw [← hw7]; exact (Below.refl _ w6).alloc (Nat.le_refl _) _
  have hown : w7.ownsRow w6.heap.size 3 1 (.slice (some ⟨w6.heap.size, 0, none⟩) 0 0) 0 [] := by rw [← hw7]; exact World.ownsRow_made w6 #[] 0 (Nat.le_refl _) (by unfold maxLen; omega) rfl
  have q7 := (hb67.block _ hl5).trans q5
  have hb37 : Below w3.heap.size w3 w7 := hb35.trans ((hb56.mono hs35).trans (hb67.mono (by omega)))
  have HN5 := Lib.hid (((hZ.below hb56).mono hb56.size).below hb67)
  have HZ5 := Lib.hid hZ
  have HB57 := Lib.hid (hb56.trans (hb67.mono hb56.size))
  have HW7 := Lib.hid (show ((w5.alloc (.cells #[.int .i64 0, .int .i64 0, .int .i64 0, .int .i64 0, .int .i64 0, .int .i64 0, .int .i64 0, .slice none 0 0, .slice none 0 0, .string ⟨#[]⟩, .string ⟨#[]⟩] 34)).setRow w5.heap.size #[.int .i64 A.k, .int .i64 A.n0, .int .i64 A.n1, .int .i64 A.n2, .int .i64 A.n3, .int .i64 A.n4, .int .i64 A.n5, .slice a5 np c5, .slice b5 nc d5, .string A.tx, .string A.tg]).alloc (.cells #[] 3) = w7 by rw [hw6, hw7])
  have HB37 := Lib.hid hb37
  have HOWN := Lib.hid hown
  have HQ7 := Lib.hid q7
  obtain ⟨hp5, ⟨_, _, e5, hx5, hN5⟩⟩ := HN5.out
  clear hp5 hx5
  injection e5 with e5 e5b e5c
  subst e5
  clear e5b e5c
  have HNC5 := Lib.hid hN5
  obtain ⟨f0, f1, f2, f3, f4, f5, f6, f7, f8, f9, f10⟩ := mg_block q7
  rw [← HW7.out] at f0 f1 f2 f3 f4 f5 f6 f7 f8 f9 f10
  have hS6 : w6.heap.size = w5.heap.size + 1 := by rw [← hw6]; simp [World.setRow]
  rw [hS6] at hown
  have HOW := Lib.hid hown
  have HNW := Lib.hid hN5
  have hle57 : w5.heap.size + 1 ≤ w7.heap.size := by omega
  have HLS := Lib.hid (show w5.heap.size + 1 ≤ (((w5.alloc (.cells #[.int .i64 0, .int .i64 0, .int .i64 0, .int .i64 0, .int .i64 0, .int .i64 0, .int .i64 0, .slice none 0 0, .slice none 0 0, .string ⟨#[]⟩, .string ⟨#[]⟩] 34)).setRow w5.heap.size #[.int .i64 A.k, .int .i64 A.n0, .int .i64 A.n1, .int .i64 A.n2, .int .i64 A.n3, .int .i64 A.n4, .int .i64 A.n5, .slice a5 np c5, .slice b5 nc d5, .string A.tx, .string A.tg]).alloc (.cells #[] 3)).heap.size by rw [HW7.out]; omega)
  have HSN := Lib.hid (show (((w5.alloc (.cells #[.int .i64 0, .int .i64 0, .int .i64 0, .int .i64 0, .int .i64 0, .int .i64 0, .int .i64 0, .slice none 0 0, .slice none 0 0, .string ⟨#[]⟩, .string ⟨#[]⟩] 34)).setRow w5.heap.size #[.int .i64 A.k, .int .i64 A.n0, .int .i64 A.n1, .int .i64 A.n2, .int .i64 A.n3, .int .i64 A.n4, .int .i64 A.n5, .slice a5 np c5, .slice b5 nc d5, .string A.tx, .string A.tg])).heap.size = w5.heap.size + 1 by rw [hw6]; exact hS6)
  have HS7 := Lib.hid (And.intro hs67 (And.intro hS6 hl5))
  have HS35 := Lib.hid hs35
  clear hw6 hw7 hb55 hb56 q5 hb67 hown q7 hb37 hN5 hb35 hZ HN5 K3 HB4 hs67 hl5 hs35 hS6 HOWN HNC5
  try dsimp only
  try simp only [Value.oneCell', List.size_toArray, List.length_cons, List.length_nil, if_true, reduceIte]
  go_wp2_with (first | refine wpList_store_row rfl 34 (.tmp 5) (.tmp 16) rfl w5.heap.size #[.int .i64 A.k, .int .i64 A.n0, .int .i64 A.n1, .int .i64 A.n2, .int .i64 A.n3, .int .i64 A.n4, .int .i64 A.n5, .slice a5 np c5, .slice b5 nc d5, .string A.tx, .string A.tg] rfl rfl 34 _ (World.alloc_heap_new _ _) rmInfo rfl (by simp [Value.oneCell']) ?_ | (refine wpList_build0 rfl rfl (some 17) rfl (w5.heap.size + 1) HSN.out ?_; simp only [Act.put, List.setIfInBounds_toArray, List.set_cons_succ, List.set_cons_zero]) | (rw [HW7.out]; at_builtin; refine wpList_append_szd (by rfl) (.tmp 17) (.tmp 19) 24 rfl (w5.heap.size + 1) 3 ii _ 1 8 Try.underlying24 hii hzi hzi1 hzi2 rfl (by decide) .i64 0 [] A.c _ rfl HOW.out b5 nc d5 _ rfl (by omega) HNW.out (by unfold maxLen; omega) (by omega) hle57 ?_))
  clear f0 f1 f2 f3 f4 f5 f6 f7 f8 f9 f10
  intro v' w8 hown8 hgr
  obtain ⟨bw, dw, rfl, -, -⟩ := nums_of_own hown8 (by omega)
  have hgs : w7.grownBy w8 (some (w5.heap.size + 1)) := hgr
  clear hgr
  have ho8 : Off (fun k => k = w5.heap.size + 1) w7 w8 := ⟨hgs.os, hgs.tape, hgs.output, hgs.size, fun k hk hn => hgs.block k hk (fun e => hn (by injection e))⟩
  have q8 := (ho8.block w5.heap.size (by have := HS7.out; omega) (by omega)).trans HQ7.out
  have hs8 := ho8.size
  have e8 := row_cell q8 8 (.slice b5 nc d5) rfl
  have z8 := frozen_of_row w8 w5.heap.size 8 _ _ q8
  have hS7 := HS7.out
  obtain ⟨w9, hw9⟩ : ∃ w9, w8.setCell ⟨w5.heap.size, 8, none⟩ (.slice bw nc dw) = w9 := ⟨_, rfl⟩
  have q9 : w9.heap[w5.heap.size]? = some (.cells (mC A (.slice a5 np c5) (.slice bw nc dw)) 34 (0, 0)) := by rw [← hw9, setCell_at q8]; rfl
  have hown9 : w9.ownsRow (w5.heap.size + 1) 3 1 (.slice bw nc dw) nc (A.c.map (Value.int .i64)) := by
    rw [← hw9]
    have := ownsRow_setCell_below hown8 (a := ⟨w5.heap.size, 8, none⟩) (by show w5.heap.size < _; omega) (.slice bw nc dw)
    simpa using this
  have hs35 := HS35.out
  have hb39 : Below w3.heap.size w3 w9 := by
    rw [← hw9]
    exact (HB37.out.trans (ho8.below (B := w3.heap.size) (fun k hk => by omega) HB37.out.size)).setCell (p := ⟨w5.heap.size, 8, none⟩) hs35 _
  have HB39 := Lib.hid hb39
  have hb59 : Below w5.heap.size w5 w9 := by
    rw [← hw9]
    exact (HB57.out.trans (ho8.below (B := w5.heap.size) (fun k hk => by omega) HB57.out.size)).setCell (p := ⟨w5.heap.size, 8, none⟩) (Nat.le_refl _) _
  have HMW : Hid (MAt w9 w9.heap.size A (.slice a5 np c5) (.slice bw nc dw)) := Lib.hid ⟨((HZ5.out.below hb59).mono hb59.size).p, by
    obtain ⟨a', c', g1, g2, g3⟩ := nums_of_own hown9 (by omega)
    exact ⟨a', c', by rw [g1, hnc], by rw [hnc]; exact g2, g3⟩⟩
  clear hb59 HZ5 HB57
  have hl9 : w5.heap.size < w9.heap.size := (Array.getElem?_eq_some_iff.1 q9).1
  have hs39 := hb39.size
  clear hb39
  have HQ9 := Lib.hid q9
  have HO9 := Lib.hid hown9
  have HW9 := Lib.hid hw9
  have HO8 := Lib.hid ho8
  clear hw9 q9 hown9 hown8 hgs ho8 q8 hS7
  go_wp2_with fail
  rw [HW9.out]
  clear e8 z8
  have lM : ∀ W, Below w9.heap.size w9 W → (Instr.loadAt 26 (.pointer (some ⟨w.heap.size, 0, none⟩))).run Try.prog W = .ok (.agg #[.int .i64 A.k, .int .i64 A.n0, .int .i64 A.n1, .int .i64 A.n2, .int .i64 A.n3, .int .i64 A.n4, .int .i64 A.n5, .slice a3 np c3, .slice b3 nc d3, .string A.tx, .string A.tg]) W := fun W hW => mg_read (((HB39.out.trans (hW.mono hs39)).block _ hl3).trans HQ3.out)
  have KC := Lib.hid (show ∀ W, Below w9.heap.size w9 W → Calls Try.prog 18 #[.agg #[.int .i64 A.k, .int .i64 A.n0, .int .i64 A.n1, .int .i64 A.n2, .int .i64 A.n3, .int .i64 A.n4, .int .i64 A.n5, .slice a3 np c3, .slice b3 nc d3, .string A.tx, .string A.tg]] W fun e w' => ∃ u, e = .returned u ∧ FAp w9.heap.size 23 u w' ∧ Below W.heap.size W w' from fun W hW => copy_O hW.size hsA (HMV.out W (HB39.out.trans (hW.mono hs39))))
  have KP := Lib.hid (show ∀ W, Below w9.heap.size w9 W → Calls Try.prog 9 #[.agg #[.int .i64 A.k, .int .i64 A.n0, .int .i64 A.n1, .int .i64 A.n2, .int .i64 A.n3, .int .i64 A.n4, .int .i64 A.n5, .slice a3 np c3, .slice b3 nc d3, .string A.tx, .string A.tg], .int .i64 v] W fun e w' => ∃ u, e = .returned u ∧ FAp w9.heap.size 26 u w' ∧ Below W.heap.size W w' from fun W hW => proj_O v hW.size hsA (HMV.out W (HB39.out.trans (hW.mono hs39))))
  refine wp_region_FT 94 7 [23, 26, 6, 7] (FAp w9.heap.size) (fun W => Below w9.heap.size w9 W) (by kernel_rfl) (by kernel_rfl) (by rfl) (by kernel_rfl) (by kernel_rfl) (by kernel_rfl) (by rfl) (by simp) (fun W W' h hb => h.trans (hb.mono h.size)) (fun q x W W' h hb => h.later hb) (Below.refl _ _).drew ?_
  simp only [List.take_succ_cons, List.take_zero, List.drop_succ_cons, List.drop_zero]
  refine wpF_load (ad := ⟨w.heap.size, 0, none⟩) (.agg #[.int .i64 A.k, .int .i64 A.n0, .int .i64 A.n1, .int .i64 A.n2, .int .i64 A.n3, .int .i64 A.n4, .int .i64 A.n5, .slice a3 np c3, .slice b3 nc d3, .string A.tx, .string A.tg]) rfl (by rfl) (by rfl) (by rfl) lM ?_
  simp only [Act.put, List.setIfInBounds_toArray, List.set_cons_succ, List.set_cons_zero]
  refine wpF_callsrc 23 (f := 18) (args := #[.agg #[.int .i64 A.k, .int .i64 A.n0, .int .i64 A.n1, .int .i64 A.n2, .int .i64 A.n3, .int .i64 A.n4, .int .i64 A.n5, .slice a3 np c3, .slice b3 nc d3, .string A.tx, .string A.tg]]) (by simp) rfl rfl rfl (fun x => by first | rfl | (simp [go_sem]; done)) (fun W hW => KC.out W hW) ?_
  simp only [Act.put, List.setIfInBounds_toArray, List.set_cons_succ, List.set_cons_zero]
  refine wpF_load (ad := ⟨w.heap.size, 0, none⟩) (.agg #[.int .i64 A.k, .int .i64 A.n0, .int .i64 A.n1, .int .i64 A.n2, .int .i64 A.n3, .int .i64 A.n4, .int .i64 A.n5, .slice a3 np c3, .slice b3 nc d3, .string A.tx, .string A.tg]) rfl (by rfl) (by rfl) (by rfl) lM ?_
  simp only [Act.put, List.setIfInBounds_toArray, List.set_cons_succ, List.set_cons_zero]
  repeat (refine wpF_pure rfl rfl ?_; go_big_quiet_step (fail); refine wpQuiet_nil ?_)
  refine wpF_callsrc 26 (f := 9) (args := #[.agg #[.int .i64 A.k, .int .i64 A.n0, .int .i64 A.n1, .int .i64 A.n2, .int .i64 A.n3, .int .i64 A.n4, .int .i64 A.n5, .slice a3 np c3, .slice b3 nc d3, .string A.tx, .string A.tg], .int .i64 v]) (by simp) rfl rfl rfl (fun x => by first | rfl | (simp [go_sem]; done)) (fun W hW => KP.out W hW) ?_
  simp only [Act.put, List.setIfInBounds_toArray, List.set_cons_succ, List.set_cons_zero]
  refine wpF_src 6 (by simp) rfl rfl rfl (fun W hW => ⟨.pointer (some ⟨W.heap.size, 0, none⟩), W.alloc (.cells #[.int .i64 0, .int .i64 0, .int .i64 0, .int .i64 0, .int .i64 0, .int .i64 0, .int .i64 0, .slice none 0 0, .slice none 0 0, .string ⟨#[]⟩, .string ⟨#[]⟩] 26), by simp [go_sem], FAp.box hW.size (by decide) (by decide), (Below.refl _ _).alloc (Nat.le_refl _) _⟩) ?_
  simp only [Act.put, List.setIfInBounds_toArray, List.set_cons_succ, List.set_cons_zero]
  refine wpF_src 7 (by simp) rfl rfl rfl (fun W hW => ⟨.pointer (some ⟨W.heap.size, 0, none⟩), W.alloc (.cells #[.int .i64 0, .int .i64 0, .int .i64 0, .int .i64 0, .int .i64 0, .int .i64 0, .int .i64 0, .slice none 0 0, .slice none 0 0, .string ⟨#[]⟩, .string ⟨#[]⟩] 26), by simp [go_sem], FAp.box hW.size (by decide) (by decide), (Below.refl _ _).alloc (Nat.le_refl _) _⟩) ?_
  simp only [Act.put, List.setIfInBounds_toArray, List.set_cons_succ, List.set_cons_zero]
  intro xs wA hWA hxs
  have h23 := hxs 23 (by simp)
  have h26 := hxs 26 (by simp)
  have h6 := hxs 6 (by simp)
  have h7 := hxs 7 (by simp)
  unfold FAp at h23 h26 h6 h7
  rw [if_pos (.inl rfl)] at h23
  rw [if_pos (.inr rfl)] at h26
  rw [if_neg (by decide)] at h6 h7
  obtain ⟨-, M6, P6, C6, x23, hs6, ho6⟩ := h23
  obtain ⟨-, M7, P7, C7, x26, hs7, ho7⟩ := h26
  obtain ⟨g6, cs6, x6, hg6, hc6, hz6⟩ := h6
  obtain ⟨g7, cs7, x7, hg7, hc7, hz7⟩ := h7
  simp only [fill, x23, x26, x6, x7]
  simp only [Act.put, List.setIfInBounds_toArray, List.set_cons_succ, List.set_cons_zero]
  obtain ⟨⟨a6, c6, rfl, -, -⟩, ⟨e6, d6, rfl, -, -⟩⟩ := ho6.at
  obtain ⟨⟨a7, c7, rfl, -, -⟩, ⟨e7, d7, rfl, -, -⟩⟩ := ho7.at
  clear x23 x26 x6 x7
  obtain ⟨np6, hnp6⟩ : ∃ n, M6.p.length = n := ⟨_, rfl⟩
  obtain ⟨nc6, hnc6⟩ : ∃ n, M6.c.length = n := ⟨_, rfl⟩
  obtain ⟨np7, hnp7⟩ : ∃ n, M7.p.length = n := ⟨_, rfl⟩
  obtain ⟨nc7, hnc7⟩ : ∃ n, M7.c.length = n := ⟨_, rfl⟩
  unfold mV mC
  rw [hnp6, hnc6, hnp7, hnc7]
  have hc77 : ∃ cs, (wA.setRow g6 #[.int .i64 M6.k, .int .i64 M6.n0, .int .i64 M6.n1, .int .i64 M6.n2, .int .i64 M6.n3, .int .i64 M6.n4, .int .i64 M6.n5, .slice a6 np6 c6, .slice e6 nc6 d6, .string M6.tx, .string M6.tg]).heap[g7]? = some (.cells cs 26 (0, 0)) ∧ cs.size = 11 := by
    by_cases e : g6 = g7
    · subst e; exact ⟨_, setRow_heap wA g6 _ #[.int .i64 M6.k, .int .i64 M6.n0, .int .i64 M6.n1, .int .i64 M6.n2, .int .i64 M6.n3, .int .i64 M6.n4, .int .i64 M6.n5, .slice a6 np6 c6, .slice e6 nc6 d6, .string M6.tx, .string M6.tg] _ _ hc6, rfl⟩
    · exact ⟨cs7, (setRow_other _ _ _ _ (fun h => e h.symm)).trans hc7, hz7⟩
  obtain ⟨cs77, hc77, hz77⟩ := hc77
  have HC6 := Lib.hid hc6
  have HC77 := Lib.hid hc77
  rw [hnp6, hnc6] at ho6
  rw [hnp7, hnc7] at ho7
  have hT := two_boxes hc6 hc77 hg6 hg7 hs6 hs7 ho6 ho7
  obtain ⟨wB, hwB⟩ : ∃ wB, (wA.setRow g6 #[.int .i64 M6.k, .int .i64 M6.n0, .int .i64 M6.n1, .int .i64 M6.n2, .int .i64 M6.n3, .int .i64 M6.n4, .int .i64 M6.n5, .slice a6 np6 c6, .slice e6 nc6 d6, .string M6.tx, .string M6.tg]).setRow g7 #[.int .i64 M7.k, .int .i64 M7.n0, .int .i64 M7.n1, .int .i64 M7.n2, .int .i64 M7.n3, .int .i64 M7.n4, .int .i64 M7.n5, .slice a7 np7 c7, .slice e7 nc7 d7, .string M7.tx, .string M7.tg] = wB := ⟨_, rfl⟩
  unfold mC at hT
  rw [hwB] at hT
  obtain ⟨bo6, bo7, hoB⟩ := hT
  have hb9B : Below w9.heap.size w9 wB := hWA.trans (hoB.below (B := w9.heap.size) (fun k hk => by omega) hWA.size)
  have qB := ((HB39.out.trans (hb9B.mono hs39)).block _ hl3).trans HQ3.out
  have KS0 := mset_any A (.slice a3 np c3) (.slice b3 nc d3) ⟨#[114, 111, 98, 111, 116]⟩ 3 wB hsA ((HMA.out wB (HB39.out.trans (hb9B.mono hs39))).mono (by have := hb9B.size; omega))
  unfold mV mC at KS0
  have KS := Lib.hid KS0
  clear KS0
  have HBO := Lib.hid (And.intro bo6 bo7)
  have HB9B := Lib.hid hb9B
  have HWB := Lib.hid hwB
  obtain ⟨f0, f1, f2, f3, f4, f5, f6, f7, f8, f9, f10⟩ := mg_block qB
  clear hwB hoB bo6 bo7 hb9B qB hxs hWA ho6 ho7 hc6 hc77 hc7 hnp6 hnc6 hnp7 hnc7 hs6 hs7 lM KC KP hnp hnc hii hzi hzi1 hzi2
  refine wpList_store_row rfl 26 (.tmp 6) (.tmp 23) rfl g6 #[.int .i64 M6.k, .int .i64 M6.n0, .int .i64 M6.n1, .int .i64 M6.n2, .int .i64 M6.n3, .int .i64 M6.n4, .int .i64 M6.n5, .slice a6 np6 c6, .slice e6 nc6 d6, .string M6.tx, .string M6.tg] rfl rfl 26 _ HC6.out mgInfo hz6 (by simp [Value.oneCell']) ?_
  refine wpList_store_row rfl 26 (.tmp 7) (.tmp 26) rfl g7 #[.int .i64 M7.k, .int .i64 M7.n0, .int .i64 M7.n1, .int .i64 M7.n2, .int .i64 M7.n3, .int .i64 M7.n4, .int .i64 M7.n5, .slice a7 np7 c7, .slice e7 nc7 d7, .string M7.tx, .string M7.tg] rfl rfl 26 _ HC77.out mgInfo hz77 (by simp [Value.oneCell']) ?_
  rw [HWB.out]
  generalize Value.agg #[.int .i64 X.k, .int .i64 X.n0, .int .i64 X.n1, .int .i64 X.n2, .int .i64 X.n3, .int .i64 X.n4, .int .i64 X.n5, .slice a1 np1 c1, .slice b1 nc1 d1, .string X.tx, .string X.tg] = vX
  generalize Value.agg #[.int .i64 A.k, .int .i64 A.n0, .int .i64 A.n1, .int .i64 A.n2, .int .i64 A.n3, .int .i64 A.n4, .int .i64 A.n5, .slice a5 np c5, .slice b5 nc d5, .string A.tx, .string A.tg] = vZ
  generalize Value.agg #[.int .i64 M6.k, .int .i64 M6.n0, .int .i64 M6.n1, .int .i64 M6.n2, .int .i64 M6.n3, .int .i64 M6.n4, .int .i64 M6.n5, .slice a6 np6 c6, .slice e6 nc6 d6, .string M6.tx, .string M6.tg] = v6
  generalize Value.agg #[.int .i64 M7.k, .int .i64 M7.n0, .int .i64 M7.n1, .int .i64 M7.n2, .int .i64 M7.n3, .int .i64 M7.n4, .int .i64 M7.n5, .slice a7 np7 c7, .slice e7 nc7 d7, .string M7.tx, .string M7.tg] = v7
  clear HWB HC6 HC77 hz6 hz77 hz7
  simp only [Act.put]
  go_step
  rename ∀ (a : Act) (w : World), Code.wp _ _ _ a w → _ => hK5
  refine hK5 _ _ ?_
  clear hK5
  go_wp2_with fail
  clear f0 f1 f2 f3 f4 f5 f6 f7 f8 f9 f10
  refine KS.out.mono ?_
  intro e wC hC
  unfold MSR mV at hC
  obtain ⟨P8, C8, rfl, ho8, hb8⟩ := hC
  obtain ⟨S, hS⟩ : ∃ S, setM A ⟨#[114, 111, 98, 111, 116]⟩ 3 = S := ⟨_, rfl⟩
  have hsS : Msm S := by rw [← hS]; exact setM_small hsA _ _
  rw [hS] at ho8 ⊢
  generalize plB (fnd (FD A.k) ⟨#[114, 111, 98, 111, 116]⟩) = ok
  obtain ⟨⟨a8, c8, rfl, -, -⟩, ⟨e8, d8, rfl, -, -⟩⟩ := ho8.at
  obtain ⟨np8, hnp8⟩ : ∃ n, S.p.length = n := ⟨_, rfl⟩
  obtain ⟨nc8, hnc8⟩ : ∃ n, S.c.length = n := ⟨_, rfl⟩
  unfold mC
  rw [hnp8, hnc8] at ho8 ⊢
  have hsB := HB9B.out.size
  have hsC := hb8.size
  have hT := box_third (Z := #[.int .i64 0, .int .i64 0, .int .i64 0, .int .i64 0, .int .i64 0, .int .i64 0, .int .i64 0, .slice none 0 0, .slice none 0 0, .string ⟨#[]⟩, .string ⟨#[]⟩]) (HBO.out.1.later hb8) (HBO.out.2.later hb8) hsS ho8 hsB (by omega)
  have hb9C : Below w9.heap.size w9 wC := HB9B.out.trans (hb8.mono hsB)
  unfold mC at hT
  obtain ⟨wD, hwD⟩ : ∃ wD, (wC.alloc (.cells #[.int .i64 0, .int .i64 0, .int .i64 0, .int .i64 0, .int .i64 0, .int .i64 0, .int .i64 0, .slice none 0 0, .slice none 0 0, .string ⟨#[]⟩, .string ⟨#[]⟩] 26)).setRow wC.heap.size #[.int .i64 S.k, .int .i64 S.n0, .int .i64 S.n1, .int .i64 S.n2, .int .i64 S.n3, .int .i64 S.n4, .int .i64 S.n5, .slice a8 np8 c8, .slice e8 nc8 d8, .string S.tx, .string S.tg] = wD := ⟨_, rfl⟩
  rw [hwD] at hT
  obtain ⟨t6, t7, t8, hoD⟩ := hT
  obtain ⟨M6, M7, M8, P6, P7, P8, C6, C7, C8, s6, s7, s8, hTri⟩ := tri_make t6 t7 t8 ((Off.of_below hb9C).trans hoD (fun _ _ h => h))
  have HWD := Lib.hid hwD
  have HT := Lib.hid hTri
  have hs9C := hb9C.size
  have hg8 : w9.heap.size ≤ wC.heap.size := hs9C
  clear hwD hTri t6 t7 t8 hoD hb9C hb8 ho8 hS hsS hnp8 hnc8 HBO HB9B KS hsB hsC
  go_wp2_with (refine wpList_store_row rfl 26 (.tmp 8) (.tmp 30) rfl wC.heap.size #[.int .i64 S.k, .int .i64 S.n0, .int .i64 S.n1, .int .i64 S.n2, .int .i64 S.n3, .int .i64 S.n4, .int .i64 S.n5, .slice a8 np8 c8, .slice e8 nc8 d8, .string S.tx, .string S.tg] rfl rfl 26 _ (World.alloc_heap_new _ _) mgInfo rfl (by simp [Value.oneCell']) ?_)
  rw [HWD.out]
  clear HWD
  generalize wC.heap.size = g8 at *
  obtain ⟨⟨p6, k6, rfl⟩, ⟨p7, k7, rfl⟩, ⟨p8, k8, rfl⟩, ⟨q6, l6, rfl⟩, ⟨q7, l7, rfl⟩, ⟨q8, l8, rfl⟩⟩ := HT.out.slices
  obtain ⟨n6, hn6⟩ : ∃ n, M6.p.length = n := ⟨_, rfl⟩
  obtain ⟨n7, hn7⟩ : ∃ n, M7.p.length = n := ⟨_, rfl⟩
  obtain ⟨n8, hn8⟩ : ∃ n, M8.p.length = n := ⟨_, rfl⟩
  obtain ⟨m6, hm6⟩ : ∃ n, M6.c.length = n := ⟨_, rfl⟩
  obtain ⟨m7, hm7⟩ : ∃ n, M7.c.length = n := ⟨_, rfl⟩
  obtain ⟨m8, hm8⟩ : ∃ n, M8.c.length = n := ⟨_, rfl⟩
  rw [hn6, hn7, hn8, hm6, hm7, hm8] at HT
  have z6 := s6.p
  have z7 := s6.c
  rw [hn6] at z6
  rw [hm6] at z7
  have HN := Lib.hid (And.intro hn6 (And.intro hn7 (And.intro hn8 (And.intro hm6 (And.intro hm7 hm8)))))
  clear hn6 hn7 hn8 hm6 hm7 hm8 s6 s7 s8
  obtain ⟨r, hr⟩ : ∃ r : Nat, min (min (n6 : Int) (n7 : Int)) (n8 : Int) = (r : Int) := ⟨min (min n6 n7) n8, by omega⟩
  obtain ⟨t, ht⟩ : ∃ r : Nat, min (min (m6 : Int) (m7 : Int)) (m8 : Int) = (r : Int) := ⟨min (min m6 m7) m8, by omega⟩
  have hr6 : r ≤ n6 := by omega
  have hr7 : r ≤ n7 := by omega
  have hr8 : r ≤ n8 := by omega
  have ht6 : t ≤ m6 := by omega
  have ht7 : t ≤ m7 := by omega
  have ht8 : t ≤ m8 := by omega
  have hminr := run_min3 #[3, 3, 3] 3 n6 n7 n8 r hr
  have hmint := run_min3 #[3, 3, 3] 3 m6 m7 m8 t ht
  clear hr ht
  go_loopw [10] (fun iv wr => ∃ j : Nat, j ≤ r ∧ iv = .int .i64 (j : Int) ∧ Hid (Tri w9.heap.size w9 g6 g7 g8 M6 M7 M8 (.slice p6 n6 k6) (.slice p7 n7 k7) (.slice p8 n8 k8) (.slice q6 m6 l6) (.slice q7 m7 l7) (.slice q8 m8 l8) wr)) (fun iv _ => r - (intOf iv).toNat)
  case atStart => exact ⟨0, by omega, rfl, HT⟩
  case round =>
    obtain ⟨j, hj, rfl, HR⟩ := hrel
    obtain ⟨c0, c1', c2, c3', c4, c5'⟩ := HR.out.cells
    have z0 : (0 : Int) ≤ (j : Int) := Int.natCast_nonneg _
    by_cases hlt : j < r
    · have z1 : (j : Int) < (r : Int) := by omega
      obtain ⟨⟨b6, _, e6'⟩, ⟨b7, _, e7'⟩, ⟨b8, _, e8'⟩⟩ := HR.out.points (i := j) (by have := HN.out; omega) (by have := HN.out; omega) (by have := HN.out; omega)
      injection e6' with e6' x1 x2
      clear x1 x2
      injection e7' with e7' x1 x2
      clear x1 x2
      injection e8' with e8' x1 x2
      clear x1 x2
      subst e6' e7' e8'
      clear c3' c4 c5'
      go_wp2_with fail
      refine wp_region_order4 (0 :: 1 :: 2 :: 3 :: 4 :: 5 :: 6 :: 7 :: 8 :: 9 :: 10 :: 11 :: 12 :: 13 :: 14 :: 15 :: 16 :: 17 :: []) (fun V => Tri w9.heap.size w9 g6 g7 g8 M6 M7 M8 (.slice (some ⟨b6, 0, none⟩) n6 k6) (.slice (some ⟨b7, 0, none⟩) n7 k7) (.slice (some ⟨b8, 0, none⟩) n8 k8) (.slice q6 m6 l6) (.slice q7 m7 l7) (.slice q8 m8 l8) V) (C := fun V => Tri w9.heap.size w9 g6 g7 g8 M6 M7 M8 (.slice (some ⟨b6, 0, none⟩) n6 k6) (.slice (some ⟨b7, 0, none⟩) n7 k7) (.slice (some ⟨b8, 0, none⟩) n8 k8) (.slice q6 m6 l6) (.slice q7 m7 l7) (.slice q8 m8 l8) V) (by kernel_rfl) (by kernel_rfl) HR.out.drew (fun _ hW => hW) ?_
      repeat (refine wpO4_pure rfl rfl ?_; go_big_quiet_step (fail); refine wpQuiet_nil ?_)
      refine wpO4_load (ad := ⟨g6, 7, none⟩) (.slice (some ⟨b6, 0, none⟩) n6 k6) rfl rfl rfl (by rfl) (fun W hW => by simp [Instr.loadAt, go_sem, (Tri.cells hW).1]) ?_
      simp only [Act.put, List.setIfInBounds_toArray, List.set_cons_succ, List.set_cons_zero]
      repeat (refine wpO4_pure rfl rfl ?_; go_big_quiet_step (fail); refine wpQuiet_nil ?_)
      refine wpO4_load (ad := ⟨g7, 7, none⟩) (.slice (some ⟨b7, 0, none⟩) n7 k7) rfl rfl rfl (by rfl) (fun W hW => by simp [Instr.loadAt, go_sem, (Tri.cells hW).2.1]) ?_
      simp only [Act.put, List.setIfInBounds_toArray, List.set_cons_succ, List.set_cons_zero]
      repeat (refine wpO4_pure rfl rfl ?_; go_big_quiet_step (fail); refine wpQuiet_nil ?_)
      refine wpO4_load (ad := ⟨g8, 7, none⟩) (.slice (some ⟨b8, 0, none⟩) n8 k8) rfl rfl rfl (by rfl) (fun W hW => by simp [Instr.loadAt, go_sem, (Tri.cells hW).2.2.1]) ?_
      simp only [Act.put, List.setIfInBounds_toArray, List.set_cons_succ, List.set_cons_zero]
      repeat (refine wpO4_pure rfl rfl ?_; go_big_quiet_step (fail); refine wpQuiet_nil ?_)
      refine wpO4_store (fun V => Tri w9.heap.size w9 g6 g7 g8 M6 M7 M8 (.slice (some ⟨b6, 0, none⟩) n6 k6) (.slice (some ⟨b7, 0, none⟩) n7 k7) (.slice (some ⟨b8, 0, none⟩) n8 k8) (.slice q6 m6 l6) (.slice q7 m7 l7) (.slice q8 m8 l8) V) rfl rfl rfl rfl _ (.int .i64 5) rfl rfl (fun W hW => hW) (fun W hW => ?_) ?_
      · exact Tri.st6 hW HN.out.1 (by omega) 5
      repeat (refine wpO4_pure rfl rfl ?_; go_big_quiet_step (fail); refine wpQuiet_nil ?_)
      refine wpO4_store (fun V => Tri w9.heap.size w9 g6 g7 g8 M6 M7 M8 (.slice (some ⟨b6, 0, none⟩) n6 k6) (.slice (some ⟨b7, 0, none⟩) n7 k7) (.slice (some ⟨b8, 0, none⟩) n8 k8) (.slice q6 m6 l6) (.slice q7 m7 l7) (.slice q8 m8 l8) V) rfl rfl rfl rfl _ (.int .i64 6) rfl rfl (fun W hW => hW) (fun W hW => ?_) ?_
      · exact Tri.st7 hW HN.out.2.1 (by omega) 6
      repeat (refine wpO4_pure rfl rfl ?_; go_big_quiet_step (fail); refine wpQuiet_nil ?_)
      refine wpO4_store (fun V => Tri w9.heap.size w9 g6 g7 g8 M6 M7 M8 (.slice (some ⟨b6, 0, none⟩) n6 k6) (.slice (some ⟨b7, 0, none⟩) n7 k7) (.slice (some ⟨b8, 0, none⟩) n8 k8) (.slice q6 m6 l6) (.slice q7 m7 l7) (.slice q8 m8 l8) V) rfl rfl rfl rfl _ (.int .i64 7) rfl rfl (fun W hW => hW) (fun W hW => ?_) ?_
      · exact Tri.st8 hW HN.out.2.2.1 (by omega) 7
      intro wy hy
      have HY := Lib.hid hy
      clear HR hy HT
      go_wp2
      exact ⟨⟨j + 1, by omega, by go_num, HY⟩, by simp only [intOf]; omega⟩
    · obtain rfl : j = r := by omega
      clear c3' c4 c5'
      go_wp2_with fail
      clear c0 c1' c2 hminr hr6 hr7 hr8 hj hlt z0
      go_loopw [11] (fun iv wr => ∃ j : Nat, j ≤ t ∧ iv = .int .i64 (j : Int) ∧ Hid (Tri w9.heap.size w9 g6 g7 g8 M6 M7 M8 (.slice p6 n6 k6) (.slice p7 n7 k7) (.slice p8 n8 k8) (.slice q6 m6 l6) (.slice q7 m7 l7) (.slice q8 m8 l8) wr)) (fun iv _ => t - (intOf iv).toNat)
      case atStart => exact ⟨0, by omega, rfl, HR⟩
      case round =>
        rename World => wl
        obtain ⟨j, hj, rfl, HL⟩ := hrel
        obtain ⟨c0, c1', c2, c3', c4, c5'⟩ := HL.out.cells
        have z0 : (0 : Int) ≤ (j : Int) := Int.natCast_nonneg _
        clear c0 c1' c2
        by_cases hlt : j < t
        · have z1 : (j : Int) < (t : Int) := by omega
          obtain ⟨⟨b6, _, e6'⟩, ⟨b7, _, e7'⟩, ⟨b8, _, e8'⟩⟩ := HL.out.nums (i := j) (by have := HN.out; omega) (by have := HN.out; omega) (by have := HN.out; omega)
          injection e6' with e6' x1 x2
          clear x1 x2
          injection e7' with e7' x1 x2
          clear x1 x2
          injection e8' with e8' x1 x2
          clear x1 x2
          subst e6' e7' e8'
          go_wp2_with fail
          refine wp_region_order4 (0 :: 1 :: 2 :: 3 :: 4 :: 5 :: 6 :: 7 :: 8 :: 9 :: 10 :: 11 :: 12 :: 13 :: 14 :: []) (fun V => Tri w9.heap.size w9 g6 g7 g8 M6 M7 M8 (.slice p6 n6 k6) (.slice p7 n7 k7) (.slice p8 n8 k8) (.slice (some ⟨b6, 0, none⟩) m6 l6) (.slice (some ⟨b7, 0, none⟩) m7 l7) (.slice (some ⟨b8, 0, none⟩) m8 l8) V) (C := fun V => Tri w9.heap.size w9 g6 g7 g8 M6 M7 M8 (.slice p6 n6 k6) (.slice p7 n7 k7) (.slice p8 n8 k8) (.slice (some ⟨b6, 0, none⟩) m6 l6) (.slice (some ⟨b7, 0, none⟩) m7 l7) (.slice (some ⟨b8, 0, none⟩) m8 l8) V) (by kernel_rfl) (by kernel_rfl) HL.out.drew (fun _ hW => hW) ?_
          repeat (refine wpO4_pure rfl rfl ?_; go_big_quiet_step (fail); refine wpQuiet_nil ?_)
          refine wpO4_load (ad := ⟨g6, 8, none⟩) (.slice (some ⟨b6, 0, none⟩) m6 l6) rfl rfl rfl (by rfl) (fun W hW => by simp [Instr.loadAt, go_sem, (Tri.cells hW).2.2.2.1]) ?_
          simp only [Act.put, List.setIfInBounds_toArray, List.set_cons_succ, List.set_cons_zero]
          repeat (refine wpO4_pure rfl rfl ?_; go_big_quiet_step (fail); refine wpQuiet_nil ?_)
          refine wpO4_load (ad := ⟨g7, 8, none⟩) (.slice (some ⟨b7, 0, none⟩) m7 l7) rfl rfl rfl (by rfl) (fun W hW => by simp [Instr.loadAt, go_sem, (Tri.cells hW).2.2.2.2.1]) ?_
          simp only [Act.put, List.setIfInBounds_toArray, List.set_cons_succ, List.set_cons_zero]
          repeat (refine wpO4_pure rfl rfl ?_; go_big_quiet_step (fail); refine wpQuiet_nil ?_)
          refine wpO4_load (ad := ⟨g8, 8, none⟩) (.slice (some ⟨b8, 0, none⟩) m8 l8) rfl rfl rfl (by rfl) (fun W hW => by simp [Instr.loadAt, go_sem, (Tri.cells hW).2.2.2.2.2]) ?_
          simp only [Act.put, List.setIfInBounds_toArray, List.set_cons_succ, List.set_cons_zero]
          repeat (refine wpO4_pure rfl rfl ?_; go_big_quiet_step (fail); refine wpQuiet_nil ?_)
          refine wpO4_store (fun V => Tri w9.heap.size w9 g6 g7 g8 M6 M7 M8 (.slice p6 n6 k6) (.slice p7 n7 k7) (.slice p8 n8 k8) (.slice (some ⟨b6, 0, none⟩) m6 l6) (.slice (some ⟨b7, 0, none⟩) m7 l7) (.slice (some ⟨b8, 0, none⟩) m8 l8) V) rfl rfl rfl rfl _ (.int .i64 5) rfl rfl (fun W hW => hW) (fun W hW => ?_) ?_
          · exact Tri.sn6 hW HN.out.2.2.2.1 (by omega) 5
          repeat (refine wpO4_pure rfl rfl ?_; go_big_quiet_step (fail); refine wpQuiet_nil ?_)
          refine wpO4_store (fun V => Tri w9.heap.size w9 g6 g7 g8 M6 M7 M8 (.slice p6 n6 k6) (.slice p7 n7 k7) (.slice p8 n8 k8) (.slice (some ⟨b6, 0, none⟩) m6 l6) (.slice (some ⟨b7, 0, none⟩) m7 l7) (.slice (some ⟨b8, 0, none⟩) m8 l8) V) rfl rfl rfl rfl _ (.int .i64 6) rfl rfl (fun W hW => hW) (fun W hW => ?_) ?_
          · exact Tri.sn7 hW HN.out.2.2.2.2.1 (by omega) 6
          repeat (refine wpO4_pure rfl rfl ?_; go_big_quiet_step (fail); refine wpQuiet_nil ?_)
          refine wpO4_store (fun V => Tri w9.heap.size w9 g6 g7 g8 M6 M7 M8 (.slice p6 n6 k6) (.slice p7 n7 k7) (.slice p8 n8 k8) (.slice (some ⟨b6, 0, none⟩) m6 l6) (.slice (some ⟨b7, 0, none⟩) m7 l7) (.slice (some ⟨b8, 0, none⟩) m8 l8) V) rfl rfl rfl rfl _ (.int .i64 7) rfl rfl (fun W hW => hW) (fun W hW => ?_) ?_
          · exact Tri.sn8 hW HN.out.2.2.2.2.2 (by omega) 7
          intro wy hy
          have HY := Lib.hid hy
          clear HR HL hy HT
          go_wp2
          exact ⟨⟨j + 1, by omega, by go_num, HY⟩, by simp only [intOf]; omega⟩
        · obtain rfl : j = t := by omega
          go_wp2_with fail
          clear c3' c4 c5' hmint ht6 ht7 ht8 hj hlt z0
          have hoL : Below w9.heap.size w9 wl := HL.out.off.below (B := w9.heap.size) (fun k hk => hk) (Nat.le_refl _)
          have hsL := hoL.size
          have HBL := Lib.hid hoL
          clear hoL HL HR HT HN
          have lM : ∀ W, Below wl.heap.size wl W → (Instr.loadAt 26 (.pointer (some ⟨w.heap.size, 0, none⟩))).run Try.prog W = .ok (.agg #[.int .i64 A.k, .int .i64 A.n0, .int .i64 A.n1, .int .i64 A.n2, .int .i64 A.n3, .int .i64 A.n4, .int .i64 A.n5, .slice a3 np c3, .slice b3 nc d3, .string A.tx, .string A.tg]) W := fun W hW => mg_read (((HB39.out.trans ((HBL.out.trans (hW.mono hsL)).mono hs39)).block _ hl3).trans HQ3.out)
          have lR : ∀ W, Below wl.heap.size wl W → (Instr.loadAt 34 (.pointer (some ⟨w5.heap.size, 0, none⟩))).run Try.prog W = .ok (.agg #[.int .i64 A.k, .int .i64 A.n0, .int .i64 A.n1, .int .i64 A.n2, .int .i64 A.n3, .int .i64 A.n4, .int .i64 A.n5, .slice a5 np c5, .slice bw nc dw, .string A.tx, .string A.tg]) W := fun W hW => mr_read (((HBL.out.trans (hW.mono hsL)).block _ hl9).trans HQ9.out)
          have KO := Lib.hid (show ∀ W, Below wl.heap.size wl W → Calls Try.prog 11 #[.agg #[.int .i64 A.k, .int .i64 A.n0, .int .i64 A.n1, .int .i64 A.n2, .int .i64 A.n3, .int .i64 A.n4, .int .i64 A.n5, .slice a3 np c3, .slice b3 nc d3, .string A.tx, .string A.tg]] W fun e w' => ∃ u, e = .returned u ∧ FMs A u w' ∧ Below W.heap.size W w' from fun W hW => of_F hsA (HMV.out W (HB39.out.trans ((HBL.out.trans (hW.mono hsL)).mono hs39))))
          have KS := Lib.hid (show ∀ x W, Below wl.heap.size wl W → FMs A x W → Calls Try.prog 12 #[x, .agg #[.int .i64 A.k, .int .i64 A.n0, .int .i64 A.n1, .int .i64 A.n2, .int .i64 A.n3, .int .i64 A.n4, .int .i64 A.n5, .slice a5 np c5, .slice bw nc dw, .string A.tx, .string A.tg]] W fun e w' => e = .returned (.bool true) ∧ Below W.heap.size W w' from fun x W hW hx => by
            have hb := HBL.out.trans (hW.mono hsL)
            have := rsame_F hsA hx (M' := A) ⟨_, _, rfl, (HMW.out.below hb).mono hb.size⟩
            rw [decide_eq_true rfl] at this
            unfold mV mC at this
            exact this)
          refine wp_region_F 94 [90] (fun _ => FMs A) (fun W => Below wl.heap.size wl W) (by kernel_rfl) (by kernel_rfl) (by rfl) (by simp) (fun W W' h hb => h.trans (hb.mono h.size)) (fun s x W W' h hb => h.later hb) (Below.refl _ _).drew ?_
          refine wpF_call (f := 16) (args := #[]) (.bool true) rfl rfl (fun x => by first | rfl | (simp [go_sem]; done)) (fun W hW => mknown_any W) ?_
          simp only [Act.put, List.setIfInBounds_toArray, List.set_cons_succ, List.set_cons_zero]
          repeat (refine wpF_pure rfl rfl ?_; go_big_quiet_step (fail); refine wpQuiet_nil ?_)
          refine wpF_load (ad := ⟨w.heap.size, 0, none⟩) (.agg #[.int .i64 A.k, .int .i64 A.n0, .int .i64 A.n1, .int .i64 A.n2, .int .i64 A.n3, .int .i64 A.n4, .int .i64 A.n5, .slice a3 np c3, .slice b3 nc d3, .string A.tx, .string A.tg]) rfl (by rfl) (by rfl) (by rfl) lM ?_
          simp only [Act.put, List.setIfInBounds_toArray, List.set_cons_succ, List.set_cons_zero]
          repeat (refine wpF_pure rfl rfl ?_; go_big_quiet_step (fail); refine wpQuiet_nil ?_)
          refine wpF_callsrc 90 (f := 11) (args := #[.agg #[.int .i64 A.k, .int .i64 A.n0, .int .i64 A.n1, .int .i64 A.n2, .int .i64 A.n3, .int .i64 A.n4, .int .i64 A.n5, .slice a3 np c3, .slice b3 nc d3, .string A.tx, .string A.tg]]) (by simp) rfl rfl rfl (fun x => by first | rfl | (simp [go_sem]; done)) (fun W hW => KO.out W hW) ?_
          simp only [Act.put, List.setIfInBounds_toArray, List.set_cons_succ, List.set_cons_zero]
          refine wpF_load (ad := ⟨w5.heap.size, 0, none⟩) (.agg #[.int .i64 A.k, .int .i64 A.n0, .int .i64 A.n1, .int .i64 A.n2, .int .i64 A.n3, .int .i64 A.n4, .int .i64 A.n5, .slice a5 np c5, .slice bw nc dw, .string A.tx, .string A.tg]) rfl (by rfl) (by rfl) (by rfl) lR ?_
          simp only [Act.put, List.setIfInBounds_toArray, List.set_cons_succ, List.set_cons_zero]
          repeat (refine wpF_pure rfl rfl ?_; go_big_quiet_step (fail); refine wpQuiet_nil ?_)
          refine wpF_use 90 3 (f := 12) (fun x => #[x, .agg #[.int .i64 A.k, .int .i64 A.n0, .int .i64 A.n1, .int .i64 A.n2, .int .i64 A.n3, .int .i64 A.n4, .int .i64 A.n5, .slice a5 np c5, .slice bw nc dw, .string A.tx, .string A.tg]]) (.bool true) (by simp) rfl (by kernel_rfl) (by kernel_rfl) (by kernel_rfl) (fun _ => rfl) (fun v x => by first | rfl | (simp [go_sem]; done)) (fun x W hW hx => KS.out x W hW hx) ?_
          simp only [Act.put, List.setIfInBounds_toArray, List.set_cons_succ, List.set_cons_zero]
          repeat (refine wpF_pure rfl rfl ?_; go_big_quiet_step (fail); refine wpQuiet_nil ?_)
          intro xs wz hz hxs
          have HLZ := Lib.hid (HB3.out.trans (HB39.out.trans ((HBL.out.trans (hz.mono hsL)).mono hs39)|>.mono (Nat.le_of_lt hl3)))
          simp only [fill]
          generalize xs 90 = x90
          clear hz hxs lM lR KO KS
          simp only [Act.put, List.setIfInBounds_toArray, List.set_cons_succ, List.set_cons_zero]
          go_wp2
          go_ret
          exact ⟨rfl, HLZ.out⟩
end Go.Proofs.Ytnbhiamnoapmlaa

namespace Go.Proofs.Ytnbhiamnoapmlaa.msgApart
open Go.ChangeShapes Go.WideShapes Go.ChangeAt Go.RowKit
open Go.ChangeMaps (open_string shut_string)
set_option linter.unusedVariables false

theorem own : ownKnob Try.prog.godebug = none := by kernel_rfl
theorem laidOut : laidOutB Try.prog = true := by kernel_rfl

set_option maxRecDepth 100000 in
theorem lifted (os : Os) (started : os.Started) (H : Type) (enc : TypeId × Value → H) :
    ReturnsInHanded {} Try.checked os 5 .any (Rows.msgApartSpec.pre6 enc Try.prog Try.f5 Rows.msgApartRow.domain false) (Rows.msgApartSpec.post enc Try.prog Try.f5 false true false false) := by
  refine returnsInHanded_of_change (C := Try.checked) own started (by kernel_rfl) Try.func5
    (ChangeSpec.witness6 (enc := enc) (C := Try.checked) false ⟨#[], #[.agg #[.int .i64 0, .int .i64 0, .int .i64 0, .int .i64 0, .int .i64 0, .int .i64 0, .int .i64 0, .slice none 0 0, .slice none 0 0, .string ⟨#[]⟩, .string ⟨#[]⟩], .int .i64 0], []⟩ 8 (by kernel_rfl) (by kernel_rfl) (by kernel_rfl) (by kernel_rfl)) ?_
  intro W base args ds gs before hval0 hW hcnd _
  have hval : ∀ (j : Nat) t v, Try.f5.params[j]? = some t → args[j]? = some v → Value.okWide Try.prog W .any base t v := hval0
  have hW' := hW
  obtain ⟨p, q, hA0, hV, rfl, hfz, hnd⟩ := hW
  have hA : DataW.TrodAll enc Try.prog W 0 (fun _ => true) true Try.f5.params.toList args.toList ds p := hA0
  rw [Try.params5] at hA hval
  obtain ⟨v0, vs0, d0, ds0, p0, q0, hargs, rfl, rfl, h0, r0⟩ := trodAll_cons hA
  obtain ⟨v1, vs1, d1, ds1, p1, q1, rfl, rfl, rfl, h1, r1⟩ := trodAll_cons r0
  obtain ⟨rfl, rfl, rfl⟩ := trodAll_nil r1
  obtain rfl : args = #[v0, v1] := by cases args; simp_all
  obtain ⟨rfl, rfl⟩ := trodVars_none hV
  have k0 := h0
  have lt0 : ∀ x ∈ p0, x.block < W.heap.size := by obtain ⟨m, hm⟩ := k0; exact DataW.trod_lt m _ _ _ hm
  obtain ⟨mM0, mP0, mC0, rfl, y0⟩ := open_msg (hval 0 26 v0 rfl rfl) h0
  obtain ⟨a1, rfl, rfl, rfl, w1⟩ := open_int Try.underlying3 (hval 1 3 v1 rfl rfl) h1
  clear hA0 hval0
  refine (apart_go mM0 mP0 mC0 a1 W y0).mono fun e W' ⟨he, bel⟩ => ?_
  subst he
  exact ⟨_, rfl, _, _, _, [], _, [], hW', trodAll_mk1 (shut_bool Try.underlying4 _), (trodAll_cons_mk (Below.trod laidOut (by kernel_rfl) (of_decide_eq_true (by kernel_rfl)) k0 bel lt0) (trodAll_cons_mk (shut_int Try.underlying3 w1) trodAll_mk0)), rfl, bel.frame _, fun h => by cases h⟩

theorem over : Rows.msgApartRow.holds Try.pinned (OpenSpec.ofChange Rows.msgApartSpec) :=
  OpenClaim.holds_of_wide 5 Try.f5 rfl rfl rfl rfl rfl rfl rfl ⟨rfl, rfl, rfl, rfl, rfl⟩ rfl rfl rfl rfl rfl (by kernel_rfl) Try.func5 (by kernel_rfl)
    (of_decide_eq_true (by kernel_rfl)) (by unfold Func.isWrapper; first | (rw [if_pos (by decide +kernel)]; kernel_rfl) | (rw [if_neg (by decide +kernel)]; exact ⟨rfl, rfl⟩))
    (fun os started H enc _ => lifted os started H enc)

theorem proved : Rows.MsgApartSaid := over
#print axioms proved
end Go.Proofs.Ytnbhiamnoapmlaa.msgApart
