/-
  Contract of layer 17's Copy: the same message, its lists in new rows.
-/
import Derived.Test.YtnbhiamnoapmlaaMsgB
import Derived.Test.YtnbhiamnoapmlaaApK
import Derived.Test.YtnbhiamnoapmlaaFldM
import Derived.Laws.Tables
namespace Go.Proofs.Ytnbhiamnoapmlaa
open Go.RowKit Go.Shelf
set_option maxRecDepth 100000
attribute [local go_sem] Oper.semAt_some

theorem mgInfo : (Try.prog.info? 26).map (·.size) = some 11 := by kernel_rfl
theorem ptInfo : (Try.prog.info? 57).map (fun i => (i.zero, i.size, i.bytes)) = some (some (.agg #[.int .i64 0, .int .i64 0]), 2, 16) := by kernel_rfl
theorem i64Info : (Try.prog.info? 3).map (fun i => (i.zero, i.size, i.bytes)) = some (some (.int .i64 0), 1, 8) := by kernel_rfl
theorem mg_one (M : Mg) (A1 A2 : Option Addr) (n1 n2 c1 c2 : Nat) : (mC M (.slice A1 n1 c1) (.slice A2 n2 c2)).all (·.oneCell') = true := by simp [mC, Value.oneCell']
theorem mg_block {W : World} {b : Nat} {M : Mg} {P C : Value} {t : TypeId} (h : W.heap[b]? = some (.cells (mC M P C) t (0, 0))) :
    W.cell? ⟨b, 0, none⟩ = some (.int .i64 M.k) ∧ W.cell? ⟨b, 1, none⟩ = some (.int .i64 M.n0) ∧ W.cell? ⟨b, 2, none⟩ = some (.int .i64 M.n1) ∧ W.cell? ⟨b, 3, none⟩ = some (.int .i64 M.n2) ∧ W.cell? ⟨b, 4, none⟩ = some (.int .i64 M.n3) ∧ W.cell? ⟨b, 5, none⟩ = some (.int .i64 M.n4) ∧ W.cell? ⟨b, 6, none⟩ = some (.int .i64 M.n5) ∧
      W.cell? ⟨b, 7, none⟩ = some P ∧ W.cell? ⟨b, 8, none⟩ = some C ∧ W.cell? ⟨b, 9, none⟩ = some (.string M.tx) ∧ W.cell? ⟨b, 10, none⟩ = some (.string M.tg) := by
  simp [World.cell?, h, mC]
theorem own_offM {S : Nat → Prop} {w w' : World} {base size n : Nat} {T : TypeId} {v : Value} {xs : List Value} (h : w.ownsRow base T size v n xs) (hf : Off S w w') (hn : ∀ g, v.ownBlock = some g → ¬ S g) : w'.ownsRow base T size v n xs := by
  refine ⟨h.1, h.2.imp id ?_⟩
  rintro ⟨g, cap, cur, hv, hg, hh, r⟩
  exact ⟨g, cap, cur, hv, hg, (hf.block g (Array.getElem?_eq_some_iff.1 hh).1 (hn g (by rw [hv]; rfl))).trans hh, r⟩
theorem off_grown {w w' : World} (h : w.grownBy w' (Value.slice none 0 0).ownBlock) : Off (fun _ => False) w w' := ⟨h.os, h.tape, h.output, h.size, fun k hk _ => h.block k hk (by simp [Value.ownBlock])⟩
/-- its lists lie in rows that were made at base or above -/
structure MOwn (base : Nat) (w : World) (M : Mg) (P C : Value) : Prop where
  p : w.ownsRow base 57 2 P M.p.length ((fl2 M.p).map (Value.int .i64))
  c : w.ownsRow base 3 1 C M.c.length (M.c.map (Value.int .i64))
section
variable {w w' : World} {base : Nat} {M : Mg} {P C : Value}
theorem MOwn.at (h : MOwn base w M P C) : MAt w w.heap.size M P C := by
  obtain ⟨a, c, h1, h2, h3⟩ := nums_of_own h.p (by omega)
  obtain ⟨a', c', h4, h5, h6⟩ := nums_of_own h.c (by omega)
  exact ⟨⟨a, c, h1, h2, h3⟩, ⟨a', c', h4, h5, h6⟩⟩
theorem MOwn.later (h : MOwn base w M P C) (hb : Below w.heap.size w w') : MOwn base w' M P C := ⟨own_below7 h.p hb, own_below7 h.c hb⟩
/-- blocks that are no row of its lists may turn -/
theorem MOwn.off {S : Nat → Prop} (h : MOwn base w M P C) (hf : Off S w w') (hp : ∀ g, P.ownBlock = some g → ¬ S g) (hc : ∀ g, C.ownBlock = some g → ¬ S g) : MOwn base w' M P C := ⟨own_offM h.p hf hp, own_offM h.c hf hc⟩
theorem MOwn.less {base' : Nat} (h : MOwn base w M P C) (hb : base' ≤ base) : MOwn base' w M P C := by
  refine ⟨⟨h.p.1, h.p.2.imp id ?_⟩, ⟨h.c.1, h.c.2.imp id ?_⟩⟩
  · rintro ⟨g, cap, cur, hv, hg, r⟩
    exact ⟨g, cap, cur, hv, by omega, r⟩
  · rintro ⟨g, cap, cur, hv, hg, r⟩
    exact ⟨g, cap, cur, hv, by omega, r⟩
end
/-- what a call answers that hands back a message in new memory -/
def MR (w : World) (M : Mg) (e : Ending) (w' : World) : Prop := ∃ P C, e = .returned (mV M P C) ∧ MOwn w.heap.size w' M P C ∧ Below w.heap.size w w'

set_option maxHeartbeats 4000000 in
theorem mcopy_any (M : Mg) (P C : Value) (w : World) (hs : Msm M) (h1 : MAt w w.heap.size M P C) : Calls Try.prog 18 #[mV M P C] w fun e w' => MR w M e w' := by
  obtain ⟨ip, hip, hzp, hzp1, hzp2⟩ := info_parts ptInfo
  obtain ⟨ii, hii, hzi, hzi1, hzi2⟩ := info_parts i64Info
  obtain ⟨w2, hw2⟩ : ∃ w2, w2 = (w.alloc (.cells (mC M P C) 26)).alloc (.cells (mC (Mg.zero 0) (.slice none 0 0) (.slice none 0 0)) 26) := ⟨_, rfl⟩
  have hs2 : w2.heap.size = w.heap.size + 2 := by rw [hw2]; simp
  have hb2 : Below w.heap.size w w2 := by rw [hw2]; exact ((Below.refl _ w).alloc (Nat.le_refl _) _).alloc (by simp) _
  have q1 : w2.heap[w.heap.size]? = some (.cells (mC M P C) 26 (0, 0)) := by
    rw [hw2, Below.heap_alloc _ _ _ (by simp)]; exact World.alloc_heap_new _ _
  have q2 : w2.heap[w.heap.size + 1]? = some (.cells (mC (Mg.zero 0) (.slice none 0 0) (.slice none 0 0)) 26 (0, 0)) := by
    have := World.alloc_heap_new (w.alloc (.cells (mC M P C) 26)) (.cells (mC (Mg.zero 0) (.slice none 0 0) (.slice none 0 0)) 26)
    rw [World.size_alloc] at this
    rw [hw2]; exact this
  obtain ⟨⟨a, cp, rfl, hcp, ha⟩, ⟨b, cb, rfl, hcb, hb⟩⟩ := h1
  have ha := ha.below hb2
  have hl1 := hs.p
  have hl2 := hs.c
  have hlen := fl2_len M.p
  simp only [mC, Mg.zero] at hw2 q1 q2
  subst hw2
  have HA := Lib.hid ha
  have HB := Lib.hid hb
  have HB2 := Lib.hid hb2
  have HQ := Lib.hid (And.intro q1 q2)
  obtain ⟨np, hnp⟩ : ∃ np, M.p.length = np := ⟨_, rfl⟩
  obtain ⟨nc, hnc⟩ : ∃ nc, M.c.length = nc := ⟨_, rfl⟩
  have HNP := Lib.hid hnp
  have HNC := Lib.hid hnc
  rw [hnp] at hl1 hlen
  rw [hnc] at hl2
  have HL := Lib.hid hlen
  clear ha hb hb2 q1 q2 hs hcp hcb hs2
  unfold MR mV mC
  simp only [hnp, hnc] at HA HB HB2 HQ ⊢
  clear hnp hnc hlen
  go_enter Try.func18, Try.ntmps18
  go_wp2_with (at_builtin; refine wpList_append_szd (by rfl) (.const (.slice none 0 0)) (.tmp 4) 23 rfl (w.heap.size + 2) 57 ip _ 2 16 Try.underlying23 hip hzp hzp1 hzp2 rfl (by decide) .i64 0 [] (fl2 M.p) (.slice none 0 0) rfl (World.ownsRow_nil _ _ _ _) a np cp _ rfl HL.out HA.out (by unfold maxLen; omega) (by omega) (by simp) ?_)
  intro v' W4 hown hgr
  obtain ⟨A', c', rfl, hc', hA'⟩ := nums_of_own hown (by omega)
  have ho4 := off_grown hgr
  have hs4 : w.heap.size + 2 ≤ W4.heap.size := by have := ho4.size; simpa using this
  have q1 := (ho4.block w.heap.size (by simp; omega) id).trans HQ.out.1
  have q2 := (ho4.block (w.heap.size + 1) (by simp) id).trans HQ.out.2
  have hb4 : Below w.heap.size w W4 := HB2.out.trans (ho4.below (fun k hk => hk.elim) (by simp; omega))
  have HV := Lib.hid (hb4.setCell (p := ⟨w.heap.size, 7, none⟩) (Nat.le_refl _) (.slice A' np c'))
  have HO := Lib.hid (ownsRow_setCell_below hown (a := ⟨w.heap.size, 7, none⟩) (by show w.heap.size < _; omega) (.slice A' np c'))
  have HQ1 := Lib.hid (setCell_at (j := 7) (u := .slice A' np c') q1)
  have HQ2 := Lib.hid ((Below.heap_setCell W4 ⟨w.heap.size, 7, none⟩ (.slice A' np c') (w.heap.size + 1) (by show _ ≠ w.heap.size; omega)).trans q2)
  have HSV := Lib.hid (show w.heap.size + 2 ≤ (W4.setCell ⟨w.heap.size, 7, none⟩ (.slice A' np c')).heap.size by simpa [World.setCell] using hs4)
  have HN := Lib.hid (HB.out.below HV.out)
  have e7 := row_cell q1 7 _ rfl
  have e8 := row_cell q1 8 _ rfl
  have z7 := frozen_of_row W4 w.heap.size 7 _ _ q1
  clear hown hgr ho4 q1 q2 hb4 hA' hs4 HQ HB2 HA
  go_wp2_with (at_builtin; refine wpList_append_szd (by rfl) (.const (.slice none 0 0)) (.tmp 8) 24 rfl (w.heap.size + 2) 3 ii _ 1 8 Try.underlying24 hii hzi hzi1 hzi2 rfl (by decide) .i64 0 [] M.c (.slice none 0 0) rfl (World.ownsRow_nil _ _ _ _) b nc cb _ rfl (HNC.out.trans (Nat.mul_one nc).symm) HN.out (by unfold maxLen; omega) (by omega) HSV.out ?_)
  intro v' W6 hown hgr
  obtain ⟨B', d', rfl, hd', hB'⟩ := nums_of_own hown (by omega)
  have ho6 := off_grown hgr
  have q1 := (ho6.block w.heap.size (by have := HSV.out; omega) id).trans HQ1.out
  have q2 := (ho6.block (w.heap.size + 1) (by have := HSV.out; omega) id).trans HQ2.out
  have hs6 : w.heap.size + 2 ≤ W6.heap.size := Nat.le_trans HSV.out ho6.size
  have hb6 : Below w.heap.size w W6 := HV.out.trans (ho6.below (fun k hk => hk.elim) (by have := HSV.out; omega))
  have hop := own_offM HO.out ho6 (fun g _ h => h)
  simp only [List.setIfInBounds_toArray, List.set_cons_succ, List.set_cons_zero] at q1
  obtain ⟨W7, hW7⟩ : ∃ W7, W7 = W6.setCell ⟨w.heap.size, 8, none⟩ (.slice B' nc d') := ⟨_, rfl⟩
  have r1 : W7.heap[w.heap.size]? = some (.cells #[.int .i64 M.k, .int .i64 M.n0, .int .i64 M.n1, .int .i64 M.n2, .int .i64 M.n3, .int .i64 M.n4, .int .i64 M.n5, .slice A' np c', .slice B' nc d', .string M.tx, .string M.tg] 26 (0, 0)) := by
    rw [hW7, setCell_at q1]; rfl
  have r2 : W7.heap[w.heap.size + 1]? = some (.cells #[.int .i64 0, .int .i64 0, .int .i64 0, .int .i64 0, .int .i64 0, .int .i64 0, .int .i64 0, .slice none 0 0, .slice none 0 0, .string ⟨#[]⟩, .string ⟨#[]⟩] 26 (0, 0)) := by
    rw [hW7]; exact (Below.heap_setCell W6 ⟨w.heap.size, 8, none⟩ (.slice B' nc d') (w.heap.size + 1) (by show _ ≠ w.heap.size; omega)).trans q2
  have hb7 : Below w.heap.size w W7 := by rw [hW7]; exact hb6.setCell (p := ⟨w.heap.size, 8, none⟩) (Nat.le_refl _) _
  have hop7 : W7.ownsRow (w.heap.size + 2) 57 2 (.slice A' np c') np ((fl2 M.p).map (Value.int .i64)) := by rw [hW7]; exact ownsRow_setCell_below hop (a := ⟨w.heap.size, 8, none⟩) (by show w.heap.size < _; omega) _
  have hoc7 : W7.ownsRow (w.heap.size + 2) 3 1 (.slice B' nc d') nc (M.c.map (Value.int .i64)) := by rw [hW7]; exact ownsRow_setCell_below hown (a := ⟨w.heap.size, 8, none⟩) (by show w.heap.size < _; omega) _
  have e8 := row_cell q1 8 _ rfl
  have z8 := frozen_of_row W6 w.heap.size 8 _ _ q1
  have HW := Lib.hid hW7
  have f := fun j x hx => row_cell r1 j x hx
  have f0 := f 0 _ rfl; have f1 := f 1 _ rfl; have f2 := f 2 _ rfl; have f3 := f 3 _ rfl; have f4 := f 4 _ rfl; have f5 := f 5 _ rfl
  have f6 := f 6 _ rfl; have f7 := f 7 _ rfl; have f8 := f 8 _ rfl; have f9 := f 9 _ rfl; have f10 := f 10 _ rfl
  rw [hW7] at f0 f1 f2 f3 f4 f5 f6 f7 f8 f9 f10
  have HR2 := Lib.hid (hW7 ▸ r2)
  clear f hW7 q1 q2 hown hgr ho6 hop hb6 hs6 hB' HV HO HQ1 HQ2 HSV HN HB
  go_wp2_with (refine wpList_store_row rfl 26 (.tmp 2) (.tmp 11) rfl (w.heap.size + 1) #[.int .i64 M.k, .int .i64 M.n0, .int .i64 M.n1, .int .i64 M.n2, .int .i64 M.n3, .int .i64 M.n4, .int .i64 M.n5, .slice A' np c', .slice B' nc d', .string M.tx, .string M.tg] rfl rfl 26 _ HR2.out mgInfo rfl (by simp [Value.oneCell']) ?_)
  rw [← HW.out]
  have hfin := setRow_heap W7 (w.heap.size + 1) _ #[.int .i64 M.k, .int .i64 M.n0, .int .i64 M.n1, .int .i64 M.n2, .int .i64 M.n3, .int .i64 M.n4, .int .i64 M.n5, .slice A' np c', .slice B' nc d', .string M.tx, .string M.tg] _ _ r2
  have hoff := Off.setRow (S := fun k => k = w.heap.size + 1) (Off.refl _ W7) rfl #[.int .i64 M.k, .int .i64 M.n0, .int .i64 M.n1, .int .i64 M.n2, .int .i64 M.n3, .int .i64 M.n4, .int .i64 M.n5, .slice A' np c', .slice B' nc d', .string M.tx, .string M.tg]
  have hbf := hb7.trans (hoff.below (B := w.heap.size) (fun k hk => by omega) hb7.size)
  have hpf := own_offM hop7 hoff (fun g hg e => by have := (hop7.lt g hg).1; omega)
  have hcf := own_offM hoc7 hoff (fun g hg e => by have := (hoc7.lt g hg).1; omega)
  generalize W7.setRow (w.heap.size + 1) _ = Wf at *
  have f := fun j x hx => row_cell hfin j x hx
  have y0 := f 0 _ rfl; have y1 := f 1 _ rfl; have y2 := f 2 _ rfl; have y3 := f 3 _ rfl; have y4 := f 4 _ rfl; have y5 := f 5 _ rfl
  have y6 := f 6 _ rfl; have y7 := f 7 _ rfl; have y8 := f 8 _ rfl; have y9 := f 9 _ rfl; have y10 := f 10 _ rfl
  refine bodyPost_ret (v := .agg #[.int .i64 M.k, .int .i64 M.n0, .int .i64 M.n1, .int .i64 M.n2, .int .i64 M.n3, .int .i64 M.n4, .int .i64 M.n5, .slice A' np c', .slice B' nc d', .string M.tx, .string M.tg]) (by simp [results, Try.results18, go_sem, y0, y1, y2, y3, y4, y5, y6, y7, y8, y9, y10]) rfl ?_
  refine ⟨_, _, rfl, MOwn.less (base := w.heap.size + 2) ⟨?_, ?_⟩ (by omega), hbf⟩
  · rw [HNP.out]; exact hpf
  · rw [HNC.out]; exact hcf
end Go.Proofs.Ytnbhiamnoapmlaa
