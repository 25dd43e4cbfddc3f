/-
  A part of the texts of one proof, put together: BdyO, BdyZ, BdyQ, BdyU, BdyRr, BdyDe, SamA, BdyKn, BdyLv, BdyI, BdyJ, BdyJt, BdyJu, BdyJv, BdyRd, Q18, BdyRd1, BdyRd2, BdyRe, BdyLd, SchP, SchT, Q26.
-/
import Derived.Lib.Strings
import Derived.Lib.Slices
import Derived.Lib.Walk
import Derived.Lib.Bytes
import Derived.Laws.EntriesVeiled
import Derived.Test.YtlbfibnfmijahaaGreatMPaPacksProof5
namespace Go.Proofs.YtlbfibnfmijahaaGreat
open Go.RowKit Go.Shelf
set_option maxRecDepth 100000
attribute [local go_sem] Oper.semAt_some

/-- while points are read: the message's box, the lens, the points' own row, the last point's box, the step's box -/
structure PSt (w : World) (lo mb lb ab sb bm : Nat) (zs : List Int) (N : Mg) (C : Value) (L : List (Int × Int)) (x y : Int) (p e : Nat) (P : Value) (W : World) : Prop where
  m : W.heap[mb]? = some (.cells (mC { N with p := L } P C) 26 (0, 0))
  l : LensAt W lo lb zs p e
  o : W.ownsRow w.heap.size 76 2 P L.length ((fl2 L).map (Value.int .i64))
  at' : W.heap[ab]? = some (.cells #[.int .i64 x, .int .i64 y] 76 (0, 0))
  st : W.heap[sb]? = some (.cells #[.func (.func 100) #[] #[]] 160 (0, 0))
  pm : W.heap[bm]? = some (.cells #[.pointer (some ⟨mb, 0, none⟩)] 121 (0, 0))
  off : Off (fun q => q = mb ∨ q = lb ∨ q = ab) w W
  lt : lb < mb ∧ mb < ab ∧ mb < bm ∧ mb < sb ∧ ab < w.heap.size ∧ bm < w.heap.size ∧ sb < w.heap.size
section
variable {w W W' : World} {lo mb lb ab sb bm : Nat} {zs : List Int} {N : Mg} {P C : Value} {L : List (Int × Int)} {x y : Int} {p e p' e' : Nat}
theorem PSt.later (h : PSt w lo mb lb ab sb bm zs N C L x y p e P W) (hb : Below W.heap.size W W') : PSt w lo mb lb ab sb bm zs N C L x y p e P W' :=
  ⟨(hb.block _ (Array.getElem?_eq_some_iff.1 h.m).1).trans h.m, h.l.below hb, own_below7 h.o hb, (hb.block _ (Array.getElem?_eq_some_iff.1 h.at').1).trans h.at', (hb.block _ (Array.getElem?_eq_some_iff.1 h.st).1).trans h.st, (hb.block _ (Array.getElem?_eq_some_iff.1 h.pm).1).trans h.pm, h.off.trans (Off.of_below (S := fun _ => False) hb) (fun _ _ e => e.elim), h.lt⟩
/-- the lens is turned -/
theorem PSt.turn (h : PSt w lo mb lb ab sb bm zs N C L x y p e P W) (hl : LensAt W' lo lb zs p' e') (ho : Off (fun q => q = lb) W W') : PSt w lo mb lb ab sb bm zs N C L x y p' e' P W' := by
  obtain ⟨h1, h2, h3, h4, h5, h6, h7⟩ := h.lt
  exact ⟨(ho.block _ (Array.getElem?_eq_some_iff.1 h.m).1 (by omega)).trans h.m, hl, own_offM h.o ho (fun g hg e => by have := (h.o.lt g hg).1; omega), (ho.block _ (Array.getElem?_eq_some_iff.1 h.at').1 (by omega)).trans h.at', (ho.block _ (Array.getElem?_eq_some_iff.1 h.st).1 (by omega)).trans h.st, (ho.block _ (Array.getElem?_eq_some_iff.1 h.pm).1 (by omega)).trans h.pm, h.off.trans ho (fun _ _ e => .inr (.inl e)), h.lt⟩
/-- the last point is told -/
theorem PSt.set (h : PSt w lo mb lb ab sb bm zs N C L x y p e P W) (j : Nat) (u x' y' : Int) (hj : (#[Value.int .i64 x, Value.int .i64 y]).setIfInBounds j (.int .i64 u) = #[Value.int .i64 x', Value.int .i64 y']) : PSt w lo mb lb ab sb bm zs N C L x' y' p e P (W.setCell ⟨ab, j, none⟩ (.int .i64 u)) := by
  obtain ⟨h1, h2, h3, h4, h5, h6, h7⟩ := h.lt
  have ho : Off (fun q => q = ab) W (W.setCell ⟨ab, j, none⟩ (.int .i64 u)) := Off.setCell (S := fun q => q = ab) (p := ⟨ab, j, none⟩) (Off.refl _ W) rfl _
  have hne := row_ne h.pm h.at' (by decide)
  have hne2 := row_ne h.st h.at' (by decide)
  exact ⟨(ho.block _ (Array.getElem?_eq_some_iff.1 h.m).1 (by omega)).trans h.m, h.l.off ho (fun k _ hk => by omega), own_offM h.o ho (fun g hg e => by have := (h.o.lt g hg).1; omega), by rw [setCell_at h.at', hj], (ho.block _ (Array.getElem?_eq_some_iff.1 h.st).1 hne2).trans h.st, (ho.block _ (Array.getElem?_eq_some_iff.1 h.pm).1 hne).trans h.pm, h.off.trans ho (fun _ _ e => .inr (.inr e)), h.lt⟩
/-- the points have grown -/
theorem PSt.grow (h : PSt w lo mb lb ab sb bm zs N C L x y p e P W) {v : Value} {q : Int × Int} (hown : W'.ownsRow w.heap.size 76 2 v (L.length + 1) ((fl2 (L ++ [q])).map (Value.int .i64))) (hg : W.grownBy W' P.ownBlock) :
    W'.heap[mb]? = some (.cells (mC { N with p := L } P C) 26 (0, 0)) ∧ PSt w lo mb lb ab sb bm zs N C (L ++ [q]) x y p e v (W'.setCell ⟨mb, 7, none⟩ v) := by
  obtain ⟨h1, h2, h3, h4, h5, h6, h7⟩ := h.lt
  have ho : Off (fun q => P.ownBlock = some q) W W' := ⟨hg.os, hg.tape, hg.output, hg.size, fun k hk hn => hg.block k hk (fun e => hn e.symm)⟩
  have hno : ∀ q, q < w.heap.size → ¬ P.ownBlock = some q := fun q hq e => by have := (h.o.lt q e).1; omega
  have m1 := (ho.block _ (Array.getElem?_eq_some_iff.1 h.m).1 (hno _ (by omega))).trans h.m
  have a1 := (ho.block _ (Array.getElem?_eq_some_iff.1 h.at').1 (hno _ (by omega))).trans h.at'
  have b1 := (ho.block _ (Array.getElem?_eq_some_iff.1 h.pm).1 (hno _ (by omega))).trans h.pm
  have s1 := (ho.block _ (Array.getElem?_eq_some_iff.1 h.st).1 (hno _ (by omega))).trans h.st
  have hof : Off (fun q => q = mb) W' (W'.setCell ⟨mb, 7, none⟩ v) := Off.setCell (S := fun q => q = mb) (p := ⟨mb, 7, none⟩) (Off.refl _ W') rfl _
  refine ⟨m1, by rw [setCell_at m1]; rfl, (h.l.off ho (fun k _ hk => hno k (by omega))).off hof (fun k _ hk => by omega), own_offM (by simpa using hown) hof (fun g hg e => by have := (hown.lt g hg).1; omega), (hof.block _ (Array.getElem?_eq_some_iff.1 a1).1 (by omega)).trans a1, (hof.block _ (Array.getElem?_eq_some_iff.1 s1).1 (by omega)).trans s1, (hof.block _ (Array.getElem?_eq_some_iff.1 b1).1 (by omega)).trans b1, (h.off.trans ho (fun j hj e => absurd e (hno j hj))).trans hof (fun _ _ e => .inl e), h.lt⟩
end
theorem sigA_ways (l : List Int) (a : Int) (h0 : -1000000 ≤ a) (h1 : a ≤ 1000000) : ∃ (X : Int) (u er : Nat), sigR l (-1000000 - a) (1000000 - a) = (X, u, er) ∧ -1000000 ≤ a + X ∧ a + X ≤ 1000000 ∧ u ≤ l.length ∧ er = (rdX a l).1 ∧ (er = 0 → u = (rdX a l).2.1 ∧ a + X = (rdX a l).2.2) := by
  have hle := Vi.get_le l
  unfold sigR rdX
  by_cases g1 : (Vi.get l).2.2 ≠ 0
  · rw [if_pos g1, if_pos g1]
    exact ⟨0, 0, _, rfl, by omega, by omega, by omega, rfl, fun h => absurd h g1⟩
  · rw [if_neg g1, if_neg g1]
    by_cases g2 : zagZ ((Vi.get l).1 : Int) < -1000000 - a ∨ 1000000 - a < zagZ ((Vi.get l).1 : Int)
    · rw [if_pos g2, if_pos (by omega)]
      exact ⟨0, 0, _, rfl, by omega, by omega, by omega, rfl, fun h => by simp at h⟩
    · rw [if_neg g2, if_neg (by omega)]
      exact ⟨_, _, _, rfl, by omega, by omega, hle.2.2.1, rfl, fun _ => ⟨rfl, rfl⟩⟩
/-- the step -/
theorem pstep_any (lo lb : Nat) (zs : List Int) (p e : Nat) (a : Int) (h0 : -1000000 ≤ a) (h1 : a ≤ 1000000) (X : Int) (u er : Nat) (hX : sigR (zs.drop p) (-1000000 - a) (1000000 - a) = (X, u, er)) (hl : zs.length ≤ 1000000) (hz : Bys zs) (V : World) (h : LensAt V lo lb zs p e) :
    Calls Tryz.prog 100 #[.pointer (some ⟨lb, 0, none⟩), .int .i64 a] V fun r w' => r = .returned (.int .i64 (ansI e X)) ∧ LensAt w' lo lb zs (placeOf p e u) (errOf e er) ∧ Off (fun q => q = lb) V w' := by
  have K := lsig_any lo lb zs p e V (-1000000 - a) (1000000 - a) h (by omega) hz
  rw [hX] at K
  unfold ReadI at K
  simp only at K
  have K := Lib.hid K
  clear hX hz h
  go_enter Tryz.func100, Tryz.ntmps100
  go_wp2_with fail
  refine K.out.mono ?_
  rintro r w1 ⟨rfl, h2, h3⟩
  have H2 := Lib.hid h2
  have H3 := Lib.hid h3
  clear h2 h3 K
  go_wp2
  go_ret
  exact ⟨rfl, H2.out, H3.out⟩
/-- what reading a point answers -/
def rdQ (a : Int × Int) (l : List Int) : Nat × Nat × (Int × Int) :=
  if (rdX a.1 l).1 ≠ 0 then ((rdX a.1 l).1, 0, (0, 0))
  else if (rdX a.2 (l.drop (rdX a.1 l).2.1)).1 ≠ 0 then ((rdX a.2 (l.drop (rdX a.1 l).2.1)).1, 0, (0, 0))
  else (0, (rdX a.1 l).2.1 + (rdX a.2 (l.drop (rdX a.1 l).2.1)).2.1, ((rdX a.1 l).2.2, (rdX a.2 (l.drop (rdX a.1 l).2.1)).2.2))
theorem rdP_q (n : Nat) (a : Int × Int) (l : List Int) : rdP (n + 1) a l = if (rdQ a l).1 ≠ 0 then ((rdQ a l).1, 0, []) else ((rdP n (rdQ a l).2.2 (l.drop (rdQ a l).2.1)).1, (rdQ a l).2.1 + (rdP n (rdQ a l).2.2 (l.drop (rdQ a l).2.1)).2.1, (rdQ a l).2.2 :: (rdP n (rdQ a l).2.2 (l.drop (rdQ a l).2.1)).2.2) := by
  rw [rdP_step]
  unfold rdQ
  by_cases h1 : (rdX a.1 l).1 ≠ 0
  · rw [if_pos h1, if_pos h1, if_pos h1]
  · rw [if_neg h1, if_neg h1]
    by_cases h2 : (rdX a.2 (l.drop (rdX a.1 l).2.1)).1 ≠ 0
    · rw [if_pos h2, if_pos h2, if_pos h2]
    · rw [if_neg h2, if_neg h2, if_neg (by simp), List.drop_drop]
set_option maxHeartbeats 16000000 in
theorem pointr_any (w : World) (lo mb lb ab sb bm : Nat) (zs : List Int) (N : Mg) (C : Value) (L : List (Int × Int)) (x y : Int) (p : Nat) (P : Value) (W : World) (h : PSt w lo mb lb ab sb bm zs N C L x y p 0 P W) (hx : -1000000 ≤ x ∧ x ≤ 1000000) (hy : -1000000 ≤ y ∧ y ≤ 1000000) (hL : L.length ≤ 40) (hl : zs.length ≤ 1000000) (hz : Bys zs) :
    Calls Tryz.prog 101 #[.pointer (some ⟨lb, 0, none⟩), .pointer (some ⟨ab, 0, none⟩), .pointer (some ⟨sb, 0, none⟩), .pointer (some ⟨bm, 0, none⟩)] W fun r W' =>
      r = .returned (.int .i64 ((rdQ (x, y) (zs.drop p)).1 : Int)) ∧ Off (fun q => q = mb ∨ q = lb ∨ q = ab) w W' ∧ ((rdQ (x, y) (zs.drop p)).1 = 0 → ∃ P', PSt w lo mb lb ab sb bm zs N C (L ++ [(rdQ (x, y) (zs.drop p)).2.2]) (rdQ (x, y) (zs.drop p)).2.2.1 (rdQ (x, y) (zs.drop p)).2.2.2 (p + (rdQ (x, y) (zs.drop p)).2.1) 0 P' W') := by
  obtain ⟨ii, hii, hzi, hzi1, hzi2⟩ := info_parts ptInfo
  obtain ⟨X, u, er, hX, x0, x1, hu, e1, e2⟩ := sigA_ways (zs.drop p) x hx.1 hx.2
  obtain ⟨Y, v, es, hY, y0, y1, hv, e3, e4⟩ := sigA_ways (zs.drop (placeOf p er u)) y hy.1 hy.2
  have hxa := hx.1
  have hxb := hx.2
  have hya := hy.1
  have hyb := hy.2
  have KX : Hid (∀ V, LensAt V lo lb zs p 0 → Calls Tryz.prog 100 #[.pointer (some ⟨lb, 0, none⟩), .int .i64 x] V fun r w' => r = .returned (.int .i64 X) ∧ LensAt w' lo lb zs (p + u) er ∧ Off (fun q => q = lb) V w') := Lib.hid fun V hV => by
    have K := pstep_any lo lb zs p 0 x hx.1 hx.2 X u er hX hl hz V hV
    simpa only [ansI, placeOf, errOf, if_true] using K
  have hpu : er ≠ 0 → u = 0 := fun h => by
    have := sigR_err (l := zs.drop p) (m1 := -1000000 - x) (m := 1000000 - x) (by rw [hX]; exact h)
    rw [hX] at this
    exact this.2
  have hpl : placeOf p er u = p + u := by
    unfold placeOf
    split
    · rfl
    · rename_i h
      rw [hpu h, Nat.add_zero]
  rw [hpl] at hY e3 e4
  obtain ⟨Y2, hY2⟩ : ∃ Y2, ansI er Y = Y2 := ⟨_, rfl⟩
  have hy2 : -1000000 ≤ y + Y2 ∧ y + Y2 ≤ 1000000 := by
    rw [← hY2]
    unfold ansI
    split <;> omega
  have hya2 := hy2.1
  have hyb2 := hy2.2
  have KY : Hid (∀ V, LensAt V lo lb zs (p + u) er → Calls Tryz.prog 100 #[.pointer (some ⟨lb, 0, none⟩), .int .i64 y] V fun r w' => r = .returned (.int .i64 Y2) ∧ LensAt w' lo lb zs (placeOf (p + u) er v) (errOf er es) ∧ Off (fun q => q = lb) V w') := Lib.hid fun V hV => by
    have K := pstep_any lo lb zs (p + u) er y hy.1 hy.2 Y v es hY hl hz V hV
    rwa [hY2] at K
  obtain ⟨R, hR⟩ : ∃ R, rdQ (x, y) (zs.drop p) = R := ⟨_, rfl⟩
  rw [hR]
  unfold rdQ at hR
  simp only at hR
  rw [List.drop_drop] at hR
  have HE := Lib.hid (And.intro e1 (And.intro e2 (And.intro e3 e4)))
  obtain ⟨pe, hpe⟩ : ∃ pe, placeOf (p + u) er v = pe := ⟨_, rfl⟩
  obtain ⟨ee, hee⟩ : ∃ ee, errOf er es = ee := ⟨_, rfl⟩
  rw [hpe, hee] at KY
  have HPE := Lib.hid (And.intro hpe (And.intro hee hY2))
  obtain ⟨h1, h2, h3, h4, h5, h6, h7⟩ := h.lt
  have n1 := row_ne h.at' h.pm (by decide)
  have n2 := row_ne h.at' h.st (by decide)
  have HH := Lib.hid h
  have HR := Lib.hid hR
  clear hR hX hY h hz e1 e2 e3 e4 hpe hee hY2 hpl hpu hy2 hx hy
  go_enter Tryz.func101, Tryz.ntmps101
  go_wp2_with fail
  have lA : ∀ V, Off (fun q => q = lb) W V → (Instr.loadAt 3 (.pointer (some ⟨ab, 0, none⟩))).run Tryz.prog V = .ok (.int .i64 x) V := fun V hV => by
    have k := row_cell ((hV.block _ (Array.getElem?_eq_some_iff.1 HH.out.at').1 (by omega)).trans HH.out.at') 0 _ rfl
    simp [Instr.loadAt, go_sem, k]
  have lS : ∀ V, Off (fun q => q = lb) W V → (Instr.loadAt 160 (.pointer (some ⟨sb, 0, none⟩))).run Tryz.prog V = .ok (.func (.func 100) #[] #[]) V := fun V hV => by
    have k := row_cell ((hV.block _ (Array.getElem?_eq_some_iff.1 HH.out.st).1 (by omega)).trans HH.out.st) 0 _ rfl
    simp [Instr.loadAt, go_sem, k]
  refine wp_region_order8 8 (0 :: 1 :: 2 :: 3 :: 4 :: 5 :: 6 :: 7 :: []) (fun V => Off (fun q => q = lb) W V) (C := fun V => Below W.heap.size W V) (by kernel_rfl) (by kernel_rfl) (by kernel_rfl) (Below.refl _ _).drew (fun V hV => Off.of_below hV) ?_
  repeat (refine wpO4_pure rfl rfl ?_; go_big_quiet_step (fail); refine wpQuiet_nil ?_)
  refine wpO4_load (ad := ⟨ab, 0, none⟩) (.int .i64 x) rfl rfl rfl (by rfl) lA ?_
  simp only [Act.put, List.setIfInBounds_toArray, List.set_cons_succ, List.set_cons_zero]
  refine wpO4_load (ad := ⟨sb, 0, none⟩) (.func (.func 100) #[] #[]) rfl rfl rfl (by rfl) lS ?_
  simp only [Act.put, List.setIfInBounds_toArray, List.set_cons_succ, List.set_cons_zero]
  repeat (refine wpO4_pure rfl rfl ?_; go_big_quiet_step (fail); refine wpQuiet_nil ?_)
  refine wpO4_load (ad := ⟨ab, 0, none⟩) (.int .i64 x) rfl rfl rfl (by rfl) lA ?_
  simp only [Act.put, List.setIfInBounds_toArray, List.set_cons_succ, List.set_cons_zero]
  refine wpO4_call (fun v => v = .int .i64 X) (fun _ V => LensAt V lo lb zs (p + u) er ∧ Off (fun q => q = lb) W V) (f := 100) (args := #[.pointer (some ⟨lb, 0, none⟩), .int .i64 x]) rfl rfl rfl (fun _ V hV => hV.2) (fun x => by first | rfl | (simp [go_sem]; done)) (fun V hV => (KX.out V (HH.out.later hV).l).mono (fun e w' h => ⟨_, h.1, rfl, h.2.1, (Off.of_below (S := fun q => q = lb) hV).trans h.2.2 (fun _ _ h => h)⟩)) ?_
  rintro v rfl
  simp only [Act.put, List.setIfInBounds_toArray, List.set_cons_succ, List.set_cons_zero]
  repeat (refine wpO4_pure rfl rfl ?_; go_big_quiet_step (fail); refine wpQuiet_nil ?_)
  rintro W1 ⟨hl1, ho1⟩
  simp only [List.drop_succ_cons, List.drop_zero]
  have g1 := HH.out.turn hl1 ho1
  have c0 := row_cell g1.at' 0 _ rfl
  have z0 := frozen_of_row W1 ab 0 _ _ g1.at'
  obtain ⟨nx, hnx⟩ : ∃ nx, x + X = nx := ⟨_, rfl⟩
  have g2 := g1.set 0 nx nx y rfl
  obtain ⟨W2, hw2⟩ : ∃ W2, W1.setCell ⟨ab, 0, none⟩ (.int .i64 nx) = W2 := ⟨_, rfl⟩
  rw [hw2] at g2
  have HB := Lib.hid g2
  have HWHB := Lib.hid hw2
  have HYHB := Lib.hid hnx
  clear g1 g2 hl1 ho1 lA lS KX hw2 hnx
  go_wp2_with fail
  rw [HYHB.out, HWHB.out]
  clear c0 z0 HWHB
  have lA : ∀ V, Off (fun q => q = lb) W2 V → (Instr.loadAt 3 (.pointer (some ⟨ab, 1, none⟩))).run Tryz.prog V = .ok (.int .i64 y) V := fun V hV => by
    have k := row_cell ((hV.block _ (Array.getElem?_eq_some_iff.1 HB.out.at').1 (by omega)).trans HB.out.at') 1 _ rfl
    simp [Instr.loadAt, go_sem, k]
  have lS : ∀ V, Off (fun q => q = lb) W2 V → (Instr.loadAt 160 (.pointer (some ⟨sb, 0, none⟩))).run Tryz.prog V = .ok (.func (.func 100) #[] #[]) V := fun V hV => by
    have k := row_cell ((hV.block _ (Array.getElem?_eq_some_iff.1 HB.out.st).1 (by omega)).trans HB.out.st) 0 _ rfl
    simp [Instr.loadAt, go_sem, k]
  refine wp_region_order8 8 (0 :: 1 :: 2 :: 3 :: 4 :: 5 :: 6 :: 7 :: []) (fun V => Off (fun q => q = lb) W2 V) (C := fun V => Below W2.heap.size W2 V) (by kernel_rfl) (by kernel_rfl) (by kernel_rfl) (Below.refl _ _).drew (fun V hV => Off.of_below hV) ?_
  repeat (refine wpO4_pure rfl rfl ?_; go_big_quiet_step (fail); refine wpQuiet_nil ?_)
  refine wpO4_load (ad := ⟨ab, 1, none⟩) (.int .i64 y) rfl rfl rfl (by rfl) lA ?_
  simp only [Act.put, List.setIfInBounds_toArray, List.set_cons_succ, List.set_cons_zero]
  refine wpO4_load (ad := ⟨sb, 0, none⟩) (.func (.func 100) #[] #[]) rfl rfl rfl (by rfl) lS ?_
  simp only [Act.put, List.setIfInBounds_toArray, List.set_cons_succ, List.set_cons_zero]
  repeat (refine wpO4_pure rfl rfl ?_; go_big_quiet_step (fail); refine wpQuiet_nil ?_)
  refine wpO4_load (ad := ⟨ab, 1, none⟩) (.int .i64 y) rfl rfl rfl (by rfl) lA ?_
  simp only [Act.put, List.setIfInBounds_toArray, List.set_cons_succ, List.set_cons_zero]
  refine wpO4_call (fun v => v = .int .i64 Y2) (fun _ V => LensAt V lo lb zs pe ee ∧ Off (fun q => q = lb) W2 V) (f := 100) (args := #[.pointer (some ⟨lb, 0, none⟩), .int .i64 y]) rfl rfl rfl (fun _ V hV => hV.2) (fun x => by first | rfl | (simp [go_sem]; done)) (fun V hV => (KY.out V (HB.out.later hV).l).mono (fun e w' h => ⟨_, h.1, rfl, h.2.1, (Off.of_below (S := fun q => q = lb) hV).trans h.2.2 (fun _ _ h => h)⟩)) ?_
  rintro v rfl
  simp only [Act.put, List.setIfInBounds_toArray, List.set_cons_succ, List.set_cons_zero]
  repeat (refine wpO4_pure rfl rfl ?_; go_big_quiet_step (fail); refine wpQuiet_nil ?_)
  rintro W3 ⟨hl1, ho1⟩
  simp only [List.drop_succ_cons, List.drop_zero]
  have g1 := HB.out.turn hl1 ho1
  have c0 := row_cell g1.at' 1 _ rfl
  have z0 := frozen_of_row W3 ab 1 _ _ g1.at'
  obtain ⟨ny, hny⟩ : ∃ ny, y + Y2 = ny := ⟨_, rfl⟩
  have g2 := g1.set 1 ny nx ny rfl
  obtain ⟨W4, hw2⟩ : ∃ W4, W3.setCell ⟨ab, 1, none⟩ (.int .i64 ny) = W4 := ⟨_, rfl⟩
  rw [hw2] at g2
  have HG := Lib.hid g2
  have HWHG := Lib.hid hw2
  have HYHG := Lib.hid hny
  clear g1 g2 hl1 ho1 lA lS KY hw2 hny
  go_wp2_with fail
  rw [HYHG.out, HWHG.out]
  clear c0 z0 HWHG
  have hsw := HG.out.off.size
  have lM : ∀ V, Below w.heap.size W4 V → (Instr.loadAt 121 (.pointer (some ⟨bm, 0, none⟩))).run Tryz.prog V = .ok (.pointer (some ⟨mb, 0, none⟩)) V := fun V hV => by
    have k := row_cell ((hV.block bm (by omega)).trans HG.out.pm) 0 _ rfl
    simp [Instr.loadAt, go_sem, k]
  obtain ⟨ca, cc, hCv, -, -⟩ := nums_of_own HG.out.o (by decide)
  have lC : ∀ V, Below w.heap.size W4 V → (Instr.loadAt 23 (.pointer (some ⟨mb, 7, none⟩))).run Tryz.prog V = .ok P V := fun V hV => by
    have k := row_cell ((hV.block mb (by omega)).trans HG.out.m) 7 P rfl
    rw [hCv] at k ⊢
    simp [Instr.loadAt, go_sem, k]
  have lY : ∀ V, Below w.heap.size W4 V → (Instr.loadAt 76 (.pointer (some ⟨ab, 0, none⟩))).run Tryz.prog V = .ok (.agg #[.int .i64 nx, .int .i64 ny]) V := fun V hV => by
    have k := row_cell ((hV.block ab (by omega)).trans HG.out.at') 0 _ rfl
    have k2 := row_cell ((hV.block ab (by omega)).trans HG.out.at') 1 _ rfl
    simp [Instr.loadAt, go_sem, k, k2]
  refine wp_region_order9 8 (0 :: 1 :: 2 :: 3 :: 4 :: 5 :: 6 :: 7 :: []) (fun V => Below w.heap.size W4 V) (C := fun V => Below W4.heap.size W4 V) (by kernel_rfl) (by kernel_rfl) (by kernel_rfl) (Below.refl _ _).drew (fun V hV => hV.mono hsw) ?_
  refine wpO9_load (ad := ⟨bm, 0, none⟩) (.pointer (some ⟨mb, 0, none⟩)) rfl rfl rfl (by rfl) lM ?_
  simp only [Act.put, List.setIfInBounds_toArray, List.set_cons_succ, List.set_cons_zero]
  refine wpO9_load (ad := ⟨bm, 0, none⟩) (.pointer (some ⟨mb, 0, none⟩)) rfl rfl rfl (by rfl) lM ?_
  simp only [Act.put, List.setIfInBounds_toArray, List.set_cons_succ, List.set_cons_zero]
  refine wpO9_nil (ad := ⟨mb, 0, none⟩) rfl rfl rfl (by rfl) ?_
  simp only [Act.put, List.setIfInBounds_toArray, List.set_cons_succ, List.set_cons_zero]
  repeat (refine wpO9_pure rfl rfl ?_; go_big_quiet_step (fail); refine wpQuiet_nil ?_)
  refine wpO9_load (ad := ⟨mb, 7, none⟩) P rfl rfl rfl (by rfl) lC ?_
  simp only [Act.put, List.setIfInBounds_toArray, List.set_cons_succ, List.set_cons_zero]
  refine wpO9_load (ad := ⟨ab, 0, none⟩) (.agg #[.int .i64 nx, .int .i64 ny]) rfl rfl rfl (by rfl) lY ?_
  simp only [Act.put, List.setIfInBounds_toArray, List.set_cons_succ, List.set_cons_zero]
  refine wpO9_do (fun x => ∃ g, x = .slice (some ⟨g, 0, none⟩) 1 1) (fun x V => Below W4.heap.size W4 V ∧ ∀ g, x = .slice (some ⟨g, 0, none⟩) 1 1 → V.heap[g]? = some (.cells #[.int .i64 nx, .int .i64 ny] 76 (0, 0))) rfl rfl rfl (fun _ V hV => hV.1.mono hsw) (fun V hV => ⟨.slice (some ⟨V.heap.size, 0, none⟩) 1 1, V.alloc (.cells #[.int .i64 nx, .int .i64 ny] 76), by simp [go_sem], ⟨_, rfl⟩, hV.alloc hV.size _, fun g hg => by
    injection hg with hg
    injection hg with hg
    injection hg with hg
    subst hg
    exact World.alloc_heap_new V (.cells #[.int .i64 nx, .int .i64 ny] 76)⟩) ?_
  rintro x ⟨g, rfl⟩
  simp only [Act.put, List.setIfInBounds_toArray, List.set_cons_succ, List.set_cons_zero]
  refine wpO9_do (fun v => ∃ A c, v = .slice A (L.length + 1) c) (fun v V => ∃ V3, Below W4.heap.size W4 V3 ∧ V.ownsRow w.heap.size 76 2 v (L.length + 1) ((fl2 (L ++ [(nx, ny)])).map (Value.int .i64)) ∧ V3.grownBy V P.ownBlock) rfl rfl rfl (fun v V hV => ?_) (fun V hV => ?_) ?_
  · obtain ⟨V3, hb, -, hg⟩ := hV
    exact (hb.mono hsw).grown hg (Nat.le_trans hsw hb.size) (fun k hk => (HG.out.o.lt k hk).1)
  · obtain ⟨hb, hc⟩ := hV
    have hc := hc g rfl
    obtain ⟨v', w', hrun, h6, h7, -⟩ := run_append_own (P := Tryz.prog) V w.heap.size 23 23 76 ii _ 2 16 Tryz.underlying23 hii hzi hzi1 hzi2 rfl (by decide) P L.length ((fl2 L).map (Value.int .i64)) (own_below7 HG.out.o hb) ⟨g, 0, none⟩ 1 1 [.int .i64 nx, .int .i64 ny] rfl (fun j u hj => by
      rcases j with _ | _ | j
      · simp at hj
        subst hj
        exact row_cell hc 0 _ rfl
      · simp at hj
        subst hj
        exact row_cell hc 1 _ rfl
      · simp at hj) (fun u hu => by simp at hu; rcases hu with rfl | rfl <;> rfl) (by unfold maxLen; omega) (by omega) (Nat.le_trans hsw hb.size)
    have h8 : w'.ownsRow w.heap.size 76 2 v' (L.length + 1) ((fl2 (L ++ [(nx, ny)])).map (Value.int .i64)) := by rw [fl2_app, List.map_append]; exact h6
    obtain ⟨a7, c7, e7, -, -⟩ := nums_of_own h8 (by decide)
    exact ⟨v', w', exec_appendH (.tmp 28) (.tmp 30) 23 rfl rfl rfl hrun, ⟨a7, c7, e7⟩, V, hb, h8, h7⟩
  rintro v7 ⟨a7, c7, rfl⟩
  simp only [Act.put, List.setIfInBounds_toArray, List.set_cons_succ, List.set_cons_zero]
  rintro w7 ⟨W5, hb3, hown, hgr⟩
  simp only [List.drop_succ_cons, List.drop_zero]
  have HG3 := HG.out.later hb3
  obtain ⟨m7, g7⟩ := HG3.grow hown hgr
  have k8 := row_cell m7 7 P rfl
  rw [hCv] at k8
  have z8 := frozen_of_row w7 mb 7 _ _ m7
  have HG7 := Lib.hid g7
  clear hown hgr m7 g7 HG3 lM lC lY hCv HG hb3
  go_wp2_with fail
  refine (lerr_any _ _ _ _ _ _ HG7.out.l).mono ?_
  rintro r w9 ⟨rfl, rfl⟩
  go_wp2
  go_ret
  have hR := HR.out
  obtain ⟨e1, e2, e3, e4⟩ := HE.out
  obtain ⟨rfl, rfl, hY2⟩ := HPE.out
  have q1 := HYHB.out
  have q2 := HYHG.out
  by_cases g1 : er = 0
  · subst g1
    obtain ⟨f1, f2⟩ := e2 rfl
    rw [if_neg (by rw [← e1]; simp), ← f1] at hR
    by_cases g2 : es = 0
    · subst g2
      obtain ⟨f3, f4⟩ := e4 rfl
      rw [if_neg (by rw [← e3]; simp), ← f3, ← f2, ← f4] at hR
      have hYY : Y = Y2 := by rw [← hY2]; rfl
      rw [hYY, q1, q2] at hR
      subst hR
      have hp : placeOf (p + u) 0 v = p + (u + v) := by unfold placeOf; rw [if_pos rfl, Nat.add_assoc]
      have hg := HG7.out
      rw [hp] at hg
      exact ⟨rfl, HG7.out.off, fun _ => ⟨_, hg⟩⟩
    · rw [if_pos (by rw [← e3]; exact g2), ← e3] at hR
      subst hR
      exact ⟨by simp [errOf], HG7.out.off, fun h => absurd h g2⟩
  · rw [if_pos (by rw [← e1]; exact g1), ← e1] at hR
    subst hR
    exact ⟨by simp [errOf, g1], HG7.out.off, fun h => absurd h g1⟩
end Go.Proofs.YtlbfibnfmijahaaGreat

namespace Go.Proofs.YtlbfibnfmijahaaGreat
open Go.RowKit Go.Shelf
set_option maxRecDepth 100000
attribute [local go_sem] Oper.semAt_some

theorem numR_all (l : List Int) : ∃ (X : Int) (u er : Nat), numR l 18446744073709551615 = (X, u, er) ∧ 0 ≤ X ∧ X ≤ 18446744073709551615 ∧ u ≤ l.length ∧
    (((Vi.get l).2.2 ≠ 0 ∧ er = (Vi.get l).2.2) ∨ ((Vi.get l).2.2 = 0 ∧ er = 0 ∧ X = ((Vi.get l).1 : Int) ∧ u = (Vi.get l).2.1)) := by
  have hle := Vi.get_le l
  obtain ⟨X, u, er, h1, h2, h3, h4, h5⟩ := numR_ways l 18446744073709551615 (by omega)
  refine ⟨X, u, er, h1, h2, h3, h4, ?_⟩
  rcases h5 with h | ⟨_, h, _⟩ | ⟨g1, _, g3, g4, g5⟩
  · exact .inl h
  · omega
  · exact .inr ⟨g1, g3, g4, g5⟩
theorem Off.two {mb lb ab : Nat} {w0 w W : World} (hb : Below w0.heap.size w0 w) (ho : Off (fun q => q = mb ∨ q = lb ∨ q = ab) w W) (hlo : w0.heap.size ≤ ab) : Off (fun q => q = mb ∨ q = lb) w0 W := by
  have := (Off.of_below (S := fun q => q = mb ∨ q = lb ∨ q = ab) hb).trans ho (fun _ _ h => h)
  exact this.mono fun j hj h => by
    rcases h with h | h | h
    · exact .inl h
    · exact .inr h
    · omega
theorem CSt.done {w0 w W : World} {lo mb lb ab bm : Nat} {zs : List Int} {N : Mg} {P C0 C : Value} {L : List Int} {a : Int} {p p' : Nat} (h0 : RdAt lo w0 mb lb zs N P C0 p 0) (hb : Below w0.heap.size w0 w) (hlo : w0.heap.size ≤ ab) (hne : L ≠ []) (h : CSt w lo mb lb ab bm zs N P L a p' 0 C W) : RdAt lo W mb lb zs { N with c := L } P C p' 0 := by
  have ho := Off.two hb h.off hlo
  obtain ⟨pa, pc, e1, h2, h3⟩ := h0.p
  have hlt := (Array.getElem?_eq_some_iff.1 h0.m).1
  have hsz := hb.size
  have ha := h0.a
  obtain ⟨ca, cc, e4, h5, h6⟩ := NuX.of_own h.o (by omega) (b4 := mb) (b8 := lb) (by omega) (by omega)
  exact ⟨h.m, h.l, h0.a, ⟨pa, pc, e1, h2, h3.keep ho⟩, ⟨ca, cc, e4, h5, h6⟩, h0.pz, fun e => absurd e hne⟩
theorem PSt.done {w0 w W : World} {lo mb lb ab sb bm : Nat} {zs : List Int} {N : Mg} {C P0 P : Value} {L : List (Int × Int)} {x y : Int} {p p' : Nat} (h0 : RdAt lo w0 mb lb zs N P0 C p 0) (hb : Below w0.heap.size w0 w) (hlo : w0.heap.size ≤ ab) (hne : L ≠ []) (h : PSt w lo mb lb ab sb bm zs N C L x y p' 0 P W) : RdAt lo W mb lb zs { N with p := L } P C p' 0 := by
  have ho := Off.two hb h.off hlo
  obtain ⟨pa, pc, e1, h2, h3⟩ := h0.c
  have hlt := (Array.getElem?_eq_some_iff.1 h0.m).1
  have hsz := hb.size
  have ha := h0.a
  obtain ⟨ca, cc, e4, h5, hc⟩ := nums_of_own h.o (by omega)
  refine ⟨h.m, h.l, h0.a, ⟨ca, cc, e4, h5, fun hn => ?_⟩, ⟨pa, pc, e1, h2, h3.keep ho⟩, fun e => absurd e hne, h0.cz⟩
  obtain ⟨b, off, e6, h7, h8⟩ := hc hn
  have hge : w.heap.size ≤ b := (h.o.lt b (by rw [e4, e6]; rfl)).1
  exact ⟨b, off, e6, by omega, by omega, h8⟩
theorem rdG_rng {a : Int} {l : List Int} (hl : Bys l) : (rdG a l).1 = 0 → -1 ≤ a → -1 ≤ (rdG a l).2.2 ∧ (rdG a l).2.2 ≤ 65535 := fun h ha => by
  obtain ⟨-, -, -, h4, h5⟩ := rdG_ok (a := a) (l := l) (x := (rdG a l).2.2) (u := (rdG a l).2.1) hl (by rw [← h])
  omega
theorem rdQ_rng {a : Int × Int} {l : List Int} (hl : Bys l) : (rdQ a l).1 = 0 → ptOk (rdQ a l).2.2 := fun h => by
  unfold rdQ at h ⊢
  by_cases h1 : (rdX a.1 l).1 ≠ 0
  · rw [if_pos h1] at h; exact absurd h h1
  · rw [if_neg h1] at h ⊢
    by_cases h2 : (rdX a.2 (l.drop (rdX a.1 l).2.1)).1 ≠ 0
    · rw [if_pos h2] at h; exact absurd h h2
    · rw [if_neg h2]
      have h1' : (rdX a.1 l).1 = 0 := by simpa using h1
      have h2' : (rdX a.2 (l.drop (rdX a.1 l).2.1)).1 = 0 := by simpa using h2
      obtain ⟨-, -, -, x1, x2⟩ := rdX_ok (a := a.1) (l := l) (x := (rdX a.1 l).2.2) (u := (rdX a.1 l).2.1) hl (by rw [← h1'])
      obtain ⟨-, -, -, y1, y2⟩ := rdX_ok (a := a.2) (l := l.drop (rdX a.1 l).2.1) (x := (rdX a.2 (l.drop (rdX a.1 l).2.1)).2.2) (u := (rdX a.2 (l.drop (rdX a.1 l).2.1)).2.1) (hl.drop _) (by rw [← h2'])
      exact ⟨x1, x2, y1, y2⟩
set_option maxHeartbeats 16000000 in
theorem countc_any (w0 w : World) (lo mb lb bo1 bo2 ab bm : Nat) (zs : List Int) (N : Mg) (P C : Value) (p : Nat) (f : Fd) (h0 : RdAt lo w0 mb lb zs N P C p 0) (hb : Below w0.heap.size w0 w) (hf : FdX f) (hso : f.so = 4) (hN : N.c = []) (hlo : w0.heap.size ≤ ab ∧ w0.heap.size ≤ bm) (hl : zs.length ≤ 1000000) (hz : Bys zs)
    (h1 : w.heap[bo1]? = some (.cells #[.int .i64 f.mo] 3 (0, 0))) (h2 : w.heap[bo2]? = some (.cells #[.func (.func 102) #[] #[.pointer (some ⟨ab, 0, none⟩), .pointer (some ⟨bm, 0, none⟩)]] 119 (0, 0))) (h3 : w.heap[ab]? = some (.cells #[.int .i64 (-1)] 3 (0, 0))) (h4 : w.heap[bm]? = some (.cells #[.pointer (some ⟨mb, 0, none⟩)] 121 (0, 0))) (hlt : ab < w.heap.size ∧ bm < w.heap.size) :
    Calls Tryz.prog 98 #[.pointer (some ⟨lb, 0, none⟩), .pointer (some ⟨bo1, 0, none⟩), .pointer (some ⟨bo2, 0, none⟩)] w fun r w' => RdO lo mb lb zs p (rdF N f (zs.drop p)) w0 r w' := by
  obtain ⟨X, u, er, hX, x0, x1, hu, hw⟩ := numR_all (zs.drop p)
  have hR0 := h0.later hb
  have K := lnum_any lo lb zs p 0 w 18446744073709551615 hR0.l (by omega) hz
  rw [hX] at K
  unfold ReadI at K
  simp only [ansI, placeOf, errOf, if_true] at K
  have hmo := hf.mo.2.1 hso
  have hle1 := hf.lst (by omega)
  have hlm := h0.a
  have hmlt := (Array.getElem?_eq_some_iff.1 h0.m).1
  obtain ⟨_, _, hbl, -⟩ := hR0.l.open
  have n1 := row_ne h1 hbl (by decide)
  have n2 := row_ne h2 hbl (by decide)
  have n3 := row_ne h3 hbl (by decide)
  have n4 := row_ne h4 hbl (by decide)
  have n6 := row_ne h2 hR0.m (by decide)
  have n7 := row_ne h2 h3 (by decide)
  have hNC : C = .slice none 0 0 := h0.cz hN
  have HNE : Hid ({ N with c := [] } = N) := Lib.hid (by cases N; simp only at hN; subst hN; rfl)
  obtain ⟨R, hR⟩ : ∃ R, rdF N f (zs.drop p) = R := ⟨_, rfl⟩
  rw [hR]
  unfold rdF at hR
  rw [if_neg (show ¬ f.so = 1 by omega), if_neg (show ¬ f.so = 2 by omega), if_neg (show ¬ f.so = 3 by omega), if_pos hso, hmo, hle1, hN] at hR
  simp only [List.nil_append, Int.zero_lt_one, and_true] at hR
  rw [hmo] at h1
  have K := Lib.hid K
  have HH := Lib.hid h0
  have HB := Lib.hid hb
  have HR0 := Lib.hid hR0
  have H2 := Lib.hid h2
  have H3 := Lib.hid h3
  have H4 := Lib.hid h4
  have HR := Lib.hid hR
  have HW := Lib.hid hw
  have HBY := Lib.hid hz
  have H1 := Lib.hid h1
  clear hR hw hX h0 hb hbl h1 h2 h3 h4 hz hR0 hf hmo hle1
  go_enter Tryz.func98, Tryz.ntmps98
  go_wp2
  refine wp_scope_straight ?_
  go_wp2_with fail
  refine K.out.mono ?_
  rintro r w1 ⟨rfl, hl1, ho1⟩
  have HOF : Hid (Off (fun q => q = mb ∨ q = lb) w0 w1) := Lib.hid (((Off.of_below (S := fun q => q = mb ∨ q = lb) HB.out).trans ho1 (fun _ _ e => .inr e)))
  have m1 := (ho1.block _ (Array.getElem?_eq_some_iff.1 HR0.out.m).1 (by omega)).trans HR0.out.m
  have k1 := row_cell ((ho1.block _ (Array.getElem?_eq_some_iff.1 H1.out).1 n1).trans H1.out) 0 _ rfl
  have a1 := (ho1.block _ (Array.getElem?_eq_some_iff.1 H3.out).1 n3).trans H3.out
  have b1 := (ho1.block _ (Array.getElem?_eq_some_iff.1 H4.out).1 n4).trans H4.out
  have f1 := (ho1.block _ (Array.getElem?_eq_some_iff.1 H2.out).1 n2).trans H2.out
  have hwz := HB.out.size
  rw [hNC, ← HNE.out] at m1
  have KE := Lib.hid (lerr_any _ _ _ _ _ _ hl1)
  have HST : Hid (er = 0 → CSt w lo mb lb ab bm zs N P [] (-1) (p + u) 0 (.slice none 0 0) w1) := Lib.hid fun h => by
    subst h
    exact ⟨m1, hl1, World.ownsRow_nil _ _ _ _, a1, b1, ho1.mono (fun _ _ e => .inr (.inl e)), by omega⟩
  have HL1 := Lib.hid hl1
  clear K hl1 a1 b1 m1 f1
  go_wp2_with fail
  refine KE.out.mono ?_
  rintro r w2 ⟨rfl, rfl⟩
  clear KE
  rcases HW.out with ⟨g1, rfl⟩ | ⟨g1, rfl, rfl, rfl⟩
  · have e1 : (((Vi.get (zs.drop p)).2.2 : Int) != 0) = true := by simpa using g1
    have hR := HR.out
    rw [if_pos g1] at hR
    have HR2 := Lib.hid hR
    clear hR HST
    go_wp2
    try simp only [Exit.noGoto]
    go_ret
    rw [← HR2.out]
    exact ⟨rfl, HOF.out, fun h => absurd h g1⟩
  · have hR := HR.out
    rw [if_neg (by simpa using g1)] at hR
    clear HW HR
    generalize (Vi.get (zs.drop p)).1 = z at *
    generalize (Vi.get (zs.drop p)).2.1 = u at *
    clear g1
    by_cases hz0 : z = 0
    · subst hz0
      rw [if_pos rfl] at hR
      have HR2 := Lib.hid hR
      clear hR HST
      go_wp2
      try simp only [Exit.noGoto]
      go_ret
      rw [← HR2.out]
      exact ⟨rfl, HOF.out, fun h => by simp at h⟩
    · have hzi : ¬ (z : Int) = 0 := by omega
      rw [if_neg hz0] at hR
      by_cases hbig : (32 : Int) < (z : Int)
      · rw [if_pos hbig] at hR
        have HR2 := Lib.hid hR
        clear hR HST
        go_wp2
        try simp only [Exit.noGoto]
        go_ret
        rw [← HR2.out]
        exact ⟨rfl, HOF.out, fun h => by simp at h⟩
      · rw [if_neg hbig] at hR
        rw [List.drop_drop] at hR
        have hz32 : (z : Int) ≤ 32 := by omega
        have HR2 := Lib.hid hR
        have HS1 := Lib.hid (HST.out rfl)
        obtain ⟨RC, hRC⟩ : ∃ RC, rdC z (-1) (zs.drop (p + u)) = RC := ⟨_, rfl⟩
        have HRC := Lib.hid hRC
        clear hR HST hRC
        go_wp2_with fail
        refine wp_label ?_
        go_wp2_with fail
        rw [show ((z : Int) == 0) = false from by simpa using hzi]
        go_loopw [6, 24] (fun ev iv wr => ∃ (j c : Nat) (a : Int) (L : List Int) (D : Value), j ≤ z ∧ ev = .int .i64 0 ∧ iv = .int .u64 (j : Int) ∧ L.length = j ∧ (-1 ≤ a ∧ a ≤ 65535) ∧ Hid (CSt w lo mb lb ab bm zs N P L a (p + u + c) 0 D wr) ∧ Hid (RC = ((rdC (z - j) a (zs.drop (p + u + c))).1, c + (rdC (z - j) a (zs.drop (p + u + c))).2.1, L ++ (rdC (z - j) a (zs.drop (p + u + c))).2.2))) (fun _ iv _ => z - (intOf iv).toNat)
        case atStart => exact ⟨0, 0, (-1), [], .slice none 0 0, by omega, rfl, rfl, rfl, ⟨by omega, by omega⟩, HS1, by rw [Nat.sub_zero, Nat.add_zero, HRC.out]; exact Lib.hid (by simp)⟩
        case round =>
          obtain ⟨j, c, a, L, D, hj, rfl, rfl, hL, hab, HS, HE⟩ := hrel
          obtain ⟨q, hq⟩ : ∃ q, p + u + c = q := ⟨_, rfl⟩
          rw [hq] at HS HE
          rcases Nat.lt_or_ge j z with hlt | hge
          · have hj2 : (j : Int) < (z : Int) := by omega
            have K := cellr_any w lo mb lb ab bm zs N P L a q D wr HS.out hab.1 hab.2 (by omega) (by omega) HBY.out
            have hst := rdC_step (z - j - 1) a (zs.drop q)
            rw [show z - j - 1 + 1 = z - j by omega] at hst
            have hrg := fun h => rdG_rng (a := a) (HBY.out.drop q) h hab.1
            obtain ⟨⟨E, k, x⟩, hans⟩ : ∃ r, rdG a (zs.drop q) = r := ⟨_, rfl⟩
            rw [hans] at K hst hrg
            simp only at K hst hrg
            have kf := row_cell ((HS.out.off.block _ (Array.getElem?_eq_some_iff.1 H2.out).1 (by omega)).trans H2.out) 0 _ rfl
            have K := Lib.hid K
            have HST := Lib.hid hst
            clear hans hst
            go_wp2_with fail
            refine K.out.mono ?_
            rintro r w2 ⟨rfl, hoff, hok⟩
            clear K
            by_cases hE : E = 0
            · subst hE
              obtain ⟨D2, hD2⟩ := hok rfl
              have hx := hrg rfl
              have hst := HST.out
              rw [if_neg (by simp)] at hst
              have hE2 := HE.out
              rw [hst] at hE2
              simp only at hE2
              rw [List.drop_drop] at hE2
              have HE3 : Hid (RC = ((rdC (z - (j + 1)) x (zs.drop (p + u + (c + k)))).1, c + k + (rdC (z - (j + 1)) x (zs.drop (p + u + (c + k)))).2.1, (L ++ [x]) ++ (rdC (z - (j + 1)) x (zs.drop (p + u + (c + k)))).2.2)) := Lib.hid (by
                rw [hE2, ← Nat.add_assoc (p + u) c k, hq, show z - (j + 1) = z - j - 1 by omega, Nat.add_assoc, List.append_assoc]
                rfl)
              have HD2 : Hid (CSt w lo mb lb ab bm zs N P (L ++ [x]) x (p + u + (c + k)) 0 D2 w2) := Lib.hid (by rw [← Nat.add_assoc, hq]; exact hD2)
              clear hE2 hst hD2 hok hoff kf hq
              go_wp2
              go_roundw
              case rel => exact ⟨j + 1, c + k, x, L ++ [x], D2, by omega, by go_num, by go_num, by simp [hL], hx, HD2, HE3⟩
              case measure => simp [intOf]; omega
            · have e1 : ((E : Int) != 0) = true := by simpa using hE
              have hst := HST.out
              rw [if_pos hE] at hst
              have hE2 := HE.out
              rw [hst] at hE2
              have hR := HR2.out
              rw [HRC.out, hE2] at hR
              simp only at hR
              rw [if_pos hE] at hR
              have HR3 := Lib.hid hR
              have HO3 := Lib.hid (Off.two HB.out hoff hlo.1)
              clear hR hE2 hst hok hoff kf hq
              go_wp2
              try simp only [Exit.noGoto]
              go_ret
              rw [← HR3.out]
              exact ⟨rfl, HO3.out, fun h => absurd h hE⟩
          · obtain rfl : j = z := by omega
            have hE2 := HE.out
            rw [Nat.sub_self] at hE2
            simp only [rdC, Nat.add_zero, List.append_nil] at hE2
            have hR := HR2.out
            rw [HRC.out, hE2] at hR
            simp only [ne_eq, not_true_eq_false, if_false] at hR
            have HR3 := Lib.hid hR
            have HF := Lib.hid (CSt.done HH.out HB.out hlo.1 (by intro h; rw [h] at hL; simp at hL; omega) HS.out)
            have HO3 := Lib.hid (Off.two HB.out HS.out.off hlo.1)
            have HQ := Lib.hid hq
            clear hR hE2 hq
            go_wp2
            try simp only [Exit.noGoto]
            go_ret
            rw [← HR3.out]
            refine ⟨rfl, HO3.out, fun _ => ?_⟩
            have hf := HF.out
            rw [← HQ.out] at hf
            exact ⟨_, _, by rw [← Nat.add_assoc]; exact hf⟩
set_option maxHeartbeats 16000000 in
theorem countp_any (w0 w : World) (lo mb lb bo1 bo2 ab sb bm : Nat) (zs : List Int) (N : Mg) (P C : Value) (p : Nat) (f : Fd) (h0 : RdAt lo w0 mb lb zs N P C p 0) (hb : Below w0.heap.size w0 w) (hf : FdX f) (hso : f.so = 3) (hN : N.p = []) (hlo : w0.heap.size ≤ ab ∧ w0.heap.size ≤ bm ∧ w0.heap.size ≤ sb) (hl : zs.length ≤ 1000000) (hz : Bys zs)
    (h1 : w.heap[bo1]? = some (.cells #[.int .i64 f.mo] 3 (0, 0))) (h2 : w.heap[bo2]? = some (.cells #[.func (.func 101) #[] #[.pointer (some ⟨ab, 0, none⟩), .pointer (some ⟨sb, 0, none⟩), .pointer (some ⟨bm, 0, none⟩)]] 119 (0, 0))) (h3 : w.heap[ab]? = some (.cells #[.int .i64 0, .int .i64 0] 76 (0, 0))) (h4 : w.heap[bm]? = some (.cells #[.pointer (some ⟨mb, 0, none⟩)] 121 (0, 0))) (h5 : w.heap[sb]? = some (.cells #[.func (.func 100) #[] #[]] 160 (0, 0))) (hlt : ab < w.heap.size ∧ bm < w.heap.size ∧ sb < w.heap.size) :
    Calls Tryz.prog 98 #[.pointer (some ⟨lb, 0, none⟩), .pointer (some ⟨bo1, 0, none⟩), .pointer (some ⟨bo2, 0, none⟩)] w fun r w' => RdO lo mb lb zs p (rdF N f (zs.drop p)) w0 r w' := by
  obtain ⟨X, u, er, hX, x0, x1, hu, hw⟩ := numR_all (zs.drop p)
  have hR0 := h0.later hb
  have K := lnum_any lo lb zs p 0 w 18446744073709551615 hR0.l (by omega) hz
  rw [hX] at K
  unfold ReadI at K
  simp only [ansI, placeOf, errOf, if_true] at K
  have hmo := hf.mo.1 hso
  have hle1 := hf.lst (by omega)
  have hlm := h0.a
  have hmlt := (Array.getElem?_eq_some_iff.1 h0.m).1
  obtain ⟨_, _, hbl, -⟩ := hR0.l.open
  have n1 := row_ne h1 hbl (by decide)
  have n2 := row_ne h2 hbl (by decide)
  have n3 := row_ne h3 hbl (by decide)
  have n4 := row_ne h4 hbl (by decide)
  have n5 := row_ne h5 hbl (by decide)
  have n6 := row_ne h2 hR0.m (by decide)
  have n7 := row_ne h2 h3 (by decide)
  have hNC : P = .slice none 0 0 := h0.pz hN
  have HNE : Hid ({ N with p := [] } = N) := Lib.hid (by cases N; simp only at hN; subst hN; rfl)
  obtain ⟨R, hR⟩ : ∃ R, rdF N f (zs.drop p) = R := ⟨_, rfl⟩
  rw [hR]
  unfold rdF at hR
  rw [if_neg (show ¬ f.so = 1 by omega), if_neg (show ¬ f.so = 2 by omega), if_pos hso, hmo, hle1, hN] at hR
  simp only [List.nil_append, Int.zero_lt_one, and_true] at hR
  rw [hmo] at h1
  have K := Lib.hid K
  have HH := Lib.hid h0
  have HB := Lib.hid hb
  have HR0 := Lib.hid hR0
  have H2 := Lib.hid h2
  have H3 := Lib.hid h3
  have H4 := Lib.hid h4
  have H5 := Lib.hid h5
  have HR := Lib.hid hR
  have HW := Lib.hid hw
  have HBY := Lib.hid hz
  have H1 := Lib.hid h1
  clear hR hw hX h0 hb hbl h1 h2 h3 h4 h5 hz hR0 hf hmo hle1
  go_enter Tryz.func98, Tryz.ntmps98
  go_wp2
  refine wp_scope_straight ?_
  go_wp2_with fail
  refine K.out.mono ?_
  rintro r w1 ⟨rfl, hl1, ho1⟩
  have HOF : Hid (Off (fun q => q = mb ∨ q = lb) w0 w1) := Lib.hid (((Off.of_below (S := fun q => q = mb ∨ q = lb) HB.out).trans ho1 (fun _ _ e => .inr e)))
  have m1 := (ho1.block _ (Array.getElem?_eq_some_iff.1 HR0.out.m).1 (by omega)).trans HR0.out.m
  have k1 := row_cell ((ho1.block _ (Array.getElem?_eq_some_iff.1 H1.out).1 n1).trans H1.out) 0 _ rfl
  have a1 := (ho1.block _ (Array.getElem?_eq_some_iff.1 H3.out).1 n3).trans H3.out
  have b1 := (ho1.block _ (Array.getElem?_eq_some_iff.1 H4.out).1 n4).trans H4.out
  have s1 := (ho1.block _ (Array.getElem?_eq_some_iff.1 H5.out).1 n5).trans H5.out
  have f1 := (ho1.block _ (Array.getElem?_eq_some_iff.1 H2.out).1 n2).trans H2.out
  have hwz := HB.out.size
  rw [hNC, ← HNE.out] at m1
  have KE := Lib.hid (lerr_any _ _ _ _ _ _ hl1)
  have HST : Hid (er = 0 → PSt w lo mb lb ab sb bm zs N C [] 0 0 (p + u) 0 (.slice none 0 0) w1) := Lib.hid fun h => by
    subst h
    exact ⟨m1, hl1, World.ownsRow_nil _ _ _ _, a1, s1, b1, ho1.mono (fun _ _ e => .inr (.inl e)), by omega⟩
  have HL1 := Lib.hid hl1
  clear K hl1 a1 b1 m1 f1 s1
  go_wp2_with fail
  refine KE.out.mono ?_
  rintro r w2 ⟨rfl, rfl⟩
  clear KE
  rcases HW.out with ⟨g1, rfl⟩ | ⟨g1, rfl, rfl, rfl⟩
  · have e1 : (((Vi.get (zs.drop p)).2.2 : Int) != 0) = true := by simpa using g1
    have hR := HR.out
    rw [if_pos g1] at hR
    have HR2 := Lib.hid hR
    clear hR HST
    go_wp2
    try simp only [Exit.noGoto]
    go_ret
    rw [← HR2.out]
    exact ⟨rfl, HOF.out, fun h => absurd h g1⟩
  · have hR := HR.out
    rw [if_neg (by simpa using g1)] at hR
    clear HW HR
    generalize (Vi.get (zs.drop p)).1 = z at *
    generalize (Vi.get (zs.drop p)).2.1 = u at *
    clear g1
    by_cases hz0 : z = 0
    · subst hz0
      rw [if_pos rfl] at hR
      have HR2 := Lib.hid hR
      clear hR HST
      go_wp2
      try simp only [Exit.noGoto]
      go_ret
      rw [← HR2.out]
      exact ⟨rfl, HOF.out, fun h => by simp at h⟩
    · have hzi : ¬ (z : Int) = 0 := by omega
      rw [if_neg hz0] at hR
      by_cases hbig : (16 : Int) < (z : Int)
      · rw [if_pos hbig] at hR
        have HR2 := Lib.hid hR
        clear hR HST
        go_wp2
        try simp only [Exit.noGoto]
        go_ret
        rw [← HR2.out]
        exact ⟨rfl, HOF.out, fun h => by simp at h⟩
      · rw [if_neg hbig] at hR
        rw [List.drop_drop] at hR
        have hz32 : (z : Int) ≤ 16 := by omega
        have HR2 := Lib.hid hR
        have HS1 := Lib.hid (HST.out rfl)
        obtain ⟨RC, hRC⟩ : ∃ RC, rdP z (0, 0) (zs.drop (p + u)) = RC := ⟨_, rfl⟩
        have HRC := Lib.hid hRC
        clear hR HST hRC
        go_wp2_with fail
        refine wp_label ?_
        go_wp2_with fail
        rw [show ((z : Int) == 0) = false from by simpa using hzi]
        go_loopw [6, 24] (fun ev iv wr => ∃ (j c : Nat) (a : Int × Int) (L : List (Int × Int)) (D : Value), j ≤ z ∧ ev = .int .i64 0 ∧ iv = .int .u64 (j : Int) ∧ L.length = j ∧ (ptOk a) ∧ Hid (PSt w lo mb lb ab sb bm zs N C L a.1 a.2 (p + u + c) 0 D wr) ∧ Hid (RC = ((rdP (z - j) a (zs.drop (p + u + c))).1, c + (rdP (z - j) a (zs.drop (p + u + c))).2.1, L ++ (rdP (z - j) a (zs.drop (p + u + c))).2.2))) (fun _ iv _ => z - (intOf iv).toNat)
        case atStart => exact ⟨0, 0, (0, 0), [], .slice none 0 0, by omega, rfl, rfl, rfl, ⟨by simp, by simp, by simp, by simp⟩, HS1, by rw [Nat.sub_zero, Nat.add_zero, HRC.out]; exact Lib.hid (by simp)⟩
        case round =>
          obtain ⟨j, c, a, L, D, hj, rfl, rfl, hL, hab, HS, HE⟩ := hrel
          obtain ⟨q, hq⟩ : ∃ q, p + u + c = q := ⟨_, rfl⟩
          rw [hq] at HS HE
          rcases Nat.lt_or_ge j z with hlt | hge
          · have hj2 : (j : Int) < (z : Int) := by omega
            have K := pointr_any w lo mb lb ab sb bm zs N C L a.1 a.2 q D wr HS.out ⟨hab.1, hab.2.1⟩ ⟨hab.2.2.1, hab.2.2.2⟩ (by omega) (by omega) HBY.out
            have hst := rdP_q (z - j - 1) a (zs.drop q)
            rw [show z - j - 1 + 1 = z - j by omega] at hst
            have hrg := rdQ_rng (a := a) (HBY.out.drop q)
            obtain ⟨⟨E, k, x⟩, hans⟩ : ∃ r, rdQ a (zs.drop q) = r := ⟨_, rfl⟩
            rw [hans] at K hst hrg
            simp only at K hst hrg
            have kf := row_cell ((HS.out.off.block _ (Array.getElem?_eq_some_iff.1 H2.out).1 (by omega)).trans H2.out) 0 _ rfl
            have K := Lib.hid K
            have HST := Lib.hid hst
            clear hans hst
            go_wp2_with fail
            refine K.out.mono ?_
            rintro r w2 ⟨rfl, hoff, hok⟩
            clear K
            by_cases hE : E = 0
            · subst hE
              obtain ⟨D2, hD2⟩ := hok rfl
              have hx := hrg rfl
              have hst := HST.out
              rw [if_neg (by simp)] at hst
              have hE2 := HE.out
              rw [hst] at hE2
              simp only at hE2
              rw [List.drop_drop] at hE2
              have HE3 : Hid (RC = ((rdP (z - (j + 1)) x (zs.drop (p + u + (c + k)))).1, c + k + (rdP (z - (j + 1)) x (zs.drop (p + u + (c + k)))).2.1, (L ++ [x]) ++ (rdP (z - (j + 1)) x (zs.drop (p + u + (c + k)))).2.2)) := Lib.hid (by
                rw [hE2, ← Nat.add_assoc (p + u) c k, hq, show z - (j + 1) = z - j - 1 by omega, Nat.add_assoc, List.append_assoc]
                rfl)
              have HD2 : Hid (PSt w lo mb lb ab sb bm zs N C (L ++ [x]) x.1 x.2 (p + u + (c + k)) 0 D2 w2) := Lib.hid (by rw [← Nat.add_assoc, hq]; exact hD2)
              clear hE2 hst hD2 hok hoff kf hq
              go_wp2
              go_roundw
              case rel => exact ⟨j + 1, c + k, x, L ++ [x], D2, by omega, by go_num, by go_num, by simp [hL], hx, HD2, HE3⟩
              case measure => simp [intOf]; omega
            · have e1 : ((E : Int) != 0) = true := by simpa using hE
              have hst := HST.out
              rw [if_pos hE] at hst
              have hE2 := HE.out
              rw [hst] at hE2
              have hR := HR2.out
              rw [HRC.out, hE2] at hR
              simp only at hR
              rw [if_pos hE] at hR
              have HR3 := Lib.hid hR
              have HO3 := Lib.hid (Off.two HB.out hoff hlo.1)
              clear hR hE2 hst hok hoff kf hq
              go_wp2
              try simp only [Exit.noGoto]
              go_ret
              rw [← HR3.out]
              exact ⟨rfl, HO3.out, fun h => absurd h hE⟩
          · obtain rfl : j = z := by omega
            have hE2 := HE.out
            rw [Nat.sub_self] at hE2
            simp only [rdP, Nat.add_zero, List.append_nil] at hE2
            have hR := HR2.out
            rw [HRC.out, hE2] at hR
            simp only [ne_eq, not_true_eq_false, if_false] at hR
            have HR3 := Lib.hid hR
            have HF := Lib.hid (PSt.done HH.out HB.out hlo.1 (by intro h; rw [h] at hL; simp at hL; omega) HS.out)
            have HO3 := Lib.hid (Off.two HB.out HS.out.off hlo.1)
            have HQ := Lib.hid hq
            clear hR hE2 hq
            go_wp2
            try simp only [Exit.noGoto]
            go_ret
            rw [← HR3.out]
            refine ⟨rfl, HO3.out, fun _ => ?_⟩
            have hf := HF.out
            rw [← HQ.out] at hf
            exact ⟨_, _, by rw [← Nat.add_assoc]; exact hf⟩
end Go.Proofs.YtlbfibnfmijahaaGreat

namespace Go.Proofs.YtlbfibnfmijahaaGreat
open Go.RowKit Go.Shelf
set_option maxRecDepth 100000
attribute [local go_sem] Oper.semAt_some

theorem unfit_any (x : Int) (w : World) : Calls Tryz.prog 107 #[.int .u8 x] w fun e w' => e = .returned (.bool (decide (¬ byI x))) ∧ w' = w := by
  by_cases h1 : x < 32
  · rw [decide_eq_true (by unfold byI; omega)]
    go_enter Tryz.func107, Tryz.ntmps107
    go_wp2
    go_ret
    exact ⟨rfl, rfl⟩
  · by_cases h2 : 126 < x
    · rw [decide_eq_true (by unfold byI; omega)]
      go_enter Tryz.func107, Tryz.ntmps107
      go_wp2
      go_ret
      exact ⟨rfl, rfl⟩
    · rw [decide_eq_false (by unfold byI; omega)]
      go_enter Tryz.func107, Tryz.ntmps107
      go_wp2
      go_ret
      exact ⟨rfl, rfl⟩
set_option maxHeartbeats 1000000 in
theorem indexu_any (B : Nat) (a : Option Addr) (n c : Nat) (zs : List Int) (w : World) (hn : zs.length = n) (hl : n ≤ 1000000) (h1 : Nums .u8 w B a zs) :
    Calls Tryz.prog 121 #[.slice a n c, .func (.func 107) #[] #[]] w fun e w' => (∃ r : Int, e = .returned (.int .i64 r) ∧ ((0 ≤ r ∧ ∃ s ∈ zs, ¬ byI s) ∨ (r = -1 ∧ ∀ s ∈ zs, byI s))) ∧ w' = w := by
  have HL := Lib.hid hn
  clear hn
  go_enter Tryz.func121, Tryz.ntmps121
  go_wp2
  go_loopw [5, 8] (fun _ v wr => ∃ k : Nat, k ≤ n ∧ v = .int .i64 (k : Int) ∧ Hid (∀ s ∈ zs.take k, byI s) ∧ wr = w) (fun _ v _ => n - (intOf v).toNat)
  case atStart => exact ⟨0, by omega, rfl, fun s hs => by simp at hs, rfl⟩
  case round =>
    obtain ⟨k, hk, rfl, HN, rfl⟩ := hrel
    by_cases hlt : k < n
    · obtain ⟨z, hz⟩ : ∃ z, zs[k]? = some z := ⟨_, List.getElem?_eq_getElem (by rw [HL.out]; exact hlt)⟩
      obtain ⟨b1, o1, rfl, hb1, hc1⟩ := h1.open hz
      have hlt' : (k : Int) < (n : Int) := by omega
      have K := unfit_any z wr
      by_cases hz0 : byI z
      · have HF : Hid (∀ s ∈ zs.take (k + 1), byI s) := by
          show ∀ s ∈ _, _
          rw [List.take_add_one, hz]
          intro s hs
          rcases List.mem_append.1 hs with h | h
          · exact HN.out s h
          · simp at h; subst h; exact hz0
        rw [decide_eq_false (by simpa using hz0)] at K
        clear hz h1
        go_wp2_with fail
        refine K.mono ?_
        rintro e w' ⟨rfl, rfl⟩
        go_wp2
        go_roundw
        case rel => exact ⟨k + 1, by omega, by go_num, HF, trivial⟩
        case measure => simp [intOf]; omega
      · have HF := Lib.hid (show ∃ s ∈ zs, ¬ byI s from ⟨z, List.mem_of_getElem? hz, hz0⟩)
        rw [decide_eq_true hz0] at K
        clear hz h1
        go_wp2_with fail
        refine K.mono ?_
        rintro e w' ⟨rfl, rfl⟩
        go_wp2
        go_ret
        exact ⟨⟨_, rfl, .inl ⟨by omega, HF.out⟩⟩, rfl⟩
    · have hkn : k = n := by omega
      have HF : Hid (∀ s ∈ zs, byI s) := by
        have := HN.out
        rwa [List.take_of_length_le (by rw [HL.out]; omega)] at this
      go_wp2
      go_ret
      exact ⟨⟨_, rfl, .inr ⟨rfl, HF.out⟩⟩, rfl⟩
theorem cunfit_any (B : Nat) (a : Option Addr) (n c : Nat) (zs : List Int) (w : World) (hn : zs.length = n) (hl : n ≤ 1000000) (h1 : Nums .u8 w B a zs) :
    Calls Tryz.prog 106 #[.slice a n c, .func (.func 107) #[] #[]] w fun e w' => e = .returned (.bool (decide (¬ ∀ s ∈ zs, byI s))) ∧ w' = w := by
  have K := indexu_any B a n c zs w hn hl h1
  clear h1
  obtain ⟨r0, hr0⟩ : ∃ r0, decide (¬ ∀ s ∈ zs, byI s) = r0 := ⟨_, rfl⟩
  rw [hr0]
  go_enter Tryz.func106, Tryz.ntmps106
  go_wp2_with fail
  refine K.mono ?_
  rintro e w' ⟨⟨r, rfl, h⟩, rfl⟩
  rcases h with ⟨h0, s, hs1, hs2⟩ | ⟨rfl, h⟩
  · have hr : r0 = true := by rw [← hr0]; exact decide_eq_true fun h => hs2 (h s hs1)
    subst hr
    clear K hr0
    go_wp2
    go_ret
    exact ⟨rfl, rfl⟩
  · have hr : r0 = false := by rw [← hr0]; exact decide_eq_false fun h2 => h2 h
    subst hr
    clear h K hr0
    go_wp2
    go_ret
    exact ⟨rfl, rfl⟩
theorem puttx_any (mb bm : Nat) (N : Mg) (P C : Value) (s : ByteArray) (w : World) (hm : w.heap[mb]? = some (.cells (mC N P C) 26 (0, 0))) (hbm : w.heap[bm]? = some (.cells #[.pointer (some ⟨mb, 0, none⟩)] 121 (0, 0))) :
    Calls Tryz.prog 83 #[.string s, .pointer (some ⟨bm, 0, none⟩)] w fun e w' => (∃ x, e = .returned x) ∧ w' = w.setCell ⟨mb, 9, none⟩ (.string s) := by
  have k := row_cell hbm 0 _ rfl
  have c := row_cell hm 9 (.string N.tx) rfl
  have z := frozen_of_row w mb 9 _ _ hm
  clear hm hbm
  go_enter Tryz.func83, Tryz.ntmps83
  go_wp2
  go_end0
  exact ⟨⟨_, rfl⟩, rfl⟩
theorem puttg_any (mb bm : Nat) (N : Mg) (P C : Value) (s : ByteArray) (w : World) (hm : w.heap[mb]? = some (.cells (mC N P C) 26 (0, 0))) (hbm : w.heap[bm]? = some (.cells #[.pointer (some ⟨mb, 0, none⟩)] 121 (0, 0))) :
    Calls Tryz.prog 84 #[.string s, .pointer (some ⟨bm, 0, none⟩)] w fun e w' => (∃ x, e = .returned x) ∧ w' = w.setCell ⟨mb, 10, none⟩ (.string s) := by
  have k := row_cell hbm 0 _ rfl
  have c := row_cell hm 10 (.string N.tg) rfl
  have z := frozen_of_row w mb 10 _ _ hm
  clear hm hbm
  go_enter Tryz.func84, Tryz.ntmps84
  go_wp2
  go_end0
  exact ⟨⟨_, rfl⟩, rfl⟩
/-- 'string(b)' of bytes that lie somewhere -/
theorem conv_txt (B : Nat) (a : Option Addr) (n c : Nat) (zs : List Int) (w : World) (hn : zs.length = n) (h1 : Nums .u8 w B a zs) :
    (convert 49 9 (.slice a n c)).run Tryz.prog w = .ok (.string (txt zs)) w := by
  subst hn
  by_cases hz : zs = []
  · subst hz
    rw [run_convert_bytes_string w _ _ _ _ _ _ Tryz.underlying49 Tryz.underlying5 Tryz.underlying9]
    cases a <;> simp [Conv.bytesToString, loadCells] <;> rfl
  · obtain ⟨b, o, rfl, _, hc⟩ := h1 hz
    exact run_convert_bytes_arg (P := Tryz.prog) w _ _ Tryz.underlying49 Tryz.underlying5 b o _ c zs rfl (fun i hi => by
      rw [hc i zs[i] (List.getElem?_eq_getElem hi)]
      simp [List.getElem?_eq_getElem hi]) _ Tryz.underlying9
theorem NumsIn.nums18 {k : IntKind} {w : World} {lo hi : Nat} {a : Option Addr} {zs : List Int} (h : NumsIn k w lo hi a zs) : Nums k w hi a zs := fun hn => by
  obtain ⟨b, off, e, _, h2, hc⟩ := h hn
  exact ⟨b, off, e, h2, hc⟩
theorem fldR_ways (l : List Int) (mo : Int) (h0 : 0 ≤ mo) (h1 : mo ≤ 64) : ∃ (B : List Int) (u er : Nat), fldR l mo = (B, u, er) ∧ B.length ≤ 64 ∧
    (((Vi.get l).2.2 ≠ 0 ∧ er = (Vi.get l).2.2) ∨ ((Vi.get l).2.2 = 0 ∧ mo < ((Vi.get l).1 : Int) ∧ er = 6) ∨
      ((Vi.get l).2.2 = 0 ∧ ((Vi.get l).1 : Int) ≤ mo ∧ (l.drop (Vi.get l).2.1).length < (Vi.get l).1 ∧ er = 4) ∨
      ((Vi.get l).2.2 = 0 ∧ ((Vi.get l).1 : Int) ≤ mo ∧ ¬ (l.drop (Vi.get l).2.1).length < (Vi.get l).1 ∧ er = 0 ∧ B = (l.drop (Vi.get l).2.1).take (Vi.get l).1 ∧ u = (Vi.get l).2.1 + (Vi.get l).1)) := by
  unfold fldR
  rw [show max mo 0 = mo by omega]
  by_cases g1 : (Vi.get l).2.2 ≠ 0
  · rw [if_pos g1]
    exact ⟨[], 0, _, rfl, by simp, .inl ⟨g1, rfl⟩⟩
  · rw [if_neg g1]
    have g1' : (Vi.get l).2.2 = 0 := by simpa using g1
    by_cases g2 : mo < ((Vi.get l).1 : Int)
    · rw [if_pos g2]
      exact ⟨[], 0, _, rfl, by simp, .inr (.inl ⟨g1', g2, rfl⟩)⟩
    · rw [if_neg g2]
      by_cases g3 : l.length - (Vi.get l).2.1 < (Vi.get l).1
      · rw [if_pos g3]
        exact ⟨[], 0, _, rfl, by simp, .inr (.inr (.inl ⟨g1', by omega, by rw [List.length_drop]; exact g3, rfl⟩))⟩
      · rw [if_neg g3]
        exact ⟨_, _, _, rfl, by rw [List.length_take]; omega, .inr (.inr (.inr ⟨g1', by omega, by rw [List.length_drop]; exact g3, rfl, rfl, rfl⟩))⟩
set_option maxHeartbeats 4000000 in
theorem textr_any (lo mb lb bo bp bm : Nat) (zs : List Int) (N : Mg) (P C : Value) (p : Nat) (f : Fd) (w : World) (h : RdAt lo w mb lb zs N P C p 0) (hf : FdX f) (hso : f.so = 5) (hl : zs.length ≤ 1000000) (hz : Bys zs)
    (hbo : w.heap[bo]? = some (.cells #[.int .i64 f.mo] 3 (0, 0))) (hbp : w.heap[bp]? = some (.cells #[.func (.func 83) #[] #[.pointer (some ⟨bm, 0, none⟩)]] 149 (0, 0))) (hbm : w.heap[bm]? = some (.cells #[.pointer (some ⟨mb, 0, none⟩)] 121 (0, 0))) :
    Calls Tryz.prog 104 #[.pointer (some ⟨lb, 0, none⟩), .pointer (some ⟨bo, 0, none⟩), .pointer (some ⟨bp, 0, none⟩)] w fun r w' => RdO lo mb lb zs p (rdF N f (zs.drop p)) w r w' := by
  have hmo : 0 ≤ f.mo ∧ f.mo ≤ 64 := by have := hf.mo; omega
  have hle0 := hf.tex (by omega)
  obtain ⟨Bs, u, er, hX, hBl, hw⟩ := fldR_ways (zs.drop p) f.mo hmo.1 hmo.2
  have K := lfld_any lo lb zs p 0 w f.mo (by omega) (by omega) h.l (by omega) hz
  rw [hX] at K
  unfold ReadB at K
  simp only [ansB, placeOf, errOf, if_true] at K
  obtain ⟨R, hR⟩ : ∃ R, rdF N f (zs.drop p) = R := ⟨_, rfl⟩
  rw [hR]
  unfold rdF at hR
  rw [if_neg (show ¬ f.so = 1 by omega), if_neg (show ¬ f.so = 2 by omega), if_neg (show ¬ (((Vi.get (zs.drop p)).1 = 0) ∧ 0 < f.le) by omega), if_neg (show ¬ f.so = 3 by omega), if_neg (show ¬ f.so = 4 by omega)] at hR
  have hlm := h.a
  obtain ⟨_, _, hbl, -⟩ := h.l.open
  have n1 := row_ne hbo h.m (by decide)
  have n2 := row_ne hbo hbl (by decide)
  have n3 := row_ne hbm h.m (by decide)
  have n4 := row_ne hbm hbl (by decide)
  have n6 := row_ne hbp hbl (by decide)
  have kb := row_cell hbo 0 _ rfl
  have K := Lib.hid K
  have HH := Lib.hid h
  have HBP := Lib.hid hbp
  have HBM := Lib.hid hbm
  have HR := Lib.hid hR
  have HW := Lib.hid hw
  obtain ⟨q, hq⟩ : ∃ q, Bs.length = q := ⟨_, rfl⟩
  rw [hq] at K hBl
  have HQ := Lib.hid hq
  clear hR hw hX h hbl hbo hbp hbm hq
  go_enter Tryz.func104, Tryz.ntmps104
  go_wp2_with fail
  refine K.out.mono ?_
  rintro r w1 ⟨⟨A, c, rfl, hcc, hn⟩, hl1, ho1⟩
  have h1 := HH.out.turn hl1 ho1
  have hn1 := hn.nums18
  have hbm1 := (ho1.block _ (Array.getElem?_eq_some_iff.1 HBM.out).1 n4).trans HBM.out
  have hbp1 := (ho1.block _ (Array.getElem?_eq_some_iff.1 HBP.out).1 n6).trans HBP.out
  have kp := row_cell hbp1 0 _ rfl
  have hcv := conv_txt _ A q c Bs w1 HQ.out hn1
  have KP := Lib.hid (puttx_any mb bm N P C (txt Bs) w1 h1.m hbm1)
  obtain ⟨w2, hw2⟩ : ∃ w2, w1.setCell ⟨mb, 9, none⟩ (.string (txt Bs)) = w2 := ⟨_, rfl⟩
  have hN := h1.tx (txt Bs)
  have hof : Off (fun q => q = mb) w1 (w1.setCell ⟨mb, 9, none⟩ (.string (txt Bs))) := Off.setCell (S := fun q => q = mb) (p := ⟨mb, 9, none⟩) (Off.refl _ w1) rfl _
  rw [hw2] at hN KP hof
  have hmlt := (Array.getElem?_eq_some_iff.1 HH.out.m).1
  have HN2 : Hid (Nums .u8 w2 w2.heap.size A Bs) := Lib.hid fun hne => by
    obtain ⟨b, off, e, k1, k2, kc⟩ := hn hne
    exact ⟨b, off, e, Nat.lt_of_lt_of_le k2 hof.size, fun j c hj => hof.cell (kc j c hj) (by show ¬ b = mb; omega)⟩
  have HN := Lib.hid hN
  have HOF : Hid (Off (fun q => q = mb ∨ q = lb) w w2) := Lib.hid ((ho1.mono (S' := fun q => q = mb ∨ q = lb) (fun _ _ e => .inr e)).trans hof (fun _ _ e => .inl e))
  clear K hl1 ho1 h1 hn hn1 hbm1 hbp1 hof hN hw2
  go_wp2_with fail
  refine KP.out.mono ?_
  rintro r w3 ⟨⟨x, rfl⟩, rfl⟩
  clear hcv kp KP
  go_wp2_with fail
  refine (cunfit_any _ A q c Bs _ HQ.out (by omega) HN2.out).mono ?_
  rintro r w4 ⟨rfl, rfl⟩
  obtain ⟨am, ham⟩ : ∃ am, decide (¬ ∀ s ∈ Bs, byI s) = am := ⟨_, rfl⟩
  rw [ham]
  go_wp2_with fail
  refine (otherwise_any HN.out.l am 19).mono ?_
  rintro r w5 ⟨rfl, rfl⟩
  have HAM := Lib.hid ham
  clear ham
  go_wp2
  go_ret
  have hR := HR.out
  have ham := HAM.out
  rcases HW.out with ⟨g1, rfl⟩ | ⟨g1, g2, rfl⟩ | ⟨g1, g2, g3, rfl⟩ | ⟨g1, g2, g3, rfl, g4, rfl⟩
  · rw [if_pos g1] at hR
    subst hR
    exact ⟨by simp [oth, g1], HOF.out, fun h => absurd h g1⟩
  · rw [if_neg (by simpa using g1), if_pos g2] at hR
    subst hR
    exact ⟨by simp [oth], HOF.out, fun h => by simp at h⟩
  · rw [if_neg (by simpa using g1), if_neg (by omega)] at hR
    unfold rdT at hR
    rw [if_pos g3] at hR
    simp only [ne_eq, Nat.reduceEqDiff, not_false_eq_true, if_true] at hR
    subst hR
    exact ⟨by simp [oth], HOF.out, fun h => by simp at h⟩
  · rw [if_neg (by simpa using g1), if_neg (by omega)] at hR
    unfold rdT at hR
    rw [if_neg g3, ← g4] at hR
    by_cases hb : ∀ s ∈ Bs, byI s
    · have : am = false := by rw [← ham]; exact decide_eq_false fun h => h hb
      subst this
      rw [if_pos hb] at hR
      simp only [ne_eq, not_true_eq_false, if_false, if_pos hso] at hR
      subst hR
      exact ⟨by simp [oth], HOF.out, fun _ => ⟨P, C, HN.out⟩⟩
    · have : am = true := by rw [← ham]; exact decide_eq_true hb
      subst this
      rw [if_neg hb] at hR
      simp only [ne_eq, Nat.reduceEqDiff, not_false_eq_true, if_true] at hR
      subst hR
      exact ⟨by simp [oth], HOF.out, fun h => by simp at h⟩
set_option maxHeartbeats 4000000 in
theorem tagr_any (lo mb lb bo bp bm : Nat) (zs : List Int) (N : Mg) (P C : Value) (p : Nat) (f : Fd) (w : World) (h : RdAt lo w mb lb zs N P C p 0) (hf : FdX f) (hso : f.so = 6) (hl : zs.length ≤ 1000000) (hz : Bys zs)
    (hbo : w.heap[bo]? = some (.cells #[.int .i64 f.mo] 3 (0, 0))) (hbp : w.heap[bp]? = some (.cells #[.func (.func 84) #[] #[.pointer (some ⟨bm, 0, none⟩)]] 149 (0, 0))) (hbm : w.heap[bm]? = some (.cells #[.pointer (some ⟨mb, 0, none⟩)] 121 (0, 0))) :
    Calls Tryz.prog 104 #[.pointer (some ⟨lb, 0, none⟩), .pointer (some ⟨bo, 0, none⟩), .pointer (some ⟨bp, 0, none⟩)] w fun r w' => RdO lo mb lb zs p (rdF N f (zs.drop p)) w r w' := by
  have hmo : 0 ≤ f.mo ∧ f.mo ≤ 64 := by have := hf.mo; omega
  have hle0 := hf.tex (by omega)
  obtain ⟨Bs, u, er, hX, hBl, hw⟩ := fldR_ways (zs.drop p) f.mo hmo.1 hmo.2
  have K := lfld_any lo lb zs p 0 w f.mo (by omega) (by omega) h.l (by omega) hz
  rw [hX] at K
  unfold ReadB at K
  simp only [ansB, placeOf, errOf, if_true] at K
  obtain ⟨R, hR⟩ : ∃ R, rdF N f (zs.drop p) = R := ⟨_, rfl⟩
  rw [hR]
  unfold rdF at hR
  rw [if_neg (show ¬ f.so = 1 by omega), if_neg (show ¬ f.so = 2 by omega), if_neg (show ¬ (((Vi.get (zs.drop p)).1 = 0) ∧ 0 < f.le) by omega), if_neg (show ¬ f.so = 3 by omega), if_neg (show ¬ f.so = 4 by omega)] at hR
  have hlm := h.a
  obtain ⟨_, _, hbl, -⟩ := h.l.open
  have n1 := row_ne hbo h.m (by decide)
  have n2 := row_ne hbo hbl (by decide)
  have n3 := row_ne hbm h.m (by decide)
  have n4 := row_ne hbm hbl (by decide)
  have n6 := row_ne hbp hbl (by decide)
  have kb := row_cell hbo 0 _ rfl
  have K := Lib.hid K
  have HH := Lib.hid h
  have HBP := Lib.hid hbp
  have HBM := Lib.hid hbm
  have HR := Lib.hid hR
  have HW := Lib.hid hw
  obtain ⟨q, hq⟩ : ∃ q, Bs.length = q := ⟨_, rfl⟩
  rw [hq] at K hBl
  have HQ := Lib.hid hq
  clear hR hw hX h hbl hbo hbp hbm hq
  go_enter Tryz.func104, Tryz.ntmps104
  go_wp2_with fail
  refine K.out.mono ?_
  rintro r w1 ⟨⟨A, c, rfl, hcc, hn⟩, hl1, ho1⟩
  have h1 := HH.out.turn hl1 ho1
  have hn1 := hn.nums18
  have hbm1 := (ho1.block _ (Array.getElem?_eq_some_iff.1 HBM.out).1 n4).trans HBM.out
  have hbp1 := (ho1.block _ (Array.getElem?_eq_some_iff.1 HBP.out).1 n6).trans HBP.out
  have kp := row_cell hbp1 0 _ rfl
  have hcv := conv_txt _ A q c Bs w1 HQ.out hn1
  have KP := Lib.hid (puttg_any mb bm N P C (txt Bs) w1 h1.m hbm1)
  obtain ⟨w2, hw2⟩ : ∃ w2, w1.setCell ⟨mb, 10, none⟩ (.string (txt Bs)) = w2 := ⟨_, rfl⟩
  have hN := h1.tg (txt Bs)
  have hof : Off (fun q => q = mb) w1 (w1.setCell ⟨mb, 10, none⟩ (.string (txt Bs))) := Off.setCell (S := fun q => q = mb) (p := ⟨mb, 10, none⟩) (Off.refl _ w1) rfl _
  rw [hw2] at hN KP hof
  have hmlt := (Array.getElem?_eq_some_iff.1 HH.out.m).1
  have HN2 : Hid (Nums .u8 w2 w2.heap.size A Bs) := Lib.hid fun hne => by
    obtain ⟨b, off, e, k1, k2, kc⟩ := hn hne
    exact ⟨b, off, e, Nat.lt_of_lt_of_le k2 hof.size, fun j c hj => hof.cell (kc j c hj) (by show ¬ b = mb; omega)⟩
  have HN := Lib.hid hN
  have HOF : Hid (Off (fun q => q = mb ∨ q = lb) w w2) := Lib.hid ((ho1.mono (S' := fun q => q = mb ∨ q = lb) (fun _ _ e => .inr e)).trans hof (fun _ _ e => .inl e))
  clear K hl1 ho1 h1 hn hn1 hbm1 hbp1 hof hN hw2
  go_wp2_with fail
  refine KP.out.mono ?_
  rintro r w3 ⟨⟨x, rfl⟩, rfl⟩
  clear hcv kp KP
  go_wp2_with fail
  refine (cunfit_any _ A q c Bs _ HQ.out (by omega) HN2.out).mono ?_
  rintro r w4 ⟨rfl, rfl⟩
  obtain ⟨am, ham⟩ : ∃ am, decide (¬ ∀ s ∈ Bs, byI s) = am := ⟨_, rfl⟩
  rw [ham]
  go_wp2_with fail
  refine (otherwise_any HN.out.l am 19).mono ?_
  rintro r w5 ⟨rfl, rfl⟩
  have HAM := Lib.hid ham
  clear ham
  go_wp2
  go_ret
  have hR := HR.out
  have ham := HAM.out
  rcases HW.out with ⟨g1, rfl⟩ | ⟨g1, g2, rfl⟩ | ⟨g1, g2, g3, rfl⟩ | ⟨g1, g2, g3, rfl, g4, rfl⟩
  · rw [if_pos g1] at hR
    subst hR
    exact ⟨by simp [oth, g1], HOF.out, fun h => absurd h g1⟩
  · rw [if_neg (by simpa using g1), if_pos g2] at hR
    subst hR
    exact ⟨by simp [oth], HOF.out, fun h => by simp at h⟩
  · rw [if_neg (by simpa using g1), if_neg (by omega)] at hR
    unfold rdT at hR
    rw [if_pos g3] at hR
    simp only [ne_eq, Nat.reduceEqDiff, not_false_eq_true, if_true] at hR
    subst hR
    exact ⟨by simp [oth], HOF.out, fun h => by simp at h⟩
  · rw [if_neg (by simpa using g1), if_neg (by omega)] at hR
    unfold rdT at hR
    rw [if_neg g3, ← g4] at hR
    by_cases hb : ∀ s ∈ Bs, byI s
    · have : am = false := by rw [← ham]; exact decide_eq_false fun h => h hb
      subst this
      rw [if_pos hb] at hR
      simp only [ne_eq, not_true_eq_false, if_false, if_neg (show ¬ f.so = 5 by omega)] at hR
      subst hR
      exact ⟨by simp [oth], HOF.out, fun _ => ⟨P, C, HN.out⟩⟩
    · have : am = true := by rw [← ham]; exact decide_eq_true hb
      subst this
      rw [if_neg hb] at hR
      simp only [ne_eq, Nat.reduceEqDiff, not_false_eq_true, if_true] at hR
      subst hR
      exact ⟨by simp [oth], HOF.out, fun h => by simp at h⟩
end Go.Proofs.YtlbfibnfmijahaaGreat

namespace Go.Proofs.YtlbfibnfmijahaaGreat
open Go.RowKit Go.Shelf
set_option maxRecDepth 100000
attribute [local go_sem] Oper.semAt_some

theorem two_rows {W : World} {c1 c2 : Array Value} {t1 t2 : TypeId} : Below W.heap.size W ((W.alloc (.cells c1 t1)).alloc (.cells c2 t2)) ∧ ((W.alloc (.cells c1 t1)).alloc (.cells c2 t2)).heap[W.heap.size]? = some (.cells c1 t1 (0, 0)) ∧ ((W.alloc (.cells c1 t1)).alloc (.cells c2 t2)).heap[W.heap.size + 1]? = some (.cells c2 t2 (0, 0)) ∧ ((W.alloc (.cells c1 t1)).alloc (.cells c2 t2)).heap.size = W.heap.size + 2 := by
  refine ⟨((Below.refl _ W).alloc (Nat.le_refl _) _).alloc (by simp) _, (Below.heap_alloc _ _ _ (by simp)).trans (World.alloc_heap_new _ _), ?_, by simp⟩
  have := World.alloc_heap_new (W.alloc (.cells c1 t1)) (.cells c2 t2)
  rwa [World.size_alloc] at this
/-- a function with two boxes that it has caught -/
def Fn2 (F : FuncId) (w : World) (c1 c2 : Array Value) (t1 t2 : TypeId) (e : Ending) (w' : World) : Prop := ∃ b1 b2, e = .returned (.func (.func F) #[] #[.pointer (some ⟨b1, 0, none⟩), .pointer (some ⟨b2, 0, none⟩)]) ∧ w.heap.size ≤ b1 ∧ w.heap.size ≤ b2 ∧ w'.heap[b1]? = some (.cells c1 t1 (0, 0)) ∧ w'.heap[b2]? = some (.cells c2 t2 (0, 0)) ∧ Below w.heap.size w w'
theorem plainR_any (mb : Nat) (f : Fd) (w : World) : Calls Tryz.prog 85 #[.pointer (some ⟨mb, 0, none⟩), f.v] w fun e w' => Fn2 108 w f.cs #[.pointer (some ⟨mb, 0, none⟩)] 87 121 e w' := by
  obtain ⟨h1, h2, h3, h4⟩ := two_rows (W := w) (c1 := #[.pointer (some ⟨mb, 0, none⟩)]) (t1 := 121) (c2 := f.cs) (t2 := 87)
  have H := Lib.hid (And.intro h1 (And.intro h2 h3))
  clear h1 h2 h3 h4
  obtain ⟨X0, hX0⟩ : ∃ X0, f.cs = X0 := ⟨_, rfl⟩
  unfold Fd.v
  rw [hX0] at H ⊢
  clear hX0
  go_enter Tryz.func85, Tryz.ntmps85
  go_wp2
  go_ret
  obtain ⟨h1, h2, h3⟩ := H.out
  exact ⟨_, _, rfl, by omega, by omega, h3, h2, h1⟩
theorem signedR_any (mb : Nat) (f : Fd) (w : World) : Calls Tryz.prog 78 #[.pointer (some ⟨mb, 0, none⟩), f.v] w fun e w' => Fn2 96 w f.cs #[.pointer (some ⟨mb, 0, none⟩)] 87 121 e w' := by
  obtain ⟨h1, h2, h3, h4⟩ := two_rows (W := w) (c1 := #[.pointer (some ⟨mb, 0, none⟩)]) (t1 := 121) (c2 := f.cs) (t2 := 87)
  have H := Lib.hid (And.intro h1 (And.intro h2 h3))
  clear h1 h2 h3 h4
  obtain ⟨X0, hX0⟩ : ∃ X0, f.cs = X0 := ⟨_, rfl⟩
  unfold Fd.v
  rw [hX0] at H ⊢
  clear hX0
  go_enter Tryz.func78, Tryz.ntmps78
  go_wp2
  go_ret
  obtain ⟨h1, h2, h3⟩ := H.out
  exact ⟨_, _, rfl, by omega, by omega, h3, h2, h1⟩
theorem countR_any (mo : Int) (F : FuncId) (cs : Array Value) (w : World) : Calls Tryz.prog 79 #[.int .i64 mo, .func (.func F) #[] cs] w fun e w' => Fn2 98 w #[.int .i64 mo] #[.func (.func F) #[] cs] 3 119 e w' := by
  obtain ⟨h1, h2, h3, h4⟩ := two_rows (W := w) (c1 := #[.int .i64 mo]) (t1 := 3) (c2 := #[.func (.func F) #[] cs]) (t2 := 119)
  have H := Lib.hid (And.intro h1 (And.intro h2 h3))
  clear h1 h2 h3 h4
  go_enter Tryz.func79, Tryz.ntmps79
  go_wp2
  go_ret
  obtain ⟨h1, h2, h3⟩ := H.out
  exact ⟨_, _, rfl, by omega, by omega, h2, h3, h1⟩
theorem textR_any (mo : Int) (F : FuncId) (cs : Array Value) (w : World) : Calls Tryz.prog 82 #[.int .i64 mo, .func (.func F) #[] cs] w fun e w' => Fn2 104 w #[.int .i64 mo] #[.func (.func F) #[] cs] 3 149 e w' := by
  obtain ⟨h1, h2, h3, h4⟩ := two_rows (W := w) (c1 := #[.int .i64 mo]) (t1 := 3) (c2 := #[.func (.func F) #[] cs]) (t2 := 149)
  have H := Lib.hid (And.intro h1 (And.intro h2 h3))
  clear h1 h2 h3 h4
  go_enter Tryz.func82, Tryz.ntmps82
  go_wp2
  go_ret
  obtain ⟨h1, h2, h3⟩ := H.out
  exact ⟨_, _, rfl, by omega, by omega, h2, h3, h1⟩
theorem cellR_any (mb : Nat) (w : World) : Calls Tryz.prog 81 #[.pointer (some ⟨mb, 0, none⟩)] w fun e w' => Fn2 102 w #[.int .i64 (-1)] #[.pointer (some ⟨mb, 0, none⟩)] 3 121 e w' := by
  obtain ⟨h1, h2, h3, h4⟩ := two_rows (W := w) (c1 := #[.pointer (some ⟨mb, 0, none⟩)]) (t1 := 121) (c2 := #[.int .i64 (-1)]) (t2 := 3)
  have H := Lib.hid (And.intro h1 (And.intro h2 h3))
  clear h1 h2 h3 h4
  go_enter Tryz.func81, Tryz.ntmps81
  go_wp2
  go_ret
  obtain ⟨h1, h2, h3⟩ := H.out
  exact ⟨_, _, rfl, by omega, by omega, h3, h2, h1⟩
/-- the function that reads a point, with its three boxes -/
def Fn3 (mb : Nat) (w : World) (e : Ending) (w' : World) : Prop := ∃ ab sb bm, e = .returned (.func (.func 101) #[] #[.pointer (some ⟨ab, 0, none⟩), .pointer (some ⟨sb, 0, none⟩), .pointer (some ⟨bm, 0, none⟩)]) ∧ w.heap.size ≤ ab ∧ w.heap.size ≤ sb ∧ w.heap.size ≤ bm ∧
  w'.heap[ab]? = some (.cells #[.int .i64 0, .int .i64 0] 76 (0, 0)) ∧ w'.heap[sb]? = some (.cells #[.func (.func 100) #[] #[]] 160 (0, 0)) ∧ w'.heap[bm]? = some (.cells #[.pointer (some ⟨mb, 0, none⟩)] 121 (0, 0)) ∧ Below w.heap.size w w'
theorem pointR_any (mb : Nat) (w : World) : Calls Tryz.prog 80 #[.pointer (some ⟨mb, 0, none⟩)] w fun e w' => Fn3 mb w e w' := by
  obtain ⟨w2, hw2⟩ : ∃ w2, (w.alloc (.cells #[.pointer (some ⟨mb, 0, none⟩)] 121)).alloc (.cells #[.int .i64 0, .int .i64 0] 76) = w2 := ⟨_, rfl⟩
  obtain ⟨h1, h2, h3, h4⟩ := two_rows (W := w) (c1 := #[.pointer (some ⟨mb, 0, none⟩)]) (t1 := 121) (c2 := #[.int .i64 0, .int .i64 0]) (t2 := 76)
  rw [hw2] at h1 h2 h3 h4
  have hb : Below w2.heap.size w2 (w2.alloc (.cells #[.func (.func 100) #[] #[]] 160)) := (Below.refl _ w2).alloc (Nat.le_refl _) _
  have h6 := World.alloc_heap_new w2 (.cells #[.func (.func 100) #[] #[]] 160)
  have k2 := (hb.block _ (Array.getElem?_eq_some_iff.1 h2).1).trans h2
  have k3 := (hb.block _ (Array.getElem?_eq_some_iff.1 h3).1).trans h3
  have kb := h1.trans (hb.mono h1.size)
  rw [h4] at h6
  rw [← hw2] at h6 k2 k3 kb
  have H := Lib.hid (And.intro k2 (And.intro k3 (And.intro h6 kb)))
  clear h1 h2 h3 h4 hw2 hb h6 k2 k3 kb
  go_enter Tryz.func80, Tryz.ntmps80
  go_wp2
  go_ret
  obtain ⟨k2, k3, h6, kb⟩ := H.out
  exact ⟨_, _, _, rfl, by omega, by omega, by omega, k3, h6, k2, kb⟩
end Go.Proofs.YtlbfibnfmijahaaGreat

namespace Go.Proofs.YtlbfibnfmijahaaGreat
open Go.RowKit Go.Shelf
set_option maxRecDepth 100000
attribute [local go_sem] Oper.semAt_some

/-- what reader answers: a function of two that it has caught, which reads the field -/
def RdrR (lo mb lb : Nat) (zs : List Int) (N : Mg) (p : Nat) (f : Fd) (w : World) (e : Ending) (w' : World) : Prop := ∃ F c1 c2, e = .returned (.func (.func F) #[] #[c1, c2]) ∧ (∀ args W, (callFunc F args).run Tryz.prog W = .ok (.enter F args) W) ∧ Below w.heap.size w w' ∧
  Calls Tryz.prog F #[.pointer (some ⟨lb, 0, none⟩), c1, c2] w' fun r w'' => RdO lo mb lb zs p (rdF N f (zs.drop p)) w r w''
theorem RdO.since {lo mb lb : Nat} {zs : List Int} {p : Nat} {x : Nat × Nat × Mg} {w w1 w' : World} {r : Ending} (h : RdO lo mb lb zs p x w1 r w') (hb : Below w.heap.size w w1) : RdO lo mb lb zs p x w r w' :=
  ⟨h.1, (Off.of_below (S := fun q => q = mb ∨ q = lb) hb).trans h.2.1 (fun _ _ h => h), h.2.2⟩
set_option maxHeartbeats 8000000 in
theorem reader_any (lo mb lb : Nat) (zs : List Int) (N : Mg) (P C : Value) (p : Nat) (f : Fd) (w : World) (h : RdAt lo w mb lb zs N P C p 0) (hf : FdX f) (hmo : f.so = 1 → 0 ≤ f.mo) (h3 : f.so = 3 → N.p = []) (h4 : f.so = 4 → N.c = []) (hl : zs.length ≤ 1000000) (hz : Bys zs) :
    Calls Tryz.prog 61 #[.pointer (some ⟨mb, 0, none⟩), f.v] w fun e w' => RdrR lo mb lb zs N p f w e w' := by
  obtain ⟨w2, hw2⟩ : ∃ w2, (w.alloc (.cells #[.pointer (some ⟨mb, 0, none⟩)] 121)).alloc (.cells f.cs 87) = w2 := ⟨_, rfl⟩
  obtain ⟨b2, q0, q1, s2⟩ := two_rows (W := w) (c1 := #[.pointer (some ⟨mb, 0, none⟩)]) (t1 := 121) (c2 := f.cs) (t2 := 87)
  rw [hw2] at b2 q0 q1 s2
  have HB2 := Lib.hid b2
  have HQ0 := Lib.hid q0
  have HQ1 := Lib.hid q1
  have HW2 := Lib.hid hw2
  have hs2 : w.heap.size + 1 < w2.heap.size := by omega
  obtain ⟨d0, d1, d2, d3, d4, d5, d6⟩ := fd_block q1
  have kp := row_cell q0 0 _ rfl
  have LF : Hid ((Instr.loadAt 87 (.pointer (some ⟨w.heap.size + 1, 0, none⟩))).run Tryz.prog w2 = .ok f.v w2) := Lib.hid (by simp [Instr.loadAt, go_sem, d0, d1, d2, d3, d4, d5, d6, Fd.v, Fd.cs])
  have hso := so_ways hf
  have HH := Lib.hid h
  have HF := Lib.hid hf
  have HZ := Lib.hid hz
  obtain ⟨X0, hX0⟩ : ∃ X0, f.cs = X0 := ⟨_, rfl⟩
  have HX := Lib.hid hX0
  by_cases hk : f.so = 1
  · have e := hk
    rw [hk] at d1
    rw [← hw2] at d1 d4 kp
    have HM := Lib.hid d4
    unfold Fd.v
    rw [hX0] at HW2 d1 d4 kp ⊢
    clear hX0 hw2 b2 q0 q1 s2 d0 d2 d3 d5 d6 h hf hz hso HM
    go_enter Tryz.func61, Tryz.ntmps61
    go_wp2_with (rw [HW2.out]; refine wpList_load_run rfl 87 (.tmp 3) rfl (some ⟨w.heap.size + 1, 0, none⟩) rfl f.v LF.out ?_)
    refine (plainR_any mb f w2).mono ?_
    rintro r w3 ⟨a1, a2, rfl, k1, k2, k3, k4, k5⟩
    have HK := Lib.hid (And.intro k3 (And.intro k4 k5))
    clear k3 k4 k5 d1 d4 kp LF
    go_wp2
    go_ret
    obtain ⟨k3, k4, k5⟩ := HK.out
    have hb3 := HB2.out.trans (k5.mono HB2.out.size)
    exact ⟨_, _, _, rfl, enters_of Tryz.func108 (by kernel_rfl) rfl, hb3, (plainr_any lo mb lb a1 a2 zs N P C p f w3 (HH.out.later hb3) HF.out e (hmo e) hl HZ.out k3 k4).mono fun r w4 h => h.since hb3⟩
  by_cases hk : f.so = 2
  · have e := hk
    rw [hk] at d1
    rw [← hw2] at d1 d4 kp
    have HM := Lib.hid d4
    unfold Fd.v
    rw [hX0] at HW2 d1 d4 kp ⊢
    clear hX0 hw2 b2 q0 q1 s2 d0 d2 d3 d5 d6 h hf hz hso HM
    go_enter Tryz.func61, Tryz.ntmps61
    go_wp2_with (rw [HW2.out]; refine wpList_load_run rfl 87 (.tmp 3) rfl (some ⟨w.heap.size + 1, 0, none⟩) rfl f.v LF.out ?_)
    refine (signedR_any mb f w2).mono ?_
    rintro r w3 ⟨a1, a2, rfl, k1, k2, k3, k4, k5⟩
    have HK := Lib.hid (And.intro k3 (And.intro k4 k5))
    clear k3 k4 k5 d1 d4 kp LF
    go_wp2
    go_ret
    obtain ⟨k3, k4, k5⟩ := HK.out
    have hb3 := HB2.out.trans (k5.mono HB2.out.size)
    exact ⟨_, _, _, rfl, enters_of Tryz.func96 (by kernel_rfl) rfl, hb3, (signedr_any lo mb lb a1 a2 zs N P C p f w3 (HH.out.later hb3) HF.out e hl HZ.out k3 k4).mono fun r w4 h => h.since hb3⟩
  by_cases hk : f.so = 3
  · have e := hk
    rw [hk] at d1
    rw [← hw2] at d1 d4 kp
    have HM := Lib.hid d4
    unfold Fd.v
    rw [hX0] at HW2 d1 d4 kp ⊢
    clear hX0 hw2 b2 q0 q1 s2 d0 d2 d3 d5 d6 h hf hz hso HM
    go_enter Tryz.func61, Tryz.ntmps61
    go_wp2_with fail
    rw [HW2.out]
    have lO : ∀ V, Below w2.heap.size w2 V → (Instr.loadAt 3 (.pointer (some ⟨w.heap.size + 1, 4, none⟩))).run Tryz.prog V = .ok (.int .i64 f.mo) V := fun V hV => by
      have k := (fd_block ((hV.block _ hs2).trans HQ1.out)).2.2.2.2.1
      simp [Instr.loadAt, go_sem, k]
    have lM : ∀ V, Below w2.heap.size w2 V → (Instr.loadAt 121 (.pointer (some ⟨w.heap.size, 0, none⟩))).run Tryz.prog V = .ok (.pointer (some ⟨mb, 0, none⟩)) V := fun V hV => by
      have k := row_cell ((hV.block _ (by omega)).trans HQ0.out) 0 _ rfl
      simp [Instr.loadAt, go_sem, k]
    refine wp_region_order9 5 (0 :: 1 :: 2 :: 3 :: 4 :: []) (fun V => Below w2.heap.size w2 V) (C := fun V => Below w2.heap.size w2 V) (by kernel_rfl) (by kernel_rfl) (by kernel_rfl) (Below.refl _ _).drew (fun V hV => hV) ?_
    repeat (refine wpO9_pure rfl rfl ?_; go_big_quiet_step (fail); refine wpQuiet_nil ?_)
    refine wpO9_load (ad := ⟨w.heap.size + 1, 4, none⟩) (.int .i64 f.mo) rfl rfl rfl (by rfl) lO ?_
    simp only [Act.put, List.setIfInBounds_toArray, List.set_cons_succ, List.set_cons_zero]
    refine wpO9_load (ad := ⟨w.heap.size, 0, none⟩) (.pointer (some ⟨mb, 0, none⟩)) rfl rfl rfl (by rfl) lM ?_
    simp only [Act.put, List.setIfInBounds_toArray, List.set_cons_succ, List.set_cons_zero]
    refine wpO9_call (fun v => ∃ ab sb bm, v = .func (.func 101) #[] #[.pointer (some ⟨ab, 0, none⟩), .pointer (some ⟨sb, 0, none⟩), .pointer (some ⟨bm, 0, none⟩)]) (fun v V => Below w2.heap.size w2 V ∧ ∀ ab sb bm, v = .func (.func 101) #[] #[.pointer (some ⟨ab, 0, none⟩), .pointer (some ⟨sb, 0, none⟩), .pointer (some ⟨bm, 0, none⟩)] → w2.heap.size ≤ ab ∧ w2.heap.size ≤ sb ∧ w2.heap.size ≤ bm ∧ V.heap[ab]? = some (.cells #[.int .i64 0, .int .i64 0] 76 (0, 0)) ∧ V.heap[sb]? = some (.cells #[.func (.func 100) #[] #[]] 160 (0, 0)) ∧ V.heap[bm]? = some (.cells #[.pointer (some ⟨mb, 0, none⟩)] 121 (0, 0))) (f := 80) (args := #[.pointer (some ⟨mb, 0, none⟩)]) rfl rfl rfl (fun _ V hV => hV.1) (fun x => by first | rfl | (simp [go_sem]; done)) (fun V hV => (pointR_any mb V).mono fun e w' h => ?_) ?_
    · obtain ⟨ab, sb, bm, rfl, k1, k2, k3, k4, k5, k6, k7⟩ := h
      have := hV.size
      refine ⟨_, rfl, ⟨ab, sb, bm, rfl⟩, hV.trans (k7.mono hV.size), fun c1 c2 c3 hc => ?_⟩
      injection hc with _ _ hc
      simp only [Array.mk.injEq, List.cons.injEq, Value.pointer.injEq, Option.some.injEq, Addr.mk.injEq, and_true] at hc
      obtain ⟨rfl, rfl, rfl⟩ := hc
      exact ⟨by omega, by omega, by omega, k4, k5, k6⟩
    rintro v ⟨ab, sb, bm, rfl⟩
    simp only [Act.put, List.setIfInBounds_toArray, List.set_cons_succ, List.set_cons_zero]
    refine wpO9_call (fun v => ∃ b1 b2, v = .func (.func 98) #[] #[.pointer (some ⟨b1, 0, none⟩), .pointer (some ⟨b2, 0, none⟩)]) (fun v V => Below w2.heap.size w2 V ∧ (w2.heap.size ≤ ab ∧ w2.heap.size ≤ sb ∧ w2.heap.size ≤ bm ∧ V.heap[ab]? = some (.cells #[.int .i64 0, .int .i64 0] 76 (0, 0)) ∧ V.heap[sb]? = some (.cells #[.func (.func 100) #[] #[]] 160 (0, 0)) ∧ V.heap[bm]? = some (.cells #[.pointer (some ⟨mb, 0, none⟩)] 121 (0, 0))) ∧ ∀ b1 b2, v = .func (.func 98) #[] #[.pointer (some ⟨b1, 0, none⟩), .pointer (some ⟨b2, 0, none⟩)] → V.heap[b1]? = some (.cells #[.int .i64 f.mo] 3 (0, 0)) ∧ V.heap[b2]? = some (.cells #[.func (.func 101) #[] #[.pointer (some ⟨ab, 0, none⟩), .pointer (some ⟨sb, 0, none⟩), .pointer (some ⟨bm, 0, none⟩)]] 119 (0, 0))) (f := 79) (args := #[.int .i64 f.mo, .func (.func 101) #[] #[.pointer (some ⟨ab, 0, none⟩), .pointer (some ⟨sb, 0, none⟩), .pointer (some ⟨bm, 0, none⟩)]]) rfl rfl rfl (fun _ V hV => hV.1) (fun x => by first | rfl | (simp [go_sem]; done)) (fun V hV => (countR_any f.mo 101 #[.pointer (some ⟨ab, 0, none⟩), .pointer (some ⟨sb, 0, none⟩), .pointer (some ⟨bm, 0, none⟩)] V).mono fun e w' h => ?_) ?_
    · obtain ⟨b1, b2, rfl, k1, k2, k3, k4, k5⟩ := h
      obtain ⟨hb, hf⟩ := hV
      obtain ⟨j1, j2, j3, j4, j5, j6⟩ := hf ab sb bm rfl
      refine ⟨_, rfl, ⟨b1, b2, rfl⟩, hb.trans (k5.mono hb.size), ⟨j1, j2, j3, (k5.block _ (Array.getElem?_eq_some_iff.1 j4).1).trans j4, (k5.block _ (Array.getElem?_eq_some_iff.1 j5).1).trans j5, (k5.block _ (Array.getElem?_eq_some_iff.1 j6).1).trans j6⟩, fun c1 c2 hc => ?_⟩
      injection hc with _ _ hc
      simp only [Array.mk.injEq, List.cons.injEq, Value.pointer.injEq, Option.some.injEq, Addr.mk.injEq, and_true] at hc
      obtain ⟨rfl, rfl⟩ := hc
      exact ⟨k3, k4⟩
    rintro v ⟨b1, b2, rfl⟩
    simp only [Act.put, List.setIfInBounds_toArray, List.set_cons_succ, List.set_cons_zero]
    rintro w3 ⟨hb3, hfa, hrw⟩
    simp only [List.drop_succ_cons, List.drop_zero]
    have HK := Lib.hid (And.intro hb3 (And.intro hfa (hrw b1 b2 rfl)))
    clear hb3 hfa hrw lO lM d1 d4 kp LF
    go_wp2
    go_ret
    obtain ⟨hb3, ⟨j1, j2, j3, j4, j5, j6⟩, k3, k4⟩ := HK.out
    have hb4 := HB2.out.trans (hb3.mono HB2.out.size)
    exact ⟨_, _, _, rfl, enters_of Tryz.func98 (by kernel_rfl) rfl, hb4, countp_any w w3 lo mb lb b1 b2 ab sb bm zs N P C p f HH.out hb4 HF.out e (h3 e) (by omega) hl HZ.out k3 k4 j4 j6 j5 ⟨(Array.getElem?_eq_some_iff.1 j4).1, (Array.getElem?_eq_some_iff.1 j6).1, (Array.getElem?_eq_some_iff.1 j5).1⟩⟩
  by_cases hk : f.so = 4
  · have e := hk
    rw [hk] at d1
    rw [← hw2] at d1 d4 kp
    have HM := Lib.hid d4
    unfold Fd.v
    rw [hX0] at HW2 d1 d4 kp ⊢
    clear hX0 hw2 b2 q0 q1 s2 d0 d2 d3 d5 d6 h hf hz hso HM
    go_enter Tryz.func61, Tryz.ntmps61
    go_wp2_with fail
    rw [HW2.out]
    have lO : ∀ V, Below w2.heap.size w2 V → (Instr.loadAt 3 (.pointer (some ⟨w.heap.size + 1, 4, none⟩))).run Tryz.prog V = .ok (.int .i64 f.mo) V := fun V hV => by
      have k := (fd_block ((hV.block _ hs2).trans HQ1.out)).2.2.2.2.1
      simp [Instr.loadAt, go_sem, k]
    have lM : ∀ V, Below w2.heap.size w2 V → (Instr.loadAt 121 (.pointer (some ⟨w.heap.size, 0, none⟩))).run Tryz.prog V = .ok (.pointer (some ⟨mb, 0, none⟩)) V := fun V hV => by
      have k := row_cell ((hV.block _ (by omega)).trans HQ0.out) 0 _ rfl
      simp [Instr.loadAt, go_sem, k]
    refine wp_region_order9 5 (0 :: 1 :: 2 :: 3 :: 4 :: []) (fun V => Below w2.heap.size w2 V) (C := fun V => Below w2.heap.size w2 V) (by kernel_rfl) (by kernel_rfl) (by kernel_rfl) (Below.refl _ _).drew (fun V hV => hV) ?_
    repeat (refine wpO9_pure rfl rfl ?_; go_big_quiet_step (fail); refine wpQuiet_nil ?_)
    refine wpO9_load (ad := ⟨w.heap.size + 1, 4, none⟩) (.int .i64 f.mo) rfl rfl rfl (by rfl) lO ?_
    simp only [Act.put, List.setIfInBounds_toArray, List.set_cons_succ, List.set_cons_zero]
    refine wpO9_load (ad := ⟨w.heap.size, 0, none⟩) (.pointer (some ⟨mb, 0, none⟩)) rfl rfl rfl (by rfl) lM ?_
    simp only [Act.put, List.setIfInBounds_toArray, List.set_cons_succ, List.set_cons_zero]
    refine wpO9_call (fun v => ∃ ab bm, v = .func (.func 102) #[] #[.pointer (some ⟨ab, 0, none⟩), .pointer (some ⟨bm, 0, none⟩)]) (fun v V => Below w2.heap.size w2 V ∧ ∀ ab bm, v = .func (.func 102) #[] #[.pointer (some ⟨ab, 0, none⟩), .pointer (some ⟨bm, 0, none⟩)] → w2.heap.size ≤ ab ∧ w2.heap.size ≤ bm ∧ V.heap[ab]? = some (.cells #[.int .i64 (-1)] 3 (0, 0)) ∧ V.heap[bm]? = some (.cells #[.pointer (some ⟨mb, 0, none⟩)] 121 (0, 0))) (f := 81) (args := #[.pointer (some ⟨mb, 0, none⟩)]) rfl rfl rfl (fun _ V hV => hV.1) (fun x => by first | rfl | (simp [go_sem]; done)) (fun V hV => (cellR_any mb V).mono fun e w' h => ?_) ?_
    · obtain ⟨ab, bm, rfl, k1, k2, k4, k6, k7⟩ := h
      have := hV.size
      refine ⟨_, rfl, ⟨ab, bm, rfl⟩, hV.trans (k7.mono hV.size), fun c1 c2 hc => ?_⟩
      injection hc with _ _ hc
      simp only [Array.mk.injEq, List.cons.injEq, Value.pointer.injEq, Option.some.injEq, Addr.mk.injEq, and_true] at hc
      obtain ⟨rfl, rfl⟩ := hc
      exact ⟨by omega, by omega, k4, k6⟩
    rintro v ⟨ab, bm, rfl⟩
    simp only [Act.put, List.setIfInBounds_toArray, List.set_cons_succ, List.set_cons_zero]
    refine wpO9_call (fun v => ∃ b1 b2, v = .func (.func 98) #[] #[.pointer (some ⟨b1, 0, none⟩), .pointer (some ⟨b2, 0, none⟩)]) (fun v V => Below w2.heap.size w2 V ∧ (w2.heap.size ≤ ab ∧ w2.heap.size ≤ bm ∧ V.heap[ab]? = some (.cells #[.int .i64 (-1)] 3 (0, 0)) ∧ V.heap[bm]? = some (.cells #[.pointer (some ⟨mb, 0, none⟩)] 121 (0, 0))) ∧ ∀ b1 b2, v = .func (.func 98) #[] #[.pointer (some ⟨b1, 0, none⟩), .pointer (some ⟨b2, 0, none⟩)] → V.heap[b1]? = some (.cells #[.int .i64 f.mo] 3 (0, 0)) ∧ V.heap[b2]? = some (.cells #[.func (.func 102) #[] #[.pointer (some ⟨ab, 0, none⟩), .pointer (some ⟨bm, 0, none⟩)]] 119 (0, 0))) (f := 79) (args := #[.int .i64 f.mo, .func (.func 102) #[] #[.pointer (some ⟨ab, 0, none⟩), .pointer (some ⟨bm, 0, none⟩)]]) rfl rfl rfl (fun _ V hV => hV.1) (fun x => by first | rfl | (simp [go_sem]; done)) (fun V hV => (countR_any f.mo 102 #[.pointer (some ⟨ab, 0, none⟩), .pointer (some ⟨bm, 0, none⟩)] V).mono fun e w' h => ?_) ?_
    · obtain ⟨b1, b2, rfl, k1, k2, k3, k4, k5⟩ := h
      obtain ⟨hb, hf⟩ := hV
      obtain ⟨j1, j3, j4, j6⟩ := hf ab bm rfl
      refine ⟨_, rfl, ⟨b1, b2, rfl⟩, hb.trans (k5.mono hb.size), ⟨j1, j3, (k5.block _ (Array.getElem?_eq_some_iff.1 j4).1).trans j4, (k5.block _ (Array.getElem?_eq_some_iff.1 j6).1).trans j6⟩, fun c1 c2 hc => ?_⟩
      injection hc with _ _ hc
      simp only [Array.mk.injEq, List.cons.injEq, Value.pointer.injEq, Option.some.injEq, Addr.mk.injEq, and_true] at hc
      obtain ⟨rfl, rfl⟩ := hc
      exact ⟨k3, k4⟩
    rintro v ⟨b1, b2, rfl⟩
    simp only [Act.put, List.setIfInBounds_toArray, List.set_cons_succ, List.set_cons_zero]
    rintro w3 ⟨hb3, hfa, hrw⟩
    simp only [List.drop_succ_cons, List.drop_zero]
    have HK := Lib.hid (And.intro hb3 (And.intro hfa (hrw b1 b2 rfl)))
    clear hb3 hfa hrw lO lM d1 d4 kp LF
    go_wp2
    go_ret
    obtain ⟨hb3, ⟨j1, j3, j4, j6⟩, k3, k4⟩ := HK.out
    have hb4 := HB2.out.trans (hb3.mono HB2.out.size)
    exact ⟨_, _, _, rfl, enters_of Tryz.func98 (by kernel_rfl) rfl, hb4, countc_any w w3 lo mb lb b1 b2 ab bm zs N P C p f HH.out hb4 HF.out e (h4 e) (by omega) hl HZ.out k3 k4 j4 j6 ⟨(Array.getElem?_eq_some_iff.1 j4).1, (Array.getElem?_eq_some_iff.1 j6).1⟩⟩
  by_cases hk : f.so = 5
  · have e : f.so = 5 := by omega
    rw [e] at d1
    rw [← hw2] at d1 d4 kp
    have HM := Lib.hid d4
    unfold Fd.v
    rw [hX0] at HW2 d1 d4 kp ⊢
    clear hX0 hw2 b2 q0 q1 s2 d0 d2 d3 d5 d6 h hf hz hso HM
    go_enter Tryz.func61, Tryz.ntmps61
    go_wp2_with fail
    rw [HW2.out]
    refine (textR_any f.mo 83 #[.pointer (some ⟨w.heap.size, 0, none⟩)] w2).mono ?_
    rintro r w3 ⟨a1, a2, rfl, k1, k2, k3, k4, k5⟩
    have HK := Lib.hid (And.intro k3 (And.intro k4 k5))
    clear k3 k4 k5 d1 d4 kp LF
    go_wp2
    go_ret
    obtain ⟨k3, k4, k5⟩ := HK.out
    have hb3 := HB2.out.trans (k5.mono HB2.out.size)
    have kb := (k5.block _ (by omega)).trans HQ0.out
    exact ⟨_, _, _, rfl, enters_of Tryz.func104 (by kernel_rfl) rfl, hb3, (textr_any lo mb lb a1 a2 w.heap.size zs N P C p f w3 (HH.out.later hb3) HF.out e hl HZ.out k3 k4 kb).mono fun r w4 h => h.since hb3⟩
  · have e : f.so = 6 := by omega
    rw [e] at d1
    rw [← hw2] at d1 d4 kp
    have HM := Lib.hid d4
    unfold Fd.v
    rw [hX0] at HW2 d1 d4 kp ⊢
    clear hX0 hw2 b2 q0 q1 s2 d0 d2 d3 d5 d6 h hf hz hso HM
    go_enter Tryz.func61, Tryz.ntmps61
    go_wp2_with fail
    rw [HW2.out]
    refine (textR_any f.mo 84 #[.pointer (some ⟨w.heap.size, 0, none⟩)] w2).mono ?_
    rintro r w3 ⟨a1, a2, rfl, k1, k2, k3, k4, k5⟩
    have HK := Lib.hid (And.intro k3 (And.intro k4 k5))
    clear k3 k4 k5 d1 d4 kp LF
    go_wp2
    go_ret
    obtain ⟨k3, k4, k5⟩ := HK.out
    have hb3 := HB2.out.trans (k5.mono HB2.out.size)
    have kb := (k5.block _ (by omega)).trans HQ0.out
    exact ⟨_, _, _, rfl, enters_of Tryz.func104 (by kernel_rfl) rfl, hb3, (tagr_any lo mb lb a1 a2 w.heap.size zs N P C p f w3 (HH.out.later hb3) HF.out e hl HZ.out k3 k4 kb).mono fun r w4 h => h.since hb3⟩
end Go.Proofs.YtlbfibnfmijahaaGreat

namespace Go.Proofs.YtlbfibnfmijahaaGreat
open Go.RowKit Go.Shelf
set_option maxRecDepth 100000
attribute [local go_sem] Oper.semAt_some

/-- .. whose lists are the call's own -/
def DecO (w : World) (r : Nat × Mg) (e : Ending) (w' : World) : Prop := ∃ P C, e = .returned (.tuple #[mV r.2 P C, .int .i64 (r.1 : Int)]) ∧ MOwn w.heap.size w' r.2 P C ∧ Below w.heap.size w w'
theorem MOwn.zero (base : Nat) (w : World) (k : Int) : MOwn base w (Mg.zero k) (.slice none 0 0) (.slice none 0 0) := ⟨World.ownsRow_nil _ _ _ _, World.ownsRow_nil _ _ _ _⟩
theorem mC_zero (k : Int) : mC (Mg.zero k) (.slice none 0 0) (.slice none 0 0) = #[.int .i64 k, .int .i64 0, .int .i64 0, .int .i64 0, .int .i64 0, .int .i64 0, .int .i64 0, .slice none 0 0, .slice none 0 0, .string ⟨#[]⟩, .string ⟨#[]⟩] := rfl
theorem MAt.zero (w : World) (B : Nat) (k : Int) : MAt w B (Mg.zero k) (.slice none 0 0) (.slice none 0 0) := ⟨⟨none, 0, rfl, Nat.le_refl _, Nums.nil⟩, ⟨none, 0, rfl, Nat.le_refl _, Nums.nil⟩⟩
set_option maxHeartbeats 4000000 in
/-- of a version or a kind that isn't -/
theorem bdecode_no (k v : Int) (A : Option Addr) (len cap : Nat) (l : List Int) (w : World) (hE : (v ≠ 1 ∧ v ≠ 2) ∨ FD k = []) : Calls Tryz.prog 38 #[.int .i64 k, .int .i64 v, .slice A len cap] w fun e w' => DecO w (bdec k v l) e w' := by
  obtain ⟨w2, hw2⟩ : ∃ w2, w.alloc (.cells #[.int .i64 0, .int .i64 0, .int .i64 0, .int .i64 0, .int .i64 0, .int .i64 0, .int .i64 0, .slice none 0 0, .slice none 0 0, .string ⟨#[]⟩, .string ⟨#[]⟩] 26) = w2 := ⟨_, rfl⟩
  have hb2 : Below w.heap.size w w2 := by rw [← hw2]; exact (Below.refl _ w).alloc (Nat.le_refl _) _
  have q0 : w2.heap[w.heap.size]? = some (.cells (mC (Mg.zero 0) (.slice none 0 0) (.slice none 0 0)) 26 (0, 0)) := by rw [← hw2]; exact World.alloc_heap_new _ _
  have HW2 := Lib.hid hw2
  have KK := Lib.hid (bknown_any v w2)
  have KW := Lib.hid (word_any k w2)
  have hst := mg_store w2 w.heap.size _ (mC (Mg.zero 0) (.slice none 0 0) (.slice none 0 0)) q0 rfl rfl (mg_one _ _ _ _ _ _ _)
  have hrow := setRow_heap w2 w.heap.size _ (mC (Mg.zero 0) (.slice none 0 0) (.slice none 0 0)) _ _ q0
  have hoff := (Off.setRow (S := fun q => q = w.heap.size) (Off.refl _ w2) rfl (mC (Mg.zero 0) (.slice none 0 0) (.slice none 0 0)))
  obtain ⟨W', hW'⟩ : ∃ W', w2.setRow w.heap.size (mC (Mg.zero 0) (.slice none 0 0) (.slice none 0 0)) = W' := ⟨_, rfl⟩
  rw [hW'] at hst hrow hoff
  have hbel : Below w.heap.size w W' := hb2.trans (hoff.below (B := w.heap.size) (fun q hq => by omega) hb2.size)
  rw [mC_zero] at hst
  have HST := Lib.hid hst
  have HRW := Lib.hid hrow
  have HBE := Lib.hid hbel
  clear hw2 q0 hst hrow hoff hW' hb2 hbel
  by_cases hv : v = 1 ∨ v = 2
  · have hk : FD k = [] := by
      rcases hE with h | h
      · omega
      · exact h
    have hr : bdec k v l = (9, Mg.zero 0) := by unfold bdec; rw [if_neg (by omega), if_pos hk]
    rw [hr]
    rw [decide_eq_true hv] at KK
    rw [(FD_nil k).1 hk] at KW
    go_enter Tryz.func38, Tryz.ntmps38
    go_wp2
    refine wp_scope_straight ?_
    go_wp2_with fail
    rw [HW2.out]
    refine KK.out.mono ?_
    rintro e w3 ⟨rfl, rfl⟩
    go_wp2_with fail
    refine KW.out.mono ?_
    rintro e w3 ⟨rfl, rfl⟩
    go_wp2_with (refine wpList_store_run rfl 26 (.tmp 6) (.tmp 22) rfl (some ⟨w.heap.size, 0, none⟩) rfl (.agg #[.int .i64 0, .int .i64 0, .int .i64 0, .int .i64 0, .int .i64 0, .int .i64 0, .int .i64 0, .slice none 0 0, .slice none 0 0, .string ⟨#[]⟩, .string ⟨#[]⟩]) rfl HST.out ?_)
    try simp only [Exit.noGoto]
    obtain ⟨y0, y1, y2, y3, y4, y5, y6, y7, y8, y9, y10⟩ := mg_block HRW.out
    refine bodyPost_ret (v := .tuple #[.agg (mC (Mg.zero 0) (.slice none 0 0) (.slice none 0 0)), .int .i64 9]) (by simp [results, Tryz.results38, go_sem, y0, y1, y2, y3, y4, y5, y6, y7, y8, y9, y10, mC]) rfl ?_
    exact ⟨_, _, rfl, MOwn.zero _ _ _, HBE.out⟩
  · have hr : bdec k v l = (10, Mg.zero 0) := by unfold bdec; rw [if_pos (by omega)]
    rw [hr]
    rw [decide_eq_false hv] at KK
    go_enter Tryz.func38, Tryz.ntmps38
    go_wp2
    refine wp_scope_straight ?_
    go_wp2_with fail
    rw [HW2.out]
    refine KK.out.mono ?_
    rintro e w3 ⟨rfl, rfl⟩
    go_wp2_with (refine wpList_store_run rfl 26 (.tmp 6) (.tmp 17) rfl (some ⟨w.heap.size, 0, none⟩) rfl (.agg #[.int .i64 0, .int .i64 0, .int .i64 0, .int .i64 0, .int .i64 0, .int .i64 0, .int .i64 0, .slice none 0 0, .slice none 0 0, .string ⟨#[]⟩, .string ⟨#[]⟩]) rfl HST.out ?_)
    try simp only [Exit.noGoto]
    obtain ⟨y0, y1, y2, y3, y4, y5, y6, y7, y8, y9, y10⟩ := mg_block HRW.out
    refine bodyPost_ret (v := .tuple #[.agg (mC (Mg.zero 0) (.slice none 0 0) (.slice none 0 0)), .int .i64 10]) (by simp [results, Tryz.results38, go_sem, y0, y1, y2, y3, y4, y5, y6, y7, y8, y9, y10, mC]) rfl ?_
    exact ⟨_, _, rfl, MOwn.zero _ _ _, HBE.out⟩
theorem FD_mo1 (k : Int) : ∀ f ∈ FD k, f.so = 1 → 0 ≤ f.mo := by
  have hall : ∀ L : List Fd, (L.all fun f => decide (f.so = 1 → 0 ≤ f.mo)) = true → ∀ f ∈ L, (f.so = 1 → 0 ≤ f.mo) := by
    intro L h f hf
    rw [List.all_eq_true] at h
    exact of_decide_eq_true (h f hf)
  rcases kind_ways k with rfl | rfl | rfl | rfl | rfl | ⟨h1, h2, h3, h4, h5⟩
  case' inr.inr.inr.inr.inr => rw [show FD k = [] by simp [FD, raw, h1, h2, h3, h4, h5, pls]]
  all_goals exact hall _ (by decide)
theorem setCell_same {w : World} {b : Nat} {v : Value} {t : TypeId} (h : w.heap[b]? = some (.cells #[v] t (0, 0))) : w.setCell ⟨b, 0, none⟩ v = w := by
  have hlt := (Array.getElem?_eq_some_iff.1 h).1
  have : (w.setCell ⟨b, 0, none⟩ v).heap = w.heap := by
    apply Array.ext_getElem?
    intro i
    by_cases hi : i = b
    · subst hi
      rw [setCell_at h, h]
      rfl
    · exact Below.heap_setCell _ _ _ _ hi
  cases w
  simp only [World.setCell] at this ⊢
  rw [this]
theorem NuX.putObj {W : World} {mb lb l : Nat} {a : Option Addr} {zs : List Int} {o o' : Obj} (h : NuX W mb lb a zs) (ho : W.heap[l]? = some o) (hc : o.isCells = false) : NuX (W.putObj l o') mb lb a zs := fun hn => by
  obtain ⟨b, off, e, h1, h2, hcl⟩ := h hn
  obtain ⟨z, hz⟩ : ∃ z, zs[0]? = some z := by
    cases zs with
    | nil => exact absurd rfl hn
    | cons x r => exact ⟨x, rfl⟩
  have hne : b ≠ l := fun e2 => by
    subst e2
    have := hcl 0 z hz
    unfold World.cell? at this
    simp only [ho] at this
    cases o <;> simp_all [Obj.isCells]
  refine ⟨b, off, e, h1, h2, fun j c hj => ?_⟩
  have hx : (W.putObj l o').heap[b]? = W.heap[b]? := World.putObj_heap_other hne
  rw [← hcl j c hj]
  simp only [World.cell?, hx]
theorem RdAt.putObj {lo mb lb l : Nat} {W : World} {zs : List Int} {N : Mg} {P C : Value} {p e : Nat} {o o' : Obj} (h : RdAt lo W mb lb zs N P C p e) (hl : mb < l) (ho : W.heap[l]? = some o) (hc : o.isCells = false) : RdAt lo (W.putObj l o') mb lb zs N P C p e := by
  obtain ⟨⟨a, c, h1, h2, h3⟩, ⟨a', c', h4, h5, h6⟩⟩ := And.intro h.p h.c
  have ha := h.a
  have hoff : Off (fun k => k = l) W (W.putObj l o') := ⟨rfl, rfl, rfl, by simp [World.putObj], fun k _ hn => World.putObj_heap_other hn⟩
  exact ⟨(World.putObj_heap_other (by omega)).trans h.m, h.l.off hoff (fun k _ hk => by omega), h.a, ⟨a, c, h1, h2, h3.putObj ho hc⟩, ⟨a', c', h4, h5, h6.putObj ho hc⟩, h.pz, h.cz⟩
/-- while fields are read: so many have been -/
def DcI (w6 : World) (lo mb lb qe : Nat) (zs : List Int) (FL : List Fd) (k : Int) (j : Nat) (V : World) : Prop := ∃ (N : Mg) (P C : Value) (p : Nat), RdAt lo V mb lb zs N P C p 0 ∧ V.heap[qe]? = some (.cells #[.int .i64 0] 29 (0, 0)) ∧ Off (fun q => q = mb ∨ q = lb ∨ q = qe) w6 V ∧
  Msm N ∧ Flds (FL.drop j) N ∧ rdL FL (Mg.zero k) zs = ((rdL (FL.drop j) N (zs.drop p)).1, p + (rdL (FL.drop j) N (zs.drop p)).2.1, (rdL (FL.drop j) N (zs.drop p)).2.2)
section
variable {w6 V V' : World} {lo mb lb qe : Nat} {zs : List Int} {FL : List Fd} {k : Int} {j : Nat}
theorem DcI.later (h : DcI w6 lo mb lb qe zs FL k j V) (hb : Below V.heap.size V V') : DcI w6 lo mb lb qe zs FL k j V' := by
  obtain ⟨N, P, C, p, h1, h2, h3, h4, h5, h6⟩ := h
  exact ⟨N, P, C, p, h1.later hb, (hb.block _ (Array.getElem?_eq_some_iff.1 h2).1).trans h2, h3.trans (Off.of_below (S := fun _ => False) hb) (fun _ _ h => h.elim), h4, h5, h6⟩
theorem DcI.putObj {l : Nat} {o o' : Obj} (h : DcI w6 lo mb lb qe zs FL k j V) (hl : w6.heap.size ≤ l) (hm : mb < w6.heap.size) (hq : qe < w6.heap.size) (ho : V.heap[l]? = some o) (hc : o.isCells = false) : DcI w6 lo mb lb qe zs FL k j (V.putObj l o') := by
  obtain ⟨N, P, C, p, h1, h2, h3, h4, h5, h6⟩ := h
  have hoff : Off (fun k => k = l) V (V.putObj l o') := ⟨rfl, rfl, rfl, by simp [World.putObj], fun k _ hn => World.putObj_heap_other hn⟩
  exact ⟨N, P, C, p, h1.putObj (by omega) ho hc, (World.putObj_heap_other (by omega)).trans h2, h3.trans hoff (fun _ _ e => by omega), h4, h5, h6⟩
end
theorem off3_kf {V W : World} {a b c s : Nat} {c1 c2 c3 : Array Value} {t1 t2 t3 : TypeId} (h : Off (fun q => q = a ∨ q = b ∨ q = c) V W) (h1 : V.heap[a]? = some (.cells c1 t1 (0, 0))) (h2 : V.heap[b]? = some (.cells c2 t2 (0, 0))) (h3 : V.heap[c]? = some (.cells c3 t3 (0, 0))) : KeepsFrom s V W := ⟨h.size, fun q o _ hq hc => (h.block q (Array.getElem?_eq_some_iff.1 hq).1 (by
  rintro (rfl | rfl | rfl)
  · rw [h1] at hq; injection hq with hq; subst hq; cases hc
  · rw [h2] at hq; injection hq with hq; subst hq; cases hc
  · rw [h3] at hq; injection hq with hq; subst hq; cases hc)).trans hq⟩
theorem off3_ket {V W : World} {a b c lo : Nat} {c1 c2 c3 : Array Value} (h : Off (fun q => q = a ∨ q = b ∨ q = c) V W) (h1 : V.heap[a]? = some (.cells c1 26 (0, 0))) (h2 : V.heap[b]? = some (.cells c2 145 (0, 0))) (h3 : V.heap[c]? = some (.cells c3 29 (0, 0))) : KeT 87 3 lo V W := ⟨h.size, fun q cs t _ ht hq => h.block q (Array.getElem?_eq_some_iff.1 hq).1 (by
  have e1 := fun e : t ≠ 26 => row_ne hq h1 e
  have e2 := fun e : t ≠ 145 => row_ne hq h2 e
  have e3 := fun e : t ≠ 29 => row_ne hq h3 e
  rcases ht with rfl | rfl
  · have := e1 (by decide); have := e2 (by decide); have := e3 (by decide); omega
  · have := e1 (by decide); have := e2 (by decide); have := e3 (by decide); omega)⟩
theorem rdL_step (f : Fd) (r : List Fd) (M : Mg) (l : List Int) : rdL (f :: r) M l = if (rdF M f l).1 ≠ 0 then ((rdF M f l).1, 0, M) else ((rdL r (rdF M f l).2.2 (l.drop (rdF M f l).2.1)).1, (rdF M f l).2.1 + (rdL r (rdF M f l).2.2 (l.drop (rdF M f l).2.1)).2.1, (rdL r (rdF M f l).2.2 (l.drop (rdF M f l).2.1)).2.2) := rfl
theorem rdF_small {f : Fd} (hf : FdX f) {N N' : Mg} (h : fE N' f = 0) (hc : N' = cp N N' f) (hs : Msm N) : Msm N' := by
  unfold cp at hc
  unfold fE at h
  by_cases h3 : f.so = 3
  · rw [if_pos h3] at hc h
    obtain ⟨-, h2, -⟩ := wP_zero h
    have := hf.mo.1 h3
    rw [hc]
    exact ⟨by show N'.p.length ≤ 40; omega, hs.c, hs.tx, hs.tg⟩
  rw [if_neg h3] at hc h
  by_cases h4 : f.so = 4
  · rw [if_pos h4] at hc h
    obtain ⟨-, h2, -⟩ := wC_zero h
    have := hf.mo.2.1 h4
    rw [hc]
    exact ⟨hs.p, by show N'.c.length ≤ 40; omega, hs.tx, hs.tg⟩
  rw [if_neg h4] at hc h
  by_cases h5 : f.so = 5
  · rw [if_pos h5] at hc h
    obtain ⟨h2, -⟩ := wT_zero h
    have := hf.mo.2.2.1 h5
    rw [hc]
    exact ⟨hs.p, hs.c, by show N'.tx.size ≤ 80; omega, hs.tg⟩
  rw [if_neg h5] at hc h
  by_cases h6 : f.so = 6
  · rw [if_pos h6] at hc h
    obtain ⟨h2, -⟩ := wT_zero h
    have := hf.mo.2.2.2 h6
    rw [hc]
    exact ⟨hs.p, hs.c, hs.tx, by show N'.tg.size ≤ 80; omega⟩
  rw [if_neg h6] at hc
  rw [hc]
  exact ⟨by rw [Mg.put_p]; exact hs.p, by rw [Mg.put_c]; exact hs.c, by rw [Mg.put_tx]; exact hs.tx, by rw [Mg.put_tg]; exact hs.tg⟩
set_option maxHeartbeats 16000000 in
theorem bdecode_yes (k v : Int) (A : Option Addr) (len cap : Nat) (zs : List Int) (w : World) (hlen : zs.length = len) (hll : len ≤ 1000000) (hby : Bys zs) (hA : Nums .u8 w w.heap.size A zs) (hv : v = 1 ∨ v = 2) (hk : FD k ≠ []) : Calls Tryz.prog 38 #[.int .i64 k, .int .i64 v, .slice A len cap] w fun e w' => DecO w (bdec k v zs) e w' := by
  obtain ⟨w2, hw2⟩ : ∃ w2, w.alloc (.cells #[.int .i64 0, .int .i64 0, .int .i64 0, .int .i64 0, .int .i64 0, .int .i64 0, .int .i64 0, .slice none 0 0, .slice none 0 0, .string ⟨#[]⟩, .string ⟨#[]⟩] 26) = w2 := ⟨_, rfl⟩
  have hb2 : Below w.heap.size w w2 := by rw [← hw2]; exact (Below.refl _ w).alloc (Nat.le_refl _) _
  have q0 : w2.heap[w.heap.size]? = some (.cells (mC (Mg.zero 0) (.slice none 0 0) (.slice none 0 0)) 26 (0, 0)) := by rw [← hw2]; exact World.alloc_heap_new _ _
  have HW2 := Lib.hid hw2
  have hlt0 := (Array.getElem?_eq_some_iff.1 q0).1
  have KK := Lib.hid (bknown_any v w2)
  have KW := Lib.hid (word_any k w2)
  rw [decide_eq_true hv] at KK
  have hwk : wd k ≠ ⟨#[]⟩ := fun e => hk ((FD_nil k).2 e)
  have hwne := str_nil hwk
  have hwn2 : (wd k).toList.isEmpty = false := by simpa using hwne
  have KL := Lib.hid (lnew_any A len cap zs w2 hlen (by omega) ((hA.below hb2).mono hb2.size))
  obtain ⟨R, hR⟩ : ∃ R, bdec k v zs = R := ⟨_, rfl⟩
  rw [hR]
  unfold bdec at hR
  rw [if_neg (by omega), if_neg hk] at hR
  have HR := Lib.hid hR
  have HB2 := Lib.hid hb2
  have HQ0 := Lib.hid q0
  have HBY := Lib.hid hby
  have HLEN := Lib.hid hlen
  clear hR hw2 hb2 q0 hA hby hlen
  refine (callsIn_wide (n := 9)).1 ?_
  refine callsIn_of_wp_marks Tryz.func38 rfl trivial ?_ rfl
  simp only [Tryz.ntmps38, List.size_toArray, List.length_cons, List.length_nil, Nat.reduceAdd, Nat.reduceSub, Array.replicate_succ, Array.replicate_zero, List.push_toArray, List.append_toArray, List.nil_append, List.cons_append]
  gi_wp2_with fail
  refine wpIn_wide.2 (wp_scope_straight ((wpIn_wide (n := 9)).1 ?_))
  gi_wp2_with fail
  rw [HW2.out]
  refine ⟨trivial, (callsIn_wide.2 KK.out).mono ?_⟩
  rintro e w3 ⟨rfl, rfl⟩
  gi_wp2_with fail
  refine ⟨trivial, (callsIn_wide.2 KW.out).mono ?_⟩
  rintro e w3 ⟨rfl, rfl⟩
  clear KW KK
  gi_wp2_with fail
  refine ⟨trivial, (callsIn_wide.2 KL.out).mono ?_⟩
  rintro e w3 ⟨lb, rfl, hl3, hb3⟩
  clear KL
  gi_wp2_with fail
  obtain ⟨w5, hw5⟩ : ∃ w5, ((w3.alloc (.cells #[.int .i64 k, .int .i64 0, .int .i64 0, .int .i64 0, .int .i64 0, .int .i64 0, .int .i64 0, .slice none 0 0, .slice none 0 0, .string ⟨#[]⟩, .string ⟨#[]⟩] 26)).alloc (.cells #[.pointer (some ⟨lb, 0, none⟩)] 117)).alloc (.cells #[.int .i64 0] 29) = w5 := ⟨_, rfl⟩
  have hs3 := hb3.size
  have hlb3 := hl3.lt
  have hlbo := hl3.lo_le
  obtain ⟨mb, hmb⟩ : ∃ mb, w3.heap.size = mb := ⟨_, rfl⟩
  obtain ⟨hb4, m4, r4, hs4⟩ := two_rows (W := w3) (c1 := #[.int .i64 k, .int .i64 0, .int .i64 0, .int .i64 0, .int .i64 0, .int .i64 0, .int .i64 0, .slice none 0 0, .slice none 0 0, .string ⟨#[]⟩, .string ⟨#[]⟩]) (t1 := 26) (c2 := #[.pointer (some ⟨lb, 0, none⟩)]) (t2 := 117)
  obtain ⟨w4, hw4⟩ : ∃ w4, (w3.alloc (.cells #[.int .i64 k, .int .i64 0, .int .i64 0, .int .i64 0, .int .i64 0, .int .i64 0, .int .i64 0, .slice none 0 0, .slice none 0 0, .string ⟨#[]⟩, .string ⟨#[]⟩] 26)).alloc (.cells #[.pointer (some ⟨lb, 0, none⟩)] 117) = w4 := ⟨_, rfl⟩
  rw [hw4] at hb4 m4 r4 hs4
  have hb45 : Below w4.heap.size w4 w5 := by rw [← hw5, hw4]; exact (Below.refl _ w4).alloc (Nat.le_refl _) _
  have e5 : w5.heap[w4.heap.size]? = some (.cells #[.int .i64 0] 29 (0, 0)) := by rw [← hw5, hw4]; exact World.alloc_heap_new _ _
  have m5 := (hb45.block _ (Array.getElem?_eq_some_iff.1 m4).1).trans m4
  have r5 := (hb45.block _ (Array.getElem?_eq_some_iff.1 r4).1).trans r4
  have hb35 := hb4.trans (hb45.mono (by omega))
  have hl5 := hl3.below hb35
  rw [hs4, hmb] at e5
  have e5 : w5.heap[mb + 1 + 1]? = some (.cells #[.int .i64 0] 29 (0, 0)) := e5
  rw [hmb] at m5 r5 hlb3 hs3 ⊢
  have hR5 : RdAt w2.heap.size w5 mb lb zs (Mg.zero k) (.slice none 0 0) (.slice none 0 0) 0 0 := ⟨m5, hl5, hlb3, ⟨none, 0, rfl, Nat.le_refl _, fun h => absurd rfl h⟩, ⟨none, 0, rfl, Nat.le_refl _, fun h => absurd rfl h⟩, fun _ => rfl, fun _ => rfl⟩
  have hs5 : mb + 1 + 1 < w5.heap.size := (Array.getElem?_eq_some_iff.1 e5).1
  have hb05 : Below w.heap.size w w5 := HB2.out.trans ((hb3.trans (hb35.mono (by omega))).mono (by omega))
  have q5 := (hb35.block _ (by omega)).trans ((hb3.block _ hlt0).trans HQ0.out)
  have HW5 := Lib.hid hw5
  have HR5 := Lib.hid hR5
  have HE5 := Lib.hid e5
  have HP5 := Lib.hid r5
  have HQ5 := Lib.hid q5
  have HB05 := Lib.hid hb05
  clear hw5 hR5 e5 r5 q5 hb05 m5 hl5 hb35 hb45 hb4 m4 r4 hs4 hw4 hb3 hl3 HQ0 HB2
  rw [HW5.out]
  clear HW5
  apply wpIn_label
  gi_wp2_with fail
  refine ⟨trivial, (callsIn_wide.2 (fall_any k v w5)).mono ?_⟩
  rintro e w6 ⟨rfl, hg0, hg1, hb6⟩
  have hs6 := (Array.getElem?_eq_some_iff.1 hg1).1
  have hR6 := HR5.out.later hb6
  have e6 := (hb6.block _ hs5).trans HE5.out
  have HP6 := Lib.hid ((hb6.block _ (by omega)).trans HP5.out)
  have HQ6 := Lib.hid ((hb6.block _ (by omega)).trans HQ5.out)
  have HB06 := Lib.hid (HB05.out.trans (hb6.mono HB05.out.size))
  have HFX := Lib.hid (show ∀ f ∈ FDv k v, f.so = 1 → 0 ≤ f.mo from fun f hf => FD_mo1 k f (FDv_sub hf))
  have hfl := FDv_flds k v
  have hsm0 : Msm (Mg.zero k) := ⟨by simp [Mg.zero], by simp [Mg.zero], by show (ByteArray.mk #[]).size ≤ 80; decide, by show (ByteArray.mk #[]).size ≤ 80; decide⟩
  obtain ⟨FL, hFL⟩ : ∃ FL, FDv k v = FL := ⟨_, rfl⟩
  rw [hFL] at HR HFX hfl
  have HFL := Lib.hid hFL
  have hD0 : DcI w6 w2.heap.size mb lb (mb + 1 + 1) zs FL k 0 w6 := ⟨Mg.zero k, _, _, 0, hR6, e6, Off.refl _ _, hsm0, by rw [List.drop_zero]; exact hfl, by simp⟩
  clear hR6 e6 hb6 hFL hfl hsm0 HR5 HE5 HP5 HQ5 HB05
  gi_wp2_with fail
  refine range_stopb rfl (by omega) (gf := 51) (lb := #[.pointer (some ⟨w5.heap.size, 0, none⟩), .pointer (some ⟨w5.heap.size + 1, 0, none⟩)]) rfl trivial (enters_of Tryz.func51 (by kernel_rfl) rfl)
    (fun f : Fd => #[f.v]) (fun _ => rfl)
    (fun j f V => FL[j]? = some f ∧ DcI w6 w2.heap.size mb lb (mb + 1 + 1) zs FL k j V)
    (fun j f q V => (FL[j]? = some f ∧ DcI w6 w2.heap.size mb lb (mb + 1 + 1) zs FL k j V) ∧ w6.heap.size ≤ q ∧ V.heap[q]? = some (.cells f.cs 87 (0, 0)))
    (fun j V => DcI w6 w2.heap.size mb lb (mb + 1 + 1) zs FL k j V)
    (fun cd V => cd = .exit 1 ∧ ∃ E : Nat, E ≠ 0 ∧ (rdL FL (Mg.zero k) zs).1 = E ∧ V.heap[mb + 1 + 1]? = some (.cells #[.int .i64 (E : Int)] 29 (0, 0)) ∧ Off (fun q => q = mb ∨ q = lb ∨ q = mb + 1 + 1) w6 V)
    (KeT 87 3 w5.heap.size) FL.length
    (fun j f q V l o o' h hl ho hc' => ⟨⟨h.1.1, h.1.2.putObj hl (by omega) (by omega) ho hc'⟩, h.2.1, (World.putObj_heap_other (fun e => by subst e; rw [h.2.2] at ho; injection ho with ho; subst ho; cases hc')).trans h.2.2⟩)
    (fun j V l o o' h hl ho hc' => h.putObj hl (by omega) (by omega) ho hc')
    (fun cd V l o o' h hl ho hc' => by
      obtain ⟨h1, E, h2, h3, h4, h5⟩ := h
      have hoff : Off (fun k => k = l) V (V.putObj l o') := ⟨rfl, rfl, rfl, by simp [World.putObj], fun k _ hn => World.putObj_heap_other hn⟩
      exact ⟨h1, E, h2, h3, (World.putObj_heap_other (by omega)).trans h4, h5.trans hoff (fun _ _ e => by omega)⟩)
    (fun _ _ _ h k => h.trans k) (fun V l o o' hl ho hc' => KeT.putObj ho hc')
    (fun o => (hD0.later ((Below.refl _ w6).alloc (Nat.le_refl _) _)).later ((Below.refl _ _).alloc (Nat.le_refl _) _)) ?round ?iter ?done ?stop
  case round =>
    rintro l j f V K ⟨hf, hC⟩ hj hK
    have HK := Lib.hid hK
    have hsz : w6.heap.size ≤ V.heap.size := by
      obtain ⟨_, _, _, _, _, _, h3, _⟩ := hC
      exact h3.size
    clear hK
    unfold Fd.v Fd.cs
    gi_wp2_with fail
    refine HK.out _ V.heap.size _ ⟨⟨hf, hC.later ((Below.refl _ V).alloc (Nat.le_refl _) _)⟩, hsz, World.alloc_heap_new _ _⟩ ⟨by simp, fun q o _ ho _ => (Below.heap_alloc _ _ _ (Array.getElem?_eq_some_iff.1 ho).1).trans ho⟩ (KeT.of_below ((Below.refl _ V).alloc (Nat.le_refl _) _)) ?_
    clear HK hC
    rintro l V2 hl ⟨⟨_, hC⟩, hq, hc⟩
    obtain ⟨qb, hqb⟩ : ∃ qb, V.heap.size = qb := ⟨_, rfl⟩
    rw [hqb] at hq hc ⊢
    clear hqb hD0
    obtain ⟨N, P, C, p, h1, h2, h3, hsm, h4, h5⟩ := hC
    have hd : FL.drop j = f :: FL.drop (j + 1) := by
      obtain ⟨hlt, he⟩ := List.getElem?_eq_some_iff.1 hf
      rw [List.drop_eq_getElem_cons hlt, he]
    rw [hd] at h4 h5
    have hfx := h4.fdx f (List.mem_cons_self ..)
    have hfp := h4.p f (List.mem_cons_self ..)
    have hfc := h4.c f (List.mem_cons_self ..)
    have KR := reader_any w2.heap.size mb lb zs N P C p f V2 h1 hfx (HFX.out f (List.mem_of_getElem? hf)) hfp hfc (by rw [HLEN.out]; omega) HBY.out
    have hst := rdL_step f (FL.drop (j + 1)) N (zs.drop p)
    have hok : ∀ u N', rdF N f (zs.drop p) = (0, u, N') → fE N' f = 0 ∧ N' = cp N N' f := fun u N' h => (rdFld_ok hfx (HBY.out.drop p) hfp hfc h).2.2
    unfold RdrR at KR
    obtain ⟨⟨E, u, N'⟩, hrd⟩ : ∃ r, rdF N f (zs.drop p) = r := ⟨_, rfl⟩
    rw [hrd] at KR hst hok
    simp only at hst
    rw [hst] at h5
    have r9 := (h3.block _ (by omega) (by omega)).trans HP6.out
    have k9 := row_cell r9 0 _ rfl
    obtain ⟨_, _, hbl, -⟩ := h1.l.open
    have LF : Hid ((Instr.loadAt 87 (.pointer (some ⟨qb, 0, none⟩))).run Tryz.prog V2 = .ok f.v V2) := by
      obtain ⟨t0, t1, t2, t3, t4, t5, t6⟩ := fd_block hc
      exact Lib.hid (by simp [Instr.loadAt, go_sem, t0, t1, t2, t3, t4, t5, t6, Fd.v, Fd.cs])
    have HM := Lib.hid h1.m
    have HBL := Lib.hid hbl
    have HEQ := Lib.hid h2
    have HOF := Lib.hid h3
    have HST := Lib.hid h5
    have HFL4 := Lib.hid h4
    have HOK := Lib.hid hok
    have HSM := Lib.hid hsm
    have HFD := Lib.hid hfx
    have KR := Lib.hid KR
    have hlbm := h1.a
    have hV2 := h3.size
    clear h1 h2 h3 h4 h5 hst hok hsm hfp hfc hd hf hrd hbl r9 hfx hc
    gi_wp2_with (refine wpListIn_load_run rfl 87 (.tmp 11) rfl (some ⟨qb, 0, none⟩) rfl f.v LF.out ?_)
    refine ⟨trivial, ((callsIn_wide.2 KR.out).inRound l).mono ?_⟩
    rintro e V3 ⟨F, c1, c2, rfl, hent, hb3, hcall⟩
    have hs3 := hb3.size
    have k9 := (hb3.cell (p := ⟨mb + 1, 0, none⟩) (by show mb + 1 < _; omega)).trans k9
    have HCALL := Lib.hid hcall
    clear hcall KR hb3
    gi_wp2_with fail
    refine ⟨trivial, ((callsIn_wide.2 HCALL.out).inRound l).mono ?_⟩
    rintro e V4 ⟨rfl, ho4, hok4⟩
    simp only at hok4 ⊢
    have hV4 := ho4.size
    have m4 := HM.out
    have e4 := (ho4.block _ (Array.getElem?_eq_some_iff.1 HEQ.out).1 (by omega)).trans HEQ.out
    have k4 := row_cell e4 0 _ rfl
    have z4 := frozen_of_row V4 (mb + 1 + 1) 0 _ _ e4
    have ho3 : Off (fun q => q = mb ∨ q = lb ∨ q = mb + 1 + 1) V2 V4 := ho4.mono fun j _ h => by omega
    clear HCALL m4
    by_cases hE : E = 0
    · subst hE
      obtain ⟨P', C', hR'⟩ := hok4 rfl
      obtain ⟨hfe, hcp⟩ := HOK.out u N' rfl
      have hst := HST.out
      rw [if_neg (by simp)] at hst
      simp only [List.drop_drop] at hst
      have HJ : Hid (DcI w6 w2.heap.size mb lb (mb + 1 + 1) zs FL k (j + 1) V4) := Lib.hid ⟨N', P', C', p + u, hR', e4, HOF.out.trans ho3 (fun _ _ h => h), rdF_small HFD.out hfe hcp HSM.out, by rw [hcp]; exact HFL4.out.next N', by rw [hst]; simp only [Nat.add_assoc]⟩
      have HKF := Lib.hid (off3_kf (s := w6.heap.size) ho3 HM.out HBL.out HEQ.out)
      have HKE := Lib.hid (off3_ket (lo := w5.heap.size) ho3 HM.out HBL.out HEQ.out)
      have HSA := Lib.hid (setCell_same e4)
      clear hok4 hR' ho4 ho3 hst hfe hcp e4
      rw [show ((0 : Nat) : Int) = 0 from rfl]
      gi_wp2
      rw [HSA.out]
      exact ⟨HKF.out, HJ.out, HKE.out⟩
    · have hEn : ((E : Int) != 0) = true := by simpa using hE
      have hst := HST.out
      rw [if_pos hE] at hst
      have ho5 : Off (fun q => q = mb ∨ q = lb ∨ q = mb + 1 + 1) V2 (V4.setCell ⟨mb + 1 + 1, 0, none⟩ (.int .i64 (E : Int))) := ho3.setCell (p := ⟨mb + 1 + 1, 0, none⟩) (.inr (.inr rfl)) _
      have HKF := Lib.hid (off3_kf (s := w6.heap.size) ho5 HM.out HBL.out HEQ.out)
      have HX : Hid (∃ E' : Nat, E' ≠ 0 ∧ (rdL FL (Mg.zero k) zs).1 = E' ∧ (V4.setCell ⟨mb + 1 + 1, 0, none⟩ (.int .i64 (E : Int))).heap[mb + 1 + 1]? = some (.cells #[.int .i64 (E' : Int)] 29 (0, 0)) ∧ Off (fun q => q = mb ∨ q = lb ∨ q = mb + 1 + 1) w6 (V4.setCell ⟨mb + 1 + 1, 0, none⟩ (.int .i64 (E : Int)))) := Lib.hid ⟨E, hE, by rw [hst], by rw [setCell_at e4]; rfl, HOF.out.trans ho5 (fun _ _ h => h)⟩
      clear hok4 ho4 ho3 ho5 hst e4
      gi_wp2
      exact ⟨HKF.out, rfl, HX.out⟩
  case iter =>
    intro Bk X l V hBk hBlt hX hl hD hB hY
    have h := fall_in 8 (by omega) 7 l w5.heap.size k v (fun j V => DcI w6 w2.heap.size mb lb (mb + 1 + 1) zs FL k j V ∧ Bk V) X
      (fun j A B h hb => ⟨h.1.later hb, hBk A _ h.2 hb.size (fun q h1 h2 => by have := hBlt A h.2; exact hb.block q (by omega))⟩)
      (fun j f W h hf => by
        rw [HFL.out] at hf
        exact (hY j f W ⟨hf, h.1⟩ h.2 (List.getElem?_eq_some_iff.1 hf).1).mono (fun e W2 h => h.elim (fun h => .inl ⟨h.1, h.2.1, h.2.2.1⟩) (fun h => .inr ⟨h.1, h.2.1⟩)))
      V (by
        obtain ⟨_, _, _, _, _, _, h3, _⟩ := hD
        exact (h3.block _ (by omega) (by omega)).trans hg0) (by
        obtain ⟨_, _, _, _, _, _, h3, _⟩ := hD
        exact (h3.block _ (by omega) (by omega)).trans hg1) ⟨hD, hB⟩
    rw [HFL.out] at h
    exact h
  case done =>
    rintro D V hD hC hK
    obtain ⟨N, P, C, p, h1, h2, h3, hsm, -, h5⟩ := hC
    rw [List.drop_length] at h5
    simp only [rdL, Nat.add_zero] at h5
    have hR := HR.out
    rw [h5] at hR
    simp only [ne_eq, not_true_eq_false, if_false] at hR
    have hp := h1.l.place
    have ce := row_cell h2 0 _ rfl
    have cz := frozen_of_row V (mb + 1 + 1) 0 _ _ h2
    have k9 := row_cell ((h3.block _ (by omega) (by omega)).trans HP6.out) 0 _ rfl
    have HQ := Lib.hid ((h3.block _ (by omega) (by omega)).trans HQ6.out)
    have HB0 := Lib.hid (HB06.out.trans (h3.below (B := w.heap.size) (fun q hq => by omega) HB06.out.size))
    have KE := Lib.hid (lend_any _ _ _ _ _ _ h1.l (by rw [HLEN.out]; omega))
    have HKD0 := Lib.hid hK
    have hV := h3.size
    have HR1 := Lib.hid h1
    have HE1 := Lib.hid h2
    have HSM := Lib.hid hsm
    clear h1 h2 h3 hsm h5 hK hD0 hg0 hg1
    by_cases hlt : p < zs.length
    · rw [if_pos hlt] at hR
      have he3 : endOf zs p 0 = 3 := by unfold endOf; rw [if_neg (by simp), if_pos hlt]
      rw [he3] at KE
      have HR2 := Lib.hid hR
      clear hR
      gi_wp2_with fail
      refine ⟨trivial, (callsIn_wide.2 KE.out).mono ?_⟩
      rintro e V2 ⟨rfl, n2, rfl⟩
      have hb2 := below_of_drewN (B := V.heap.size) V n2
      obtain ⟨V2, hV2⟩ : ∃ V2, V.drewN n2 = V2 := ⟨_, rfl⟩
      rw [hV2] at hb2 ⊢
      have e2 := (hb2.block _ (Array.getElem?_eq_some_iff.1 HE1.out).1).trans HE1.out
      have ce2 := row_cell e2 0 _ rfl
      have cz2 := frozen_of_row V2 (mb + 1 + 1) 0 _ _ e2
      obtain ⟨V4, hV4⟩ : ∃ V4, V2.setCell ⟨mb + 1 + 1, 0, none⟩ (.int .i64 3) = V4 := ⟨_, rfl⟩
      have hof4 : Off (fun q => q = mb + 1 + 1) V2 V4 := by rw [← hV4]; exact Off.setCell (S := fun q => q = mb + 1 + 1) (p := ⟨mb + 1 + 1, 0, none⟩) (Off.refl _ V2) rfl _
      have HEE : Hid (V4.heap[mb + 1 + 1]? = some (.cells #[.int .i64 3] 29 (0, 0))) := Lib.hid (by rw [← hV4, setCell_at e2]; rfl)
      have hqq := (hb2.block _ (Array.getElem?_eq_some_iff.1 HQ.out).1).trans HQ.out
      have HQV := Lib.hid ((hof4.block _ (Array.getElem?_eq_some_iff.1 hqq).1 (by omega)).trans hqq)
      have hkk := (hb2.block _ (Array.getElem?_eq_some_iff.1 HKD0.out).1).trans HKD0.out
      have HKD := Lib.hid ((hof4.block _ (Array.getElem?_eq_some_iff.1 hkk).1 (by omega)).trans hkk)
      have HBV := Lib.hid ((HB0.out.trans (hb2.mono HB0.out.size)).trans (hof4.below (B := w.heap.size) (fun q hq => by omega) (by have := HB0.out.size; have := hb2.size; omega)))
      have HV4 := Lib.hid hV4
      clear KE hb2 hV2 e2 hof4 hqq hkk HQ HB0 HE1 HR1 HKD0 hV4
      rw [show ((3 : Nat) : Int) = 3 from rfl]
      gi_wp2_with fail
      rw [HV4.out]
      have lE : ∀ W, Off (fun q => q = w.heap.size) V4 W → (Instr.loadAt 29 (.pointer (some ⟨mb + 1 + 1, 0, none⟩))).run Tryz.prog W = .ok (.int .i64 3) W := fun W hW => by
        have k := row_cell ((hW.block _ (Array.getElem?_eq_some_iff.1 HEE.out).1 (by omega)).trans HEE.out) 0 _ rfl
        simp [Instr.loadAt, go_sem, k]
      refine wpIn_wide.2 ?_
      refine wp_region_order9 3 (0 :: 1 :: 2 :: []) (fun W => Off (fun q => q = w.heap.size) V4 W) (C := fun W => Below V4.heap.size V4 W) (by kernel_rfl) (by kernel_rfl) (by kernel_rfl) (Below.refl _ _).drew (fun W hW => Off.of_below hW) ?_
      refine wpO9_build (.agg #[.int .i64 0, .int .i64 0, .int .i64 0, .int .i64 0, .int .i64 0, .int .i64 0, .int .i64 0, .slice none 0 0, .slice none 0 0, .string ⟨#[]⟩, .string ⟨#[]⟩]) rfl rfl rfl (fun W _ => by simp [execOp, go_sem]) ?_
      simp only [Act.put, List.setIfInBounds_toArray, List.set_cons_succ, List.set_cons_zero]
      refine wpO9_load (ad := ⟨mb + 1 + 1, 0, none⟩) (.int .i64 3) rfl rfl rfl (by rfl) lE ?_
      simp only [Act.put, List.setIfInBounds_toArray, List.set_cons_succ, List.set_cons_zero]
      refine wpO9_store (fun W => ∃ W0, Below V4.heap.size V4 W0 ∧ W = W0.setRow w.heap.size #[.int .i64 0, .int .i64 0, .int .i64 0, .int .i64 0, .int .i64 0, .int .i64 0, .int .i64 0, .slice none 0 0, .slice none 0 0, .string ⟨#[]⟩, .string ⟨#[]⟩]) rfl rfl rfl rfl ⟨w.heap.size, 0, none⟩ (.agg #[.int .i64 0, .int .i64 0, .int .i64 0, .int .i64 0, .int .i64 0, .int .i64 0, .int .i64 0, .slice none 0 0, .slice none 0 0, .string ⟨#[]⟩, .string ⟨#[]⟩]) (by rfl) (by rfl) (fun W hW => ?_) (fun W hW => ?_) ?_
      · obtain ⟨W0, h1, rfl⟩ := hW
        exact Off.setRow (S := fun q => q = w.heap.size) (Off.of_below h1) rfl _
      · exact ⟨_, mg_store W w.heap.size _ _ ((hW.block _ (Array.getElem?_eq_some_iff.1 HQV.out).1).trans HQV.out) rfl rfl (mg_one (Mg.zero 0) _ _ _ _ _ _), W, hW, rfl⟩
      rintro V6 ⟨W0, hb0, rfl⟩
      simp only [List.drop_succ_cons, List.drop_zero]
      have q0 := (hb0.block _ (Array.getElem?_eq_some_iff.1 HQV.out).1).trans HQV.out
      have hrow := setRow_heap W0 w.heap.size _ #[.int .i64 0, .int .i64 0, .int .i64 0, .int .i64 0, .int .i64 0, .int .i64 0, .int .i64 0, .slice none 0 0, .slice none 0 0, .string ⟨#[]⟩, .string ⟨#[]⟩] _ _ q0
      have hof0 := Off.setRow (S := fun q => q = w.heap.size) (Off.refl _ W0) rfl #[.int .i64 0, .int .i64 0, .int .i64 0, .int .i64 0, .int .i64 0, .int .i64 0, .int .i64 0, .slice none 0 0, .slice none 0 0, .string ⟨#[]⟩, .string ⟨#[]⟩]
      have hbf : Below w.heap.size w (W0.setRow w.heap.size #[.int .i64 0, .int .i64 0, .int .i64 0, .int .i64 0, .int .i64 0, .int .i64 0, .int .i64 0, .slice none 0 0, .slice none 0 0, .string ⟨#[]⟩, .string ⟨#[]⟩]) := (HBV.out.trans (hb0.mono HBV.out.size)).trans (hof0.below (B := w.heap.size) (fun q hq => by omega) (by have := HBV.out.size; have := hb0.size; omega))
      have hkf := (hof0.block _ (by have := (Array.getElem?_eq_some_iff.1 HKD.out).1; have := hb0.size; omega) (by omega)).trans ((hb0.block _ (Array.getElem?_eq_some_iff.1 HKD.out).1).trans HKD.out)
      generalize W0.setRow w.heap.size _ = Vf at *
      have HRW := Lib.hid hrow
      have HBF := Lib.hid hbf
      have HKF := Lib.hid hkf
      clear lE q0 hrow hof0 hbf hkf hb0 HBV HKD
      go_wp2
      gi_wp2
      try simp only [Exit.noGoto]
      refine ⟨by simp, .inl ⟨_, _, rfl, run_takeDeferred HKF.out, ?_⟩⟩
      obtain ⟨y0, y1, y2, y3, y4, y5, y6, y7, y8, y9, y10⟩ := mg_block (M := Mg.zero 0) (P := .slice none 0 0) (C := .slice none 0 0) (W := Vf.putObj D (.deferred none)) ((World.putObj_heap_other (by omega)).trans HRW.out)
      refine ⟨.tuple #[.agg (mC (Mg.zero 0) (.slice none 0 0) (.slice none 0 0)), .int .i64 3], by simp [results, Tryz.f38, go_sem, y0, y1, y2, y3, y4, y5, y6, y7, y8, y9, y10, mC], ?_⟩
      rw [← HR2.out]
      exact ⟨_, _, rfl, MOwn.zero _ _ _, HBF.out.trans (below_put _ _ (by omega))⟩
    · rw [if_neg hlt] at hR
      have he3 : endOf zs p 0 = 0 := by unfold endOf; rw [if_neg (by simp), if_neg hlt]
      rw [he3] at KE
      have HR2 := Lib.hid hR
      clear hR
      gi_wp2_with fail
      refine ⟨trivial, (callsIn_wide.2 KE.out).mono ?_⟩
      rintro e V2 ⟨rfl, n2, rfl⟩
      have hb2 := below_of_drewN (B := V.heap.size) V n2
      obtain ⟨V2, hV2⟩ : ∃ V2, V.drewN n2 = V2 := ⟨_, rfl⟩
      rw [hV2] at hb2 ⊢
      have e2 := (hb2.block _ (Array.getElem?_eq_some_iff.1 HE1.out).1).trans HE1.out
      have ce2 := row_cell e2 0 _ rfl
      have cz2 := frozen_of_row V2 (mb + 1 + 1) 0 _ _ e2
      have HSA := Lib.hid (setCell_same e2)
      have h1 := HR1.out.later hb2
      have LM := Lib.hid (mg_read h1.m)
      have hmat : MAt V2 V2.heap.size N P C := by
        obtain ⟨⟨a, c, e1, e2, e3⟩, ⟨a', c', e4, e5, e6⟩⟩ := And.intro h1.p h1.c
        exact ⟨⟨a, c, e1, e2, e3.nums⟩, ⟨a', c', e4, e5, e6.nums⟩⟩
      have KP := mproject_any N P C v V2 HSM.out hmat
      unfold mV at KP LM
      have KP := Lib.hid KP
      have HQ2 := Lib.hid ((hb2.block _ (Array.getElem?_eq_some_iff.1 HQ.out).1).trans HQ.out)
      have HK2 := Lib.hid ((hb2.block _ (Array.getElem?_eq_some_iff.1 HKD0.out).1).trans HKD0.out)
      have HB2' := Lib.hid (HB0.out.trans (hb2.mono HB0.out.size))
      clear KE hb2 hV2 e2 HQ HB0 HE1 HR1 HKD0 h1 hmat
      rw [show ((0 : Nat) : Int) = 0 from rfl]
      gi_wp2_with (rw [HSA.out]; refine wpListIn_load_run rfl 26 (.tmp 8) rfl (some ⟨mb, 0, none⟩) rfl (.agg (mC N P C)) LM.out ?_)
      refine ⟨trivial, (callsIn_wide.2 KP.out).mono ?_⟩
      rintro e V3 ⟨P3, C3, rfl, hown3, hb3⟩
      obtain ⟨G, hG⟩ : ∃ G, mproj N v = G := ⟨_, rfl⟩
      rw [hG] at hown3 HR2 ⊢
      have hm3 := hown3.at
      obtain ⟨⟨a3, c3, rfl, -, -⟩, ⟨b3, cc3, rfl, -, -⟩⟩ := And.intro hm3.p hm3.c
      have hq3 := (hb3.block _ (Array.getElem?_eq_some_iff.1 HQ2.out).1).trans HQ2.out
      have hk3 := (hb3.block _ (Array.getElem?_eq_some_iff.1 HK2.out).1).trans HK2.out
      have hst := mg_store V3 w.heap.size _ (mC G (.slice a3 G.p.length c3) (.slice b3 G.c.length cc3)) hq3 rfl rfl (mg_one _ _ _ _ _ _ _)
      have hrow := setRow_heap V3 w.heap.size _ (mC G (.slice a3 G.p.length c3) (.slice b3 G.c.length cc3)) _ _ hq3
      have hof3 := Off.setRow (S := fun q => q = w.heap.size) (Off.refl _ V3) rfl (mC G (.slice a3 G.p.length c3) (.slice b3 G.c.length cc3))
      have hbq : w.heap.size < V2.heap.size := (Array.getElem?_eq_some_iff.1 HQ2.out).1
      have hown4 := hown3.off hof3 (fun g hg e => by have := (hown3.p.lt g hg).1; omega) (fun g hg e => by have := (hown3.c.lt g hg).1; omega)
      have hbf : Below w.heap.size w (V3.setRow w.heap.size (mC G (.slice a3 G.p.length c3) (.slice b3 G.c.length cc3))) := (HB2'.out.trans (hb3.mono HB2'.out.size)).trans (hof3.below (B := w.heap.size) (fun q hq => by omega) (by have := HB2'.out.size; have := hb3.size; omega))
      have hkf := (hof3.block _ (Array.getElem?_eq_some_iff.1 hk3).1 (by omega)).trans hk3
      obtain ⟨Vf, hVf⟩ : ∃ Vf, V3.setRow w.heap.size (mC G (.slice a3 G.p.length c3) (.slice b3 G.c.length cc3)) = Vf := ⟨_, rfl⟩
      rw [hVf] at hst hrow hown4 hbf hkf
      have HST := Lib.hid hst
      have HRW := Lib.hid hrow
      have HOW := Lib.hid hown4
      have HBF := Lib.hid hbf
      have HKF := Lib.hid hkf
      clear hst hrow hown3 hown4 hbf hkf hq3 hk3 hof3 hVf hm3 KP LM HSA hG
      unfold mV
      gi_wp2_with (refine wpListIn_store_run rfl 26 (.tmp 6) (.tmp 48) rfl (some ⟨w.heap.size, 0, none⟩) rfl (.agg (mC G (.slice a3 G.p.length c3) (.slice b3 G.c.length cc3))) rfl HST.out ?_)
      try simp only [Exit.noGoto]
      refine ⟨by simp, .inl ⟨_, _, rfl, run_takeDeferred HKF.out, ?_⟩⟩
      obtain ⟨y0, y1, y2, y3, y4, y5, y6, y7, y8, y9, y10⟩ := mg_block (W := Vf.putObj D (.deferred none)) ((World.putObj_heap_other (by omega)).trans HRW.out)
      refine ⟨.tuple #[.agg (mC G (.slice a3 G.p.length c3) (.slice b3 G.c.length cc3)), .int .i64 0], by simp [results, Tryz.f38, go_sem, y0, y1, y2, y3, y4, y5, y6, y7, y8, y9, y10, mC], ?_⟩
      rw [← HR2.out]
      refine ⟨_, _, rfl, ?_, HBF.out.trans (below_put _ _ (by omega))⟩
      have ho5 : Off (fun k => k = D) Vf (Vf.putObj D (.deferred none)) := ⟨rfl, rfl, rfl, by simp [World.putObj], fun k _ hn => World.putObj_heap_other hn⟩
      exact (HOW.out.off ho5 (fun g hg e => by have := (HOW.out.p.lt g hg).1; have := (Array.getElem?_eq_some_iff.1 HK2.out).1; omega) (fun g hg e => by have := (HOW.out.c.lt g hg).1; have := (Array.getElem?_eq_some_iff.1 HK2.out).1; omega)).less (Nat.le_of_lt hbq)
  case stop =>
    rintro D cd V hD ⟨rfl, E, hE, hrd, he, hof⟩ hK
    have hR := HR.out
    rw [if_pos (by rw [hrd]; exact hE), hrd] at hR
    have ce := row_cell he 0 _ rfl
    have e0 : ((E : Int) == 0) = false := by simpa using hE
    have e1 : ((E : Int) != 0) = true := by simpa using hE
    have HEE := Lib.hid he
    have HQV := Lib.hid ((hof.block _ (by omega) (by omega)).trans HQ6.out)
    have HBV := Lib.hid (HB06.out.trans (hof.below (B := w.heap.size) (fun q hq => by omega) HB06.out.size))
    have HKD := Lib.hid hK
    have HR2 := Lib.hid hR
    clear he hof hK hR hrd hD0 hg0 hg1
    gi_wp2_with fail
    have lE : ∀ W, Off (fun q => q = w.heap.size) V W → (Instr.loadAt 29 (.pointer (some ⟨mb + 1 + 1, 0, none⟩))).run Tryz.prog W = .ok (.int .i64 (E : Int)) W := fun W hW => by
      have k := row_cell ((hW.block _ (Array.getElem?_eq_some_iff.1 HEE.out).1 (by omega)).trans HEE.out) 0 _ rfl
      simp [Instr.loadAt, go_sem, k]
    refine wpIn_wide.2 ?_
    refine wp_region_order9 3 (0 :: 1 :: 2 :: []) (fun W => Off (fun q => q = w.heap.size) V W) (C := fun W => Below V.heap.size V W) (by kernel_rfl) (by kernel_rfl) (by kernel_rfl) (Below.refl _ _).drew (fun W hW => Off.of_below hW) ?_
    refine wpO9_build (.agg #[.int .i64 0, .int .i64 0, .int .i64 0, .int .i64 0, .int .i64 0, .int .i64 0, .int .i64 0, .slice none 0 0, .slice none 0 0, .string ⟨#[]⟩, .string ⟨#[]⟩]) rfl rfl rfl (fun W _ => by simp [execOp, go_sem]) ?_
    simp only [Act.put, List.setIfInBounds_toArray, List.set_cons_succ, List.set_cons_zero]
    refine wpO9_load (ad := ⟨mb + 1 + 1, 0, none⟩) (.int .i64 (E : Int)) rfl rfl rfl (by rfl) lE ?_
    simp only [Act.put, List.setIfInBounds_toArray, List.set_cons_succ, List.set_cons_zero]
    refine wpO9_store (fun W => ∃ W0, Below V.heap.size V W0 ∧ W = W0.setRow w.heap.size #[.int .i64 0, .int .i64 0, .int .i64 0, .int .i64 0, .int .i64 0, .int .i64 0, .int .i64 0, .slice none 0 0, .slice none 0 0, .string ⟨#[]⟩, .string ⟨#[]⟩]) rfl rfl rfl rfl ⟨w.heap.size, 0, none⟩ (.agg #[.int .i64 0, .int .i64 0, .int .i64 0, .int .i64 0, .int .i64 0, .int .i64 0, .int .i64 0, .slice none 0 0, .slice none 0 0, .string ⟨#[]⟩, .string ⟨#[]⟩]) (by rfl) (by rfl) (fun W hW => ?_) (fun W hW => ?_) ?_
    · obtain ⟨W0, h1, rfl⟩ := hW
      exact Off.setRow (S := fun q => q = w.heap.size) (Off.of_below h1) rfl _
    · exact ⟨_, mg_store W w.heap.size _ _ ((hW.block _ (Array.getElem?_eq_some_iff.1 HQV.out).1).trans HQV.out) rfl rfl (mg_one (Mg.zero 0) _ _ _ _ _ _), W, hW, rfl⟩
    rintro V6 ⟨W0, hb0, rfl⟩
    simp only [List.drop_succ_cons, List.drop_zero]
    have q0 := (hb0.block _ (Array.getElem?_eq_some_iff.1 HQV.out).1).trans HQV.out
    have hrow := setRow_heap W0 w.heap.size _ #[.int .i64 0, .int .i64 0, .int .i64 0, .int .i64 0, .int .i64 0, .int .i64 0, .int .i64 0, .slice none 0 0, .slice none 0 0, .string ⟨#[]⟩, .string ⟨#[]⟩] _ _ q0
    have hof0 := Off.setRow (S := fun q => q = w.heap.size) (Off.refl _ W0) rfl #[.int .i64 0, .int .i64 0, .int .i64 0, .int .i64 0, .int .i64 0, .int .i64 0, .int .i64 0, .slice none 0 0, .slice none 0 0, .string ⟨#[]⟩, .string ⟨#[]⟩]
    have hbf : Below w.heap.size w (W0.setRow w.heap.size #[.int .i64 0, .int .i64 0, .int .i64 0, .int .i64 0, .int .i64 0, .int .i64 0, .int .i64 0, .slice none 0 0, .slice none 0 0, .string ⟨#[]⟩, .string ⟨#[]⟩]) := (HBV.out.trans (hb0.mono HBV.out.size)).trans (hof0.below (B := w.heap.size) (fun q hq => by omega) (by have := HBV.out.size; have := hb0.size; omega))
    have hkf := (hof0.block _ (by have := (Array.getElem?_eq_some_iff.1 HKD.out).1; have := hb0.size; omega) (by omega)).trans ((hb0.block _ (Array.getElem?_eq_some_iff.1 HKD.out).1).trans HKD.out)
    generalize W0.setRow w.heap.size _ = Vf at *
    have HRW := Lib.hid hrow
    have HBF := Lib.hid hbf
    have HKF := Lib.hid hkf
    clear lE q0 hrow hof0 hbf hkf hb0 HBV HKD
    go_wp2
    gi_wp2
    try simp only [Exit.noGoto]
    refine ⟨by simp, .inl ⟨_, _, rfl, run_takeDeferred HKF.out, ?_⟩⟩
    obtain ⟨y0, y1, y2, y3, y4, y5, y6, y7, y8, y9, y10⟩ := mg_block (M := Mg.zero 0) (P := .slice none 0 0) (C := .slice none 0 0) (W := Vf.putObj D (.deferred none)) ((World.putObj_heap_other (by omega)).trans HRW.out)
    refine ⟨.tuple #[.agg (mC (Mg.zero 0) (.slice none 0 0) (.slice none 0 0)), .int .i64 (E : Int)], by simp [results, Tryz.f38, go_sem, y0, y1, y2, y3, y4, y5, y6, y7, y8, y9, y10, mC], ?_⟩
    rw [← HR2.out]
    exact ⟨_, _, rfl, MOwn.zero _ _ _, HBF.out.trans (below_put _ _ (by omega))⟩
theorem bdecode_own (k v : Int) (A : Option Addr) (len cap : Nat) (zs : List Int) (w : World) (hlen : zs.length = len) (hll : len ≤ 1000000) (hby : Bys zs) (hA : Nums .u8 w w.heap.size A zs) : Calls Tryz.prog 38 #[.int .i64 k, .int .i64 v, .slice A len cap] w fun e w' => DecO w (bdec k v zs) e w' := by
  by_cases hv : v = 1 ∨ v = 2
  · by_cases hk : FD k = []
    · exact bdecode_no k v A len cap zs w (.inr hk)
    · exact bdecode_yes k v A len cap zs w hlen hll hby hA hv hk
  · exact bdecode_no k v A len cap zs w (.inl (by omega))
end Go.Proofs.YtlbfibnfmijahaaGreat

namespace Go.Proofs.YtlbfibnfmijahaaGreat
open Go.RowKit
set_option maxRecDepth 100000

end Go.Proofs.YtlbfibnfmijahaaGreat

namespace Go.Proofs.YtlbfibnfmijahaaGreat
open Go.RowKit Go.Shelf
set_option maxRecDepth 100000
attribute [local go_sem] Oper.semAt_some

end Go.Proofs.YtlbfibnfmijahaaGreat

namespace Go.Proofs.YtlbfibnfmijahaaGreat
open Go.RowKit Go.Shelf
set_option maxRecDepth 100000
attribute [local go_sem] Oper.semAt_some

theorem mg_oneV {w : World} {B : Nat} {M : Mg} {P C : Value} (h : MAt w B M P C) : (mC M P C).all (·.oneCell') = true := by
  obtain ⟨⟨a, c, rfl, -, -⟩, ⟨a', c', rfl, -, -⟩⟩ := h
  exact mg_one _ _ _ _ _ _ _
/-- a message is stored into a new box -/
theorem new_msg (W : World) {w : World} {B : Nat} {M : Mg} {P C : Value} (h : MAt w B M P C) : ∃ W2, (Instr.storeAt 26 (.pointer (some ⟨W.heap.size, 0, none⟩)) (.agg (mC M P C))).run Tryz.prog (W.alloc (.cells #[.int .i64 0, .int .i64 0, .int .i64 0, .int .i64 0, .int .i64 0, .int .i64 0, .int .i64 0, .slice none 0 0, .slice none 0 0, .string ⟨#[]⟩, .string ⟨#[]⟩] 26)) = .ok () W2 ∧
    W2.heap[W.heap.size]? = some (.cells (mC M P C) 26 (0, 0)) ∧ Below W.heap.size W W2 := by
  have r := World.alloc_heap_new W (.cells #[.int .i64 0, .int .i64 0, .int .i64 0, .int .i64 0, .int .i64 0, .int .i64 0, .int .i64 0, .slice none 0 0, .slice none 0 0, .string ⟨#[]⟩, .string ⟨#[]⟩] 26)
  have hb : Below W.heap.size W (W.alloc (.cells #[.int .i64 0, .int .i64 0, .int .i64 0, .int .i64 0, .int .i64 0, .int .i64 0, .int .i64 0, .slice none 0 0, .slice none 0 0, .string ⟨#[]⟩, .string ⟨#[]⟩] 26)) := (Below.refl _ W).alloc (Nat.le_refl _) _
  have hoff := Off.setRow (S := fun k => k = W.heap.size) (Off.refl _ (W.alloc (.cells #[.int .i64 0, .int .i64 0, .int .i64 0, .int .i64 0, .int .i64 0, .int .i64 0, .int .i64 0, .slice none 0 0, .slice none 0 0, .string ⟨#[]⟩, .string ⟨#[]⟩] 26))) rfl (mC M P C)
  exact ⟨_, mg_store _ _ _ (mC M P C) r rfl rfl (mg_oneV h), setRow_heap _ _ _ _ _ _ r, hb.trans (hoff.below (B := W.heap.size) (fun k hk => by omega) hb.size)⟩
end Go.Proofs.YtlbfibnfmijahaaGreat

namespace Go.Proofs.YtlbfibnfmijahaaGreat
open Go.RowKit Go.Shelf
set_option maxRecDepth 100000
attribute [local go_sem] Oper.semAt_some

/-- a message's box, a field's and the result's -/
structure FldM (w : World) (M : Mg) (f : Fd) (W : World) (P C : Value) : Prop where
  t : TwoM w w.heap.size (w.heap.size + 2) M W P C
  f : W.heap[w.heap.size + 1]? = some (.cells f.cs 81 (0, 0))
theorem FldM.start {w : World} {M : Mg} {f : Fd} {P C : Value} (h : MAt w w.heap.size M P C) : FldM w M f (((w.alloc (.cells (mC M P C) 38)).alloc (.cells f.cs 81)).alloc (.cells #[.int .i64 0, .int .i64 0, .int .i64 0, .int .i64 0, .int .i64 0, .int .i64 0, .int .i64 0, .slice none 0 0, .slice none 0 0, .string ⟨#[]⟩, .string ⟨#[]⟩] 38)) P C := by
  obtain ⟨w1, hw1⟩ : ∃ w1, w.alloc (.cells (mC M P C) 38) = w1 := ⟨_, rfl⟩
  have hb1 : Below w.heap.size w w1 := by rw [← hw1]; exact (Below.refl _ w).alloc (Nat.le_refl _) _
  have hs1 : w1.heap.size = w.heap.size + 1 := by rw [← hw1]; simp
  have q1 : w1.heap[w.heap.size]? = some (.cells (mC M P C) 38 (0, 0)) := by rw [← hw1]; exact World.alloc_heap_new _ _
  rw [hw1]
  obtain ⟨w2, hw2⟩ : ∃ w2, w1.alloc (.cells f.cs 81) = w2 := ⟨_, rfl⟩
  have hb2 : Below w1.heap.size w1 w2 := by rw [← hw2]; exact (Below.refl _ w1).alloc (Nat.le_refl _) _
  have hs2 : w2.heap.size = w.heap.size + 2 := by rw [← hw2, World.size_alloc, hs1]
  have q2 : w2.heap[w.heap.size + 1]? = some (.cells f.cs 81 (0, 0)) := by rw [← hw2, ← hs1]; exact World.alloc_heap_new _ _
  rw [hw2]
  obtain ⟨w3, hw3⟩ : ∃ w3, w2.alloc (.cells #[.int .i64 0, .int .i64 0, .int .i64 0, .int .i64 0, .int .i64 0, .int .i64 0, .int .i64 0, .slice none 0 0, .slice none 0 0, .string ⟨#[]⟩, .string ⟨#[]⟩] 38) = w3 := ⟨_, rfl⟩
  have hb3 : Below w2.heap.size w2 w3 := by rw [← hw3]; exact (Below.refl _ w2).alloc (Nat.le_refl _) _
  have q3 : w3.heap[w.heap.size + 2]? = some (.cells (mC (Mg.zero 0) (.slice none 0 0) (.slice none 0 0)) 38 (0, 0)) := by rw [← hw3, ← hs2]; exact World.alloc_heap_new _ _
  rw [hw3]
  have hb : Below w.heap.size w w3 := hb1.trans ((hb2.mono hb1.size).trans (hb3.mono (by omega)))
  obtain ⟨⟨a, c, h1, h2, h3⟩, ⟨a', c', h4, h5, h6⟩⟩ := h.below hb
  exact ⟨⟨(hb3.block _ (by omega)).trans ((hb2.block _ (by omega)).trans q1), q3, ⟨a, c, h1, h2, NuX.of h3 (Nat.le_refl _) (by omega)⟩, ⟨a', c', h4, h5, NuX.of h6 (Nat.le_refl _) (by omega)⟩, hb, ⟨Nat.le_refl _, by omega, by omega⟩⟩, (hb3.block _ (by omega)).trans q2⟩
theorem FldM.later {w W W' : World} {M : Mg} {f : Fd} {P C : Value} (h : FldM w M f W P C) (hb : Below W.heap.size W W') : FldM w M f W' P C := ⟨h.t.later hb, (hb.block _ (Array.getElem?_eq_some_iff.1 h.f).1).trans h.f⟩
/-- a number is stored into the message's box -/
theorem TwoM.num {w W : World} {b4 b8 : Nat} {M : Mg} {P C : Value} (h : TwoM w b4 b8 M W P C) {j : Nat} (hj : j < 6) (v : Int) : TwoM w b4 b8 (M.put j v) (W.setCell ⟨b4, 1 + j, none⟩ (.int .i64 v)) P C := by
  have hlo := h.lo
  have hoff : Off (fun q => q = b4 ∨ q = b8) W (W.setCell ⟨b4, 1 + j, none⟩ (.int .i64 v)) := Off.setCell (S := fun q => q = b4 ∨ q = b8) (p := ⟨b4, 1 + j, none⟩) (Off.refl _ W) (.inl rfl) _
  have hof2 : Off (fun q => q = b4) W (W.setCell ⟨b4, 1 + j, none⟩ (.int .i64 v)) := Off.setCell (S := fun q => q = b4) (p := ⟨b4, 1 + j, none⟩) (Off.refl _ W) rfl _
  obtain ⟨⟨a, c, h1, h2, h3⟩, ⟨a', c', h4, h5, h6⟩⟩ := And.intro h.p h.c
  refine ⟨by rw [setCell_at h.m, mC_put hj], (hof2.block _ (Array.getElem?_eq_some_iff.1 h.r).1 (by omega)).trans h.r, ⟨a, c, by rw [Mg.put_p]; exact h1, by rw [Mg.put_p]; exact h2, by rw [Mg.put_p]; exact h3.keep hoff⟩, ⟨a', c', by rw [Mg.put_c]; exact h4, by rw [Mg.put_c]; exact h5, by rw [Mg.put_c]; exact h6.keep hoff⟩, ?_, hlo⟩
  exact h.b.trans (hoff.below (B := w.heap.size) (fun q hq => by omega) h.b.size)
theorem Shun.num {S : Nat → Prop} {w W : World} {b4 b8 : Nat} {M : Mg} {P C : Value} (h : Shun S W M P C) (t : TwoM w b4 b8 M W P C) (j i : Nat) (v : Int) (u : Value) : Shun S (W.setCell ⟨b4, i, none⟩ u) (M.put j v) P C := by
  have hoff : Off (fun q => q = b4 ∨ q = b8) W (W.setCell ⟨b4, i, none⟩ u) := Off.setCell (S := fun q => q = b4 ∨ q = b8) (p := ⟨b4, i, none⟩) (Off.refl _ W) (.inl rfl) _
  unfold Shun
  rw [Mg.put_p, Mg.put_c]
  exact h.off t hoff
end Go.Proofs.YtlbfibnfmijahaaGreat

namespace Go.Proofs.YtlbfibnfmijahaaGreat
open Go.RowKit Go.Shelf
set_option maxRecDepth 100000
attribute [local go_sem] Oper.semAt_some

end Go.Proofs.YtlbfibnfmijahaaGreat

namespace Go.Proofs.YtlbfibnfmijahaaGreat
open Go.RowKit Go.Shelf
set_option maxRecDepth 100000
attribute [local go_sem] Oper.semAt_some

end Go.Proofs.YtlbfibnfmijahaaGreat

namespace Go.Proofs.YtlbfibnfmijahaaGreat
open Go.RowKit Go.Shelf
set_option maxRecDepth 100000
attribute [local go_sem] Oper.semAt_some

end Go.Proofs.YtlbfibnfmijahaaGreat

namespace Go.Proofs.YtlbfibnfmijahaaGreat
open Go.RowKit Go.Shelf
set_option maxRecDepth 100000
attribute [local go_sem] Oper.semAt_some

end Go.Proofs.YtlbfibnfmijahaaGreat

namespace Go.Proofs.YtlbfibnfmijahaaGreat
open Go.RowKit Go.Shelf
set_option maxRecDepth 100000
attribute [local go_sem] Oper.semAt_some

/-- lists that lie in no message's box lie not in this one -/
theorem NoM.nux {W : World} {g : Nat} {a : Option Addr} {zs : List Int} {cs : Array Value} (h : NoM W a zs) (hn : Nums .i64 W W.heap.size a zs) (hg : W.heap[g]? = some (.cells cs 38 (0, 0))) : NuX W g g a zs := fun hne => by
  obtain ⟨b, off, cs2, t, e, hh, ht⟩ := h hne
  obtain ⟨b2, off2, e2, -, hc⟩ := hn hne
  rw [e] at e2
  injection e2 with e2
  injection e2 with e3 e4
  subst e3
  subst e4
  have hne2 : b ≠ g := fun e => by
    subst e
    rw [hh] at hg
    injection hg with hg
    injection hg with _ hg
    exact ht hg
  exact ⟨b, off, e, hne2, hne2, hc⟩
/-- one block more that they shun -/
theorem Shun.box {S : Nat → Prop} {W : World} {M : Mg} {P C : Value} {g : Nat} {cs : Array Value} (h : Shun S W M P C) (hm : MAt W W.heap.size M P C) (hg : W.heap[g]? = some (.cells cs 38 (0, 0))) : Shun (fun q => S q ∨ q = g) W M P C := by
  obtain ⟨⟨a, c, e1, -, n1⟩, ⟨a', c', e2, -, n2⟩⟩ := hm
  refine ⟨fun x hx => ?_, h.2⟩
  rcases hx with hx | rfl
  · exact h.1 x hx
  · refine ⟨fun a3 n3 c3 e => ?_, fun a3 n3 c3 e => ?_⟩
    · have := h.2.1 _ _ _ e
      rw [e1] at e
      injection e with e
      subst e
      exact this.nux n1 hg
    · have := h.2.2 _ _ _ e
      rw [e2] at e
      injection e with e
      subst e
      exact this.nux n2 hg
/-- what region 12 knows of what it makes -/
def F12 (S : Nat → Prop) (lo : Nat) (E : Nat) (N' : Mg) (p' : Int) (s : Tmp) (x : Value) (W : World) : Prop :=
  match s with
  | 51 => ∃ (M' : Mg) (P C : Value) (a' : Int), x = .tuple #[mV M' P C, .int .i64 a', .int .i64 (E : Int)] ∧ MAt W W.heap.size M' P C ∧ Shun S W M' P C ∧ (E = 0 → M' = N' ∧ a' = p')
  | 43 => ∃ (M' : Mg) (P C : Value) (a' : Int), x = .tuple #[mV M' P C, .int .i64 a', .int .i64 (E : Int)] ∧ MAt W W.heap.size M' P C ∧ Shun S W M' P C ∧ (E = 0 → M' = N' ∧ a' = p')
  | 52 => ∃ (M' : Mg) (P C : Value), x = mV M' P C ∧ MAt W W.heap.size M' P C ∧ Shun S W M' P C ∧ (E = 0 → M' = N')
  | 53 => ∃ a' : Int, x = .int .i64 a' ∧ (E = 0 → a' = p')
  | _ => ∃ g, x = .pointer (some ⟨g, 0, none⟩) ∧ lo ≤ g ∧ W.heap[g]? = some (.cells #[.int .i64 0, .int .i64 0, .int .i64 0, .int .i64 0, .int .i64 0, .int .i64 0, .int .i64 0, .slice none 0 0, .slice none 0 0, .string ⟨#[]⟩, .string ⟨#[]⟩] 38 (0, 0))
theorem F12.later {S : Nat → Prop} {lo : Nat} {E : Nat} {N' : Mg} {p' : Int} {s : Tmp} {x : Value} {W W' : World} (h : F12 S lo E N' p' s x W) (hb : Below W.heap.size W W') : F12 S lo E N' p' s x W' := by
  unfold F12 at *
  split at h
  · obtain ⟨M', P, C, a', e, h1, h2, h3⟩ := h; exact ⟨M', P, C, a', e, h1.later hb, h2.later hb, h3⟩
  · obtain ⟨M', P, C, a', e, h1, h2, h3⟩ := h; exact ⟨M', P, C, a', e, h1.later hb, h2.later hb, h3⟩
  · obtain ⟨M', P, C, e, h1, h2, h3⟩ := h; exact ⟨M', P, C, e, h1.later hb, h2.later hb, h3⟩
  · exact h
  · obtain ⟨g, e, hg, h⟩ := h; exact ⟨g, e, hg, (hb.block _ (Array.getElem?_eq_some_iff.1 h).1).trans h⟩
end Go.Proofs.YtlbfibnfmijahaaGreat

namespace Go.Proofs.YtlbfibnfmijahaaGreat
open Go.RowKit
section
variable {P : Program} {l : List Oper} {vs : List Value} {fs : List Tmp} {FS : Tmp → Value → World → Prop} {I : World → Prop} {a0 : Act}
end
end Go.Proofs.YtlbfibnfmijahaaGreat

namespace Go.Proofs.YtlbfibnfmijahaaGreat
open Go.RowKit Go.Shelf
set_option maxRecDepth 100000
attribute [local go_sem] Oper.semAt_some

end Go.Proofs.YtlbfibnfmijahaaGreat

namespace Go.Proofs.YtlbfibnfmijahaaGreat
open Go.RowKit Go.Shelf
set_option maxRecDepth 100000
attribute [local go_sem] Oper.semAt_some

end Go.Proofs.YtlbfibnfmijahaaGreat

namespace Go.Proofs.YtlbfibnfmijahaaGreat
open Go.RowKit Go.Shelf
set_option maxRecDepth 100000

end Go.Proofs.YtlbfibnfmijahaaGreat

namespace Go.Proofs.YtlbfibnfmijahaaGreat
open Go.RowKit Go.Shelf
set_option maxRecDepth 100000
attribute [local go_sem] Oper.semAt_some

end Go.Proofs.YtlbfibnfmijahaaGreat

namespace Go.Proofs.YtlbfibnfmijahaaGreat
open Go.RowKit Go.Shelf
set_option maxRecDepth 100000
attribute [local go_sem] Oper.semAt_some

/-- what Pack answers -/
def PackR (w : World) (M : Mg) (v : Int) (e : Ending) (w' : World) : Prop := ∃ x, e = .returned (.tuple #[.int .i64 (if (benc M v).2 = 0 then M.k else 0), x, .int .i64 (benc M v).2]) ∧ Made w w' (benc M v).1 x
theorem benc_no {M : Mg} {v : Int} (h : (benc M v).2 ≠ 0) : (benc M v).1 = [] := by
  unfold benc at h ⊢
  split
  · rfl
  · rename_i h1
    rw [if_neg h1] at h
    split
    · rfl
    · rename_i h2
      rw [if_neg h2] at h
      exact absurd rfl h
set_option maxHeartbeats 4000000 in
theorem spack_any (M : Mg) (P C : Value) (b : Nat) (v : Int) (w : World) (hs : Msm M) (h1 : MAt w w.heap.size M P C) (hb : SAt w b v) : Calls Tryz.prog 16 #[.pointer (some ⟨b, 0, none⟩), mV M P C] w fun e w' => PackR w M v e w' := by
  obtain ⟨w2, hw2⟩ : ∃ w2, w.alloc (.cells (mC M P C) 26) = w2 := ⟨_, rfl⟩
  have hb2 : Below w.heap.size w w2 := by rw [← hw2]; exact (Below.refl _ w).alloc (Nat.le_refl _) _
  have q0 : w2.heap[w.heap.size]? = some (.cells (mC M P C) 26 (0, 0)) := by rw [← hw2]; exact World.alloc_heap_new _ _
  have hlt := (Array.getElem?_eq_some_iff.1 q0).1
  have HW2 := Lib.hid hw2
  have HB2 := Lib.hid hb2
  have HQ := Lib.hid q0
  have hsb := hb.later hb2
  have LM : ∀ W, Below w2.heap.size w2 W → (Instr.loadAt 26 (.pointer (some ⟨w.heap.size, 0, none⟩))).run Tryz.prog W = .ok (.agg (mC M P C)) W := fun W hW => mg_read ((hW.block _ hlt).trans q0)
  have LV : ∀ W, Below w2.heap.size w2 W → (Instr.loadAt 3 (.pointer (some ⟨b, 0, none⟩))).run Tryz.prog W = .ok (.int .i64 v) W := fun W hW => by
    have k := (hsb.later hW).cell
    simp [Instr.loadAt, go_sem, k]
  obtain ⟨⟨L, E⟩, hD⟩ : ∃ r, benc M v = r := ⟨_, rfl⟩
  have hno := benc_no (M := M) (v := v)
  have KE : Hid (∀ W, Below w2.heap.size w2 W → Calls Tryz.prog 36 #[.agg (mC M P C), .int .i64 v] W fun e w' => EncR W (L, E) e w') := Lib.hid fun W hW => by
    have := bencode_any M P C v W hs ((h1.later hb2).later hW)
    rwa [hD] at this
  unfold PackR
  rw [hD] at hno ⊢
  simp only at hno ⊢
  have HNO := Lib.hid hno
  have HK : Hid (∀ W, Below w2.heap.size w2 W → W.cell? ⟨w.heap.size, 0, none⟩ = some (.int .i64 M.k)) := Lib.hid fun W hW => row_cell ((hW.block _ hlt).trans q0) 0 (.int .i64 M.k) rfl
  clear hw2 hb2 q0 h1 hb hsb hD hno
  unfold mV
  go_enter Tryz.func16, Tryz.ntmps16
  go_wp2_with fail
  rw [HW2.out]
  refine wp_region_order9 12 (0 :: 1 :: 2 :: 3 :: 4 :: 5 :: 6 :: 7 :: 8 :: 9 :: 10 :: 11 :: []) (fun V => Below w2.heap.size w2 V) (C := fun V => Below w2.heap.size w2 V) (by kernel_rfl) (by kernel_rfl) (by kernel_rfl) (Below.refl _ _).drew (fun V hV => hV) ?_
  refine wpO9_load (ad := ⟨w.heap.size, 0, none⟩) (.agg (mC M P C)) rfl rfl rfl (by rfl) LM ?_
  simp only [Act.put, List.setIfInBounds_toArray, List.set_cons_succ, List.set_cons_zero]
  refine wpO9_pure rfl rfl ?_; go_big_quiet_step (fail); refine wpQuiet_nil ?_
  refine wpO9_nil (ad := ⟨b, 0, none⟩) rfl rfl rfl (by rfl) ?_
  simp only [Act.put, List.setIfInBounds_toArray, List.set_cons_succ, List.set_cons_zero]
  repeat (refine wpO9_pure rfl rfl ?_; go_big_quiet_step (fail); refine wpQuiet_nil ?_)
  refine wpO9_load (ad := ⟨b, 0, none⟩) (.int .i64 v) rfl rfl rfl (by rfl) LV ?_
  simp only [Act.put, List.setIfInBounds_toArray, List.set_cons_succ, List.set_cons_zero]
  refine wpO9_call (fun z => ∃ x, z = .tuple #[x, .int .i64 E]) (fun z V => Below w2.heap.size w2 V ∧ ∀ x, z = .tuple #[x, .int .i64 E] → Made w2 V L x) (f := 36) (args := #[.agg (mC M P C), .int .i64 v]) rfl rfl rfl (fun _ V h => h.1) (fun x => by first | rfl | (simp [go_sem]; done)) (fun V hV => (KE.out V hV).mono (fun e w' h => by
    obtain ⟨x, rfl, hm⟩ := h
    refine ⟨_, rfl, ⟨x, rfl⟩, hV.trans (hm.2.mono hV.size), fun y hy => ?_⟩
    injection hy with hy
    simp at hy
    subst hy
    exact hm.since hV)) ?_
  rintro z ⟨x, rfl⟩
  simp only [Act.put, List.setIfInBounds_toArray, List.set_cons_succ, List.set_cons_zero]
  repeat (refine wpO9_pure rfl rfl ?_; go_big_quiet_step (fail); refine wpQuiet_nil ?_)
  rintro w3 ⟨hb3, hm3⟩
  have HM3 := Lib.hid (hm3 x rfl)
  have HB3 := Lib.hid hb3
  clear hm3 hb3 KE LM LV
  simp only [List.drop_succ_cons, List.drop_zero]
  by_cases hE : E = 0
  · subst hE
    have c0 := HK.out w3 HB3.out
    go_wp2
    go_ret3
    exact ⟨x, rfl, HM3.out.since HB2.out⟩
  · have e1 : (E != 0) = true := by simpa using hE
    go_wp2
    go_ret3
    refine ⟨.slice none 0 0, rfl, ?_⟩
    rw [HNO.out hE]
    exact ⟨World.ownsRow_nil _ _ _ _, HB2.out.trans (HM3.out.2.mono HB2.out.size)⟩
set_option maxHeartbeats 4000000 in
theorem sunpack_any (k : Int) (A : Option Addr) (len cap : Nat) (zs : List Int) (b : Nat) (v : Int) (w : World) (hb : SAt w b v) (hlen : zs.length = len) (hll : len ≤ 1000000) (hby : Bys zs) (hA : Nums .u8 w w.heap.size A zs) :
    Calls Tryz.prog 19 #[.pointer (some ⟨b, 0, none⟩), .int .i64 k, .slice A len cap] w fun e w' => DecO w (bdec k v zs) e w' := by
  obtain ⟨w2, hw2⟩ : ∃ w2, w.alloc (.cells #[.int .i64 0, .int .i64 0, .int .i64 0, .int .i64 0, .int .i64 0, .int .i64 0, .int .i64 0, .slice none 0 0, .slice none 0 0, .string ⟨#[]⟩, .string ⟨#[]⟩] 26) = w2 := ⟨_, rfl⟩
  have hb2 : Below w.heap.size w w2 := by rw [← hw2]; exact (Below.refl _ w).alloc (Nat.le_refl _) _
  have q0 : w2.heap[w.heap.size]? = some (.cells (mC (Mg.zero 0) (.slice none 0 0) (.slice none 0 0)) 26 (0, 0)) := by rw [← hw2]; exact World.alloc_heap_new _ _
  have c2 := (hb.later hb2).cell
  have KD := Lib.hid (bdecode_own k v A len cap zs w2 hlen hll hby ((hA.below hb2).mono hb2.size))
  obtain ⟨⟨E, M⟩, hD⟩ : ∃ r, bdec k v zs = r := ⟨_, rfl⟩
  rw [hD] at KD ⊢
  have HW2 := Lib.hid hw2
  have HB2 := Lib.hid hb2
  have HQ := Lib.hid q0
  rw [← hw2] at c2
  clear hw2 hb2 q0 hb hA hlen hll hby hD
  go_enter Tryz.func19, Tryz.ntmps19
  go_wp2_with fail
  rw [HW2.out]
  refine KD.out.mono ?_
  rintro e w3 ⟨P, C, rfl, hmx, hb3⟩
  have q3 := (hb3.block _ (Array.getElem?_eq_some_iff.1 HQ.out).1).trans HQ.out
  have hst := mg_store w3 w.heap.size _ (mC M P C) q3 rfl rfl (mg_oneV hmx.at)
  have hrow := setRow_heap w3 w.heap.size _ (mC M P C) _ _ q3
  have hoff := Off.setRow (S := fun q => q = w.heap.size) (Off.refl _ w3) rfl (mC M P C)
  obtain ⟨W4, hW4⟩ : ∃ W4, w3.setRow w.heap.size (mC M P C) = W4 := ⟨_, rfl⟩
  rw [hW4] at hst hrow hoff
  have hb23 := HB2.out.trans (hb3.mono HB2.out.size)
  have hbel : Below w.heap.size w W4 := hb23.trans (hoff.below (B := w.heap.size) (fun q hq => by omega) hb23.size)
  have hq2 : w.heap.size < w2.heap.size := (Array.getElem?_eq_some_iff.1 HQ.out).1
  have hm4 := hmx.off hoff (fun g hg e => by have := (hmx.p.lt g hg).1; omega) (fun g hg e => by have := (hmx.c.lt g hg).1; omega)
  have HST := Lib.hid hst
  have HRW := Lib.hid hrow
  have HBE := Lib.hid hbel
  have HM4 := Lib.hid (hm4.less (Nat.le_of_lt hq2))
  clear hm4 hmx hst hrow hoff hW4 hbel hb3 q3 c2 KD hb23
  simp only
  unfold mV
  go_wp2_with (refine wpList_store_run rfl 26 (.tmp 6) (.tmp 19) rfl (some ⟨w.heap.size, 0, none⟩) rfl (.agg (mC M P C)) rfl HST.out ?_)
  obtain ⟨y0, y1, y2, y3, y4, y5, y6, y7, y8, y9, y10⟩ := mg_block HRW.out
  refine bodyPost_ret (v := .tuple #[.agg (mC M P C), .int .i64 E]) (by simp [results, Tryz.results19, go_sem, y0, y1, y2, y3, y4, y5, y6, y7, y8, y9, y10, mC]) rfl ?_
  exact ⟨_, _, rfl, HM4.out, HBE.out⟩
end Go.Proofs.YtlbfibnfmijahaaGreat

namespace Go.Proofs.YtlbfibnfmijahaaGreat
open Go.RowKit Go.Shelf
set_option maxRecDepth 100000
attribute [local go_sem] Oper.semAt_some

section
variable {P : Program} {l : List Oper} {fs : List Tmp} {FS : Tmp → Value → World → Prop} {I : World → Prop} {E : Act → Prop} {o : Oper} {rest : List Oper} {a : Act}
/-- an operation that its guard passes over -/
theorem wpF_skipS (hn : noB l.toArray fs o = true) (hw : Region.wanted o (yielded l.toArray a.tmps) = false) (h : wpF P l.toArray I fs FS E rest (a.put o.dst undef)) : wpF P l.toArray I fs FS E (o :: rest) a := by
  obtain ⟨h1, h2⟩ := noB_spec hn
  exact ⟨undef, .inl ⟨h1, h2, .inr ⟨hw, rfl⟩⟩, h⟩
end
theorem sfit_any (M : Mg) (P C : Value) (v : Int) (w : World) (hs : Msm M) (h1 : MAt w w.heap.size M P C) : Calls Tryz.prog 27 #[mV M P C, .int .i64 v] w fun e w' => e = .returned (.bool (decide (mproj M v = M))) ∧ Below w.heap.size w w' := by
  obtain ⟨w2, hw2⟩ : ∃ w2, w.alloc (.cells (mC M P C) 26) = w2 := ⟨_, rfl⟩
  have hb2 : Below w.heap.size w w2 := by rw [← hw2]; exact (Below.refl _ w).alloc (Nat.le_refl _) _
  have q0 : w2.heap[w.heap.size]? = some (.cells (mC M P C) 26 (0, 0)) := by rw [← hw2]; exact World.alloc_heap_new _ _
  have hlt := (Array.getElem?_eq_some_iff.1 q0).1
  have LM : ∀ W, Below w2.heap.size w2 W → (Instr.loadAt 26 (.pointer (some ⟨w.heap.size, 0, none⟩))).run Tryz.prog W = .ok (.agg (mC M P C)) W := fun W hW => mg_read ((hW.block _ hlt).trans q0)
  have FM : ∀ W, Below w2.heap.size w2 W → FMs M (.agg (mC M P C)) W := fun W hW => ⟨P, C, rfl, (h1.later hb2).later hW⟩
  have HW2 := Lib.hid hw2
  have HB2 := Lib.hid hb2
  have hsP := mproj_small hs v
  clear hw2 hb2 q0 h1
  unfold mV
  go_enter Tryz.func27, Tryz.ntmps27
  go_wp2_with fail
  rw [HW2.out]
  refine wp_region_F 10 [8] (fun _ x W => FMs (mproj M v) x W) (fun W => Below w2.heap.size w2 W) (by kernel_rfl) (by kernel_rfl) (by rfl) (by simp) (fun W W' h hb => h.trans (hb.mono h.size)) (fun s x W W' h hb => h.later hb) (Below.refl _ _).drew ?_
  refine wpF_load (ad := ⟨w.heap.size, 0, none⟩) (.agg (mC M P C)) rfl (by rfl) (by rfl) (by rfl) LM ?_
  simp only [Act.put, List.setIfInBounds_toArray, List.set_cons_succ, List.set_cons_zero]
  refine wpF_load (ad := ⟨w.heap.size, 0, none⟩) (.agg (mC M P C)) rfl (by rfl) (by rfl) (by rfl) LM ?_
  simp only [Act.put, List.setIfInBounds_toArray, List.set_cons_succ, List.set_cons_zero]
  repeat (refine wpF_pure rfl rfl ?_; go_big_quiet_step (fail); refine wpQuiet_nil ?_)
  refine wpF_callsrc 8 (f := 32) (args := #[.agg (mC M P C), .int .i64 v]) (by simp) rfl rfl rfl (fun x => by first | rfl | (simp [go_sem]; done)) (fun W hW => proj_F v hs (FM W hW)) ?_
  simp only [Act.put, List.setIfInBounds_toArray, List.set_cons_succ, List.set_cons_zero]
  refine wpF_use 8 3 (f := 46) (fun x => #[.agg (mC M P C), x]) (.bool (decide (mproj M v = M))) (by simp) rfl (by kernel_rfl) (by kernel_rfl) (by kernel_rfl) (fun x => by rfl) (fun x W => by first | rfl | (simp [go_sem]; done)) (fun x W hW hx => by
    have := same_F hs (FM W hW) hx
    rwa [show decide (M = mproj M v) = decide (mproj M v = M) from decide_eq_decide.2 eq_comm] at this) ?_
  simp only [Act.put, List.setIfInBounds_toArray, List.set_cons_succ, List.set_cons_zero]
  repeat (refine wpF_pure rfl rfl ?_; go_big_quiet_step (fail); refine wpQuiet_nil ?_)
  intro xs w3 hb3 _
  have HF := Lib.hid (HB2.out.trans (hb3.mono HB2.out.size))
  clear LM FM hb3
  simp only [fill, Act.put, List.setIfInBounds_toArray, List.set_cons_succ, List.set_cons_zero]
  go_wp2
  go_ret
  exact ⟨rfl, HF.out⟩
set_option maxHeartbeats 2000000 in
theorem sfits_any (M : Mg) (P C : Value) (b : Nat) (v : Int) (w : World) (hs : Msm M) (h1 : MAt w w.heap.size M P C) (hb : SAt w b v) : Calls Tryz.prog 14 #[.pointer (some ⟨b, 0, none⟩), mV M P C] w fun e w' => e = .returned (.bool (mfits M v)) ∧ Below w.heap.size w w' := by
  obtain ⟨w2, hw2⟩ : ∃ w2, w.alloc (.cells (mC M P C) 26) = w2 := ⟨_, rfl⟩
  have hb2 : Below w.heap.size w w2 := by rw [← hw2]; exact (Below.refl _ w).alloc (Nat.le_refl _) _
  have q0 : w2.heap[w.heap.size]? = some (.cells (mC M P C) 26 (0, 0)) := by rw [← hw2]; exact World.alloc_heap_new _ _
  have hlt := (Array.getElem?_eq_some_iff.1 q0).1
  have hsb := hb.later hb2
  have LM : ∀ W, Below w2.heap.size w2 W → (Instr.loadAt 26 (.pointer (some ⟨w.heap.size, 0, none⟩))).run Tryz.prog W = .ok (.agg (mC M P C)) W := fun W hW => mg_read ((hW.block _ hlt).trans q0)
  have LV : ∀ W, Below w2.heap.size w2 W → (Instr.loadAt 3 (.pointer (some ⟨b, 0, none⟩))).run Tryz.prog W = .ok (.int .i64 v) W := fun W hW => by
    have k := (hsb.later hW).cell
    simp [Instr.loadAt, go_sem, k]
  have KC : ∀ W, Below w2.heap.size w2 W → Calls Tryz.prog 25 #[.agg (mC M P C)] W fun e w' => e = .returned (.int .i64 (mck M)) ∧ Below W.heap.size W w' := fun W hW => chk_F hs ⟨P, C, rfl, (h1.later hb2).later hW⟩
  have KF : ∀ W, Below w2.heap.size w2 W → Calls Tryz.prog 27 #[.agg (mC M P C), .int .i64 v] W fun e w' => e = .returned (.bool (decide (mproj M v = M))) ∧ Below W.heap.size W w' := fun W hW => sfit_any M P C v W hs ((h1.later hb2).later hW)
  have HW2 := Lib.hid hw2
  have HB2 := Lib.hid hb2
  clear hw2 hb2 q0 h1 hb hsb
  unfold mV mfits
  by_cases hE : mck M = 0
  · rw [hE] at KC
    rw [decide_eq_true hE, Bool.true_and]
    obtain ⟨D, hD⟩ : ∃ D, decide (mproj M v = M) = D := ⟨_, rfl⟩
    rw [hD] at KF ⊢
    go_enter Tryz.func14, Tryz.ntmps14
    go_wp2_with fail
    rw [HW2.out]
    refine wp_region_F 21 [] (fun _ _ _ => True) (fun W => Below w2.heap.size w2 W) (by kernel_rfl) (by kernel_rfl) (by rfl) (by simp) (fun W W' h hb => h.trans (hb.mono h.size)) (fun s x W W' h hb => trivial) (Below.refl _ _).drew ?_
    repeat (refine wpF_pure rfl rfl ?_; go_big_quiet_step (fail); refine wpQuiet_nil ?_)
    refine wpF_load (ad := ⟨w.heap.size, 0, none⟩) (.agg (mC M P C)) rfl (by rfl) (by rfl) (by rfl) LM ?_
    simp only [Act.put, List.setIfInBounds_toArray, List.set_cons_succ, List.set_cons_zero]
    refine wpF_call (f := 25) (args := #[.agg (mC M P C)]) (.int .i64 0) rfl rfl (fun x => by first | rfl | (simp [go_sem]; done)) KC ?_
    simp only [Act.put, List.setIfInBounds_toArray, List.set_cons_succ, List.set_cons_zero]
    repeat (refine wpF_pure rfl rfl ?_; go_big_quiet_step (fail); refine wpQuiet_nil ?_)
    refine wpF_load (ad := ⟨w.heap.size, 0, none⟩) (.agg (mC M P C)) rfl (by rfl) (by rfl) (by rfl) LM ?_
    simp only [Act.put, List.setIfInBounds_toArray, List.set_cons_succ, List.set_cons_zero]
    refine wpF_pure rfl rfl ?_; go_big_quiet_step (fail); refine wpQuiet_nil ?_
    refine wpF_nil (ad := ⟨b, 0, none⟩) rfl (by rfl) (by rfl) (by rfl) ?_
    simp only [Act.put, List.setIfInBounds_toArray, List.set_cons_succ, List.set_cons_zero]
    repeat (refine wpF_pure rfl rfl ?_; go_big_quiet_step (fail); refine wpQuiet_nil ?_)
    refine wpF_load (ad := ⟨b, 0, none⟩) (.int .i64 v) rfl (by rfl) (by rfl) (by rfl) LV ?_
    simp only [Act.put, List.setIfInBounds_toArray, List.set_cons_succ, List.set_cons_zero]
    refine wpF_call (f := 27) (args := #[.agg (mC M P C), .int .i64 v]) (.bool D) rfl rfl (fun x => by first | rfl | (simp [go_sem]; done)) KF ?_
    simp only [Act.put, List.setIfInBounds_toArray, List.set_cons_succ, List.set_cons_zero]
    repeat (refine wpF_pure rfl rfl ?_; go_big_quiet_step (fail); refine wpQuiet_nil ?_)
    intro xs w3 hb3 _
    have HF := Lib.hid (HB2.out.trans (hb3.mono HB2.out.size))
    clear LM LV KC KF hb3
    simp only [fill]
    go_wp2
    go_ret
    exact ⟨rfl, HF.out⟩
  · rw [decide_eq_false hE, Bool.false_and]
    obtain ⟨E, hEE⟩ : ∃ E, mck M = E := ⟨_, rfl⟩
    rw [hEE] at KC hE
    have e1 : (E == 0) = false := by simpa using hE
    clear hEE KF LV
    go_enter Tryz.func14, Tryz.ntmps14
    go_wp2_with fail
    rw [HW2.out]
    refine wp_region_F 21 [] (fun _ _ _ => True) (fun W => Below w2.heap.size w2 W) (by kernel_rfl) (by kernel_rfl) (by rfl) (by simp) (fun W W' h hb => h.trans (hb.mono h.size)) (fun s x W W' h hb => trivial) (Below.refl _ _).drew ?_
    repeat (refine wpF_pure rfl rfl ?_; go_big_quiet_step (fail); refine wpQuiet_nil ?_)
    refine wpF_load (ad := ⟨w.heap.size, 0, none⟩) (.agg (mC M P C)) rfl (by rfl) (by rfl) (by rfl) LM ?_
    simp only [Act.put, List.setIfInBounds_toArray, List.set_cons_succ, List.set_cons_zero]
    refine wpF_call (f := 25) (args := #[.agg (mC M P C)]) (.int .i64 E) rfl rfl (fun x => by first | rfl | (simp [go_sem]; done)) KC ?_
    simp only [Act.put, List.setIfInBounds_toArray, List.set_cons_succ, List.set_cons_zero]
    repeat (refine wpF_pure rfl rfl ?_; go_big_quiet_step (fail); refine wpQuiet_nil ?_)
    repeat (refine wpF_skipS rfl rfl ?_; simp only [Act.put, List.setIfInBounds_toArray, List.set_cons_succ, List.set_cons_zero])
    repeat (refine wpF_pure rfl rfl ?_; go_big_quiet_step (fail); refine wpQuiet_nil ?_)
    intro xs w3 hb3 _
    have HF := Lib.hid (HB2.out.trans (hb3.mono HB2.out.size))
    clear LM KC hb3
    simp only [fill]
    go_wp2
    go_ret
    exact ⟨rfl, HF.out⟩
end Go.Proofs.YtlbfibnfmijahaaGreat

namespace Go.Proofs.YtlbfibnfmijahaaGreat
open Go.RowKit
section
variable {P : Program} {l : List Oper} {vs : List Value} {fs : List Tmp} {FS : Tmp → Value → World → Prop} {Pr : Tmp → Value → Tmp → Value → Prop} {I : World → Prop} {a0 : Act}
/-- what an operation gives in this world, and what it is beside what was given ahead of it -/
def FpO (fs : List Tmp) (FS : Tmp → Value → World → Prop) (Pr : Tmp → Value → Tmp → Value → Prop) (o : Oper) (w : World) : Tmp → Value → World → Prop := fun d u W =>
  FS d u W ∧ (o.dst = some d → ∀ d' ∈ fs, d' ≠ d → ∀ x', FS d' x' w → Pr d u d' x' ∧ Pr d' x' d u)
def PrI (l : List Oper) (fs : List Tmp) (Pr : Tmp → Value → Tmp → Value → Prop) (listed : Array Bool) (b : Act) : Prop :=
  ∀ d ∈ fs, ∀ d' ∈ fs, d ≠ d' → (∃ (j : Nat) (o : Oper), l[j]? = some o ∧ listed.getD j true = true ∧ o.dst = some d) → (∃ (j : Nat) (o : Oper), l[j]? = some o ∧ listed.getD j true = true ∧ o.dst = some d') →
    ∀ x x', b.tmps[d]? = some x → b.tmps[d']? = some x' → Pr d x d' x'
/-- the walk in the text's order -/
def wpP (P : Program) (ops : Array Oper) (I : World → Prop) (fs : List Tmp) (FS : Tmp → Value → World → Prop) (Pr : Tmp → Value → Tmp → Value → Prop) (E : Act → Prop) : List Oper → Act → Prop
  | [], a => E a
  | o :: r, a => ∃ v, (∀ w, I w → Ob P ops (fun W => W = w) fs (FpO fs FS Pr o w) o v a) ∧ wpP P ops I fs FS Pr E r (a.put o.dst v)
theorem wpP_vals {ops : Array Oper} {E : Act → Prop} : ∀ (l : List Oper) (a : Act), wpP P ops I fs FS Pr E l a → ∃ vs : List Value, vs.length = l.length ∧
    (∀ (k : Nat) o v, l[k]? = some o → vs[k]? = some v → ∀ w, I w → Ob P ops (fun W => W = w) fs (FpO fs FS Pr o w) o v (lex l vs a k)) ∧ E (lex l vs a l.length)
  | [], a, h => ⟨[], rfl, by simp, h⟩
  | o :: r, a, ⟨v, hob, hr⟩ => by
    obtain ⟨vs, h1, h2, h3⟩ := wpP_vals r _ hr
    refine ⟨v :: vs, by simp [h1], fun k o' v' ho hv => ?_, h3⟩
    cases k with
    | zero =>
      simp only [List.getElem?_cons_zero, Option.some.injEq] at ho hv
      subst ho hv
      exact hob
    | succ k =>
      simp only [List.getElem?_cons_succ] at ho hv
      exact h2 k o' v' ho hv
theorem PrI.next {N : Nat} (hR : RG .any l.toArray N) (hN : N ≤ a0.tmps.size) (hlen : vs.length = l.length) {listed : Array Bool} {b : Act} {w : World} {i : Nat} {o : Oper} {u : Value} (h : Inv l vs fs FS I a0 listed b w) (hp : PrI l fs Pr listed b) (ho : l[i]? = some o) (_hun : listed.getD i true = false)
    (hu : ∀ d, o.dst = some d → d ∈ fs → ∀ d' ∈ fs, d' ≠ d → ∀ x', FS d' x' w → Pr d u d' x' ∧ Pr d' x' d u) : PrI l fs Pr (listed.setIfInBounds i true) (b.put o.dst u) := by
  have ho' : l.toArray[i]? = some o := by simpa using ho
  have key : ∀ d, (∃ (j : Nat) (oj : Oper), l[j]? = some oj ∧ (listed.setIfInBounds i true).getD j true = true ∧ oj.dst = some d) → (o.dst = some d) ∨ ((∃ (j : Nat) (oj : Oper), l[j]? = some oj ∧ listed.getD j true = true ∧ oj.dst = some d) ∧ o.dst ≠ some d) := by
    rintro d ⟨j, oj, hj, hlj, hd⟩
    by_cases hij : i = j
    · subst hij
      obtain rfl : o = oj := Option.some.inj (ho.symm.trans hj)
      exact .inl hd
    · rw [getD_set_far _ hij] at hlj
      exact .inr ⟨⟨j, oj, hj, hlj, hd⟩, hR.once i j o oj d ho' (by simpa using hj) hd hij⟩
  have got : ∀ d ∈ fs, (∃ (j : Nat) (oj : Oper), l[j]? = some oj ∧ listed.getD j true = true ∧ oj.dst = some d) → ∀ x, b.tmps[d]? = some x → FS d x w := by
    rintro d hd ⟨j, oj, hj, hlj, hdj⟩ x hx
    obtain ⟨v, hv⟩ : ∃ v, vs[j]? = some v := ⟨_, List.getElem?_eq_getElem (by rw [hlen]; exact (List.getElem?_eq_some_iff.1 hj).1)⟩
    obtain ⟨y, hy, hf⟩ := (h.ins j oj d v hj hlj hdj hv).1 hd
    obtain rfl : x = y := Option.some.inj (hx.symm.trans hy)
    exact hf
  have same : ∀ d x, o.dst = some d → (b.put o.dst u).tmps[d]? = some x → x = u := fun d x hd hx => by
    have hlt : d < b.tmps.size := by rw [h.size]; exact Nat.lt_of_lt_of_le (hR.small i o d ho' hd) hN
    rw [hd, put_same u hlt] at hx
    exact (Option.some.inj hx).symm
  intro d hd d' hd' hne h1 h2 x x' hx hx'
  rcases key d h1 with e1 | ⟨h1, e1⟩
  · rcases key d' h2 with e2 | ⟨h2, e2⟩
    · exact absurd (Option.some.inj (e1.symm.trans e2)) hne
    · rw [put_other u e2] at hx'
      obtain rfl := same d x e1 hx
      exact (hu d e1 hd d' hd' (Ne.symm hne) x' (got d' hd' h2 x' hx')).1
  · rcases key d' h2 with e2 | ⟨h2, e2⟩
    · rw [put_other u e1] at hx
      obtain rfl := same d' x' e2 hx'
      exact (hu d' e2 hd' d hd hne x (got d hd h1 x hx)).2
    · rw [put_other u e1] at hx
      rw [put_other u e2] at hx'
      exact hp d hd d' hd' hne h1 h2 x x' hx hx'

theorem any_of_FTP {N n : Nat} {Q' : Exit → Act → World → Prop} (hR : RG .any l.toArray N) (hN : N ≤ a0.tmps.size) (hlen : vs.length = l.length) (hI : Closed I) (hF : ∀ s x w w', FS s x w → Below w.heap.size w w' → FS s x w')
    (hob : ∀ (j : Nat) o v, j < n → l[j]? = some o → vs[j]? = some v → ∀ w, I w → Ob P l.toArray (fun W => W = w) fs (FpO fs FS Pr o w) o v (lex l vs a0 j)) (hn : n < l.length) (hs : Region.sinkB .any l.toArray n = true) (hc : Region.chainB .any l.toArray n = true)
    (hQ : ∀ (listed : Array Bool) b w, (∀ j, j < n → listed.getD j true = true) → (∀ t, n ≤ t → t < l.length → listed.getD t true = false) → Inv l vs fs FS I a0 listed b w → PrI l fs Pr listed b → wpAny P .any l.toArray Q' (l.length - n) listed b w) :
    ∀ (f : Nat) (listed : Array Bool) (b : Act) (w : World), (listed.toList.take n).count false = f → HeadInv .any l.toArray n listed → Inv l vs fs FS I a0 listed b w → PrI l fs Pr listed b → wpAny P .any l.toArray Q' (f + (l.length - n)) listed b w
  | 0, listed, b, w, hcn, hh, h, hpr => by
    rw [Nat.zero_add]
    exact hQ listed b w (fun j hj => count_take_zero hcn j hj) (fun t h1 h2 => hh.tail t h1 (by simpa using h2)) h hpr
  | f + 1, listed, b, w, hcn, hh, h, hpr => by
    obtain ⟨i0, hi0, hu0⟩ := count_take_pos hcn
    rw [show f + 1 + (l.length - n) = (f + (l.length - n)) + 1 by omega]
    refine ⟨fun h0 => ?_, fun i hi => ?_⟩
    · have hall := ready_all hR h.lsize h0
      rw [hall i0] at hu0
      cases hu0
    have hin : i < n := by
      rcases Nat.lt_or_ge i n with h1 | h1
      · exact h1
      · exact absurd hi (tail_waits hs hc (by simpa using hn) hh _ i0 rfl hi0 hu0 i h1)
    obtain ⟨hun, o, ho, hall⟩ := mem_ready.1 hi
    have ho2 : l[i]? = some o := by simpa using ho
    have hp : ∀ e ∈ o.after, Region.binds .any e = true → listed.getD e.on true = true := fun e he hb => by
      have h1 := hall e he hb
      rw [Array.getD_eq_getD_getElem?] at h1 ⊢
      cases hx : listed[e.on]? with
      | none => rfl
      | some y => rw [hx] at h1; simpa using h1
    obtain ⟨v, hv⟩ : ∃ v, vs[i]? = some v := ⟨_, List.getElem?_eq_getElem (by rw [hlen]; exact (List.getElem?_eq_some_iff.1 ho2).1)⟩
    have hcnt := count_take hin hun
    have h' : Inv l vs fs (FpO fs FS Pr o w) (fun W => W = w) a0 listed b w := ⟨rfl, h.size, h.defers, h.out, fun j oj d v hj hlj hdj hv => by
      obtain ⟨g1, g2⟩ := h.ins j oj d v hj hlj hdj hv
      refine ⟨fun hd => ?_, g2⟩
      obtain ⟨x, hx, hf⟩ := g1 hd
      refine ⟨x, hx, hf, fun e => ?_⟩
      have hij : i ≠ j := fun e2 => by subst e2; rw [hun] at hlj; cases hlj
      exact absurd e (hR.once i j o oj d ho (by simpa using hj) hdj hij), h.down, h.lsize⟩
    exact op_of_F hR hN hlen h' ho2 hun hp hv (hob i o v hin ho2 hv w h.cls) fun u w' hb hu =>
      any_of_FTP hR hN hlen hI hF hob hn hs hc hQ f _ _ w' (by omega) (hh.set hi hin) (h.next hR hN hI hF ho2 hp hb fun d hd => ⟨fun hf => ((hu d hd).1 hf).1, (hu d hd).2⟩)
        (hpr.next hR hN hlen h ho2 hun fun d hd hf => ((hu d hd).1 hf).2 hd)
/-- ONE WALK IN THE TEXT's ORDER SERVES EVERY ORDER; the tail, behind place n, as it stands; what sources have given is known pair by pair -/
theorem wp_region_FTP {id : Nat} {Q : Exit → Act → World → Prop} {a : Act} {w : World} {l : List Oper} (N n : Nat) (fs : List Tmp) (FS : Tmp → Value → World → Prop) (Pr : Tmp → Value → Tmp → Value → Prop) (I : World → Prop) (hm : P.follows .mixedOrders = true) (hB : rgB .any l.toArray N = true)
    (hn : decide (n < l.length) = true) (hs : Region.sinkB .any l.toArray n = true) (hc : Region.chainB .any l.toArray n = true)
    (hq : Region.seqB .any l.toArray (l.length - n) n (List.replicate n true ++ List.replicate (l.length - n) false).toArray = true)
    (hfs : (fs.all fun s => (l.take n).any fun o => o.dst == some s) = true) (hN : N ≤ a.tmps.size) (hI : Closed I) (hF : ∀ s x w w', FS s x w → Below w.heap.size w w' → FS s x w') (hC : I w.drew)
    (h : wpP P l.toArray I fs FS Pr (fun a' => ∀ xs w', I w' → (∀ s ∈ fs, FS s (xs s) w') → (∀ s ∈ fs, ∀ s' ∈ fs, s ≠ s' → Pr s (xs s) s' (xs s')) → wpList P l.toArray Q (l.drop n) (fill fs xs a') w') (l.take n) a) : (Code.region id l.toArray true).wp P Q a w := by
  have hR := rgB_spec hB
  have hn' : n < l.length := by simpa using hn
  obtain ⟨vs0, hlen0, hob0, hE0⟩ := wpP_vals (l.take n) a h
  have htl : (l.take n).length = n := by rw [List.length_take]; omega
  rw [htl] at hlen0 hE0
  obtain ⟨vs, hvs⟩ : ∃ vs, vs0 ++ List.replicate (l.length - n) undef = vs := ⟨_, rfl⟩
  have hlen : vs.length = l.length := by rw [← hvs, List.length_append, List.length_replicate]; omega
  have hlex : ∀ j, j ≤ n → lex (l.take n) vs0 a j = lex l vs a j := fun j hj => by rw [← hvs]; exact lex_take l vs0 _ a n j hj (by rw [hlen0, htl])
  have hob : ∀ (j : Nat) o v, j < n → l[j]? = some o → vs[j]? = some v → ∀ w, I w → Ob P l.toArray (fun W => W = w) fs (FpO fs FS Pr o w) o v (lex l vs a j) := fun j o v hj ho hv => by
    rw [← hlex j (by omega)]
    refine hob0 j o v (by rw [List.getElem?_take, if_pos hj]; exact ho) ?_
    rw [← hvs, List.getElem?_append_left (by omega)] at hv
    exact hv
  rw [hlex n (Nat.le_refl _)] at hE0
  have inv0 : HeadInv .any l.toArray n (Array.replicate l.toArray.size false) :=
    ⟨by simp, fun j oj _ hl => (by rw [getD_replicate_false] at hl; cases hl), fun t _ ht => getD_in (by simpa using ht) (getD_replicate_false _ _)⟩
  refine wp_region_any hm ?_
  have key := any_of_FTP (Q' := Q) (l := l) (vs := vs) (fs := fs) (FS := FS) (Pr := Pr) (I := I) (a0 := a) (n := n) hR hN hlen hI hF hob hn' hs hc ?_ n (Array.replicate l.toArray.size false) a w.drew (by
      simp only [List.size_toArray, Array.toList_replicate, List.take_replicate, List.count_replicate_self]; omega) inv0 ?_ ?_
  · rw [show n + (l.length - n) = l.toArray.size by simp; omega] at key
    exact key
  · intro listed b W hall hno hinv hpr
    have hls : ∀ s ∈ fs, ∃ (j : Nat) (o : Oper), l[j]? = some o ∧ listed.getD j true = true ∧ o.dst = some s := fun s hs => by
      rw [List.all_eq_true] at hfs
      have h1 := hfs s hs
      rw [List.any_eq_true] at h1
      obtain ⟨o, ho, hd⟩ := h1
      obtain ⟨j, hj, rfl⟩ := List.getElem_of_mem ho
      have hj1 : j < n := by rw [List.length_take] at hj; omega
      have hj2 : j < l.length := by omega
      exact ⟨j, l[j], List.getElem?_eq_getElem hj2, hall j hj1, by simpa using hd⟩
    have hw : ∀ s ∈ fs, ∃ x, b.tmps[s]? = some x ∧ FS s x W := fun s hs => by
      rw [List.all_eq_true] at hfs
      have h1 := hfs s hs
      rw [List.any_eq_true] at h1
      obtain ⟨o, ho, hd⟩ := h1
      obtain ⟨j, hj, rfl⟩ := List.getElem_of_mem ho
      have hj1 : j < n := by rw [List.length_take] at hj; omega
      have hj2 : j < l.length := by omega
      have hd' : (l[j]).dst = some s := by simpa using hd
      obtain ⟨v, hv⟩ : ∃ v, vs[j]? = some v := ⟨_, List.getElem?_eq_getElem (by rw [hlen]; exact hj2)⟩
      exact (hinv.ins j l[j] s v (List.getElem?_eq_getElem hj2) (hall j hj1) hd' hv).1 hs
    have hb : b = fill fs (fun s => b.tmps.getD s undef) (lex l vs a n) := by
      have ht : b.tmps = (fill fs (fun s => b.tmps.getD s undef) (lex l vs a n)).tmps := by
        apply Array.ext_getElem?
        intro d
        by_cases hd : d ∈ fs
        · obtain ⟨x, hx, _⟩ := hw d hd
          have hlt : d < (lex l vs a n).tmps.size := by
            rw [(lex_size l vs a n).1, ← hinv.size]
            exact (Array.getElem?_eq_some_iff.1 hx).1
          rw [fill_in fs _ _ d hd hlt, hx]
          simp [hx]
        · rw [fill_out fs _ _ d hd]
          by_cases hwr : ∃ (j : Nat) (oj : Oper), j < n ∧ l[j]? = some oj ∧ oj.dst = some d
          · obtain ⟨j, oj, hjn, hj, hdj⟩ := hwr
            obtain ⟨v, hv⟩ : ∃ v, vs[j]? = some v := ⟨_, List.getElem?_eq_getElem (by rw [hlen]; exact (List.getElem?_eq_some_iff.1 hj).1)⟩
            have hj' : l.toArray[j]? = some oj := by simpa using hj
            rw [(hinv.ins j oj d v hj (hall j hjn) hdj hv).2 hd]
            exact (lex_in l vs a n j oj d v hj hjn hv hdj (Nat.lt_of_lt_of_le (hR.small _ _ _ hj' hdj) hN) fun i oi hi _ hne => hR.once i j oi oj d (by simpa using hi) hj' hdj hne).symm
          · rw [lex_out l vs a n d fun i oi hi hin hdi => hwr ⟨i, oi, hin, hi, hdi⟩]
            refine hinv.out d fun i oi hi hli hdi => hwr ⟨i, oi, ?_, hi, hdi⟩
            rcases Nat.lt_or_ge i n with h1 | h1
            · exact h1
            · rw [hno i h1 (List.getElem?_eq_some_iff.1 hi).1] at hli; cases hli
      have hd : b.defers = (fill fs (fun s => b.tmps.getD s undef) (lex l vs a n)).defers := by
        rw [(fill_size ..).2, (lex_size ..).2]
        exact hinv.defers
      cases b
      simp only at ht hd
      rw [Act.mk.injEq]
      exact ⟨ht, hd⟩
    have hL : listed = (List.replicate n true ++ List.replicate (l.length - n) false).toArray := by
      apply Array.ext
      · simp [hinv.lsize]; omega
      · intro j h1 h2
        have hj : j < l.length := by rw [← hinv.lsize]; exact h1
        by_cases hjn : j < n
        · have h3 := hall j hjn
          rw [Array.getD_eq_getD_getElem?, Array.getElem?_eq_getElem h1] at h3
          simp only [List.getElem_toArray]
          rw [List.getElem_append_left (by simpa using hjn)]
          simpa using h3
        · have h3 := hno j (by omega) hj
          rw [Array.getD_eq_getD_getElem?, Array.getElem?_eq_getElem h1] at h3
          simp only [List.getElem_toArray]
          rw [List.getElem_append_right (by simpa using Nat.le_of_not_lt hjn)]
          simpa using h3
    have hE := hE0 (fun s => b.tmps.getD s undef) W hinv.cls fun s hs => by
      obtain ⟨x, hx, hf⟩ := hw s hs
      simpa [hx] using hf
    have hE := hE fun s hs s' hs' hne => by
      obtain ⟨x, hx, _⟩ := hw s hs
      obtain ⟨x', hx', _⟩ := hw s' hs'
      have := hpr s hs s' hs' hne (hls s hs) (hls s' hs') x x' hx hx'
      simpa [hx, hx'] using this
    rw [← hb] at hE
    have := wpAny_of_seq (md := .any) (Q' := Q) (l.drop n) n listed b W (fun j => by simp [List.getElem?_drop]) (by rw [List.length_drop, hL]; exact hq) hE
    rwa [List.length_drop] at this
  · refine ⟨hC, rfl, rfl, fun _ _ => rfl, fun j o d v hj hlj => ?_, fun j o hj hlj => ?_, by simp⟩
    all_goals
      have hlt := (List.getElem?_eq_some_iff.1 hj).1
      rw [Array.getD_eq_getD_getElem?] at hlj
      simp [hlt] at hlj
  · rintro d _ d' _ _ ⟨j, o, hj, hlj, _⟩
    have hlt := (List.getElem?_eq_some_iff.1 hj).1
    rw [Array.getD_eq_getD_getElem?] at hlj
    simp [hlt] at hlj
end
/-! one operation of the walk -/
section
variable {P : Program} {l : List Oper} {fs : List Tmp} {FS : Tmp → Value → World → Prop} {Pr : Tmp → Value → Tmp → Value → Prop} {I : World → Prop} {E : Act → Prop} {o : Oper} {rest : List Oper} {a : Act}
def noSrcB (o : Oper) (fs : List Tmp) : Bool := match o.dst with | some d => !fs.contains d | none => true
/-- one that is no source: as in XQ6's walk -/
theorem wpP_F (hd : noSrcB o fs = true) (h : wpF P l.toArray I fs FS (fun a' => wpP P l.toArray I fs FS Pr E rest a') [o] a) : wpP P l.toArray I fs FS Pr E (o :: rest) a := by
  obtain ⟨v, hob, hr⟩ := h
  have hno : ∀ d, o.dst = some d → d ∉ fs := fun d hd' => by
    unfold noSrcB at hd
    rw [hd'] at hd
    simpa using hd
  refine ⟨v, fun w hI => ?_, hr⟩
  rcases hob with ⟨h1, h2, hcalm⟩ | ⟨s, hs, hds, h1, hwt, hsrc⟩ | ⟨s, hs, hj, h1, h2, huse⟩ | ⟨s, R, hs, hds, hRs, h1, hmix⟩
  · refine .inl ⟨h1, h2, ?_⟩
    rcases hcalm with ⟨hw, hv⟩ | hw
    · exact .inl ⟨hw, fun w' e => by subst e; exact hv _ hI⟩
    · exact .inr hw
  · exact absurd hs (hno s hds)
  · exact .inr (.inr (.inl ⟨s, hs, hj, h1, h2, fun x w' e hx => by subst e; exact huse x _ hI hx.1⟩))
  · exact absurd hs (hno s hds)
theorem wpF_end {ops : Array Oper} {E : Act → Prop} (h : E a) : wpF P ops I fs FS E [] a := h
/-- a source -/
theorem wpP_src (s : Tmp) (hs : s ∈ fs) (hd : o.dst = some s) (hn : ((o.looksAt l.toArray).all fun d => !fs.contains d) = true) (hw : Region.wanted o (yielded l.toArray a.tmps) = true)
    (hrun : ∀ w, I w → srcUpon P (fun u W => FS s u W ∧ ∀ d' ∈ fs, d' ≠ s → ∀ x', FS d' x' w → Pr s u d' x' ∧ Pr d' x' s u) w ((execOp a.eval o).run P w))
    (h : wpP P l.toArray I fs FS Pr E rest (a.put o.dst undef)) : wpP P l.toArray I fs FS Pr E (o :: rest) a := by
  refine ⟨undef, fun w hI => .inr (.inl ⟨s, hs, hd, fun d hd' hf => ?_, hw, fun w' e => ?_⟩), h⟩
  · rw [List.all_eq_true] at hn
    have := hn d hd'
    simp at this
    exact this hf
  · subst e
    have h3 := hrun w' hI
    generalize (execOp a.eval o).run P w' = r at h3
    cases r with
    | ok n w2 =>
      cases n <;> simp only [srcUpon] at h3 ⊢
      case value u => exact ⟨⟨h3.1.1, fun _ => h3.1.2⟩, h3.2⟩
      case enter f args =>
        obtain ⟨rfl, hcc⟩ := h3
        exact ⟨rfl, hcc.mono fun e w'' ⟨u, he, hf, hb⟩ => ⟨u, he, ⟨hf.1, fun _ => hf.2⟩, hb⟩⟩
    | halt x w2 => simp only [srcUpon] at h3
/-- .. that makes memory -/
theorem wpP_new (s : Tmp) (hs : s ∈ fs) (hd : o.dst = some s) (hn : ((o.looksAt l.toArray).all fun d => !fs.contains d) = true) (hw : Region.wanted o (yielded l.toArray a.tmps) = true)
    (hrun : ∀ w, I w → ∃ u w', (execOp a.eval o).run P w = .ok (.value u) w' ∧ FS s u w' ∧ Below w.heap.size w w' ∧ ∀ d' ∈ fs, d' ≠ s → ∀ x', FS d' x' w → Pr s u d' x' ∧ Pr d' x' s u)
    (h : wpP P l.toArray I fs FS Pr E rest (a.put o.dst undef)) : wpP P l.toArray I fs FS Pr E (o :: rest) a :=
  wpP_src s hs hd hn hw (fun w hI => by
    obtain ⟨u, w', hr, h1, h2, h3⟩ := hrun w hI
    rw [hr]
    exact ⟨⟨h1, h3⟩, h2⟩) h
/-- .. that is a call -/
theorem wpP_callsrc (s : Tmp) {f : FuncId} {args : Array Value} (hs : s ∈ fs) (hd : o.dst = some s) (hn : ((o.looksAt l.toArray).all fun d => !fs.contains d) = true) (hw : Region.wanted o (yielded l.toArray a.tmps) = true)
    (hrun : ∀ w, (execOp a.eval o).run P w = .ok (.enter f args) w) (hc : ∀ w, I w → Calls P f args w fun e w'' => ∃ u, e = .returned u ∧ FS s u w'' ∧ Below w.heap.size w w'')
    (hpr : ∀ u, ∀ d' ∈ fs, d' ≠ s → ∀ x', Pr s u d' x' ∧ Pr d' x' s u)
    (h : wpP P l.toArray I fs FS Pr E rest (a.put o.dst undef)) : wpP P l.toArray I fs FS Pr E (o :: rest) a :=
  wpP_src s hs hd hn hw (fun w hI => by
    rw [hrun w]
    exact ⟨rfl, (hc w hI).mono fun e w'' ⟨u, he, hf, hb⟩ => ⟨u, he, ⟨hf, fun d' h1 h2 x' _ => hpr u d' h1 h2 x'⟩, hb⟩⟩) h
end
end Go.Proofs.YtlbfibnfmijahaaGreat
