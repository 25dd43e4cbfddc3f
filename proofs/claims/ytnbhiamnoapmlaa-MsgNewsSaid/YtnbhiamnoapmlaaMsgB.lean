/-
  Messages in memory. Contracts of layer 17's Same and of the document's Same of such values.
-/
import Derived.Test.YtnbhiamnoapmlaaMsgE
namespace Go.Proofs.Ytnbhiamnoapmlaa
open Go.RowKit Go.Shelf
set_option maxRecDepth 100000
attribute [local go_sem] Oper.semAt_some

/-- a message's cells, its lists' slices given -/
def mC (M : Mg) (P C : Value) : Array Value := #[.int .i64 M.k, .int .i64 M.n0, .int .i64 M.n1, .int .i64 M.n2, .int .i64 M.n3, .int .i64 M.n4, .int .i64 M.n5, P, C, .string M.tx, .string M.tg]
def mV (M : Mg) (P C : Value) : Value := .agg (mC M P C)
/-- its lists lie below B -/
structure MAt (w : World) (B : Nat) (M : Mg) (P C : Value) : Prop where
  p : ∃ a c, P = .slice a M.p.length c ∧ M.p.length ≤ c ∧ Nums .i64 w B a (fl2 M.p)
  c : ∃ a c, C = .slice a M.c.length c ∧ M.c.length ≤ c ∧ Nums .i64 w B a M.c
/-- it isn't large -/
structure Msm (M : Mg) : Prop where
  p : M.p.length ≤ 40
  c : M.c.length ≤ 40
  tx : M.tx.size ≤ 80
  tg : M.tg.size ≤ 80
section
variable {w w' : World} {B B' : Nat} {M : Mg} {P C : Value}
theorem MAt.below (h : MAt w B M P C) (hb : Below B w w') : MAt w' B M P C := by
  obtain ⟨⟨a, c, h1, h2, h3⟩, ⟨a', c', h4, h5, h6⟩⟩ := h
  exact ⟨⟨a, c, h1, h2, h3.below hb⟩, ⟨a', c', h4, h5, h6.below hb⟩⟩
theorem MAt.mono (h : MAt w B M P C) (hB : B ≤ B') : MAt w B' M P C := by
  obtain ⟨⟨a, c, h1, h2, h3⟩, ⟨a', c', h4, h5, h6⟩⟩ := h
  exact ⟨⟨a, c, h1, h2, h3.mono hB⟩, ⟨a', c', h4, h5, h6.mono hB⟩⟩
theorem MAt.later (h : MAt w w.heap.size M P C) (hb : Below w.heap.size w w') : MAt w' w'.heap.size M P C := (h.below hb).mono hb.size
end

theorem row_cell {w : World} {b : Nat} {cs : Array Value} {t : TypeId} (h : w.heap[b]? = some (.cells cs t (0, 0))) (j : Nat) (x : Value) (hx : cs[j]? = some x) : w.cell? ⟨b, j, none⟩ = some x := by simp [World.cell?, h, hx]
theorem below_of_drewN {B : Nat} (w : World) (n : Nat) : Below B w (w.drewN n) := below_drewN (Below.refl B w) n
set_option maxHeartbeats 4000000 in
theorem msame_any (M M' : Mg) (P C P' C' : Value) (w : World) (hs : Msm M) (h1 : MAt w w.heap.size M P C) (h2 : MAt w w.heap.size M' P' C') :
    Calls Try.prog 14 #[mV M P C, mV M' P' C'] w fun e w' => e = .returned (.bool (decide (M = M'))) ∧ Below w.heap.size w w' := by
  obtain ⟨w2, hw2⟩ : ∃ w2, w2 = (w.alloc (.cells (mC M P C) 26)).alloc (.cells (mC M' P' C') 26) := ⟨_, rfl⟩
  have hb2 : Below w.heap.size w w2 := by rw [hw2]; exact ((Below.refl _ w).alloc (Nat.le_refl _) _).alloc (by simp) _
  have HW := Lib.hid hw2
  have g1 := (h1.below hb2).mono hb2.size
  have g2 := (h2.below hb2).mono hb2.size
  obtain ⟨k, n0, n1, n2, n3, n4, n5, p, c, tx, tg⟩ := M
  obtain ⟨k', n0', n1', n2', n3', n4', n5', p', c', tx', tg'⟩ := M'
  obtain ⟨⟨a, cp, rfl, hcp, ha⟩, ⟨b, cb, rfl, hcb, hb⟩⟩ := g1
  obtain ⟨⟨a', cp', rfl, hcp', ha'⟩, ⟨b', cb', rfl, hcb', hb'⟩⟩ := g2
  dsimp only at *
  have hl1 := hs.p
  have hl2 := hs.c
  dsimp only at hl1 hl2
  obtain ⟨np, hnp⟩ : ∃ np, p.length = np := ⟨_, rfl⟩
  obtain ⟨nc, hnc⟩ : ∃ nc, c.length = nc := ⟨_, rfl⟩
  obtain ⟨np', hnp'⟩ : ∃ np', p'.length = np' := ⟨_, rfl⟩
  obtain ⟨nc', hnc'⟩ : ∃ nc', c'.length = nc' := ⟨_, rfl⟩
  rw [hnp] at hcp hl1
  rw [hnc] at hcb hl2
  rw [hnp'] at hcp'
  rw [hnc'] at hcb'
  have KP := Lib.hid (eqp_any w2.heap.size a a' np np' cp cp' p p' w2 hnp hnp' (by omega) ha ha')
  have KC := fun W (hW : Below w2.heap.size w2 W) => eqi_any w2.heap.size b b' nc nc' cb cb' c c' W hnc hnc' (by omega) (hb.below hW) (hb'.below hW)
  obtain ⟨DC, hDC⟩ : ∃ DC, decide (c = c') = DC := ⟨_, rfl⟩
  rw [hDC] at KC
  have KC := Lib.hid KC
  unfold mV
  unfold mC at HW ⊢
  dsimp only at HW ⊢
  rw [hnp, hnc, hnp', hnc'] at HW ⊢
  clear hw2 h1 h2 hb2 ha ha' hb hb' hs hnp hnc hnp' hnc'
  have hfin : ∀ W, Below w2.heap.size w2 W → Hid (Below w.heap.size w W) := fun W hW => by
    have hb2 : Below w.heap.size w w2 := by rw [HW.out]; exact ((Below.refl _ w).alloc (Nat.le_refl _) _).alloc (by simp) _
    exact Lib.hid (hb2.trans (hW.mono hb2.size))
  obtain ⟨D, hD⟩ : ∃ D, decide ((⟨k, n0, n1, n2, n3, n4, n5, p, c, tx, tg⟩ : Mg) = ⟨k', n0', n1', n2', n3', n4', n5', p', c', tx', tg'⟩) = D := ⟨_, rfl⟩
  rw [hD]
  by_cases hk : k = k'
  case neg =>
    have hk1 : (k == k') = false := by simpa using hk
    obtain rfl : D = false := by rw [← hD, decide_eq_false (fun e => hk (congrArg Mg.k e))]
    have HB := hfin w2 (Below.refl _ _)
    rw [HW.out] at HB
    clear hD KP KC hfin HW
    go_enter Try.func14, Try.ntmps14
    go_wp2
    go_ret
    exact ⟨rfl, HB.out⟩
  subst hk
  by_cases hN : [n0, n1, n2, n3, n4, n5] = [n0', n1', n2', n3', n4', n5']
  case neg =>
    have he : ∀ W, (binOp .eql 22 (.agg #[.int .i64 n0, .int .i64 n1, .int .i64 n2, .int .i64 n3, .int .i64 n4, .int .i64 n5]) (.agg #[.int .i64 n0', .int .i64 n1', .int .i64 n2', .int .i64 n3', .int .i64 n4', .int .i64 n5'])).run Try.prog W = .ok (.bool false) W := fun W => by rw [eql_six, decide_eq_false hN]
    obtain rfl : D = false := by
      rw [← hD, decide_eq_false (fun e => hN (by injection e with e0 e1 e2 e3 e4 e5 e6; rw [e1, e2, e3, e4, e5, e6]))]
    have HB := hfin w2 (Below.refl _ _)
    rw [HW.out] at HB
    clear hD KP KC hfin HW hN
    go_enter Try.func14, Try.ntmps14
    go_wp2
    go_ret
    exact ⟨rfl, HB.out⟩
  simp only [List.cons.injEq, and_true] at hN
  obtain ⟨rfl, rfl, rfl, rfl, rfl, rfl⟩ := hN
  have he : ∀ W, (binOp .eql 22 (.agg #[.int .i64 n0, .int .i64 n1, .int .i64 n2, .int .i64 n3, .int .i64 n4, .int .i64 n5]) (.agg #[.int .i64 n0, .int .i64 n1, .int .i64 n2, .int .i64 n3, .int .i64 n4, .int .i64 n5])).run Try.prog W = .ok (.bool true) W := fun W => by rw [eql_six, decide_eq_true rfl]
  have q1 : w2.heap[w.heap.size]? = some (.cells #[.int .i64 k, .int .i64 n0, .int .i64 n1, .int .i64 n2, .int .i64 n3, .int .i64 n4, .int .i64 n5, .slice a np cp, .slice b nc cb, .string tx, .string tg] 26 (0, 0)) := by
    rw [HW.out, Below.heap_alloc _ _ _ (by simp)]; exact World.alloc_heap_new _ _
  have q2 : w2.heap[w.heap.size + 1]? = some (.cells #[.int .i64 k, .int .i64 n0, .int .i64 n1, .int .i64 n2, .int .i64 n3, .int .i64 n4, .int .i64 n5, .slice a' np' cp', .slice b' nc' cb', .string tx', .string tg'] 26 (0, 0)) := by
    rw [HW.out, show w.heap.size + 1 = (w.alloc (.cells #[.int .i64 k, .int .i64 n0, .int .i64 n1, .int .i64 n2, .int .i64 n3, .int .i64 n4, .int .i64 n5, .slice a np cp, .slice b nc cb, .string tx, .string tg] 26)).heap.size by simp]; exact World.alloc_heap_new _ _
  have k1 := fun j x hx => row_cell q1 j x hx
  have k2 := fun j x hx => row_cell q2 j x hx
  have c8 := k1 8 _ rfl; have c9 := k1 9 _ rfl; have c10 := k1 10 _ rfl
  have d8 := k2 8 _ rfl; have d9 := k2 9 _ rfl; have d10 := k2 10 _ rfl
  clear k1 k2 q1 q2
  by_cases hp : p = p'
  case neg =>
    rw [decide_eq_false hp] at KP
    obtain rfl : D = false := by rw [← hD, decide_eq_false (fun e => hp (congrArg Mg.p e))]
    clear hD KC hp hDC
    go_enter Try.func14, Try.ntmps14
    go_wp2_with fail
    rw [← HW.out]
    refine KP.out.mono ?_
    rintro e W1 ⟨rfl, m1, rfl⟩
    go_wp2
    go_ret
    exact ⟨rfl, (hfin _ (below_of_drewN _ _)).out⟩
  rw [decide_eq_true hp] at KP
  subst hp
  by_cases hc : c = c'
  case neg =>
    obtain rfl : DC = false := by rw [← hDC, decide_eq_false hc]
    obtain rfl : D = false := by rw [← hD, decide_eq_false (fun e => hc (congrArg Mg.c e))]
    clear hD hc hDC
    go_enter Try.func14, Try.ntmps14
    go_wp2_with fail
    rw [← HW.out]
    refine KP.out.mono ?_
    rintro e W1 ⟨rfl, m1, rfl⟩
    go_wp2_with fail
    refine (KC.out _ (below_of_drewN _ _)).mono ?_
    rintro e W2 ⟨rfl, m2, rfl⟩
    go_wp2
    go_ret
    exact ⟨rfl, (hfin _ (below_of_drewN w2 _)).out⟩
  obtain rfl : DC = true := by rw [← hDC, decide_eq_true hc]
  subst hc
  clear hDC
  by_cases ht : tx = tx'
  case neg =>
    have hs := str_ne ht
    obtain rfl : D = false := by rw [← hD, decide_eq_false (fun e => ht (congrArg Mg.tx e))]
    clear hD ht
    go_enter Try.func14, Try.ntmps14
    go_wp2_with fail
    rw [← HW.out]
    refine KP.out.mono ?_
    rintro e W1 ⟨rfl, m1, rfl⟩
    go_wp2_with fail
    refine (KC.out _ (below_of_drewN _ _)).mono ?_
    rintro e W2 ⟨rfl, m2, rfl⟩
    go_wp2
    go_ret
    exact ⟨rfl, (hfin _ (below_of_drewN w2 _)).out⟩
  subst ht
  by_cases hg : tg = tg'
  case neg =>
    have hs := str_ne hg
    obtain rfl : D = false := by rw [← hD, decide_eq_false (fun e => hg (congrArg Mg.tg e))]
    clear hD hg
    go_enter Try.func14, Try.ntmps14
    go_wp2_with fail
    rw [← HW.out]
    refine KP.out.mono ?_
    rintro e W1 ⟨rfl, m1, rfl⟩
    go_wp2_with fail
    refine (KC.out _ (below_of_drewN _ _)).mono ?_
    rintro e W2 ⟨rfl, m2, rfl⟩
    go_wp2
    go_ret
    exact ⟨rfl, (hfin _ (below_of_drewN w2 _)).out⟩
  subst hg
  obtain rfl : D = true := by rw [← hD, decide_eq_true rfl]
  clear hD
  go_enter Try.func14, Try.ntmps14
  go_wp2_with fail
  rw [← HW.out]
  refine KP.out.mono ?_
  rintro e W1 ⟨rfl, m1, rfl⟩
  go_wp2_with fail
  refine (KC.out _ (below_of_drewN _ _)).mono ?_
  rintro e W2 ⟨rfl, m2, rfl⟩
  go_wp2
  go_ret
  exact ⟨rfl, (hfin _ (below_of_drewN w2 _)).out⟩
end Go.Proofs.Ytnbhiamnoapmlaa
