/-
  A part of the texts of one proof, put together: BdyH, BdyK, BdyO, BdyZ, BdyQ, BdyU, BdyRr, BdyDe, BdyLv, BdyPa, BdyPb, FldG, FldL3.
-/
import Derived.ArgAppend
import Derived.Deep.Upon
import Derived.Maps.AppendAt
import Derived.Lib.Strings
import Derived.Lib.Slices
import Derived.Lib.Walk
import Derived.Lib.Bytes
import Derived.Laws.EntriesVeiled
import Derived.Test.YtmjbimmbphofjaaMEncEncodesProof5
namespace Go.Proofs.Ytmjbimmbphofjaa
open Go.RowKit Go.Shelf
set_option maxRecDepth 100000
attribute [local go_sem] Oper.semAt_some

/-- a message's box, the result's and a box of two numbers; the message's lists lie in none of them -/
structure ThreeM (w : World) (b4 b8 b11 : Nat) (M : Mg) (W : World) (P C : Value) (x y : Int) : Prop where
  t : TwoM w b4 b8 M W P C
  bx : W.heap[b11]? = some (.cells #[.int .i64 x, .int .i64 y] 74 (0, 0))
  hi : w.heap.size ≤ b11 ∧ b11 ≠ b4 ∧ b11 ≠ b8
  p : ∀ a n c, P = .slice a n c → NuX W b11 b11 a (fl2 M.p)
  c : ∀ a n c, C = .slice a n c → NuX W b11 b11 a M.c
section
variable {w W W' : World} {b4 b8 b11 : Nat} {M : Mg} {P C : Value} {x y : Int}
theorem NuX.past {b : Nat} {A : Option Addr} {zs : List Int} {V V' : World} (h : NuX V b4 b8 A zs) (hb : NuX V b b A zs) (ho : Off (fun q => q = b) V V') : NuX V' b4 b8 A zs := fun hn => by
  obtain ⟨g, off, e, h1, h2, hc⟩ := h hn
  obtain ⟨g', off', e', h1', -, -⟩ := hb hn
  rw [e] at e'
  injection e' with e'
  injection e' with e1 e2
  subst e1
  exact ⟨g, off, e, h1, h2, fun j c hj => ho.cell (hc j c hj) h1'⟩
theorem TwoM.past {b : Nat} (h : TwoM w b4 b8 M W P C) (ho : Off (fun q => q = b) W W') (h4 : b4 ≠ b) (h8 : b8 ≠ b) (hb : w.heap.size ≤ b) (hp : ∀ a n c, P = .slice a n c → NuX W b b a (fl2 M.p)) (hc : ∀ a n c, C = .slice a n c → NuX W b b a M.c) : TwoM w b4 b8 M W' P C := by
  obtain ⟨⟨a, c, h1, h2, h3⟩, ⟨a', c', h5, h6, h7⟩⟩ := And.intro h.p h.c
  exact ⟨(ho.block _ (Array.getElem?_eq_some_iff.1 h.m).1 h4).trans h.m, (ho.block _ (Array.getElem?_eq_some_iff.1 h.r).1 h8).trans h.r, ⟨a, c, h1, h2, h3.past (hp _ _ _ h1) ho⟩, ⟨a', c', h5, h6, h7.past (hc _ _ _ h5) ho⟩, h.b.trans (ho.below (B := w.heap.size) (fun q hq => by omega) h.b.size), h.lo⟩
theorem NuX.keep1 {b : Nat} {A : Option Addr} {zs : List Int} {V V' : World} (h : NuX V b b A zs) (ho : Off (fun q => q = b) V V') : NuX V' b b A zs := h.keep (ho.mono fun _ _ h => .inl h)
theorem ThreeM.later (h : ThreeM w b4 b8 b11 M W P C x y) (hb : Below W.heap.size W W') : ThreeM w b4 b8 b11 M W' P C x y :=
  ⟨h.t.later hb, (hb.block _ (Array.getElem?_eq_some_iff.1 h.bx).1).trans h.bx, h.hi, fun a n c e => (h.p a n c e).keep1 (Off.of_below hb), fun a n c e => (h.c a n c e).keep1 (Off.of_below hb)⟩
theorem ThreeM.set (h : ThreeM w b4 b8 b11 M W P C x y) {j : Nat} {z x' y' : Int} (hz : (#[Value.int .i64 x, .int .i64 y] : Array Value).setIfInBounds j (.int .i64 z) = #[.int .i64 x', .int .i64 y']) : ThreeM w b4 b8 b11 M (W.setCell ⟨b11, j, none⟩ (.int .i64 z)) P C x' y' := by
  have ho : Off (fun q => q = b11) W (W.setCell ⟨b11, j, none⟩ (.int .i64 z)) := Off.setCell (S := fun q => q = b11) (p := ⟨b11, j, none⟩) (Off.refl _ W) rfl _
  have hi := h.hi
  exact ⟨h.t.past ho (by omega) (by omega) (by omega) h.p h.c, by rw [setCell_at h.bx, hz], h.hi, fun a n c e => (h.p a n c e).keep1 ho, fun a n c e => (h.c a n c e).keep1 ho⟩
end
theorem rdP_step (m : Nat) (a : Int × Int) (l : List Int) : rdP (m + 1) a l = if (rdX a.1 l).1 ≠ 0 then ((rdX a.1 l).1, 0, [])
    else if (rdX a.2 (l.drop (rdX a.1 l).2.1)).1 ≠ 0 then ((rdX a.2 (l.drop (rdX a.1 l).2.1)).1, 0, [])
    else ((rdP m ((rdX a.1 l).2.2, (rdX a.2 (l.drop (rdX a.1 l).2.1)).2.2) ((l.drop (rdX a.1 l).2.1).drop (rdX a.2 (l.drop (rdX a.1 l).2.1)).2.1)).1, (rdX a.1 l).2.1 + (rdX a.2 (l.drop (rdX a.1 l).2.1)).2.1 + (rdP m ((rdX a.1 l).2.2, (rdX a.2 (l.drop (rdX a.1 l).2.1)).2.2) ((l.drop (rdX a.1 l).2.1).drop (rdX a.2 (l.drop (rdX a.1 l).2.1)).2.1)).2.1, ((rdX a.1 l).2.2, (rdX a.2 (l.drop (rdX a.1 l).2.1)).2.2) :: (rdP m ((rdX a.1 l).2.2, (rdX a.2 (l.drop (rdX a.1 l).2.1)).2.2) ((l.drop (rdX a.1 l).2.1).drop (rdX a.2 (l.drop (rdX a.1 l).2.1)).2.1)).2.2) := rfl
/-- so many of a point's two numbers have been read -/
def PIn (x y : Int) (l : List Int) (k c : Nat) (x' y' : Int) : Prop :=
  (k = 0 → c = 0 ∧ x' = x ∧ y' = y) ∧ (k = 1 → rdX x l = (0, c, x') ∧ y' = y) ∧ (k = 2 → ∃ c1 c2, c = c1 + c2 ∧ rdX x l = (0, c1, x') ∧ rdX y (l.drop c1) = (0, c2, y'))
theorem PIn.err {x y x' y' : Int} {l : List Int} {k c : Nat} (h : PIn x y l k c x' y') (hk : k < 2) {e p : Nat} {v : Int} (hr : rdX (if k = 0 then x' else y') (l.drop c) = (e, p, v)) (he : e ≠ 0) (m : Nat) : rdP (m + 1) (x, y) l = (e, 0, []) := by
  obtain ⟨h0, h1, -⟩ := h
  rw [rdP_step]
  rcases (show k = 0 ∨ k = 1 by omega) with rfl | rfl
  · obtain ⟨rfl, rfl, rfl⟩ := h0 rfl
    rw [if_pos rfl, List.drop_zero] at hr
    rw [hr, if_pos he]
  · obtain ⟨h5, h6⟩ := h1 rfl
    subst h6
    rw [if_neg (by decide)] at hr
    rw [h5, if_neg (by simp)]
    simp only
    rw [hr, if_pos he]
theorem PIn.next {x y x' y' : Int} {l : List Int} {k c : Nat} (h : PIn x y l k c x' y') (hk : k < 2) {p : Nat} {v : Int} (hr : rdX (if k = 0 then x' else y') (l.drop c) = (0, p, v)) : PIn x y l (k + 1) (c + p) (if k = 0 then v else x') (if k = 0 then y' else v) := by
  obtain ⟨h0, h1, -⟩ := h
  rcases (show k = 0 ∨ k = 1 by omega) with rfl | rfl
  · obtain ⟨rfl, rfl, rfl⟩ := h0 rfl
    rw [if_pos rfl, List.drop_zero] at hr
    exact ⟨fun h => absurd h (by decide), fun _ => ⟨by rw [hr]; simp, rfl⟩, fun h => absurd h (by decide)⟩
  · obtain ⟨h5, h6⟩ := h1 rfl
    subst h6
    rw [if_neg (by decide)] at hr
    exact ⟨fun h => absurd h (by decide), fun h => absurd h (by decide), fun _ => ⟨c, p, rfl, h5, hr⟩⟩
theorem PIn.two {x y x' y' : Int} {l : List Int} {c : Nat} (h : PIn x y l 2 c x' y') (m : Nat) : rdP (m + 1) (x, y) l = ((rdP m (x', y') (l.drop c)).1, c + (rdP m (x', y') (l.drop c)).2.1, (x', y') :: (rdP m (x', y') (l.drop c)).2.2) := by
  obtain ⟨c1, c2, rfl, h1, h2⟩ := h.2.2 rfl
  rw [rdP_step]
  simp only
  rw [h1, if_neg (by simp)]
  simp only
  rw [h2, if_neg (by simp)]
  simp only
  rw [List.drop_drop]
theorem exec_appendH {P : Program} {w w' : World} {o : Oper} {b : Act} {v1 v2 v' : Value} (s x : Operand) (t : TypeId) (hop : o.op = Op.call { callee := Callee.builtin Builtin.append, args := #[s, x], argTypes := #[t, t] })
    (hs : b.eval s = v1) (hx : b.eval x = v2) (hrun : (Builtin.append_ #[t, t] o.type #[v1, v2]).run P w = .ok v' w') : (execOp b.eval o).run P w = .ok (.value v') w' := by
  simp [execOp, hop, resolve, invoke, builtin, hs, hx, hrun, Result.andThen]
/-- what the slots of a path's statement hold -/
def FPp (B : Nat) (zs : List Int) (np : Nat) (x y : Int) (q : Tmp) (v : Value) (W : World) : Prop :=
  if q = 66 then ∃ g, v = .slice (some ⟨g, 0, none⟩) 0 0 ∧ W.ownsRow B 74 2 v 0 []
  else if q = 69 then W.ownsRow B 74 2 v np (zs.map (Value.int .i64))
  else if q = 71 then ∃ g, v = .slice (some ⟨g, 0, none⟩) 1 1 ∧ W.heap[g]? = some (.cells #[.int .i64 x, .int .i64 y] 74 (0, 0))
  else True
theorem FPp.later {B : Nat} {zs : List Int} {np : Nat} {x y : Int} {q : Tmp} {v : Value} {W W' : World} (h : FPp B zs np x y q v W) (hb : Below W.heap.size W W') : FPp B zs np x y q v W' := by
  unfold FPp at h ⊢
  split
  · rename_i e
    rw [if_pos e] at h
    obtain ⟨g, e1, h1⟩ := h
    exact ⟨g, e1, own_below7 h1 hb⟩
  · rename_i e
    rw [if_neg e] at h
    split
    · rename_i e
      rw [if_pos e] at h
      exact own_below7 h hb
    · rename_i e
      rw [if_neg e] at h
      split
      · rename_i e
        rw [if_pos e] at h
        obtain ⟨g, e1, h1⟩ := h
        exact ⟨g, e1, (hb.block _ (Array.getElem?_eq_some_iff.1 h1).1).trans h1⟩
      · trivial

end Go.Proofs.Ytmjbimmbphofjaa

namespace Go.Proofs.Ytmjbimmbphofjaa
open Go.RowKit Go.Shelf
set_option maxRecDepth 100000
attribute [local go_sem] Oper.semAt_some

/-- while cells are read: the message's box, the lens, the cells' own row, the last cell's box -/
structure CSt (w : World) (lo mb lb ab bm : Nat) (zs : List Int) (N : Mg) (P : Value) (L : List Int) (a : Int) (p e : Nat) (C : Value) (W : World) : Prop where
  m : W.heap[mb]? = some (.cells (mC { N with c := L } P C) 26 (0, 0))
  l : LensAt W lo lb zs p e
  o : W.ownsRow w.heap.size 3 1 C L.length (L.map (Value.int .i64))
  at' : W.heap[ab]? = some (.cells #[.int .i64 a] 3 (0, 0))
  pm : W.heap[bm]? = some (.cells #[.pointer (some ⟨mb, 0, none⟩)] 83 (0, 0))
  off : Off (fun q => q = mb ∨ q = lb ∨ q = ab) w W
  lt : lb < mb ∧ mb < ab ∧ mb < bm ∧ ab < w.heap.size ∧ bm < w.heap.size
section
variable {w W W' : World} {lo mb lb ab bm : Nat} {zs : List Int} {N : Mg} {P C : Value} {L : List Int} {a : Int} {p e p' e' : Nat}
theorem CSt.later (h : CSt w lo mb lb ab bm zs N P L a p e C W) (hb : Below W.heap.size W W') : CSt w lo mb lb ab bm zs N P L a p e C W' :=
  ⟨(hb.block _ (Array.getElem?_eq_some_iff.1 h.m).1).trans h.m, h.l.below hb, own_below7 h.o hb, (hb.block _ (Array.getElem?_eq_some_iff.1 h.at').1).trans h.at', (hb.block _ (Array.getElem?_eq_some_iff.1 h.pm).1).trans h.pm, h.off.trans (Off.of_below (S := fun _ => False) hb) (fun _ _ e => e.elim), h.lt⟩
/-- the lens is turned -/
theorem CSt.turn (h : CSt w lo mb lb ab bm zs N P L a p e C W) (hl : LensAt W' lo lb zs p' e') (ho : Off (fun q => q = lb) W W') : CSt w lo mb lb ab bm zs N P L a p' e' C W' := by
  obtain ⟨h1, h2, h3, h4, h5⟩ := h.lt
  exact ⟨(ho.block _ (Array.getElem?_eq_some_iff.1 h.m).1 (by omega)).trans h.m, hl, own_offM h.o ho (fun g hg e => by have := (h.o.lt g hg).1; omega), (ho.block _ (Array.getElem?_eq_some_iff.1 h.at').1 (by omega)).trans h.at', (ho.block _ (Array.getElem?_eq_some_iff.1 h.pm).1 (by omega)).trans h.pm, h.off.trans ho (fun _ _ e => .inr (.inl e)), h.lt⟩
/-- the last cell is told -/
theorem CSt.set (h : CSt w lo mb lb ab bm zs N P L a p e C W) (y : Int) : CSt w lo mb lb ab bm zs N P L y p e C (W.setCell ⟨ab, 0, none⟩ (.int .i64 y)) := by
  obtain ⟨h1, h2, h3, h4, h5⟩ := h.lt
  have ho : Off (fun q => q = ab) W (W.setCell ⟨ab, 0, none⟩ (.int .i64 y)) := Off.setCell (S := fun q => q = ab) (p := ⟨ab, 0, none⟩) (Off.refl _ W) rfl _
  have hne := row_ne h.pm h.at' (by decide)
  exact ⟨(ho.block _ (Array.getElem?_eq_some_iff.1 h.m).1 (by omega)).trans h.m, h.l.off ho (fun k _ hk => by omega), own_offM h.o ho (fun g hg e => by have := (h.o.lt g hg).1; omega), by rw [setCell_at h.at']; rfl, (ho.block _ (Array.getElem?_eq_some_iff.1 h.pm).1 hne).trans h.pm, h.off.trans ho (fun _ _ e => .inr (.inr e)), h.lt⟩
/-- the cells have grown -/
theorem CSt.grow (h : CSt w lo mb lb ab bm zs N P L a p e C W) {v : Value} {y : Int} (hown : W'.ownsRow w.heap.size 3 1 v (L.length + 1) ((L ++ [y]).map (Value.int .i64))) (hg : W.grownBy W' C.ownBlock) :
    W'.heap[mb]? = some (.cells (mC { N with c := L } P C) 26 (0, 0)) ∧ W'.heap[ab]? = some (.cells #[.int .i64 a] 3 (0, 0)) ∧ CSt w lo mb lb ab bm zs N P (L ++ [y]) a p e v (W'.setCell ⟨mb, 8, none⟩ v) := by
  obtain ⟨h1, h2, h3, h4, h5⟩ := h.lt
  have ho : Off (fun q => C.ownBlock = some q) W W' := ⟨hg.os, hg.tape, hg.output, hg.size, fun k hk hn => hg.block k hk (fun e => hn e.symm)⟩
  have hno : ∀ q, q < w.heap.size → ¬ C.ownBlock = some q := fun q hq e => by have := (h.o.lt q e).1; omega
  have m1 := (ho.block _ (Array.getElem?_eq_some_iff.1 h.m).1 (hno _ (by omega))).trans h.m
  have a1 := (ho.block _ (Array.getElem?_eq_some_iff.1 h.at').1 (hno _ (by omega))).trans h.at'
  have b1 := (ho.block _ (Array.getElem?_eq_some_iff.1 h.pm).1 (hno _ (by omega))).trans h.pm
  have hof : Off (fun q => q = mb) W' (W'.setCell ⟨mb, 8, none⟩ v) := Off.setCell (S := fun q => q = mb) (p := ⟨mb, 8, none⟩) (Off.refl _ W') rfl _
  refine ⟨m1, a1, by rw [setCell_at m1]; rfl, (h.l.off ho (fun k _ hk => hno k (by omega))).off hof (fun k _ hk => by omega), own_offM (by simpa using hown) hof (fun g hg e => by have := (hown.lt g hg).1; omega), (hof.block _ (Array.getElem?_eq_some_iff.1 a1).1 (by omega)).trans a1, (hof.block _ (Array.getElem?_eq_some_iff.1 b1).1 (by omega)).trans b1, (h.off.trans ho (fun j hj e => absurd e (hno j hj))).trans hof (fun _ _ e => .inl e), h.lt⟩
end
set_option maxHeartbeats 8000000 in
theorem cellr_any (w : World) (lo mb lb ab bm : Nat) (zs : List Int) (N : Mg) (P : Value) (L : List Int) (a : Int) (p : Nat) (C : Value) (W : World) (h : CSt w lo mb lb ab bm zs N P L a p 0 C W) (ha0 : -1 ≤ a) (ha1 : a ≤ 65535) (hL : L.length ≤ 40) (hl : zs.length ≤ 1000000) (hz : Bys zs) :
    Calls Try.prog 89 #[.pointer (some ⟨lb, 0, none⟩), .pointer (some ⟨ab, 0, none⟩), .pointer (some ⟨bm, 0, none⟩)] W fun r W' =>
      r = .returned (.int .i64 ((rdG a (zs.drop p)).1 : Int)) ∧ Off (fun q => q = mb ∨ q = lb ∨ q = ab) w W' ∧ ((rdG a (zs.drop p)).1 = 0 → ∃ C', CSt w lo mb lb ab bm zs N P (L ++ [(rdG a (zs.drop p)).2.2]) (rdG a (zs.drop p)).2.2 (p + (rdG a (zs.drop p)).2.1) 0 C' W') := by
  obtain ⟨ii, hii, hzi, hzi1, hzi2⟩ := info_parts i64Info
  obtain ⟨X, u, er, hX, x0, x1, hu, hw⟩ := numR_ways (zs.drop p) 65535 (by omega)
  have KS : Hid (∀ V, LensAt V lo lb zs p 0 → Calls Try.prog 86 #[.pointer (some ⟨lb, 0, none⟩), .int .u64 65535] V fun r w' => r = .returned (.int .u64 X) ∧ LensAt w' lo lb zs (p + u) er ∧ Off (fun q => q = lb) V w') := Lib.hid fun V hV => by
    have K := lnum_any lo lb zs p 0 V 65535 hV (by omega) hz
    rw [hX] at K
    unfold ReadI at K
    simpa only [ansI, placeOf, errOf, if_true] using K
  obtain ⟨R, hR⟩ : ∃ R, rdG a (zs.drop p) = R := ⟨_, rfl⟩
  rw [hR]
  unfold rdG at hR
  obtain ⟨h1, h2, h3, h4, h5⟩ := h.lt
  have n1 := row_ne h.at' h.pm (by decide)
  have HH := Lib.hid h
  have HR := Lib.hid hR
  have HW := Lib.hid hw
  have hAt := h.at'
  have hlat := (Array.getElem?_eq_some_iff.1 hAt).1
  have lA : ∀ V, Off (fun q => q = lb) W V → (Instr.loadAt 3 (.pointer (some ⟨ab, 0, none⟩))).run Try.prog V = .ok (.int .i64 a) V := fun V hV => by
    have k := row_cell ((hV.block _ hlat (by omega)).trans hAt) 0 _ rfl
    simp [Instr.loadAt, go_sem, k]
  clear hR hw hX h hz hAt
  go_enter Try.func89, Try.ntmps89
  go_wp2_with fail
  refine wp_region_order8 6 (0 :: 1 :: 2 :: 3 :: 4 :: 5 :: []) (fun V => Off (fun q => q = lb) W V) (C := fun V => Below W.heap.size W V) (by kernel_rfl) (by kernel_rfl) (by kernel_rfl) (Below.refl _ _).drew (fun V hV => Off.of_below hV) ?_
  refine wpO4_load (ad := ⟨ab, 0, none⟩) (.int .i64 a) rfl rfl rfl (by rfl) lA ?_
  simp only [Act.put, List.setIfInBounds_toArray, List.set_cons_succ, List.set_cons_zero]
  repeat (refine wpO4_pure rfl rfl ?_; go_big_quiet_step (fail); refine wpQuiet_nil ?_)
  refine wpO4_call (fun v => v = .int .u64 X) (fun _ V => LensAt V lo lb zs (p + u) er ∧ Off (fun q => q = lb) W V) (f := 86) (args := #[.pointer (some ⟨lb, 0, none⟩), .int .u64 65535]) rfl rfl rfl (fun _ V hV => hV.2) (fun x => by first | rfl | (simp [go_sem]; done)) (fun V hV => (KS.out V (HH.out.later hV).l).mono (fun e w' h => ⟨_, h.1, rfl, h.2.1, (Off.of_below (S := fun q => q = lb) hV).trans h.2.2 (fun _ _ h => h)⟩)) ?_
  rintro v rfl
  simp only [Act.put, List.setIfInBounds_toArray, List.set_cons_succ, List.set_cons_zero]
  repeat (refine wpO4_pure rfl rfl ?_; go_big_quiet_step (fail); refine wpQuiet_nil ?_)
  rintro W1 ⟨hl1, ho1⟩
  simp only [List.drop_succ_cons, List.drop_zero]
  have g1 := HH.out.turn hl1 ho1
  have c0 := row_cell g1.at' 0 _ rfl
  have z0 := frozen_of_row W1 ab 0 _ _ g1.at'
  have g2 := g1.set (a + (X + 1))
  obtain ⟨y, hy⟩ : ∃ y, a + (X + 1) = y := ⟨_, rfl⟩
  rw [hy] at g2
  obtain ⟨W2, hW2⟩ : ∃ W2, W1.setCell ⟨ab, 0, none⟩ (.int .i64 y) = W2 := ⟨_, rfl⟩
  rw [hW2] at g2
  have HG2 := Lib.hid g2
  have HW2 := Lib.hid hW2
  have HY := Lib.hid hy
  clear g1 g2 hl1 ho1 lA KS hW2 hy
  go_wp2_with fail
  rw [HY.out, HW2.out]
  have hsw := HG2.out.off.size
  have lM : ∀ V, Below w.heap.size W2 V → (Instr.loadAt 83 (.pointer (some ⟨bm, 0, none⟩))).run Try.prog V = .ok (.pointer (some ⟨mb, 0, none⟩)) V := fun V hV => by
    have k := row_cell ((hV.block bm (by omega)).trans HG2.out.pm) 0 _ rfl
    simp [Instr.loadAt, go_sem, k]
  obtain ⟨ca, cc, hCv, hcc, hcn⟩ := nums_of_own HG2.out.o (by decide)
  have lC : ∀ V, Below w.heap.size W2 V → (Instr.loadAt 24 (.pointer (some ⟨mb, 8, none⟩))).run Try.prog V = .ok C V := fun V hV => by
    have k := row_cell ((hV.block mb (by omega)).trans HG2.out.m) 8 C rfl
    rw [hCv] at k ⊢
    simp [Instr.loadAt, go_sem, k]
  have lY : ∀ V, Below w.heap.size W2 V → (Instr.loadAt 3 (.pointer (some ⟨ab, 0, none⟩))).run Try.prog V = .ok (.int .i64 y) V := fun V hV => by
    have k := row_cell ((hV.block ab (by omega)).trans HG2.out.at') 0 _ rfl
    simp [Instr.loadAt, go_sem, k]
  refine wp_region_order9 8 (0 :: 1 :: 2 :: 3 :: 4 :: 5 :: 6 :: 7 :: []) (fun V => Below w.heap.size W2 V) (C := fun V => Below W2.heap.size W2 V) (by kernel_rfl) (by kernel_rfl) (by kernel_rfl) (Below.refl _ _).drew (fun V hV => hV.mono hsw) ?_
  refine wpO9_load (ad := ⟨bm, 0, none⟩) (.pointer (some ⟨mb, 0, none⟩)) rfl rfl rfl (by rfl) lM ?_
  simp only [Act.put, List.setIfInBounds_toArray, List.set_cons_succ, List.set_cons_zero]
  refine wpO9_load (ad := ⟨bm, 0, none⟩) (.pointer (some ⟨mb, 0, none⟩)) rfl rfl rfl (by rfl) lM ?_
  simp only [Act.put, List.setIfInBounds_toArray, List.set_cons_succ, List.set_cons_zero]
  refine wpO9_nil (ad := ⟨mb, 0, none⟩) rfl rfl rfl (by rfl) ?_
  simp only [Act.put, List.setIfInBounds_toArray, List.set_cons_succ, List.set_cons_zero]
  repeat (refine wpO9_pure rfl rfl ?_; go_big_quiet_step (fail); refine wpQuiet_nil ?_)
  refine wpO9_load (ad := ⟨mb, 8, none⟩) C rfl rfl rfl (by rfl) lC ?_
  simp only [Act.put, List.setIfInBounds_toArray, List.set_cons_succ, List.set_cons_zero]
  refine wpO9_load (ad := ⟨ab, 0, none⟩) (.int .i64 y) rfl rfl rfl (by rfl) lY ?_
  simp only [Act.put, List.setIfInBounds_toArray, List.set_cons_succ, List.set_cons_zero]
  refine wpO9_do (fun x => ∃ g, x = .slice (some ⟨g, 0, none⟩) 1 1) (fun x V => Below W2.heap.size W2 V ∧ ∀ g, x = .slice (some ⟨g, 0, none⟩) 1 1 → V.cell? ⟨g, 0, none⟩ = some (.int .i64 y)) rfl rfl rfl (fun _ V hV => hV.1.mono hsw) (fun V hV => ⟨.slice (some ⟨V.heap.size, 0, none⟩) 1 1, V.alloc (.cells #[.int .i64 y] 3), by simp [go_sem], ⟨_, rfl⟩, hV.alloc hV.size _, fun g hg => by
    injection hg with hg
    injection hg with hg
    injection hg with hg
    subst hg
    exact row_cell (World.alloc_heap_new V (.cells #[.int .i64 y] 3)) 0 _ rfl⟩) ?_
  rintro x ⟨g, rfl⟩
  simp only [Act.put, List.setIfInBounds_toArray, List.set_cons_succ, List.set_cons_zero]
  refine wpO9_do (fun v => ∃ A c, v = .slice A (L.length + 1) c) (fun v V => ∃ V3, Below W2.heap.size W2 V3 ∧ V.ownsRow w.heap.size 3 1 v (L.length + 1) ((L ++ [y]).map (Value.int .i64)) ∧ V3.grownBy V C.ownBlock) rfl rfl rfl (fun v V hV => ?_) (fun V hV => ?_) ?_
  · obtain ⟨V3, hb, -, hg⟩ := hV
    exact (hb.mono hsw).grown hg (Nat.le_trans hsw hb.size) (fun k hk => (HG2.out.o.lt k hk).1)
  · obtain ⟨hb, hc⟩ := hV
    have hc := hc g rfl
    obtain ⟨v', w', hrun, h6, h7, -⟩ := run_append_own (P := Try.prog) V w.heap.size 24 24 3 ii (.int .i64 0) 1 8 Try.underlying24 hii hzi hzi1 hzi2 rfl (by decide) C L.length (L.map (Value.int .i64)) (own_below7 HG2.out.o hb) ⟨g, 0, none⟩ 1 1 [.int .i64 y] rfl (fun j u hj => by
      rcases j with _ | j
      · simp at hj
        subst hj
        exact hc
      · simp at hj) (fun u hu => by simp at hu; subst hu; rfl) (by unfold maxLen; omega) (by omega) (Nat.le_trans hsw hb.size)
    have h8 : w'.ownsRow w.heap.size 3 1 v' (L.length + 1) ((L ++ [y]).map (Value.int .i64)) := by simpa using h6
    obtain ⟨a7, c7, e7, -, -⟩ := nums_of_own h8 (by decide)
    exact ⟨v', w', exec_appendH (.tmp 15) (.tmp 17) 24 rfl rfl rfl hrun, ⟨a7, c7, e7⟩, V, hb, h8, h7⟩
  rintro v7 ⟨a7, c7, rfl⟩
  simp only [Act.put, List.setIfInBounds_toArray, List.set_cons_succ, List.set_cons_zero]
  rintro w7 ⟨W3, hb3, hown, hgr⟩
  simp only [List.drop_succ_cons, List.drop_zero]
  have HG3 := HG2.out.later hb3
  obtain ⟨m7, a7', g7⟩ := HG3.grow hown hgr
  have k8 := row_cell m7 8 C rfl
  rw [hCv] at k8
  have z8 := frozen_of_row w7 mb 8 _ _ m7
  have k9 := row_cell a7' 0 _ rfl
  have HG7 := Lib.hid g7
  clear hown hgr m7 g7 HG3 lM lC lY hCv hcn HG2 HW2 hb3 a7'
  go_wp2_with fail
  refine (otherwise_any HG7.out.l (decide (65535 < y)) 5).mono ?_
  rintro r w9 ⟨rfl, rfl⟩
  go_wp2
  go_ret
  have hR := HR.out
  have hY := HY.out
  rcases HW.out with ⟨g1, rfl⟩ | ⟨g1, g2, rfl⟩ | ⟨g1, g2, rfl, g3, rfl⟩
  · rw [if_pos g1] at hR
    subst hR
    exact ⟨by simp [oth, g1], HG7.out.off, fun h => absurd h g1⟩
  · rw [if_neg (by simpa using g1), if_pos (by omega)] at hR
    subst hR
    exact ⟨by simp [oth], HG7.out.off, fun h => by simp at h⟩
  · by_cases hlt : 65535 < y
    · rw [if_neg (by simpa using g1), if_pos (by omega)] at hR
      subst hR
      exact ⟨by simp [oth, hlt], HG7.out.off, fun h => by simp at h⟩
    · rw [if_neg (by simpa using g1), if_neg (by omega), show a + 1 + ((Vi.get (zs.drop p)).1 : Int) = y by omega] at hR
      subst hR
      exact ⟨by simp [oth, hlt], HG7.out.off, fun _ => ⟨_, HG7.out⟩⟩
end Go.Proofs.Ytmjbimmbphofjaa

namespace Go.Proofs.Ytmjbimmbphofjaa
open Go.RowKit Go.Shelf
set_option maxRecDepth 100000
attribute [local go_sem] Oper.semAt_some

/-- while points are read: the message's box, the lens, the points' own row, the last point's box, the step's box -/
structure PSt (w : World) (lo mb lb ab sb bm : Nat) (zs : List Int) (N : Mg) (C : Value) (L : List (Int × Int)) (x y : Int) (p e : Nat) (P : Value) (W : World) : Prop where
  m : W.heap[mb]? = some (.cells (mC { N with p := L } P C) 26 (0, 0))
  l : LensAt W lo lb zs p e
  o : W.ownsRow w.heap.size 73 2 P L.length ((fl2 L).map (Value.int .i64))
  at' : W.heap[ab]? = some (.cells #[.int .i64 x, .int .i64 y] 73 (0, 0))
  st : W.heap[sb]? = some (.cells #[.func (.func 87) #[] #[]] 136 (0, 0))
  pm : W.heap[bm]? = some (.cells #[.pointer (some ⟨mb, 0, none⟩)] 83 (0, 0))
  off : Off (fun q => q = mb ∨ q = lb ∨ q = ab) w W
  lt : lb < mb ∧ mb < ab ∧ mb < bm ∧ mb < sb ∧ ab < w.heap.size ∧ bm < w.heap.size ∧ sb < w.heap.size
section
variable {w W W' : World} {lo mb lb ab sb bm : Nat} {zs : List Int} {N : Mg} {P C : Value} {L : List (Int × Int)} {x y : Int} {p e p' e' : Nat}
theorem PSt.later (h : PSt w lo mb lb ab sb bm zs N C L x y p e P W) (hb : Below W.heap.size W W') : PSt w lo mb lb ab sb bm zs N C L x y p e P W' :=
  ⟨(hb.block _ (Array.getElem?_eq_some_iff.1 h.m).1).trans h.m, h.l.below hb, own_below7 h.o hb, (hb.block _ (Array.getElem?_eq_some_iff.1 h.at').1).trans h.at', (hb.block _ (Array.getElem?_eq_some_iff.1 h.st).1).trans h.st, (hb.block _ (Array.getElem?_eq_some_iff.1 h.pm).1).trans h.pm, h.off.trans (Off.of_below (S := fun _ => False) hb) (fun _ _ e => e.elim), h.lt⟩
/-- the lens is turned -/
theorem PSt.turn (h : PSt w lo mb lb ab sb bm zs N C L x y p e P W) (hl : LensAt W' lo lb zs p' e') (ho : Off (fun q => q = lb) W W') : PSt w lo mb lb ab sb bm zs N C L x y p' e' P W' := by
  obtain ⟨h1, h2, h3, h4, h5, h6, h7⟩ := h.lt
  exact ⟨(ho.block _ (Array.getElem?_eq_some_iff.1 h.m).1 (by omega)).trans h.m, hl, own_offM h.o ho (fun g hg e => by have := (h.o.lt g hg).1; omega), (ho.block _ (Array.getElem?_eq_some_iff.1 h.at').1 (by omega)).trans h.at', (ho.block _ (Array.getElem?_eq_some_iff.1 h.st).1 (by omega)).trans h.st, (ho.block _ (Array.getElem?_eq_some_iff.1 h.pm).1 (by omega)).trans h.pm, h.off.trans ho (fun _ _ e => .inr (.inl e)), h.lt⟩
/-- the last point is told -/
theorem PSt.set (h : PSt w lo mb lb ab sb bm zs N C L x y p e P W) (j : Nat) (u x' y' : Int) (hj : (#[Value.int .i64 x, Value.int .i64 y]).setIfInBounds j (.int .i64 u) = #[Value.int .i64 x', Value.int .i64 y']) : PSt w lo mb lb ab sb bm zs N C L x' y' p e P (W.setCell ⟨ab, j, none⟩ (.int .i64 u)) := by
  obtain ⟨h1, h2, h3, h4, h5, h6, h7⟩ := h.lt
  have ho : Off (fun q => q = ab) W (W.setCell ⟨ab, j, none⟩ (.int .i64 u)) := Off.setCell (S := fun q => q = ab) (p := ⟨ab, j, none⟩) (Off.refl _ W) rfl _
  have hne := row_ne h.pm h.at' (by decide)
  have hne2 := row_ne h.st h.at' (by decide)
  exact ⟨(ho.block _ (Array.getElem?_eq_some_iff.1 h.m).1 (by omega)).trans h.m, h.l.off ho (fun k _ hk => by omega), own_offM h.o ho (fun g hg e => by have := (h.o.lt g hg).1; omega), by rw [setCell_at h.at', hj], (ho.block _ (Array.getElem?_eq_some_iff.1 h.st).1 hne2).trans h.st, (ho.block _ (Array.getElem?_eq_some_iff.1 h.pm).1 hne).trans h.pm, h.off.trans ho (fun _ _ e => .inr (.inr e)), h.lt⟩
/-- the points have grown -/
theorem PSt.grow (h : PSt w lo mb lb ab sb bm zs N C L x y p e P W) {v : Value} {q : Int × Int} (hown : W'.ownsRow w.heap.size 73 2 v (L.length + 1) ((fl2 (L ++ [q])).map (Value.int .i64))) (hg : W.grownBy W' P.ownBlock) :
    W'.heap[mb]? = some (.cells (mC { N with p := L } P C) 26 (0, 0)) ∧ PSt w lo mb lb ab sb bm zs N C (L ++ [q]) x y p e v (W'.setCell ⟨mb, 7, none⟩ v) := by
  obtain ⟨h1, h2, h3, h4, h5, h6, h7⟩ := h.lt
  have ho : Off (fun q => P.ownBlock = some q) W W' := ⟨hg.os, hg.tape, hg.output, hg.size, fun k hk hn => hg.block k hk (fun e => hn e.symm)⟩
  have hno : ∀ q, q < w.heap.size → ¬ P.ownBlock = some q := fun q hq e => by have := (h.o.lt q e).1; omega
  have m1 := (ho.block _ (Array.getElem?_eq_some_iff.1 h.m).1 (hno _ (by omega))).trans h.m
  have a1 := (ho.block _ (Array.getElem?_eq_some_iff.1 h.at').1 (hno _ (by omega))).trans h.at'
  have b1 := (ho.block _ (Array.getElem?_eq_some_iff.1 h.pm).1 (hno _ (by omega))).trans h.pm
  have s1 := (ho.block _ (Array.getElem?_eq_some_iff.1 h.st).1 (hno _ (by omega))).trans h.st
  have hof : Off (fun q => q = mb) W' (W'.setCell ⟨mb, 7, none⟩ v) := Off.setCell (S := fun q => q = mb) (p := ⟨mb, 7, none⟩) (Off.refl _ W') rfl _
  refine ⟨m1, by rw [setCell_at m1]; rfl, (h.l.off ho (fun k _ hk => hno k (by omega))).off hof (fun k _ hk => by omega), own_offM (by simpa using hown) hof (fun g hg e => by have := (hown.lt g hg).1; omega), (hof.block _ (Array.getElem?_eq_some_iff.1 a1).1 (by omega)).trans a1, (hof.block _ (Array.getElem?_eq_some_iff.1 s1).1 (by omega)).trans s1, (hof.block _ (Array.getElem?_eq_some_iff.1 b1).1 (by omega)).trans b1, (h.off.trans ho (fun j hj e => absurd e (hno j hj))).trans hof (fun _ _ e => .inl e), h.lt⟩
end
theorem sigA_ways (l : List Int) (a : Int) (h0 : -1000000 ≤ a) (h1 : a ≤ 1000000) : ∃ (X : Int) (u er : Nat), sigR l (-1000000 - a) (1000000 - a) = (X, u, er) ∧ -1000000 ≤ a + X ∧ a + X ≤ 1000000 ∧ u ≤ l.length ∧ er = (rdX a l).1 ∧ (er = 0 → u = (rdX a l).2.1 ∧ a + X = (rdX a l).2.2) := by
  have hle := Vi.get_le l
  unfold sigR rdX
  by_cases g1 : (Vi.get l).2.2 ≠ 0
  · rw [if_pos g1, if_pos g1]
    exact ⟨0, 0, _, rfl, by omega, by omega, by omega, rfl, fun h => absurd h g1⟩
  · rw [if_neg g1, if_neg g1]
    by_cases g2 : zagZ ((Vi.get l).1 : Int) < -1000000 - a ∨ 1000000 - a < zagZ ((Vi.get l).1 : Int)
    · rw [if_pos g2, if_pos (by omega)]
      exact ⟨0, 0, _, rfl, by omega, by omega, by omega, rfl, fun h => by simp at h⟩
    · rw [if_neg g2, if_neg (by omega)]
      exact ⟨_, _, _, rfl, by omega, by omega, hle.2.2.1, rfl, fun _ => ⟨rfl, rfl⟩⟩
/-- the step -/
theorem pstep_any (lo lb : Nat) (zs : List Int) (p e : Nat) (a : Int) (h0 : -1000000 ≤ a) (h1 : a ≤ 1000000) (X : Int) (u er : Nat) (hX : sigR (zs.drop p) (-1000000 - a) (1000000 - a) = (X, u, er)) (hl : zs.length ≤ 1000000) (hz : Bys zs) (V : World) (h : LensAt V lo lb zs p e) :
    Calls Try.prog 87 #[.pointer (some ⟨lb, 0, none⟩), .int .i64 a] V fun r w' => r = .returned (.int .i64 (ansI e X)) ∧ LensAt w' lo lb zs (placeOf p e u) (errOf e er) ∧ Off (fun q => q = lb) V w' := by
  have K := lsig_any lo lb zs p e V (-1000000 - a) (1000000 - a) h (by omega) hz
  rw [hX] at K
  unfold ReadI at K
  simp only at K
  have K := Lib.hid K
  clear hX hz h
  go_enter Try.func87, Try.ntmps87
  go_wp2_with fail
  refine K.out.mono ?_
  rintro r w1 ⟨rfl, h2, h3⟩
  have H2 := Lib.hid h2
  have H3 := Lib.hid h3
  clear h2 h3 K
  go_wp2
  go_ret
  exact ⟨rfl, H2.out, H3.out⟩
/-- what reading a point answers -/
def rdQ (a : Int × Int) (l : List Int) : Nat × Nat × (Int × Int) :=
  if (rdX a.1 l).1 ≠ 0 then ((rdX a.1 l).1, 0, (0, 0))
  else if (rdX a.2 (l.drop (rdX a.1 l).2.1)).1 ≠ 0 then ((rdX a.2 (l.drop (rdX a.1 l).2.1)).1, 0, (0, 0))
  else (0, (rdX a.1 l).2.1 + (rdX a.2 (l.drop (rdX a.1 l).2.1)).2.1, ((rdX a.1 l).2.2, (rdX a.2 (l.drop (rdX a.1 l).2.1)).2.2))
theorem rdP_q (n : Nat) (a : Int × Int) (l : List Int) : rdP (n + 1) a l = if (rdQ a l).1 ≠ 0 then ((rdQ a l).1, 0, []) else ((rdP n (rdQ a l).2.2 (l.drop (rdQ a l).2.1)).1, (rdQ a l).2.1 + (rdP n (rdQ a l).2.2 (l.drop (rdQ a l).2.1)).2.1, (rdQ a l).2.2 :: (rdP n (rdQ a l).2.2 (l.drop (rdQ a l).2.1)).2.2) := by
  rw [rdP_step]
  unfold rdQ
  by_cases h1 : (rdX a.1 l).1 ≠ 0
  · rw [if_pos h1, if_pos h1, if_pos h1]
  · rw [if_neg h1, if_neg h1]
    by_cases h2 : (rdX a.2 (l.drop (rdX a.1 l).2.1)).1 ≠ 0
    · rw [if_pos h2, if_pos h2, if_pos h2]
    · rw [if_neg h2, if_neg h2, if_neg (by simp), List.drop_drop]
set_option maxHeartbeats 16000000 in
theorem pointr_any (w : World) (lo mb lb ab sb bm : Nat) (zs : List Int) (N : Mg) (C : Value) (L : List (Int × Int)) (x y : Int) (p : Nat) (P : Value) (W : World) (h : PSt w lo mb lb ab sb bm zs N C L x y p 0 P W) (hx : -1000000 ≤ x ∧ x ≤ 1000000) (hy : -1000000 ≤ y ∧ y ≤ 1000000) (hL : L.length ≤ 40) (hl : zs.length ≤ 1000000) (hz : Bys zs) :
    Calls Try.prog 88 #[.pointer (some ⟨lb, 0, none⟩), .pointer (some ⟨ab, 0, none⟩), .pointer (some ⟨sb, 0, none⟩), .pointer (some ⟨bm, 0, none⟩)] W fun r W' =>
      r = .returned (.int .i64 ((rdQ (x, y) (zs.drop p)).1 : Int)) ∧ Off (fun q => q = mb ∨ q = lb ∨ q = ab) w W' ∧ ((rdQ (x, y) (zs.drop p)).1 = 0 → ∃ P', PSt w lo mb lb ab sb bm zs N C (L ++ [(rdQ (x, y) (zs.drop p)).2.2]) (rdQ (x, y) (zs.drop p)).2.2.1 (rdQ (x, y) (zs.drop p)).2.2.2 (p + (rdQ (x, y) (zs.drop p)).2.1) 0 P' W') := by
  obtain ⟨ii, hii, hzi, hzi1, hzi2⟩ := info_parts ptInfo
  obtain ⟨X, u, er, hX, x0, x1, hu, e1, e2⟩ := sigA_ways (zs.drop p) x hx.1 hx.2
  obtain ⟨Y, v, es, hY, y0, y1, hv, e3, e4⟩ := sigA_ways (zs.drop (placeOf p er u)) y hy.1 hy.2
  have hxa := hx.1
  have hxb := hx.2
  have hya := hy.1
  have hyb := hy.2
  have KX : Hid (∀ V, LensAt V lo lb zs p 0 → Calls Try.prog 87 #[.pointer (some ⟨lb, 0, none⟩), .int .i64 x] V fun r w' => r = .returned (.int .i64 X) ∧ LensAt w' lo lb zs (p + u) er ∧ Off (fun q => q = lb) V w') := Lib.hid fun V hV => by
    have K := pstep_any lo lb zs p 0 x hx.1 hx.2 X u er hX hl hz V hV
    simpa only [ansI, placeOf, errOf, if_true] using K
  have hpu : er ≠ 0 → u = 0 := fun h => by
    have := sigR_err (l := zs.drop p) (m1 := -1000000 - x) (m := 1000000 - x) (by rw [hX]; exact h)
    rw [hX] at this
    exact this.2
  have hpl : placeOf p er u = p + u := by
    unfold placeOf
    split
    · rfl
    · rename_i h
      rw [hpu h, Nat.add_zero]
  rw [hpl] at hY e3 e4
  obtain ⟨Y2, hY2⟩ : ∃ Y2, ansI er Y = Y2 := ⟨_, rfl⟩
  have hy2 : -1000000 ≤ y + Y2 ∧ y + Y2 ≤ 1000000 := by
    rw [← hY2]
    unfold ansI
    split <;> omega
  have hya2 := hy2.1
  have hyb2 := hy2.2
  have KY : Hid (∀ V, LensAt V lo lb zs (p + u) er → Calls Try.prog 87 #[.pointer (some ⟨lb, 0, none⟩), .int .i64 y] V fun r w' => r = .returned (.int .i64 Y2) ∧ LensAt w' lo lb zs (placeOf (p + u) er v) (errOf er es) ∧ Off (fun q => q = lb) V w') := Lib.hid fun V hV => by
    have K := pstep_any lo lb zs (p + u) er y hy.1 hy.2 Y v es hY hl hz V hV
    rwa [hY2] at K
  obtain ⟨R, hR⟩ : ∃ R, rdQ (x, y) (zs.drop p) = R := ⟨_, rfl⟩
  rw [hR]
  unfold rdQ at hR
  simp only at hR
  rw [List.drop_drop] at hR
  have HE := Lib.hid (And.intro e1 (And.intro e2 (And.intro e3 e4)))
  obtain ⟨pe, hpe⟩ : ∃ pe, placeOf (p + u) er v = pe := ⟨_, rfl⟩
  obtain ⟨ee, hee⟩ : ∃ ee, errOf er es = ee := ⟨_, rfl⟩
  rw [hpe, hee] at KY
  have HPE := Lib.hid (And.intro hpe (And.intro hee hY2))
  obtain ⟨h1, h2, h3, h4, h5, h6, h7⟩ := h.lt
  have n1 := row_ne h.at' h.pm (by decide)
  have n2 := row_ne h.at' h.st (by decide)
  have HH := Lib.hid h
  have HR := Lib.hid hR
  clear hR hX hY h hz e1 e2 e3 e4 hpe hee hY2 hpl hpu hy2 hx hy
  go_enter Try.func88, Try.ntmps88
  go_wp2_with fail
  have lA : ∀ V, Off (fun q => q = lb) W V → (Instr.loadAt 3 (.pointer (some ⟨ab, 0, none⟩))).run Try.prog V = .ok (.int .i64 x) V := fun V hV => by
    have k := row_cell ((hV.block _ (Array.getElem?_eq_some_iff.1 HH.out.at').1 (by omega)).trans HH.out.at') 0 _ rfl
    simp [Instr.loadAt, go_sem, k]
  have lS : ∀ V, Off (fun q => q = lb) W V → (Instr.loadAt 136 (.pointer (some ⟨sb, 0, none⟩))).run Try.prog V = .ok (.func (.func 87) #[] #[]) V := fun V hV => by
    have k := row_cell ((hV.block _ (Array.getElem?_eq_some_iff.1 HH.out.st).1 (by omega)).trans HH.out.st) 0 _ rfl
    simp [Instr.loadAt, go_sem, k]
  refine wp_region_order8 8 (0 :: 1 :: 2 :: 3 :: 4 :: 5 :: 6 :: 7 :: []) (fun V => Off (fun q => q = lb) W V) (C := fun V => Below W.heap.size W V) (by kernel_rfl) (by kernel_rfl) (by kernel_rfl) (Below.refl _ _).drew (fun V hV => Off.of_below hV) ?_
  repeat (refine wpO4_pure rfl rfl ?_; go_big_quiet_step (fail); refine wpQuiet_nil ?_)
  refine wpO4_load (ad := ⟨ab, 0, none⟩) (.int .i64 x) rfl rfl rfl (by rfl) lA ?_
  simp only [Act.put, List.setIfInBounds_toArray, List.set_cons_succ, List.set_cons_zero]
  refine wpO4_load (ad := ⟨sb, 0, none⟩) (.func (.func 87) #[] #[]) rfl rfl rfl (by rfl) lS ?_
  simp only [Act.put, List.setIfInBounds_toArray, List.set_cons_succ, List.set_cons_zero]
  repeat (refine wpO4_pure rfl rfl ?_; go_big_quiet_step (fail); refine wpQuiet_nil ?_)
  refine wpO4_load (ad := ⟨ab, 0, none⟩) (.int .i64 x) rfl rfl rfl (by rfl) lA ?_
  simp only [Act.put, List.setIfInBounds_toArray, List.set_cons_succ, List.set_cons_zero]
  refine wpO4_call (fun v => v = .int .i64 X) (fun _ V => LensAt V lo lb zs (p + u) er ∧ Off (fun q => q = lb) W V) (f := 87) (args := #[.pointer (some ⟨lb, 0, none⟩), .int .i64 x]) rfl rfl rfl (fun _ V hV => hV.2) (fun x => by first | rfl | (simp [go_sem]; done)) (fun V hV => (KX.out V (HH.out.later hV).l).mono (fun e w' h => ⟨_, h.1, rfl, h.2.1, (Off.of_below (S := fun q => q = lb) hV).trans h.2.2 (fun _ _ h => h)⟩)) ?_
  rintro v rfl
  simp only [Act.put, List.setIfInBounds_toArray, List.set_cons_succ, List.set_cons_zero]
  repeat (refine wpO4_pure rfl rfl ?_; go_big_quiet_step (fail); refine wpQuiet_nil ?_)
  rintro W1 ⟨hl1, ho1⟩
  simp only [List.drop_succ_cons, List.drop_zero]
  have g1 := HH.out.turn hl1 ho1
  have c0 := row_cell g1.at' 0 _ rfl
  have z0 := frozen_of_row W1 ab 0 _ _ g1.at'
  obtain ⟨nx, hnx⟩ : ∃ nx, x + X = nx := ⟨_, rfl⟩
  have g2 := g1.set 0 nx nx y rfl
  obtain ⟨W2, hw2⟩ : ∃ W2, W1.setCell ⟨ab, 0, none⟩ (.int .i64 nx) = W2 := ⟨_, rfl⟩
  rw [hw2] at g2
  have HB := Lib.hid g2
  have HWHB := Lib.hid hw2
  have HYHB := Lib.hid hnx
  clear g1 g2 hl1 ho1 lA lS KX hw2 hnx
  go_wp2_with fail
  rw [HYHB.out, HWHB.out]
  clear c0 z0 HWHB
  have lA : ∀ V, Off (fun q => q = lb) W2 V → (Instr.loadAt 3 (.pointer (some ⟨ab, 1, none⟩))).run Try.prog V = .ok (.int .i64 y) V := fun V hV => by
    have k := row_cell ((hV.block _ (Array.getElem?_eq_some_iff.1 HB.out.at').1 (by omega)).trans HB.out.at') 1 _ rfl
    simp [Instr.loadAt, go_sem, k]
  have lS : ∀ V, Off (fun q => q = lb) W2 V → (Instr.loadAt 136 (.pointer (some ⟨sb, 0, none⟩))).run Try.prog V = .ok (.func (.func 87) #[] #[]) V := fun V hV => by
    have k := row_cell ((hV.block _ (Array.getElem?_eq_some_iff.1 HB.out.st).1 (by omega)).trans HB.out.st) 0 _ rfl
    simp [Instr.loadAt, go_sem, k]
  refine wp_region_order8 8 (0 :: 1 :: 2 :: 3 :: 4 :: 5 :: 6 :: 7 :: []) (fun V => Off (fun q => q = lb) W2 V) (C := fun V => Below W2.heap.size W2 V) (by kernel_rfl) (by kernel_rfl) (by kernel_rfl) (Below.refl _ _).drew (fun V hV => Off.of_below hV) ?_
  repeat (refine wpO4_pure rfl rfl ?_; go_big_quiet_step (fail); refine wpQuiet_nil ?_)
  refine wpO4_load (ad := ⟨ab, 1, none⟩) (.int .i64 y) rfl rfl rfl (by rfl) lA ?_
  simp only [Act.put, List.setIfInBounds_toArray, List.set_cons_succ, List.set_cons_zero]
  refine wpO4_load (ad := ⟨sb, 0, none⟩) (.func (.func 87) #[] #[]) rfl rfl rfl (by rfl) lS ?_
  simp only [Act.put, List.setIfInBounds_toArray, List.set_cons_succ, List.set_cons_zero]
  repeat (refine wpO4_pure rfl rfl ?_; go_big_quiet_step (fail); refine wpQuiet_nil ?_)
  refine wpO4_load (ad := ⟨ab, 1, none⟩) (.int .i64 y) rfl rfl rfl (by rfl) lA ?_
  simp only [Act.put, List.setIfInBounds_toArray, List.set_cons_succ, List.set_cons_zero]
  refine wpO4_call (fun v => v = .int .i64 Y2) (fun _ V => LensAt V lo lb zs pe ee ∧ Off (fun q => q = lb) W2 V) (f := 87) (args := #[.pointer (some ⟨lb, 0, none⟩), .int .i64 y]) rfl rfl rfl (fun _ V hV => hV.2) (fun x => by first | rfl | (simp [go_sem]; done)) (fun V hV => (KY.out V (HB.out.later hV).l).mono (fun e w' h => ⟨_, h.1, rfl, h.2.1, (Off.of_below (S := fun q => q = lb) hV).trans h.2.2 (fun _ _ h => h)⟩)) ?_
  rintro v rfl
  simp only [Act.put, List.setIfInBounds_toArray, List.set_cons_succ, List.set_cons_zero]
  repeat (refine wpO4_pure rfl rfl ?_; go_big_quiet_step (fail); refine wpQuiet_nil ?_)
  rintro W3 ⟨hl1, ho1⟩
  simp only [List.drop_succ_cons, List.drop_zero]
  have g1 := HB.out.turn hl1 ho1
  have c0 := row_cell g1.at' 1 _ rfl
  have z0 := frozen_of_row W3 ab 1 _ _ g1.at'
  obtain ⟨ny, hny⟩ : ∃ ny, y + Y2 = ny := ⟨_, rfl⟩
  have g2 := g1.set 1 ny nx ny rfl
  obtain ⟨W4, hw2⟩ : ∃ W4, W3.setCell ⟨ab, 1, none⟩ (.int .i64 ny) = W4 := ⟨_, rfl⟩
  rw [hw2] at g2
  have HG := Lib.hid g2
  have HWHG := Lib.hid hw2
  have HYHG := Lib.hid hny
  clear g1 g2 hl1 ho1 lA lS KY hw2 hny
  go_wp2_with fail
  rw [HYHG.out, HWHG.out]
  clear c0 z0 HWHG
  have hsw := HG.out.off.size
  have lM : ∀ V, Below w.heap.size W4 V → (Instr.loadAt 83 (.pointer (some ⟨bm, 0, none⟩))).run Try.prog V = .ok (.pointer (some ⟨mb, 0, none⟩)) V := fun V hV => by
    have k := row_cell ((hV.block bm (by omega)).trans HG.out.pm) 0 _ rfl
    simp [Instr.loadAt, go_sem, k]
  obtain ⟨ca, cc, hCv, -, -⟩ := nums_of_own HG.out.o (by decide)
  have lC : ∀ V, Below w.heap.size W4 V → (Instr.loadAt 23 (.pointer (some ⟨mb, 7, none⟩))).run Try.prog V = .ok P V := fun V hV => by
    have k := row_cell ((hV.block mb (by omega)).trans HG.out.m) 7 P rfl
    rw [hCv] at k ⊢
    simp [Instr.loadAt, go_sem, k]
  have lY : ∀ V, Below w.heap.size W4 V → (Instr.loadAt 73 (.pointer (some ⟨ab, 0, none⟩))).run Try.prog V = .ok (.agg #[.int .i64 nx, .int .i64 ny]) V := fun V hV => by
    have k := row_cell ((hV.block ab (by omega)).trans HG.out.at') 0 _ rfl
    have k2 := row_cell ((hV.block ab (by omega)).trans HG.out.at') 1 _ rfl
    simp [Instr.loadAt, go_sem, k, k2]
  refine wp_region_order9 8 (0 :: 1 :: 2 :: 3 :: 4 :: 5 :: 6 :: 7 :: []) (fun V => Below w.heap.size W4 V) (C := fun V => Below W4.heap.size W4 V) (by kernel_rfl) (by kernel_rfl) (by kernel_rfl) (Below.refl _ _).drew (fun V hV => hV.mono hsw) ?_
  refine wpO9_load (ad := ⟨bm, 0, none⟩) (.pointer (some ⟨mb, 0, none⟩)) rfl rfl rfl (by rfl) lM ?_
  simp only [Act.put, List.setIfInBounds_toArray, List.set_cons_succ, List.set_cons_zero]
  refine wpO9_load (ad := ⟨bm, 0, none⟩) (.pointer (some ⟨mb, 0, none⟩)) rfl rfl rfl (by rfl) lM ?_
  simp only [Act.put, List.setIfInBounds_toArray, List.set_cons_succ, List.set_cons_zero]
  refine wpO9_nil (ad := ⟨mb, 0, none⟩) rfl rfl rfl (by rfl) ?_
  simp only [Act.put, List.setIfInBounds_toArray, List.set_cons_succ, List.set_cons_zero]
  repeat (refine wpO9_pure rfl rfl ?_; go_big_quiet_step (fail); refine wpQuiet_nil ?_)
  refine wpO9_load (ad := ⟨mb, 7, none⟩) P rfl rfl rfl (by rfl) lC ?_
  simp only [Act.put, List.setIfInBounds_toArray, List.set_cons_succ, List.set_cons_zero]
  refine wpO9_load (ad := ⟨ab, 0, none⟩) (.agg #[.int .i64 nx, .int .i64 ny]) rfl rfl rfl (by rfl) lY ?_
  simp only [Act.put, List.setIfInBounds_toArray, List.set_cons_succ, List.set_cons_zero]
  refine wpO9_do (fun x => ∃ g, x = .slice (some ⟨g, 0, none⟩) 1 1) (fun x V => Below W4.heap.size W4 V ∧ ∀ g, x = .slice (some ⟨g, 0, none⟩) 1 1 → V.heap[g]? = some (.cells #[.int .i64 nx, .int .i64 ny] 73 (0, 0))) rfl rfl rfl (fun _ V hV => hV.1.mono hsw) (fun V hV => ⟨.slice (some ⟨V.heap.size, 0, none⟩) 1 1, V.alloc (.cells #[.int .i64 nx, .int .i64 ny] 73), by simp [go_sem], ⟨_, rfl⟩, hV.alloc hV.size _, fun g hg => by
    injection hg with hg
    injection hg with hg
    injection hg with hg
    subst hg
    exact World.alloc_heap_new V (.cells #[.int .i64 nx, .int .i64 ny] 73)⟩) ?_
  rintro x ⟨g, rfl⟩
  simp only [Act.put, List.setIfInBounds_toArray, List.set_cons_succ, List.set_cons_zero]
  refine wpO9_do (fun v => ∃ A c, v = .slice A (L.length + 1) c) (fun v V => ∃ V3, Below W4.heap.size W4 V3 ∧ V.ownsRow w.heap.size 73 2 v (L.length + 1) ((fl2 (L ++ [(nx, ny)])).map (Value.int .i64)) ∧ V3.grownBy V P.ownBlock) rfl rfl rfl (fun v V hV => ?_) (fun V hV => ?_) ?_
  · obtain ⟨V3, hb, -, hg⟩ := hV
    exact (hb.mono hsw).grown hg (Nat.le_trans hsw hb.size) (fun k hk => (HG.out.o.lt k hk).1)
  · obtain ⟨hb, hc⟩ := hV
    have hc := hc g rfl
    obtain ⟨v', w', hrun, h6, h7, -⟩ := run_append_own (P := Try.prog) V w.heap.size 23 23 73 ii _ 2 16 Try.underlying23 hii hzi hzi1 hzi2 rfl (by decide) P L.length ((fl2 L).map (Value.int .i64)) (own_below7 HG.out.o hb) ⟨g, 0, none⟩ 1 1 [.int .i64 nx, .int .i64 ny] rfl (fun j u hj => by
      rcases j with _ | _ | j
      · simp at hj
        subst hj
        exact row_cell hc 0 _ rfl
      · simp at hj
        subst hj
        exact row_cell hc 1 _ rfl
      · simp at hj) (fun u hu => by simp at hu; rcases hu with rfl | rfl <;> rfl) (by unfold maxLen; omega) (by omega) (Nat.le_trans hsw hb.size)
    have h8 : w'.ownsRow w.heap.size 73 2 v' (L.length + 1) ((fl2 (L ++ [(nx, ny)])).map (Value.int .i64)) := by rw [fl2_app, List.map_append]; exact h6
    obtain ⟨a7, c7, e7, -, -⟩ := nums_of_own h8 (by decide)
    exact ⟨v', w', exec_appendH (.tmp 28) (.tmp 30) 23 rfl rfl rfl hrun, ⟨a7, c7, e7⟩, V, hb, h8, h7⟩
  rintro v7 ⟨a7, c7, rfl⟩
  simp only [Act.put, List.setIfInBounds_toArray, List.set_cons_succ, List.set_cons_zero]
  rintro w7 ⟨W5, hb3, hown, hgr⟩
  simp only [List.drop_succ_cons, List.drop_zero]
  have HG3 := HG.out.later hb3
  obtain ⟨m7, g7⟩ := HG3.grow hown hgr
  have k8 := row_cell m7 7 P rfl
  rw [hCv] at k8
  have z8 := frozen_of_row w7 mb 7 _ _ m7
  have HG7 := Lib.hid g7
  clear hown hgr m7 g7 HG3 lM lC lY hCv HG hb3
  go_wp2_with fail
  refine (lerr_any _ _ _ _ _ _ HG7.out.l).mono ?_
  rintro r w9 ⟨rfl, rfl⟩
  go_wp2
  go_ret
  have hR := HR.out
  obtain ⟨e1, e2, e3, e4⟩ := HE.out
  obtain ⟨rfl, rfl, hY2⟩ := HPE.out
  have q1 := HYHB.out
  have q2 := HYHG.out
  by_cases g1 : er = 0
  · subst g1
    obtain ⟨f1, f2⟩ := e2 rfl
    rw [if_neg (by rw [← e1]; simp), ← f1] at hR
    by_cases g2 : es = 0
    · subst g2
      obtain ⟨f3, f4⟩ := e4 rfl
      rw [if_neg (by rw [← e3]; simp), ← f3, ← f2, ← f4] at hR
      have hYY : Y = Y2 := by rw [← hY2]; rfl
      rw [hYY, q1, q2] at hR
      subst hR
      have hp : placeOf (p + u) 0 v = p + (u + v) := by unfold placeOf; rw [if_pos rfl, Nat.add_assoc]
      have hg := HG7.out
      rw [hp] at hg
      exact ⟨rfl, HG7.out.off, fun _ => ⟨_, hg⟩⟩
    · rw [if_pos (by rw [← e3]; exact g2), ← e3] at hR
      subst hR
      exact ⟨by simp [errOf], HG7.out.off, fun h => absurd h g2⟩
  · rw [if_pos (by rw [← e1]; exact g1), ← e1] at hR
    subst hR
    exact ⟨by simp [errOf, g1], HG7.out.off, fun h => absurd h g1⟩
end Go.Proofs.Ytmjbimmbphofjaa

namespace Go.Proofs.Ytmjbimmbphofjaa
open Go.RowKit Go.Shelf
set_option maxRecDepth 100000
attribute [local go_sem] Oper.semAt_some

theorem numR_all (l : List Int) : ∃ (X : Int) (u er : Nat), numR l 18446744073709551615 = (X, u, er) ∧ 0 ≤ X ∧ X ≤ 18446744073709551615 ∧ u ≤ l.length ∧
    (((Vi.get l).2.2 ≠ 0 ∧ er = (Vi.get l).2.2) ∨ ((Vi.get l).2.2 = 0 ∧ er = 0 ∧ X = ((Vi.get l).1 : Int) ∧ u = (Vi.get l).2.1)) := by
  have hle := Vi.get_le l
  obtain ⟨X, u, er, h1, h2, h3, h4, h5⟩ := numR_ways l 18446744073709551615 (by omega)
  refine ⟨X, u, er, h1, h2, h3, h4, ?_⟩
  rcases h5 with h | ⟨_, h, _⟩ | ⟨g1, _, g3, g4, g5⟩
  · exact .inl h
  · omega
  · exact .inr ⟨g1, g3, g4, g5⟩
theorem Off.two {mb lb ab : Nat} {w0 w W : World} (hb : Below w0.heap.size w0 w) (ho : Off (fun q => q = mb ∨ q = lb ∨ q = ab) w W) (hlo : w0.heap.size ≤ ab) : Off (fun q => q = mb ∨ q = lb) w0 W := by
  have := (Off.of_below (S := fun q => q = mb ∨ q = lb ∨ q = ab) hb).trans ho (fun _ _ h => h)
  exact this.mono fun j hj h => by
    rcases h with h | h | h
    · exact .inl h
    · exact .inr h
    · omega
theorem CSt.done {w0 w W : World} {lo mb lb ab bm : Nat} {zs : List Int} {N : Mg} {P C0 C : Value} {L : List Int} {a : Int} {p p' : Nat} (h0 : RdAt lo w0 mb lb zs N P C0 p 0) (hb : Below w0.heap.size w0 w) (hlo : w0.heap.size ≤ ab) (hne : L ≠ []) (h : CSt w lo mb lb ab bm zs N P L a p' 0 C W) : RdAt lo W mb lb zs { N with c := L } P C p' 0 := by
  have ho := Off.two hb h.off hlo
  obtain ⟨pa, pc, e1, h2, h3⟩ := h0.p
  have hlt := (Array.getElem?_eq_some_iff.1 h0.m).1
  have hsz := hb.size
  have ha := h0.a
  obtain ⟨ca, cc, e4, h5, h6⟩ := NuX.of_own h.o (by omega) (b4 := mb) (b8 := lb) (by omega) (by omega)
  exact ⟨h.m, h.l, h0.a, ⟨pa, pc, e1, h2, h3.keep ho⟩, ⟨ca, cc, e4, h5, h6⟩, h0.pz, fun e => absurd e hne⟩
theorem PSt.done {w0 w W : World} {lo mb lb ab sb bm : Nat} {zs : List Int} {N : Mg} {C P0 P : Value} {L : List (Int × Int)} {x y : Int} {p p' : Nat} (h0 : RdAt lo w0 mb lb zs N P0 C p 0) (hb : Below w0.heap.size w0 w) (hlo : w0.heap.size ≤ ab) (hne : L ≠ []) (h : PSt w lo mb lb ab sb bm zs N C L x y p' 0 P W) : RdAt lo W mb lb zs { N with p := L } P C p' 0 := by
  have ho := Off.two hb h.off hlo
  obtain ⟨pa, pc, e1, h2, h3⟩ := h0.c
  have hlt := (Array.getElem?_eq_some_iff.1 h0.m).1
  have hsz := hb.size
  have ha := h0.a
  obtain ⟨ca, cc, e4, h5, hc⟩ := nums_of_own h.o (by omega)
  refine ⟨h.m, h.l, h0.a, ⟨ca, cc, e4, h5, fun hn => ?_⟩, ⟨pa, pc, e1, h2, h3.keep ho⟩, fun e => absurd e hne, h0.cz⟩
  obtain ⟨b, off, e6, h7, h8⟩ := hc hn
  have hge : w.heap.size ≤ b := (h.o.lt b (by rw [e4, e6]; rfl)).1
  exact ⟨b, off, e6, by omega, by omega, h8⟩
theorem rdG_rng {a : Int} {l : List Int} (hl : Bys l) : (rdG a l).1 = 0 → -1 ≤ a → -1 ≤ (rdG a l).2.2 ∧ (rdG a l).2.2 ≤ 65535 := fun h ha => by
  obtain ⟨-, -, -, h4, h5⟩ := rdG_ok (a := a) (l := l) (x := (rdG a l).2.2) (u := (rdG a l).2.1) hl (by rw [← h])
  omega
theorem rdQ_rng {a : Int × Int} {l : List Int} (hl : Bys l) : (rdQ a l).1 = 0 → ptOk (rdQ a l).2.2 := fun h => by
  unfold rdQ at h ⊢
  by_cases h1 : (rdX a.1 l).1 ≠ 0
  · rw [if_pos h1] at h; exact absurd h h1
  · rw [if_neg h1] at h ⊢
    by_cases h2 : (rdX a.2 (l.drop (rdX a.1 l).2.1)).1 ≠ 0
    · rw [if_pos h2] at h; exact absurd h h2
    · rw [if_neg h2]
      have h1' : (rdX a.1 l).1 = 0 := by simpa using h1
      have h2' : (rdX a.2 (l.drop (rdX a.1 l).2.1)).1 = 0 := by simpa using h2
      obtain ⟨-, -, -, x1, x2⟩ := rdX_ok (a := a.1) (l := l) (x := (rdX a.1 l).2.2) (u := (rdX a.1 l).2.1) hl (by rw [← h1'])
      obtain ⟨-, -, -, y1, y2⟩ := rdX_ok (a := a.2) (l := l.drop (rdX a.1 l).2.1) (x := (rdX a.2 (l.drop (rdX a.1 l).2.1)).2.2) (u := (rdX a.2 (l.drop (rdX a.1 l).2.1)).2.1) (hl.drop _) (by rw [← h2'])
      exact ⟨x1, x2, y1, y2⟩
set_option maxHeartbeats 16000000 in
theorem countc_any (w0 w : World) (lo mb lb bo1 bo2 ab bm : Nat) (zs : List Int) (N : Mg) (P C : Value) (p : Nat) (f : Fd) (h0 : RdAt lo w0 mb lb zs N P C p 0) (hb : Below w0.heap.size w0 w) (hf : FdX f) (hso : f.so = 4) (hN : N.c = []) (hlo : w0.heap.size ≤ ab ∧ w0.heap.size ≤ bm) (hl : zs.length ≤ 1000000) (hz : Bys zs)
    (h1 : w.heap[bo1]? = some (.cells #[.int .i64 f.mo] 3 (0, 0))) (h2 : w.heap[bo2]? = some (.cells #[.func (.func 89) #[] #[.pointer (some ⟨ab, 0, none⟩), .pointer (some ⟨bm, 0, none⟩)]] 81 (0, 0))) (h3 : w.heap[ab]? = some (.cells #[.int .i64 (-1)] 3 (0, 0))) (h4 : w.heap[bm]? = some (.cells #[.pointer (some ⟨mb, 0, none⟩)] 83 (0, 0))) (hlt : ab < w.heap.size ∧ bm < w.heap.size) :
    Calls Try.prog 85 #[.pointer (some ⟨lb, 0, none⟩), .pointer (some ⟨bo1, 0, none⟩), .pointer (some ⟨bo2, 0, none⟩)] w fun r w' => RdO lo mb lb zs p (rdF N f (zs.drop p)) w0 r w' := by
  obtain ⟨X, u, er, hX, x0, x1, hu, hw⟩ := numR_all (zs.drop p)
  have hR0 := h0.later hb
  have K := lnum_any lo lb zs p 0 w 18446744073709551615 hR0.l (by omega) hz
  rw [hX] at K
  unfold ReadI at K
  simp only [ansI, placeOf, errOf, if_true] at K
  have hmo := hf.mo.2.1 hso
  have hle1 := hf.lst (by omega)
  have hlm := h0.a
  have hmlt := (Array.getElem?_eq_some_iff.1 h0.m).1
  obtain ⟨_, _, hbl, -⟩ := hR0.l.open
  have n1 := row_ne h1 hbl (by decide)
  have n2 := row_ne h2 hbl (by decide)
  have n3 := row_ne h3 hbl (by decide)
  have n4 := row_ne h4 hbl (by decide)
  have n6 := row_ne h2 hR0.m (by decide)
  have n7 := row_ne h2 h3 (by decide)
  have hNC : C = .slice none 0 0 := h0.cz hN
  have HNE : Hid ({ N with c := [] } = N) := Lib.hid (by cases N; simp only at hN; subst hN; rfl)
  obtain ⟨R, hR⟩ : ∃ R, rdF N f (zs.drop p) = R := ⟨_, rfl⟩
  rw [hR]
  unfold rdF at hR
  rw [if_neg (show ¬ f.so = 1 by omega), if_neg (show ¬ f.so = 2 by omega), if_neg (show ¬ f.so = 3 by omega), if_pos hso, hmo, hle1, hN] at hR
  simp only [List.nil_append, Int.zero_lt_one, and_true] at hR
  rw [hmo] at h1
  have K := Lib.hid K
  have HH := Lib.hid h0
  have HB := Lib.hid hb
  have HR0 := Lib.hid hR0
  have H2 := Lib.hid h2
  have H3 := Lib.hid h3
  have H4 := Lib.hid h4
  have HR := Lib.hid hR
  have HW := Lib.hid hw
  have HBY := Lib.hid hz
  have H1 := Lib.hid h1
  clear hR hw hX h0 hb hbl h1 h2 h3 h4 hz hR0 hf hmo hle1
  go_enter Try.func85, Try.ntmps85
  go_wp2
  refine wp_scope_straight ?_
  go_wp2_with fail
  refine K.out.mono ?_
  rintro r w1 ⟨rfl, hl1, ho1⟩
  have HOF : Hid (Off (fun q => q = mb ∨ q = lb) w0 w1) := Lib.hid (((Off.of_below (S := fun q => q = mb ∨ q = lb) HB.out).trans ho1 (fun _ _ e => .inr e)))
  have m1 := (ho1.block _ (Array.getElem?_eq_some_iff.1 HR0.out.m).1 (by omega)).trans HR0.out.m
  have k1 := row_cell ((ho1.block _ (Array.getElem?_eq_some_iff.1 H1.out).1 n1).trans H1.out) 0 _ rfl
  have a1 := (ho1.block _ (Array.getElem?_eq_some_iff.1 H3.out).1 n3).trans H3.out
  have b1 := (ho1.block _ (Array.getElem?_eq_some_iff.1 H4.out).1 n4).trans H4.out
  have f1 := (ho1.block _ (Array.getElem?_eq_some_iff.1 H2.out).1 n2).trans H2.out
  have hwz := HB.out.size
  rw [hNC, ← HNE.out] at m1
  have KE := Lib.hid (lerr_any _ _ _ _ _ _ hl1)
  have HST : Hid (er = 0 → CSt w lo mb lb ab bm zs N P [] (-1) (p + u) 0 (.slice none 0 0) w1) := Lib.hid fun h => by
    subst h
    exact ⟨m1, hl1, World.ownsRow_nil _ _ _ _, a1, b1, ho1.mono (fun _ _ e => .inr (.inl e)), by omega⟩
  have HL1 := Lib.hid hl1
  clear K hl1 a1 b1 m1 f1
  go_wp2_with fail
  refine KE.out.mono ?_
  rintro r w2 ⟨rfl, rfl⟩
  clear KE
  rcases HW.out with ⟨g1, rfl⟩ | ⟨g1, rfl, rfl, rfl⟩
  · have e1 : (((Vi.get (zs.drop p)).2.2 : Int) != 0) = true := by simpa using g1
    have hR := HR.out
    rw [if_pos g1] at hR
    have HR2 := Lib.hid hR
    clear hR HST
    go_wp2
    try simp only [Exit.noGoto]
    go_ret
    rw [← HR2.out]
    exact ⟨rfl, HOF.out, fun h => absurd h g1⟩
  · have hR := HR.out
    rw [if_neg (by simpa using g1)] at hR
    clear HW HR
    generalize (Vi.get (zs.drop p)).1 = z at *
    generalize (Vi.get (zs.drop p)).2.1 = u at *
    clear g1
    by_cases hz0 : z = 0
    · subst hz0
      rw [if_pos rfl] at hR
      have HR2 := Lib.hid hR
      clear hR HST
      go_wp2
      try simp only [Exit.noGoto]
      go_ret
      rw [← HR2.out]
      exact ⟨rfl, HOF.out, fun h => by simp at h⟩
    · have hzi : ¬ (z : Int) = 0 := by omega
      rw [if_neg hz0] at hR
      by_cases hbig : (32 : Int) < (z : Int)
      · rw [if_pos hbig] at hR
        have HR2 := Lib.hid hR
        clear hR HST
        go_wp2
        try simp only [Exit.noGoto]
        go_ret
        rw [← HR2.out]
        exact ⟨rfl, HOF.out, fun h => by simp at h⟩
      · rw [if_neg hbig] at hR
        rw [List.drop_drop] at hR
        have hz32 : (z : Int) ≤ 32 := by omega
        have HR2 := Lib.hid hR
        have HS1 := Lib.hid (HST.out rfl)
        obtain ⟨RC, hRC⟩ : ∃ RC, rdC z (-1) (zs.drop (p + u)) = RC := ⟨_, rfl⟩
        have HRC := Lib.hid hRC
        clear hR HST hRC
        go_wp2_with fail
        refine wp_label ?_
        go_wp2_with fail
        rw [show ((z : Int) == 0) = false from by simpa using hzi]
        go_loopw [6, 24] (fun ev iv wr => ∃ (j c : Nat) (a : Int) (L : List Int) (D : Value), j ≤ z ∧ ev = .int .i64 0 ∧ iv = .int .u64 (j : Int) ∧ L.length = j ∧ (-1 ≤ a ∧ a ≤ 65535) ∧ Hid (CSt w lo mb lb ab bm zs N P L a (p + u + c) 0 D wr) ∧ Hid (RC = ((rdC (z - j) a (zs.drop (p + u + c))).1, c + (rdC (z - j) a (zs.drop (p + u + c))).2.1, L ++ (rdC (z - j) a (zs.drop (p + u + c))).2.2))) (fun _ iv _ => z - (intOf iv).toNat)
        case atStart => exact ⟨0, 0, (-1), [], .slice none 0 0, by omega, rfl, rfl, rfl, ⟨by omega, by omega⟩, HS1, by rw [Nat.sub_zero, Nat.add_zero, HRC.out]; exact Lib.hid (by simp)⟩
        case round =>
          obtain ⟨j, c, a, L, D, hj, rfl, rfl, hL, hab, HS, HE⟩ := hrel
          obtain ⟨q, hq⟩ : ∃ q, p + u + c = q := ⟨_, rfl⟩
          rw [hq] at HS HE
          rcases Nat.lt_or_ge j z with hlt | hge
          · have hj2 : (j : Int) < (z : Int) := by omega
            have K := cellr_any w lo mb lb ab bm zs N P L a q D wr HS.out hab.1 hab.2 (by omega) (by omega) HBY.out
            have hst := rdC_step (z - j - 1) a (zs.drop q)
            rw [show z - j - 1 + 1 = z - j by omega] at hst
            have hrg := fun h => rdG_rng (a := a) (HBY.out.drop q) h hab.1
            obtain ⟨⟨E, k, x⟩, hans⟩ : ∃ r, rdG a (zs.drop q) = r := ⟨_, rfl⟩
            rw [hans] at K hst hrg
            simp only at K hst hrg
            have kf := row_cell ((HS.out.off.block _ (Array.getElem?_eq_some_iff.1 H2.out).1 (by omega)).trans H2.out) 0 _ rfl
            have K := Lib.hid K
            have HST := Lib.hid hst
            clear hans hst
            go_wp2_with fail
            refine K.out.mono ?_
            rintro r w2 ⟨rfl, hoff, hok⟩
            clear K
            by_cases hE : E = 0
            · subst hE
              obtain ⟨D2, hD2⟩ := hok rfl
              have hx := hrg rfl
              have hst := HST.out
              rw [if_neg (by simp)] at hst
              have hE2 := HE.out
              rw [hst] at hE2
              simp only at hE2
              rw [List.drop_drop] at hE2
              have HE3 : Hid (RC = ((rdC (z - (j + 1)) x (zs.drop (p + u + (c + k)))).1, c + k + (rdC (z - (j + 1)) x (zs.drop (p + u + (c + k)))).2.1, (L ++ [x]) ++ (rdC (z - (j + 1)) x (zs.drop (p + u + (c + k)))).2.2)) := Lib.hid (by
                rw [hE2, ← Nat.add_assoc (p + u) c k, hq, show z - (j + 1) = z - j - 1 by omega, Nat.add_assoc, List.append_assoc]
                rfl)
              have HD2 : Hid (CSt w lo mb lb ab bm zs N P (L ++ [x]) x (p + u + (c + k)) 0 D2 w2) := Lib.hid (by rw [← Nat.add_assoc, hq]; exact hD2)
              clear hE2 hst hD2 hok hoff kf hq
              go_wp2
              go_roundw
              case rel => exact ⟨j + 1, c + k, x, L ++ [x], D2, by omega, by go_num, by go_num, by simp [hL], hx, HD2, HE3⟩
              case measure => simp [intOf]; omega
            · have e1 : ((E : Int) != 0) = true := by simpa using hE
              have hst := HST.out
              rw [if_pos hE] at hst
              have hE2 := HE.out
              rw [hst] at hE2
              have hR := HR2.out
              rw [HRC.out, hE2] at hR
              simp only at hR
              rw [if_pos hE] at hR
              have HR3 := Lib.hid hR
              have HO3 := Lib.hid (Off.two HB.out hoff hlo.1)
              clear hR hE2 hst hok hoff kf hq
              go_wp2
              try simp only [Exit.noGoto]
              go_ret
              rw [← HR3.out]
              exact ⟨rfl, HO3.out, fun h => absurd h hE⟩
          · obtain rfl : j = z := by omega
            have hE2 := HE.out
            rw [Nat.sub_self] at hE2
            simp only [rdC, Nat.add_zero, List.append_nil] at hE2
            have hR := HR2.out
            rw [HRC.out, hE2] at hR
            simp only [ne_eq, not_true_eq_false, if_false] at hR
            have HR3 := Lib.hid hR
            have HF := Lib.hid (CSt.done HH.out HB.out hlo.1 (by intro h; rw [h] at hL; simp at hL; omega) HS.out)
            have HO3 := Lib.hid (Off.two HB.out HS.out.off hlo.1)
            have HQ := Lib.hid hq
            clear hR hE2 hq
            go_wp2
            try simp only [Exit.noGoto]
            go_ret
            rw [← HR3.out]
            refine ⟨rfl, HO3.out, fun _ => ?_⟩
            have hf := HF.out
            rw [← HQ.out] at hf
            exact ⟨_, _, by rw [← Nat.add_assoc]; exact hf⟩
set_option maxHeartbeats 16000000 in
theorem countp_any (w0 w : World) (lo mb lb bo1 bo2 ab sb bm : Nat) (zs : List Int) (N : Mg) (P C : Value) (p : Nat) (f : Fd) (h0 : RdAt lo w0 mb lb zs N P C p 0) (hb : Below w0.heap.size w0 w) (hf : FdX f) (hso : f.so = 3) (hN : N.p = []) (hlo : w0.heap.size ≤ ab ∧ w0.heap.size ≤ bm ∧ w0.heap.size ≤ sb) (hl : zs.length ≤ 1000000) (hz : Bys zs)
    (h1 : w.heap[bo1]? = some (.cells #[.int .i64 f.mo] 3 (0, 0))) (h2 : w.heap[bo2]? = some (.cells #[.func (.func 88) #[] #[.pointer (some ⟨ab, 0, none⟩), .pointer (some ⟨sb, 0, none⟩), .pointer (some ⟨bm, 0, none⟩)]] 81 (0, 0))) (h3 : w.heap[ab]? = some (.cells #[.int .i64 0, .int .i64 0] 73 (0, 0))) (h4 : w.heap[bm]? = some (.cells #[.pointer (some ⟨mb, 0, none⟩)] 83 (0, 0))) (h5 : w.heap[sb]? = some (.cells #[.func (.func 87) #[] #[]] 136 (0, 0))) (hlt : ab < w.heap.size ∧ bm < w.heap.size ∧ sb < w.heap.size) :
    Calls Try.prog 85 #[.pointer (some ⟨lb, 0, none⟩), .pointer (some ⟨bo1, 0, none⟩), .pointer (some ⟨bo2, 0, none⟩)] w fun r w' => RdO lo mb lb zs p (rdF N f (zs.drop p)) w0 r w' := by
  obtain ⟨X, u, er, hX, x0, x1, hu, hw⟩ := numR_all (zs.drop p)
  have hR0 := h0.later hb
  have K := lnum_any lo lb zs p 0 w 18446744073709551615 hR0.l (by omega) hz
  rw [hX] at K
  unfold ReadI at K
  simp only [ansI, placeOf, errOf, if_true] at K
  have hmo := hf.mo.1 hso
  have hle1 := hf.lst (by omega)
  have hlm := h0.a
  have hmlt := (Array.getElem?_eq_some_iff.1 h0.m).1
  obtain ⟨_, _, hbl, -⟩ := hR0.l.open
  have n1 := row_ne h1 hbl (by decide)
  have n2 := row_ne h2 hbl (by decide)
  have n3 := row_ne h3 hbl (by decide)
  have n4 := row_ne h4 hbl (by decide)
  have n5 := row_ne h5 hbl (by decide)
  have n6 := row_ne h2 hR0.m (by decide)
  have n7 := row_ne h2 h3 (by decide)
  have hNC : P = .slice none 0 0 := h0.pz hN
  have HNE : Hid ({ N with p := [] } = N) := Lib.hid (by cases N; simp only at hN; subst hN; rfl)
  obtain ⟨R, hR⟩ : ∃ R, rdF N f (zs.drop p) = R := ⟨_, rfl⟩
  rw [hR]
  unfold rdF at hR
  rw [if_neg (show ¬ f.so = 1 by omega), if_neg (show ¬ f.so = 2 by omega), if_pos hso, hmo, hle1, hN] at hR
  simp only [List.nil_append, Int.zero_lt_one, and_true] at hR
  rw [hmo] at h1
  have K := Lib.hid K
  have HH := Lib.hid h0
  have HB := Lib.hid hb
  have HR0 := Lib.hid hR0
  have H2 := Lib.hid h2
  have H3 := Lib.hid h3
  have H4 := Lib.hid h4
  have H5 := Lib.hid h5
  have HR := Lib.hid hR
  have HW := Lib.hid hw
  have HBY := Lib.hid hz
  have H1 := Lib.hid h1
  clear hR hw hX h0 hb hbl h1 h2 h3 h4 h5 hz hR0 hf hmo hle1
  go_enter Try.func85, Try.ntmps85
  go_wp2
  refine wp_scope_straight ?_
  go_wp2_with fail
  refine K.out.mono ?_
  rintro r w1 ⟨rfl, hl1, ho1⟩
  have HOF : Hid (Off (fun q => q = mb ∨ q = lb) w0 w1) := Lib.hid (((Off.of_below (S := fun q => q = mb ∨ q = lb) HB.out).trans ho1 (fun _ _ e => .inr e)))
  have m1 := (ho1.block _ (Array.getElem?_eq_some_iff.1 HR0.out.m).1 (by omega)).trans HR0.out.m
  have k1 := row_cell ((ho1.block _ (Array.getElem?_eq_some_iff.1 H1.out).1 n1).trans H1.out) 0 _ rfl
  have a1 := (ho1.block _ (Array.getElem?_eq_some_iff.1 H3.out).1 n3).trans H3.out
  have b1 := (ho1.block _ (Array.getElem?_eq_some_iff.1 H4.out).1 n4).trans H4.out
  have s1 := (ho1.block _ (Array.getElem?_eq_some_iff.1 H5.out).1 n5).trans H5.out
  have f1 := (ho1.block _ (Array.getElem?_eq_some_iff.1 H2.out).1 n2).trans H2.out
  have hwz := HB.out.size
  rw [hNC, ← HNE.out] at m1
  have KE := Lib.hid (lerr_any _ _ _ _ _ _ hl1)
  have HST : Hid (er = 0 → PSt w lo mb lb ab sb bm zs N C [] 0 0 (p + u) 0 (.slice none 0 0) w1) := Lib.hid fun h => by
    subst h
    exact ⟨m1, hl1, World.ownsRow_nil _ _ _ _, a1, s1, b1, ho1.mono (fun _ _ e => .inr (.inl e)), by omega⟩
  have HL1 := Lib.hid hl1
  clear K hl1 a1 b1 m1 f1 s1
  go_wp2_with fail
  refine KE.out.mono ?_
  rintro r w2 ⟨rfl, rfl⟩
  clear KE
  rcases HW.out with ⟨g1, rfl⟩ | ⟨g1, rfl, rfl, rfl⟩
  · have e1 : (((Vi.get (zs.drop p)).2.2 : Int) != 0) = true := by simpa using g1
    have hR := HR.out
    rw [if_pos g1] at hR
    have HR2 := Lib.hid hR
    clear hR HST
    go_wp2
    try simp only [Exit.noGoto]
    go_ret
    rw [← HR2.out]
    exact ⟨rfl, HOF.out, fun h => absurd h g1⟩
  · have hR := HR.out
    rw [if_neg (by simpa using g1)] at hR
    clear HW HR
    generalize (Vi.get (zs.drop p)).1 = z at *
    generalize (Vi.get (zs.drop p)).2.1 = u at *
    clear g1
    by_cases hz0 : z = 0
    · subst hz0
      rw [if_pos rfl] at hR
      have HR2 := Lib.hid hR
      clear hR HST
      go_wp2
      try simp only [Exit.noGoto]
      go_ret
      rw [← HR2.out]
      exact ⟨rfl, HOF.out, fun h => by simp at h⟩
    · have hzi : ¬ (z : Int) = 0 := by omega
      rw [if_neg hz0] at hR
      by_cases hbig : (16 : Int) < (z : Int)
      · rw [if_pos hbig] at hR
        have HR2 := Lib.hid hR
        clear hR HST
        go_wp2
        try simp only [Exit.noGoto]
        go_ret
        rw [← HR2.out]
        exact ⟨rfl, HOF.out, fun h => by simp at h⟩
      · rw [if_neg hbig] at hR
        rw [List.drop_drop] at hR
        have hz32 : (z : Int) ≤ 16 := by omega
        have HR2 := Lib.hid hR
        have HS1 := Lib.hid (HST.out rfl)
        obtain ⟨RC, hRC⟩ : ∃ RC, rdP z (0, 0) (zs.drop (p + u)) = RC := ⟨_, rfl⟩
        have HRC := Lib.hid hRC
        clear hR HST hRC
        go_wp2_with fail
        refine wp_label ?_
        go_wp2_with fail
        rw [show ((z : Int) == 0) = false from by simpa using hzi]
        go_loopw [6, 24] (fun ev iv wr => ∃ (j c : Nat) (a : Int × Int) (L : List (Int × Int)) (D : Value), j ≤ z ∧ ev = .int .i64 0 ∧ iv = .int .u64 (j : Int) ∧ L.length = j ∧ (ptOk a) ∧ Hid (PSt w lo mb lb ab sb bm zs N C L a.1 a.2 (p + u + c) 0 D wr) ∧ Hid (RC = ((rdP (z - j) a (zs.drop (p + u + c))).1, c + (rdP (z - j) a (zs.drop (p + u + c))).2.1, L ++ (rdP (z - j) a (zs.drop (p + u + c))).2.2))) (fun _ iv _ => z - (intOf iv).toNat)
        case atStart => exact ⟨0, 0, (0, 0), [], .slice none 0 0, by omega, rfl, rfl, rfl, ⟨by simp, by simp, by simp, by simp⟩, HS1, by rw [Nat.sub_zero, Nat.add_zero, HRC.out]; exact Lib.hid (by simp)⟩
        case round =>
          obtain ⟨j, c, a, L, D, hj, rfl, rfl, hL, hab, HS, HE⟩ := hrel
          obtain ⟨q, hq⟩ : ∃ q, p + u + c = q := ⟨_, rfl⟩
          rw [hq] at HS HE
          rcases Nat.lt_or_ge j z with hlt | hge
          · have hj2 : (j : Int) < (z : Int) := by omega
            have K := pointr_any w lo mb lb ab sb bm zs N C L a.1 a.2 q D wr HS.out ⟨hab.1, hab.2.1⟩ ⟨hab.2.2.1, hab.2.2.2⟩ (by omega) (by omega) HBY.out
            have hst := rdP_q (z - j - 1) a (zs.drop q)
            rw [show z - j - 1 + 1 = z - j by omega] at hst
            have hrg := rdQ_rng (a := a) (HBY.out.drop q)
            obtain ⟨⟨E, k, x⟩, hans⟩ : ∃ r, rdQ a (zs.drop q) = r := ⟨_, rfl⟩
            rw [hans] at K hst hrg
            simp only at K hst hrg
            have kf := row_cell ((HS.out.off.block _ (Array.getElem?_eq_some_iff.1 H2.out).1 (by omega)).trans H2.out) 0 _ rfl
            have K := Lib.hid K
            have HST := Lib.hid hst
            clear hans hst
            go_wp2_with fail
            refine K.out.mono ?_
            rintro r w2 ⟨rfl, hoff, hok⟩
            clear K
            by_cases hE : E = 0
            · subst hE
              obtain ⟨D2, hD2⟩ := hok rfl
              have hx := hrg rfl
              have hst := HST.out
              rw [if_neg (by simp)] at hst
              have hE2 := HE.out
              rw [hst] at hE2
              simp only at hE2
              rw [List.drop_drop] at hE2
              have HE3 : Hid (RC = ((rdP (z - (j + 1)) x (zs.drop (p + u + (c + k)))).1, c + k + (rdP (z - (j + 1)) x (zs.drop (p + u + (c + k)))).2.1, (L ++ [x]) ++ (rdP (z - (j + 1)) x (zs.drop (p + u + (c + k)))).2.2)) := Lib.hid (by
                rw [hE2, ← Nat.add_assoc (p + u) c k, hq, show z - (j + 1) = z - j - 1 by omega, Nat.add_assoc, List.append_assoc]
                rfl)
              have HD2 : Hid (PSt w lo mb lb ab sb bm zs N C (L ++ [x]) x.1 x.2 (p + u + (c + k)) 0 D2 w2) := Lib.hid (by rw [← Nat.add_assoc, hq]; exact hD2)
              clear hE2 hst hD2 hok hoff kf hq
              go_wp2
              go_roundw
              case rel => exact ⟨j + 1, c + k, x, L ++ [x], D2, by omega, by go_num, by go_num, by simp [hL], hx, HD2, HE3⟩
              case measure => simp [intOf]; omega
            · have e1 : ((E : Int) != 0) = true := by simpa using hE
              have hst := HST.out
              rw [if_pos hE] at hst
              have hE2 := HE.out
              rw [hst] at hE2
              have hR := HR2.out
              rw [HRC.out, hE2] at hR
              simp only at hR
              rw [if_pos hE] at hR
              have HR3 := Lib.hid hR
              have HO3 := Lib.hid (Off.two HB.out hoff hlo.1)
              clear hR hE2 hst hok hoff kf hq
              go_wp2
              try simp only [Exit.noGoto]
              go_ret
              rw [← HR3.out]
              exact ⟨rfl, HO3.out, fun h => absurd h hE⟩
          · obtain rfl : j = z := by omega
            have hE2 := HE.out
            rw [Nat.sub_self] at hE2
            simp only [rdP, Nat.add_zero, List.append_nil] at hE2
            have hR := HR2.out
            rw [HRC.out, hE2] at hR
            simp only [ne_eq, not_true_eq_false, if_false] at hR
            have HR3 := Lib.hid hR
            have HF := Lib.hid (PSt.done HH.out HB.out hlo.1 (by intro h; rw [h] at hL; simp at hL; omega) HS.out)
            have HO3 := Lib.hid (Off.two HB.out HS.out.off hlo.1)
            have HQ := Lib.hid hq
            clear hR hE2 hq
            go_wp2
            try simp only [Exit.noGoto]
            go_ret
            rw [← HR3.out]
            refine ⟨rfl, HO3.out, fun _ => ?_⟩
            have hf := HF.out
            rw [← HQ.out] at hf
            exact ⟨_, _, by rw [← Nat.add_assoc]; exact hf⟩
end Go.Proofs.Ytmjbimmbphofjaa

namespace Go.Proofs.Ytmjbimmbphofjaa
open Go.RowKit Go.Shelf
set_option maxRecDepth 100000
attribute [local go_sem] Oper.semAt_some

theorem unfit_any (x : Int) (w : World) : Calls Try.prog 94 #[.int .u8 x] w fun e w' => e = .returned (.bool (decide (¬ byI x))) ∧ w' = w := by
  by_cases h1 : x < 32
  · rw [decide_eq_true (by unfold byI; omega)]
    go_enter Try.func94, Try.ntmps94
    go_wp2
    go_ret
    exact ⟨rfl, rfl⟩
  · by_cases h2 : 126 < x
    · rw [decide_eq_true (by unfold byI; omega)]
      go_enter Try.func94, Try.ntmps94
      go_wp2
      go_ret
      exact ⟨rfl, rfl⟩
    · rw [decide_eq_false (by unfold byI; omega)]
      go_enter Try.func94, Try.ntmps94
      go_wp2
      go_ret
      exact ⟨rfl, rfl⟩
set_option maxHeartbeats 1000000 in
theorem indexu_any (B : Nat) (a : Option Addr) (n c : Nat) (zs : List Int) (w : World) (hn : zs.length = n) (hl : n ≤ 1000000) (h1 : Nums .u8 w B a zs) :
    Calls Try.prog 108 #[.slice a n c, .func (.func 94) #[] #[]] w fun e w' => (∃ r : Int, e = .returned (.int .i64 r) ∧ ((0 ≤ r ∧ ∃ s ∈ zs, ¬ byI s) ∨ (r = -1 ∧ ∀ s ∈ zs, byI s))) ∧ w' = w := by
  have HL := Lib.hid hn
  clear hn
  go_enter Try.func108, Try.ntmps108
  go_wp2
  go_loopw [5, 8] (fun _ v wr => ∃ k : Nat, k ≤ n ∧ v = .int .i64 (k : Int) ∧ Hid (∀ s ∈ zs.take k, byI s) ∧ wr = w) (fun _ v _ => n - (intOf v).toNat)
  case atStart => exact ⟨0, by omega, rfl, fun s hs => by simp at hs, rfl⟩
  case round =>
    obtain ⟨k, hk, rfl, HN, rfl⟩ := hrel
    by_cases hlt : k < n
    · obtain ⟨z, hz⟩ : ∃ z, zs[k]? = some z := ⟨_, List.getElem?_eq_getElem (by rw [HL.out]; exact hlt)⟩
      obtain ⟨b1, o1, rfl, hb1, hc1⟩ := h1.open hz
      have hlt' : (k : Int) < (n : Int) := by omega
      have K := unfit_any z wr
      by_cases hz0 : byI z
      · have HF : Hid (∀ s ∈ zs.take (k + 1), byI s) := by
          show ∀ s ∈ _, _
          rw [List.take_add_one, hz]
          intro s hs
          rcases List.mem_append.1 hs with h | h
          · exact HN.out s h
          · simp at h; subst h; exact hz0
        rw [decide_eq_false (by simpa using hz0)] at K
        clear hz h1
        go_wp2_with fail
        refine K.mono ?_
        rintro e w' ⟨rfl, rfl⟩
        go_wp2
        go_roundw
        case rel => exact ⟨k + 1, by omega, by go_num, HF, trivial⟩
        case measure => simp [intOf]; omega
      · have HF := Lib.hid (show ∃ s ∈ zs, ¬ byI s from ⟨z, List.mem_of_getElem? hz, hz0⟩)
        rw [decide_eq_true hz0] at K
        clear hz h1
        go_wp2_with fail
        refine K.mono ?_
        rintro e w' ⟨rfl, rfl⟩
        go_wp2
        go_ret
        exact ⟨⟨_, rfl, .inl ⟨by omega, HF.out⟩⟩, rfl⟩
    · have hkn : k = n := by omega
      have HF : Hid (∀ s ∈ zs, byI s) := by
        have := HN.out
        rwa [List.take_of_length_le (by rw [HL.out]; omega)] at this
      go_wp2
      go_ret
      exact ⟨⟨_, rfl, .inr ⟨rfl, HF.out⟩⟩, rfl⟩
theorem cunfit_any (B : Nat) (a : Option Addr) (n c : Nat) (zs : List Int) (w : World) (hn : zs.length = n) (hl : n ≤ 1000000) (h1 : Nums .u8 w B a zs) :
    Calls Try.prog 93 #[.slice a n c, .func (.func 94) #[] #[]] w fun e w' => e = .returned (.bool (decide (¬ ∀ s ∈ zs, byI s))) ∧ w' = w := by
  have K := indexu_any B a n c zs w hn hl h1
  clear h1
  obtain ⟨r0, hr0⟩ : ∃ r0, decide (¬ ∀ s ∈ zs, byI s) = r0 := ⟨_, rfl⟩
  rw [hr0]
  go_enter Try.func93, Try.ntmps93
  go_wp2_with fail
  refine K.mono ?_
  rintro e w' ⟨⟨r, rfl, h⟩, rfl⟩
  rcases h with ⟨h0, s, hs1, hs2⟩ | ⟨rfl, h⟩
  · have hr : r0 = true := by rw [← hr0]; exact decide_eq_true fun h => hs2 (h s hs1)
    subst hr
    clear K hr0
    go_wp2
    go_ret
    exact ⟨rfl, rfl⟩
  · have hr : r0 = false := by rw [← hr0]; exact decide_eq_false fun h2 => h2 h
    subst hr
    clear h K hr0
    go_wp2
    go_ret
    exact ⟨rfl, rfl⟩
theorem puttx_any (mb bm : Nat) (N : Mg) (P C : Value) (s : ByteArray) (w : World) (hm : w.heap[mb]? = some (.cells (mC N P C) 26 (0, 0))) (hbm : w.heap[bm]? = some (.cells #[.pointer (some ⟨mb, 0, none⟩)] 83 (0, 0))) :
    Calls Try.prog 66 #[.string s, .pointer (some ⟨bm, 0, none⟩)] w fun e w' => (∃ x, e = .returned x) ∧ w' = w.setCell ⟨mb, 9, none⟩ (.string s) := by
  have k := row_cell hbm 0 _ rfl
  have c := row_cell hm 9 (.string N.tx) rfl
  have z := frozen_of_row w mb 9 _ _ hm
  clear hm hbm
  go_enter Try.func66, Try.ntmps66
  go_wp2
  go_end0
  exact ⟨⟨_, rfl⟩, rfl⟩
theorem puttg_any (mb bm : Nat) (N : Mg) (P C : Value) (s : ByteArray) (w : World) (hm : w.heap[mb]? = some (.cells (mC N P C) 26 (0, 0))) (hbm : w.heap[bm]? = some (.cells #[.pointer (some ⟨mb, 0, none⟩)] 83 (0, 0))) :
    Calls Try.prog 67 #[.string s, .pointer (some ⟨bm, 0, none⟩)] w fun e w' => (∃ x, e = .returned x) ∧ w' = w.setCell ⟨mb, 10, none⟩ (.string s) := by
  have k := row_cell hbm 0 _ rfl
  have c := row_cell hm 10 (.string N.tg) rfl
  have z := frozen_of_row w mb 10 _ _ hm
  clear hm hbm
  go_enter Try.func67, Try.ntmps67
  go_wp2
  go_end0
  exact ⟨⟨_, rfl⟩, rfl⟩
/-- 'string(b)' of bytes that lie somewhere -/
theorem conv_txt (B : Nat) (a : Option Addr) (n c : Nat) (zs : List Int) (w : World) (hn : zs.length = n) (h1 : Nums .u8 w B a zs) :
    (convert 28 9 (.slice a n c)).run Try.prog w = .ok (.string (txt zs)) w := by
  subst hn
  by_cases hz : zs = []
  · subst hz
    rw [run_convert_bytes_string w _ _ _ _ _ _ Try.underlying28 Try.underlying5 Try.underlying9]
    cases a <;> simp [Conv.bytesToString, loadCells] <;> rfl
  · obtain ⟨b, o, rfl, _, hc⟩ := h1 hz
    exact run_convert_bytes_arg (P := Try.prog) w _ _ Try.underlying28 Try.underlying5 b o _ c zs rfl (fun i hi => by
      rw [hc i zs[i] (List.getElem?_eq_getElem hi)]
      simp [List.getElem?_eq_getElem hi]) _ Try.underlying9
theorem NumsIn.nums18 {k : IntKind} {w : World} {lo hi : Nat} {a : Option Addr} {zs : List Int} (h : NumsIn k w lo hi a zs) : Nums k w hi a zs := fun hn => by
  obtain ⟨b, off, e, _, h2, hc⟩ := h hn
  exact ⟨b, off, e, h2, hc⟩
theorem fldR_ways (l : List Int) (mo : Int) (h0 : 0 ≤ mo) (h1 : mo ≤ 64) : ∃ (B : List Int) (u er : Nat), fldR l mo = (B, u, er) ∧ B.length ≤ 64 ∧
    (((Vi.get l).2.2 ≠ 0 ∧ er = (Vi.get l).2.2) ∨ ((Vi.get l).2.2 = 0 ∧ mo < ((Vi.get l).1 : Int) ∧ er = 6) ∨
      ((Vi.get l).2.2 = 0 ∧ ((Vi.get l).1 : Int) ≤ mo ∧ (l.drop (Vi.get l).2.1).length < (Vi.get l).1 ∧ er = 4) ∨
      ((Vi.get l).2.2 = 0 ∧ ((Vi.get l).1 : Int) ≤ mo ∧ ¬ (l.drop (Vi.get l).2.1).length < (Vi.get l).1 ∧ er = 0 ∧ B = (l.drop (Vi.get l).2.1).take (Vi.get l).1 ∧ u = (Vi.get l).2.1 + (Vi.get l).1)) := by
  unfold fldR
  rw [show max mo 0 = mo by omega]
  by_cases g1 : (Vi.get l).2.2 ≠ 0
  · rw [if_pos g1]
    exact ⟨[], 0, _, rfl, by simp, .inl ⟨g1, rfl⟩⟩
  · rw [if_neg g1]
    have g1' : (Vi.get l).2.2 = 0 := by simpa using g1
    by_cases g2 : mo < ((Vi.get l).1 : Int)
    · rw [if_pos g2]
      exact ⟨[], 0, _, rfl, by simp, .inr (.inl ⟨g1', g2, rfl⟩)⟩
    · rw [if_neg g2]
      by_cases g3 : l.length - (Vi.get l).2.1 < (Vi.get l).1
      · rw [if_pos g3]
        exact ⟨[], 0, _, rfl, by simp, .inr (.inr (.inl ⟨g1', by omega, by rw [List.length_drop]; exact g3, rfl⟩))⟩
      · rw [if_neg g3]
        exact ⟨_, _, _, rfl, by rw [List.length_take]; omega, .inr (.inr (.inr ⟨g1', by omega, by rw [List.length_drop]; exact g3, rfl, rfl, rfl⟩))⟩
set_option maxHeartbeats 4000000 in
theorem textr_any (lo mb lb bo bp bm : Nat) (zs : List Int) (N : Mg) (P C : Value) (p : Nat) (f : Fd) (w : World) (h : RdAt lo w mb lb zs N P C p 0) (hf : FdX f) (hso : f.so = 5) (hl : zs.length ≤ 1000000) (hz : Bys zs)
    (hbo : w.heap[bo]? = some (.cells #[.int .i64 f.mo] 3 (0, 0))) (hbp : w.heap[bp]? = some (.cells #[.func (.func 66) #[] #[.pointer (some ⟨bm, 0, none⟩)]] 120 (0, 0))) (hbm : w.heap[bm]? = some (.cells #[.pointer (some ⟨mb, 0, none⟩)] 83 (0, 0))) :
    Calls Try.prog 91 #[.pointer (some ⟨lb, 0, none⟩), .pointer (some ⟨bo, 0, none⟩), .pointer (some ⟨bp, 0, none⟩)] w fun r w' => RdO lo mb lb zs p (rdF N f (zs.drop p)) w r w' := by
  have hmo : 0 ≤ f.mo ∧ f.mo ≤ 64 := by have := hf.mo; omega
  have hle0 := hf.tex (by omega)
  obtain ⟨Bs, u, er, hX, hBl, hw⟩ := fldR_ways (zs.drop p) f.mo hmo.1 hmo.2
  have K := lfld_any lo lb zs p 0 w f.mo (by omega) (by omega) h.l (by omega) hz
  rw [hX] at K
  unfold ReadB at K
  simp only [ansB, placeOf, errOf, if_true] at K
  obtain ⟨R, hR⟩ : ∃ R, rdF N f (zs.drop p) = R := ⟨_, rfl⟩
  rw [hR]
  unfold rdF at hR
  rw [if_neg (show ¬ f.so = 1 by omega), if_neg (show ¬ f.so = 2 by omega), if_neg (show ¬ (((Vi.get (zs.drop p)).1 = 0) ∧ 0 < f.le) by omega), if_neg (show ¬ f.so = 3 by omega), if_neg (show ¬ f.so = 4 by omega)] at hR
  have hlm := h.a
  obtain ⟨_, _, hbl, -⟩ := h.l.open
  have n1 := row_ne hbo h.m (by decide)
  have n2 := row_ne hbo hbl (by decide)
  have n3 := row_ne hbm h.m (by decide)
  have n4 := row_ne hbm hbl (by decide)
  have n6 := row_ne hbp hbl (by decide)
  have kb := row_cell hbo 0 _ rfl
  have K := Lib.hid K
  have HH := Lib.hid h
  have HBP := Lib.hid hbp
  have HBM := Lib.hid hbm
  have HR := Lib.hid hR
  have HW := Lib.hid hw
  obtain ⟨q, hq⟩ : ∃ q, Bs.length = q := ⟨_, rfl⟩
  rw [hq] at K hBl
  have HQ := Lib.hid hq
  clear hR hw hX h hbl hbo hbp hbm hq
  go_enter Try.func91, Try.ntmps91
  go_wp2_with fail
  refine K.out.mono ?_
  rintro r w1 ⟨⟨A, c, rfl, hcc, hn⟩, hl1, ho1⟩
  have h1 := HH.out.turn hl1 ho1
  have hn1 := hn.nums18
  have hbm1 := (ho1.block _ (Array.getElem?_eq_some_iff.1 HBM.out).1 n4).trans HBM.out
  have hbp1 := (ho1.block _ (Array.getElem?_eq_some_iff.1 HBP.out).1 n6).trans HBP.out
  have kp := row_cell hbp1 0 _ rfl
  have hcv := conv_txt _ A q c Bs w1 HQ.out hn1
  have KP := Lib.hid (puttx_any mb bm N P C (txt Bs) w1 h1.m hbm1)
  obtain ⟨w2, hw2⟩ : ∃ w2, w1.setCell ⟨mb, 9, none⟩ (.string (txt Bs)) = w2 := ⟨_, rfl⟩
  have hN := h1.tx (txt Bs)
  have hof : Off (fun q => q = mb) w1 (w1.setCell ⟨mb, 9, none⟩ (.string (txt Bs))) := Off.setCell (S := fun q => q = mb) (p := ⟨mb, 9, none⟩) (Off.refl _ w1) rfl _
  rw [hw2] at hN KP hof
  have hmlt := (Array.getElem?_eq_some_iff.1 HH.out.m).1
  have HN2 : Hid (Nums .u8 w2 w2.heap.size A Bs) := Lib.hid fun hne => by
    obtain ⟨b, off, e, k1, k2, kc⟩ := hn hne
    exact ⟨b, off, e, Nat.lt_of_lt_of_le k2 hof.size, fun j c hj => hof.cell (kc j c hj) (by show ¬ b = mb; omega)⟩
  have HN := Lib.hid hN
  have HOF : Hid (Off (fun q => q = mb ∨ q = lb) w w2) := Lib.hid ((ho1.mono (S' := fun q => q = mb ∨ q = lb) (fun _ _ e => .inr e)).trans hof (fun _ _ e => .inl e))
  clear K hl1 ho1 h1 hn hn1 hbm1 hbp1 hof hN hw2
  go_wp2_with fail
  refine KP.out.mono ?_
  rintro r w3 ⟨⟨x, rfl⟩, rfl⟩
  clear hcv kp KP
  go_wp2_with fail
  refine (cunfit_any _ A q c Bs _ HQ.out (by omega) HN2.out).mono ?_
  rintro r w4 ⟨rfl, rfl⟩
  obtain ⟨am, ham⟩ : ∃ am, decide (¬ ∀ s ∈ Bs, byI s) = am := ⟨_, rfl⟩
  rw [ham]
  go_wp2_with fail
  refine (otherwise_any HN.out.l am 19).mono ?_
  rintro r w5 ⟨rfl, rfl⟩
  have HAM := Lib.hid ham
  clear ham
  go_wp2
  go_ret
  have hR := HR.out
  have ham := HAM.out
  rcases HW.out with ⟨g1, rfl⟩ | ⟨g1, g2, rfl⟩ | ⟨g1, g2, g3, rfl⟩ | ⟨g1, g2, g3, rfl, g4, rfl⟩
  · rw [if_pos g1] at hR
    subst hR
    exact ⟨by simp [oth, g1], HOF.out, fun h => absurd h g1⟩
  · rw [if_neg (by simpa using g1), if_pos g2] at hR
    subst hR
    exact ⟨by simp [oth], HOF.out, fun h => by simp at h⟩
  · rw [if_neg (by simpa using g1), if_neg (by omega)] at hR
    unfold rdT at hR
    rw [if_pos g3] at hR
    simp only [ne_eq, Nat.reduceEqDiff, not_false_eq_true, if_true] at hR
    subst hR
    exact ⟨by simp [oth], HOF.out, fun h => by simp at h⟩
  · rw [if_neg (by simpa using g1), if_neg (by omega)] at hR
    unfold rdT at hR
    rw [if_neg g3, ← g4] at hR
    by_cases hb : ∀ s ∈ Bs, byI s
    · have : am = false := by rw [← ham]; exact decide_eq_false fun h => h hb
      subst this
      rw [if_pos hb] at hR
      simp only [ne_eq, not_true_eq_false, if_false, if_pos hso] at hR
      subst hR
      exact ⟨by simp [oth], HOF.out, fun _ => ⟨P, C, HN.out⟩⟩
    · have : am = true := by rw [← ham]; exact decide_eq_true hb
      subst this
      rw [if_neg hb] at hR
      simp only [ne_eq, Nat.reduceEqDiff, not_false_eq_true, if_true] at hR
      subst hR
      exact ⟨by simp [oth], HOF.out, fun h => by simp at h⟩
set_option maxHeartbeats 4000000 in
theorem tagr_any (lo mb lb bo bp bm : Nat) (zs : List Int) (N : Mg) (P C : Value) (p : Nat) (f : Fd) (w : World) (h : RdAt lo w mb lb zs N P C p 0) (hf : FdX f) (hso : f.so = 6) (hl : zs.length ≤ 1000000) (hz : Bys zs)
    (hbo : w.heap[bo]? = some (.cells #[.int .i64 f.mo] 3 (0, 0))) (hbp : w.heap[bp]? = some (.cells #[.func (.func 67) #[] #[.pointer (some ⟨bm, 0, none⟩)]] 120 (0, 0))) (hbm : w.heap[bm]? = some (.cells #[.pointer (some ⟨mb, 0, none⟩)] 83 (0, 0))) :
    Calls Try.prog 91 #[.pointer (some ⟨lb, 0, none⟩), .pointer (some ⟨bo, 0, none⟩), .pointer (some ⟨bp, 0, none⟩)] w fun r w' => RdO lo mb lb zs p (rdF N f (zs.drop p)) w r w' := by
  have hmo : 0 ≤ f.mo ∧ f.mo ≤ 64 := by have := hf.mo; omega
  have hle0 := hf.tex (by omega)
  obtain ⟨Bs, u, er, hX, hBl, hw⟩ := fldR_ways (zs.drop p) f.mo hmo.1 hmo.2
  have K := lfld_any lo lb zs p 0 w f.mo (by omega) (by omega) h.l (by omega) hz
  rw [hX] at K
  unfold ReadB at K
  simp only [ansB, placeOf, errOf, if_true] at K
  obtain ⟨R, hR⟩ : ∃ R, rdF N f (zs.drop p) = R := ⟨_, rfl⟩
  rw [hR]
  unfold rdF at hR
  rw [if_neg (show ¬ f.so = 1 by omega), if_neg (show ¬ f.so = 2 by omega), if_neg (show ¬ (((Vi.get (zs.drop p)).1 = 0) ∧ 0 < f.le) by omega), if_neg (show ¬ f.so = 3 by omega), if_neg (show ¬ f.so = 4 by omega)] at hR
  have hlm := h.a
  obtain ⟨_, _, hbl, -⟩ := h.l.open
  have n1 := row_ne hbo h.m (by decide)
  have n2 := row_ne hbo hbl (by decide)
  have n3 := row_ne hbm h.m (by decide)
  have n4 := row_ne hbm hbl (by decide)
  have n6 := row_ne hbp hbl (by decide)
  have kb := row_cell hbo 0 _ rfl
  have K := Lib.hid K
  have HH := Lib.hid h
  have HBP := Lib.hid hbp
  have HBM := Lib.hid hbm
  have HR := Lib.hid hR
  have HW := Lib.hid hw
  obtain ⟨q, hq⟩ : ∃ q, Bs.length = q := ⟨_, rfl⟩
  rw [hq] at K hBl
  have HQ := Lib.hid hq
  clear hR hw hX h hbl hbo hbp hbm hq
  go_enter Try.func91, Try.ntmps91
  go_wp2_with fail
  refine K.out.mono ?_
  rintro r w1 ⟨⟨A, c, rfl, hcc, hn⟩, hl1, ho1⟩
  have h1 := HH.out.turn hl1 ho1
  have hn1 := hn.nums18
  have hbm1 := (ho1.block _ (Array.getElem?_eq_some_iff.1 HBM.out).1 n4).trans HBM.out
  have hbp1 := (ho1.block _ (Array.getElem?_eq_some_iff.1 HBP.out).1 n6).trans HBP.out
  have kp := row_cell hbp1 0 _ rfl
  have hcv := conv_txt _ A q c Bs w1 HQ.out hn1
  have KP := Lib.hid (puttg_any mb bm N P C (txt Bs) w1 h1.m hbm1)
  obtain ⟨w2, hw2⟩ : ∃ w2, w1.setCell ⟨mb, 10, none⟩ (.string (txt Bs)) = w2 := ⟨_, rfl⟩
  have hN := h1.tg (txt Bs)
  have hof : Off (fun q => q = mb) w1 (w1.setCell ⟨mb, 10, none⟩ (.string (txt Bs))) := Off.setCell (S := fun q => q = mb) (p := ⟨mb, 10, none⟩) (Off.refl _ w1) rfl _
  rw [hw2] at hN KP hof
  have hmlt := (Array.getElem?_eq_some_iff.1 HH.out.m).1
  have HN2 : Hid (Nums .u8 w2 w2.heap.size A Bs) := Lib.hid fun hne => by
    obtain ⟨b, off, e, k1, k2, kc⟩ := hn hne
    exact ⟨b, off, e, Nat.lt_of_lt_of_le k2 hof.size, fun j c hj => hof.cell (kc j c hj) (by show ¬ b = mb; omega)⟩
  have HN := Lib.hid hN
  have HOF : Hid (Off (fun q => q = mb ∨ q = lb) w w2) := Lib.hid ((ho1.mono (S' := fun q => q = mb ∨ q = lb) (fun _ _ e => .inr e)).trans hof (fun _ _ e => .inl e))
  clear K hl1 ho1 h1 hn hn1 hbm1 hbp1 hof hN hw2
  go_wp2_with fail
  refine KP.out.mono ?_
  rintro r w3 ⟨⟨x, rfl⟩, rfl⟩
  clear hcv kp KP
  go_wp2_with fail
  refine (cunfit_any _ A q c Bs _ HQ.out (by omega) HN2.out).mono ?_
  rintro r w4 ⟨rfl, rfl⟩
  obtain ⟨am, ham⟩ : ∃ am, decide (¬ ∀ s ∈ Bs, byI s) = am := ⟨_, rfl⟩
  rw [ham]
  go_wp2_with fail
  refine (otherwise_any HN.out.l am 19).mono ?_
  rintro r w5 ⟨rfl, rfl⟩
  have HAM := Lib.hid ham
  clear ham
  go_wp2
  go_ret
  have hR := HR.out
  have ham := HAM.out
  rcases HW.out with ⟨g1, rfl⟩ | ⟨g1, g2, rfl⟩ | ⟨g1, g2, g3, rfl⟩ | ⟨g1, g2, g3, rfl, g4, rfl⟩
  · rw [if_pos g1] at hR
    subst hR
    exact ⟨by simp [oth, g1], HOF.out, fun h => absurd h g1⟩
  · rw [if_neg (by simpa using g1), if_pos g2] at hR
    subst hR
    exact ⟨by simp [oth], HOF.out, fun h => by simp at h⟩
  · rw [if_neg (by simpa using g1), if_neg (by omega)] at hR
    unfold rdT at hR
    rw [if_pos g3] at hR
    simp only [ne_eq, Nat.reduceEqDiff, not_false_eq_true, if_true] at hR
    subst hR
    exact ⟨by simp [oth], HOF.out, fun h => by simp at h⟩
  · rw [if_neg (by simpa using g1), if_neg (by omega)] at hR
    unfold rdT at hR
    rw [if_neg g3, ← g4] at hR
    by_cases hb : ∀ s ∈ Bs, byI s
    · have : am = false := by rw [← ham]; exact decide_eq_false fun h => h hb
      subst this
      rw [if_pos hb] at hR
      simp only [ne_eq, not_true_eq_false, if_false, if_neg (show ¬ f.so = 5 by omega)] at hR
      subst hR
      exact ⟨by simp [oth], HOF.out, fun _ => ⟨P, C, HN.out⟩⟩
    · have : am = true := by rw [← ham]; exact decide_eq_true hb
      subst this
      rw [if_neg hb] at hR
      simp only [ne_eq, Nat.reduceEqDiff, not_false_eq_true, if_true] at hR
      subst hR
      exact ⟨by simp [oth], HOF.out, fun h => by simp at h⟩
end Go.Proofs.Ytmjbimmbphofjaa

namespace Go.Proofs.Ytmjbimmbphofjaa
open Go.RowKit Go.Shelf
set_option maxRecDepth 100000
attribute [local go_sem] Oper.semAt_some

theorem two_rows {W : World} {c1 c2 : Array Value} {t1 t2 : TypeId} : Below W.heap.size W ((W.alloc (.cells c1 t1)).alloc (.cells c2 t2)) ∧ ((W.alloc (.cells c1 t1)).alloc (.cells c2 t2)).heap[W.heap.size]? = some (.cells c1 t1 (0, 0)) ∧ ((W.alloc (.cells c1 t1)).alloc (.cells c2 t2)).heap[W.heap.size + 1]? = some (.cells c2 t2 (0, 0)) ∧ ((W.alloc (.cells c1 t1)).alloc (.cells c2 t2)).heap.size = W.heap.size + 2 := by
  refine ⟨((Below.refl _ W).alloc (Nat.le_refl _) _).alloc (by simp) _, (Below.heap_alloc _ _ _ (by simp)).trans (World.alloc_heap_new _ _), ?_, by simp⟩
  have := World.alloc_heap_new (W.alloc (.cells c1 t1)) (.cells c2 t2)
  rwa [World.size_alloc] at this
/-- a function with two boxes that it has caught -/
def Fn2 (F : FuncId) (w : World) (c1 c2 : Array Value) (t1 t2 : TypeId) (e : Ending) (w' : World) : Prop := ∃ b1 b2, e = .returned (.func (.func F) #[] #[.pointer (some ⟨b1, 0, none⟩), .pointer (some ⟨b2, 0, none⟩)]) ∧ w.heap.size ≤ b1 ∧ w.heap.size ≤ b2 ∧ w'.heap[b1]? = some (.cells c1 t1 (0, 0)) ∧ w'.heap[b2]? = some (.cells c2 t2 (0, 0)) ∧ Below w.heap.size w w'
theorem plainR_any (mb : Nat) (f : Fd) (w : World) : Calls Try.prog 68 #[.pointer (some ⟨mb, 0, none⟩), f.v] w fun e w' => Fn2 95 w f.cs #[.pointer (some ⟨mb, 0, none⟩)] 68 83 e w' := by
  obtain ⟨h1, h2, h3, h4⟩ := two_rows (W := w) (c1 := #[.pointer (some ⟨mb, 0, none⟩)]) (t1 := 83) (c2 := f.cs) (t2 := 68)
  have H := Lib.hid (And.intro h1 (And.intro h2 h3))
  clear h1 h2 h3 h4
  obtain ⟨X0, hX0⟩ : ∃ X0, f.cs = X0 := ⟨_, rfl⟩
  unfold Fd.v
  rw [hX0] at H ⊢
  clear hX0
  go_enter Try.func68, Try.ntmps68
  go_wp2
  go_ret
  obtain ⟨h1, h2, h3⟩ := H.out
  exact ⟨_, _, rfl, by omega, by omega, h3, h2, h1⟩
theorem signedR_any (mb : Nat) (f : Fd) (w : World) : Calls Try.prog 61 #[.pointer (some ⟨mb, 0, none⟩), f.v] w fun e w' => Fn2 83 w f.cs #[.pointer (some ⟨mb, 0, none⟩)] 68 83 e w' := by
  obtain ⟨h1, h2, h3, h4⟩ := two_rows (W := w) (c1 := #[.pointer (some ⟨mb, 0, none⟩)]) (t1 := 83) (c2 := f.cs) (t2 := 68)
  have H := Lib.hid (And.intro h1 (And.intro h2 h3))
  clear h1 h2 h3 h4
  obtain ⟨X0, hX0⟩ : ∃ X0, f.cs = X0 := ⟨_, rfl⟩
  unfold Fd.v
  rw [hX0] at H ⊢
  clear hX0
  go_enter Try.func61, Try.ntmps61
  go_wp2
  go_ret
  obtain ⟨h1, h2, h3⟩ := H.out
  exact ⟨_, _, rfl, by omega, by omega, h3, h2, h1⟩
theorem countR_any (mo : Int) (F : FuncId) (cs : Array Value) (w : World) : Calls Try.prog 62 #[.int .i64 mo, .func (.func F) #[] cs] w fun e w' => Fn2 85 w #[.int .i64 mo] #[.func (.func F) #[] cs] 3 81 e w' := by
  obtain ⟨h1, h2, h3, h4⟩ := two_rows (W := w) (c1 := #[.int .i64 mo]) (t1 := 3) (c2 := #[.func (.func F) #[] cs]) (t2 := 81)
  have H := Lib.hid (And.intro h1 (And.intro h2 h3))
  clear h1 h2 h3 h4
  go_enter Try.func62, Try.ntmps62
  go_wp2
  go_ret
  obtain ⟨h1, h2, h3⟩ := H.out
  exact ⟨_, _, rfl, by omega, by omega, h2, h3, h1⟩
theorem textR_any (mo : Int) (F : FuncId) (cs : Array Value) (w : World) : Calls Try.prog 65 #[.int .i64 mo, .func (.func F) #[] cs] w fun e w' => Fn2 91 w #[.int .i64 mo] #[.func (.func F) #[] cs] 3 120 e w' := by
  obtain ⟨h1, h2, h3, h4⟩ := two_rows (W := w) (c1 := #[.int .i64 mo]) (t1 := 3) (c2 := #[.func (.func F) #[] cs]) (t2 := 120)
  have H := Lib.hid (And.intro h1 (And.intro h2 h3))
  clear h1 h2 h3 h4
  go_enter Try.func65, Try.ntmps65
  go_wp2
  go_ret
  obtain ⟨h1, h2, h3⟩ := H.out
  exact ⟨_, _, rfl, by omega, by omega, h2, h3, h1⟩
theorem cellR_any (mb : Nat) (w : World) : Calls Try.prog 64 #[.pointer (some ⟨mb, 0, none⟩)] w fun e w' => Fn2 89 w #[.int .i64 (-1)] #[.pointer (some ⟨mb, 0, none⟩)] 3 83 e w' := by
  obtain ⟨h1, h2, h3, h4⟩ := two_rows (W := w) (c1 := #[.pointer (some ⟨mb, 0, none⟩)]) (t1 := 83) (c2 := #[.int .i64 (-1)]) (t2 := 3)
  have H := Lib.hid (And.intro h1 (And.intro h2 h3))
  clear h1 h2 h3 h4
  go_enter Try.func64, Try.ntmps64
  go_wp2
  go_ret
  obtain ⟨h1, h2, h3⟩ := H.out
  exact ⟨_, _, rfl, by omega, by omega, h3, h2, h1⟩
/-- the function that reads a point, with its three boxes -/
def Fn3 (mb : Nat) (w : World) (e : Ending) (w' : World) : Prop := ∃ ab sb bm, e = .returned (.func (.func 88) #[] #[.pointer (some ⟨ab, 0, none⟩), .pointer (some ⟨sb, 0, none⟩), .pointer (some ⟨bm, 0, none⟩)]) ∧ w.heap.size ≤ ab ∧ w.heap.size ≤ sb ∧ w.heap.size ≤ bm ∧
  w'.heap[ab]? = some (.cells #[.int .i64 0, .int .i64 0] 73 (0, 0)) ∧ w'.heap[sb]? = some (.cells #[.func (.func 87) #[] #[]] 136 (0, 0)) ∧ w'.heap[bm]? = some (.cells #[.pointer (some ⟨mb, 0, none⟩)] 83 (0, 0)) ∧ Below w.heap.size w w'
theorem pointR_any (mb : Nat) (w : World) : Calls Try.prog 63 #[.pointer (some ⟨mb, 0, none⟩)] w fun e w' => Fn3 mb w e w' := by
  obtain ⟨w2, hw2⟩ : ∃ w2, (w.alloc (.cells #[.pointer (some ⟨mb, 0, none⟩)] 83)).alloc (.cells #[.int .i64 0, .int .i64 0] 73) = w2 := ⟨_, rfl⟩
  obtain ⟨h1, h2, h3, h4⟩ := two_rows (W := w) (c1 := #[.pointer (some ⟨mb, 0, none⟩)]) (t1 := 83) (c2 := #[.int .i64 0, .int .i64 0]) (t2 := 73)
  rw [hw2] at h1 h2 h3 h4
  have hb : Below w2.heap.size w2 (w2.alloc (.cells #[.func (.func 87) #[] #[]] 136)) := (Below.refl _ w2).alloc (Nat.le_refl _) _
  have h6 := World.alloc_heap_new w2 (.cells #[.func (.func 87) #[] #[]] 136)
  have k2 := (hb.block _ (Array.getElem?_eq_some_iff.1 h2).1).trans h2
  have k3 := (hb.block _ (Array.getElem?_eq_some_iff.1 h3).1).trans h3
  have kb := h1.trans (hb.mono h1.size)
  rw [h4] at h6
  rw [← hw2] at h6 k2 k3 kb
  have H := Lib.hid (And.intro k2 (And.intro k3 (And.intro h6 kb)))
  clear h1 h2 h3 h4 hw2 hb h6 k2 k3 kb
  go_enter Try.func63, Try.ntmps63
  go_wp2
  go_ret
  obtain ⟨k2, k3, h6, kb⟩ := H.out
  exact ⟨_, _, _, rfl, by omega, by omega, by omega, k3, h6, k2, kb⟩
end Go.Proofs.Ytmjbimmbphofjaa

namespace Go.Proofs.Ytmjbimmbphofjaa
open Go.RowKit Go.Shelf
set_option maxRecDepth 100000
attribute [local go_sem] Oper.semAt_some

/-- what reader answers: a function of two that it has caught, which reads the field -/
def RdrR (lo mb lb : Nat) (zs : List Int) (N : Mg) (p : Nat) (f : Fd) (w : World) (e : Ending) (w' : World) : Prop := ∃ F c1 c2, e = .returned (.func (.func F) #[] #[c1, c2]) ∧ (∀ args W, (callFunc F args).run Try.prog W = .ok (.enter F args) W) ∧ Below w.heap.size w w' ∧
  Calls Try.prog F #[.pointer (some ⟨lb, 0, none⟩), c1, c2] w' fun r w'' => RdO lo mb lb zs p (rdF N f (zs.drop p)) w r w''
theorem RdO.since {lo mb lb : Nat} {zs : List Int} {p : Nat} {x : Nat × Nat × Mg} {w w1 w' : World} {r : Ending} (h : RdO lo mb lb zs p x w1 r w') (hb : Below w.heap.size w w1) : RdO lo mb lb zs p x w r w' :=
  ⟨h.1, (Off.of_below (S := fun q => q = mb ∨ q = lb) hb).trans h.2.1 (fun _ _ h => h), h.2.2⟩
set_option maxHeartbeats 8000000 in
theorem reader_any (lo mb lb : Nat) (zs : List Int) (N : Mg) (P C : Value) (p : Nat) (f : Fd) (w : World) (h : RdAt lo w mb lb zs N P C p 0) (hf : FdX f) (hmo : f.so = 1 → 0 ≤ f.mo) (h3 : f.so = 3 → N.p = []) (h4 : f.so = 4 → N.c = []) (hl : zs.length ≤ 1000000) (hz : Bys zs) :
    Calls Try.prog 38 #[.pointer (some ⟨mb, 0, none⟩), f.v] w fun e w' => RdrR lo mb lb zs N p f w e w' := by
  obtain ⟨w2, hw2⟩ : ∃ w2, (w.alloc (.cells #[.pointer (some ⟨mb, 0, none⟩)] 83)).alloc (.cells f.cs 68) = w2 := ⟨_, rfl⟩
  obtain ⟨b2, q0, q1, s2⟩ := two_rows (W := w) (c1 := #[.pointer (some ⟨mb, 0, none⟩)]) (t1 := 83) (c2 := f.cs) (t2 := 68)
  rw [hw2] at b2 q0 q1 s2
  have HB2 := Lib.hid b2
  have HQ0 := Lib.hid q0
  have HQ1 := Lib.hid q1
  have HW2 := Lib.hid hw2
  have hs2 : w.heap.size + 1 < w2.heap.size := by omega
  obtain ⟨d0, d1, d2, d3, d4, d5, d6⟩ := fd_block q1
  have kp := row_cell q0 0 _ rfl
  have LF : Hid ((Instr.loadAt 68 (.pointer (some ⟨w.heap.size + 1, 0, none⟩))).run Try.prog w2 = .ok f.v w2) := Lib.hid (by simp [Instr.loadAt, go_sem, d0, d1, d2, d3, d4, d5, d6, Fd.v, Fd.cs])
  have hso := so_ways hf
  have HH := Lib.hid h
  have HF := Lib.hid hf
  have HZ := Lib.hid hz
  obtain ⟨X0, hX0⟩ : ∃ X0, f.cs = X0 := ⟨_, rfl⟩
  have HX := Lib.hid hX0
  by_cases hk : f.so = 1
  · have e := hk
    rw [hk] at d1
    rw [← hw2] at d1 d4 kp
    have HM := Lib.hid d4
    unfold Fd.v
    rw [hX0] at HW2 d1 d4 kp ⊢
    clear hX0 hw2 b2 q0 q1 s2 d0 d2 d3 d5 d6 h hf hz hso HM
    go_enter Try.func38, Try.ntmps38
    go_wp2_with (rw [HW2.out]; refine wpList_load_run rfl 68 (.tmp 3) rfl (some ⟨w.heap.size + 1, 0, none⟩) rfl f.v LF.out ?_)
    refine (plainR_any mb f w2).mono ?_
    rintro r w3 ⟨a1, a2, rfl, k1, k2, k3, k4, k5⟩
    have HK := Lib.hid (And.intro k3 (And.intro k4 k5))
    clear k3 k4 k5 d1 d4 kp LF
    go_wp2
    go_ret
    obtain ⟨k3, k4, k5⟩ := HK.out
    have hb3 := HB2.out.trans (k5.mono HB2.out.size)
    exact ⟨_, _, _, rfl, enters_of Try.func95 (by kernel_rfl) rfl, hb3, (plainr_any lo mb lb a1 a2 zs N P C p f w3 (HH.out.later hb3) HF.out e (hmo e) hl HZ.out k3 k4).mono fun r w4 h => h.since hb3⟩
  by_cases hk : f.so = 2
  · have e := hk
    rw [hk] at d1
    rw [← hw2] at d1 d4 kp
    have HM := Lib.hid d4
    unfold Fd.v
    rw [hX0] at HW2 d1 d4 kp ⊢
    clear hX0 hw2 b2 q0 q1 s2 d0 d2 d3 d5 d6 h hf hz hso HM
    go_enter Try.func38, Try.ntmps38
    go_wp2_with (rw [HW2.out]; refine wpList_load_run rfl 68 (.tmp 3) rfl (some ⟨w.heap.size + 1, 0, none⟩) rfl f.v LF.out ?_)
    refine (signedR_any mb f w2).mono ?_
    rintro r w3 ⟨a1, a2, rfl, k1, k2, k3, k4, k5⟩
    have HK := Lib.hid (And.intro k3 (And.intro k4 k5))
    clear k3 k4 k5 d1 d4 kp LF
    go_wp2
    go_ret
    obtain ⟨k3, k4, k5⟩ := HK.out
    have hb3 := HB2.out.trans (k5.mono HB2.out.size)
    exact ⟨_, _, _, rfl, enters_of Try.func83 (by kernel_rfl) rfl, hb3, (signedr_any lo mb lb a1 a2 zs N P C p f w3 (HH.out.later hb3) HF.out e hl HZ.out k3 k4).mono fun r w4 h => h.since hb3⟩
  by_cases hk : f.so = 3
  · have e := hk
    rw [hk] at d1
    rw [← hw2] at d1 d4 kp
    have HM := Lib.hid d4
    unfold Fd.v
    rw [hX0] at HW2 d1 d4 kp ⊢
    clear hX0 hw2 b2 q0 q1 s2 d0 d2 d3 d5 d6 h hf hz hso HM
    go_enter Try.func38, Try.ntmps38
    go_wp2_with fail
    rw [HW2.out]
    have lO : ∀ V, Below w2.heap.size w2 V → (Instr.loadAt 3 (.pointer (some ⟨w.heap.size + 1, 4, none⟩))).run Try.prog V = .ok (.int .i64 f.mo) V := fun V hV => by
      have k := (fd_block ((hV.block _ hs2).trans HQ1.out)).2.2.2.2.1
      simp [Instr.loadAt, go_sem, k]
    have lM : ∀ V, Below w2.heap.size w2 V → (Instr.loadAt 83 (.pointer (some ⟨w.heap.size, 0, none⟩))).run Try.prog V = .ok (.pointer (some ⟨mb, 0, none⟩)) V := fun V hV => by
      have k := row_cell ((hV.block _ (by omega)).trans HQ0.out) 0 _ rfl
      simp [Instr.loadAt, go_sem, k]
    refine wp_region_order9 5 (0 :: 1 :: 2 :: 3 :: 4 :: []) (fun V => Below w2.heap.size w2 V) (C := fun V => Below w2.heap.size w2 V) (by kernel_rfl) (by kernel_rfl) (by kernel_rfl) (Below.refl _ _).drew (fun V hV => hV) ?_
    repeat (refine wpO9_pure rfl rfl ?_; go_big_quiet_step (fail); refine wpQuiet_nil ?_)
    refine wpO9_load (ad := ⟨w.heap.size + 1, 4, none⟩) (.int .i64 f.mo) rfl rfl rfl (by rfl) lO ?_
    simp only [Act.put, List.setIfInBounds_toArray, List.set_cons_succ, List.set_cons_zero]
    refine wpO9_load (ad := ⟨w.heap.size, 0, none⟩) (.pointer (some ⟨mb, 0, none⟩)) rfl rfl rfl (by rfl) lM ?_
    simp only [Act.put, List.setIfInBounds_toArray, List.set_cons_succ, List.set_cons_zero]
    refine wpO9_call (fun v => ∃ ab sb bm, v = .func (.func 88) #[] #[.pointer (some ⟨ab, 0, none⟩), .pointer (some ⟨sb, 0, none⟩), .pointer (some ⟨bm, 0, none⟩)]) (fun v V => Below w2.heap.size w2 V ∧ ∀ ab sb bm, v = .func (.func 88) #[] #[.pointer (some ⟨ab, 0, none⟩), .pointer (some ⟨sb, 0, none⟩), .pointer (some ⟨bm, 0, none⟩)] → w2.heap.size ≤ ab ∧ w2.heap.size ≤ sb ∧ w2.heap.size ≤ bm ∧ V.heap[ab]? = some (.cells #[.int .i64 0, .int .i64 0] 73 (0, 0)) ∧ V.heap[sb]? = some (.cells #[.func (.func 87) #[] #[]] 136 (0, 0)) ∧ V.heap[bm]? = some (.cells #[.pointer (some ⟨mb, 0, none⟩)] 83 (0, 0))) (f := 63) (args := #[.pointer (some ⟨mb, 0, none⟩)]) rfl rfl rfl (fun _ V hV => hV.1) (fun x => by first | rfl | (simp [go_sem]; done)) (fun V hV => (pointR_any mb V).mono fun e w' h => ?_) ?_
    · obtain ⟨ab, sb, bm, rfl, k1, k2, k3, k4, k5, k6, k7⟩ := h
      have := hV.size
      refine ⟨_, rfl, ⟨ab, sb, bm, rfl⟩, hV.trans (k7.mono hV.size), fun c1 c2 c3 hc => ?_⟩
      injection hc with _ _ hc
      simp only [Array.mk.injEq, List.cons.injEq, Value.pointer.injEq, Option.some.injEq, Addr.mk.injEq, and_true] at hc
      obtain ⟨rfl, rfl, rfl⟩ := hc
      exact ⟨by omega, by omega, by omega, k4, k5, k6⟩
    rintro v ⟨ab, sb, bm, rfl⟩
    simp only [Act.put, List.setIfInBounds_toArray, List.set_cons_succ, List.set_cons_zero]
    refine wpO9_call (fun v => ∃ b1 b2, v = .func (.func 85) #[] #[.pointer (some ⟨b1, 0, none⟩), .pointer (some ⟨b2, 0, none⟩)]) (fun v V => Below w2.heap.size w2 V ∧ (w2.heap.size ≤ ab ∧ w2.heap.size ≤ sb ∧ w2.heap.size ≤ bm ∧ V.heap[ab]? = some (.cells #[.int .i64 0, .int .i64 0] 73 (0, 0)) ∧ V.heap[sb]? = some (.cells #[.func (.func 87) #[] #[]] 136 (0, 0)) ∧ V.heap[bm]? = some (.cells #[.pointer (some ⟨mb, 0, none⟩)] 83 (0, 0))) ∧ ∀ b1 b2, v = .func (.func 85) #[] #[.pointer (some ⟨b1, 0, none⟩), .pointer (some ⟨b2, 0, none⟩)] → V.heap[b1]? = some (.cells #[.int .i64 f.mo] 3 (0, 0)) ∧ V.heap[b2]? = some (.cells #[.func (.func 88) #[] #[.pointer (some ⟨ab, 0, none⟩), .pointer (some ⟨sb, 0, none⟩), .pointer (some ⟨bm, 0, none⟩)]] 81 (0, 0))) (f := 62) (args := #[.int .i64 f.mo, .func (.func 88) #[] #[.pointer (some ⟨ab, 0, none⟩), .pointer (some ⟨sb, 0, none⟩), .pointer (some ⟨bm, 0, none⟩)]]) rfl rfl rfl (fun _ V hV => hV.1) (fun x => by first | rfl | (simp [go_sem]; done)) (fun V hV => (countR_any f.mo 88 #[.pointer (some ⟨ab, 0, none⟩), .pointer (some ⟨sb, 0, none⟩), .pointer (some ⟨bm, 0, none⟩)] V).mono fun e w' h => ?_) ?_
    · obtain ⟨b1, b2, rfl, k1, k2, k3, k4, k5⟩ := h
      obtain ⟨hb, hf⟩ := hV
      obtain ⟨j1, j2, j3, j4, j5, j6⟩ := hf ab sb bm rfl
      refine ⟨_, rfl, ⟨b1, b2, rfl⟩, hb.trans (k5.mono hb.size), ⟨j1, j2, j3, (k5.block _ (Array.getElem?_eq_some_iff.1 j4).1).trans j4, (k5.block _ (Array.getElem?_eq_some_iff.1 j5).1).trans j5, (k5.block _ (Array.getElem?_eq_some_iff.1 j6).1).trans j6⟩, fun c1 c2 hc => ?_⟩
      injection hc with _ _ hc
      simp only [Array.mk.injEq, List.cons.injEq, Value.pointer.injEq, Option.some.injEq, Addr.mk.injEq, and_true] at hc
      obtain ⟨rfl, rfl⟩ := hc
      exact ⟨k3, k4⟩
    rintro v ⟨b1, b2, rfl⟩
    simp only [Act.put, List.setIfInBounds_toArray, List.set_cons_succ, List.set_cons_zero]
    rintro w3 ⟨hb3, hfa, hrw⟩
    simp only [List.drop_succ_cons, List.drop_zero]
    have HK := Lib.hid (And.intro hb3 (And.intro hfa (hrw b1 b2 rfl)))
    clear hb3 hfa hrw lO lM d1 d4 kp LF
    go_wp2
    go_ret
    obtain ⟨hb3, ⟨j1, j2, j3, j4, j5, j6⟩, k3, k4⟩ := HK.out
    have hb4 := HB2.out.trans (hb3.mono HB2.out.size)
    exact ⟨_, _, _, rfl, enters_of Try.func85 (by kernel_rfl) rfl, hb4, countp_any w w3 lo mb lb b1 b2 ab sb bm zs N P C p f HH.out hb4 HF.out e (h3 e) (by omega) hl HZ.out k3 k4 j4 j6 j5 ⟨(Array.getElem?_eq_some_iff.1 j4).1, (Array.getElem?_eq_some_iff.1 j6).1, (Array.getElem?_eq_some_iff.1 j5).1⟩⟩
  by_cases hk : f.so = 4
  · have e := hk
    rw [hk] at d1
    rw [← hw2] at d1 d4 kp
    have HM := Lib.hid d4
    unfold Fd.v
    rw [hX0] at HW2 d1 d4 kp ⊢
    clear hX0 hw2 b2 q0 q1 s2 d0 d2 d3 d5 d6 h hf hz hso HM
    go_enter Try.func38, Try.ntmps38
    go_wp2_with fail
    rw [HW2.out]
    have lO : ∀ V, Below w2.heap.size w2 V → (Instr.loadAt 3 (.pointer (some ⟨w.heap.size + 1, 4, none⟩))).run Try.prog V = .ok (.int .i64 f.mo) V := fun V hV => by
      have k := (fd_block ((hV.block _ hs2).trans HQ1.out)).2.2.2.2.1
      simp [Instr.loadAt, go_sem, k]
    have lM : ∀ V, Below w2.heap.size w2 V → (Instr.loadAt 83 (.pointer (some ⟨w.heap.size, 0, none⟩))).run Try.prog V = .ok (.pointer (some ⟨mb, 0, none⟩)) V := fun V hV => by
      have k := row_cell ((hV.block _ (by omega)).trans HQ0.out) 0 _ rfl
      simp [Instr.loadAt, go_sem, k]
    refine wp_region_order9 5 (0 :: 1 :: 2 :: 3 :: 4 :: []) (fun V => Below w2.heap.size w2 V) (C := fun V => Below w2.heap.size w2 V) (by kernel_rfl) (by kernel_rfl) (by kernel_rfl) (Below.refl _ _).drew (fun V hV => hV) ?_
    repeat (refine wpO9_pure rfl rfl ?_; go_big_quiet_step (fail); refine wpQuiet_nil ?_)
    refine wpO9_load (ad := ⟨w.heap.size + 1, 4, none⟩) (.int .i64 f.mo) rfl rfl rfl (by rfl) lO ?_
    simp only [Act.put, List.setIfInBounds_toArray, List.set_cons_succ, List.set_cons_zero]
    refine wpO9_load (ad := ⟨w.heap.size, 0, none⟩) (.pointer (some ⟨mb, 0, none⟩)) rfl rfl rfl (by rfl) lM ?_
    simp only [Act.put, List.setIfInBounds_toArray, List.set_cons_succ, List.set_cons_zero]
    refine wpO9_call (fun v => ∃ ab bm, v = .func (.func 89) #[] #[.pointer (some ⟨ab, 0, none⟩), .pointer (some ⟨bm, 0, none⟩)]) (fun v V => Below w2.heap.size w2 V ∧ ∀ ab bm, v = .func (.func 89) #[] #[.pointer (some ⟨ab, 0, none⟩), .pointer (some ⟨bm, 0, none⟩)] → w2.heap.size ≤ ab ∧ w2.heap.size ≤ bm ∧ V.heap[ab]? = some (.cells #[.int .i64 (-1)] 3 (0, 0)) ∧ V.heap[bm]? = some (.cells #[.pointer (some ⟨mb, 0, none⟩)] 83 (0, 0))) (f := 64) (args := #[.pointer (some ⟨mb, 0, none⟩)]) rfl rfl rfl (fun _ V hV => hV.1) (fun x => by first | rfl | (simp [go_sem]; done)) (fun V hV => (cellR_any mb V).mono fun e w' h => ?_) ?_
    · obtain ⟨ab, bm, rfl, k1, k2, k4, k6, k7⟩ := h
      have := hV.size
      refine ⟨_, rfl, ⟨ab, bm, rfl⟩, hV.trans (k7.mono hV.size), fun c1 c2 hc => ?_⟩
      injection hc with _ _ hc
      simp only [Array.mk.injEq, List.cons.injEq, Value.pointer.injEq, Option.some.injEq, Addr.mk.injEq, and_true] at hc
      obtain ⟨rfl, rfl⟩ := hc
      exact ⟨by omega, by omega, k4, k6⟩
    rintro v ⟨ab, bm, rfl⟩
    simp only [Act.put, List.setIfInBounds_toArray, List.set_cons_succ, List.set_cons_zero]
    refine wpO9_call (fun v => ∃ b1 b2, v = .func (.func 85) #[] #[.pointer (some ⟨b1, 0, none⟩), .pointer (some ⟨b2, 0, none⟩)]) (fun v V => Below w2.heap.size w2 V ∧ (w2.heap.size ≤ ab ∧ w2.heap.size ≤ bm ∧ V.heap[ab]? = some (.cells #[.int .i64 (-1)] 3 (0, 0)) ∧ V.heap[bm]? = some (.cells #[.pointer (some ⟨mb, 0, none⟩)] 83 (0, 0))) ∧ ∀ b1 b2, v = .func (.func 85) #[] #[.pointer (some ⟨b1, 0, none⟩), .pointer (some ⟨b2, 0, none⟩)] → V.heap[b1]? = some (.cells #[.int .i64 f.mo] 3 (0, 0)) ∧ V.heap[b2]? = some (.cells #[.func (.func 89) #[] #[.pointer (some ⟨ab, 0, none⟩), .pointer (some ⟨bm, 0, none⟩)]] 81 (0, 0))) (f := 62) (args := #[.int .i64 f.mo, .func (.func 89) #[] #[.pointer (some ⟨ab, 0, none⟩), .pointer (some ⟨bm, 0, none⟩)]]) rfl rfl rfl (fun _ V hV => hV.1) (fun x => by first | rfl | (simp [go_sem]; done)) (fun V hV => (countR_any f.mo 89 #[.pointer (some ⟨ab, 0, none⟩), .pointer (some ⟨bm, 0, none⟩)] V).mono fun e w' h => ?_) ?_
    · obtain ⟨b1, b2, rfl, k1, k2, k3, k4, k5⟩ := h
      obtain ⟨hb, hf⟩ := hV
      obtain ⟨j1, j3, j4, j6⟩ := hf ab bm rfl
      refine ⟨_, rfl, ⟨b1, b2, rfl⟩, hb.trans (k5.mono hb.size), ⟨j1, j3, (k5.block _ (Array.getElem?_eq_some_iff.1 j4).1).trans j4, (k5.block _ (Array.getElem?_eq_some_iff.1 j6).1).trans j6⟩, fun c1 c2 hc => ?_⟩
      injection hc with _ _ hc
      simp only [Array.mk.injEq, List.cons.injEq, Value.pointer.injEq, Option.some.injEq, Addr.mk.injEq, and_true] at hc
      obtain ⟨rfl, rfl⟩ := hc
      exact ⟨k3, k4⟩
    rintro v ⟨b1, b2, rfl⟩
    simp only [Act.put, List.setIfInBounds_toArray, List.set_cons_succ, List.set_cons_zero]
    rintro w3 ⟨hb3, hfa, hrw⟩
    simp only [List.drop_succ_cons, List.drop_zero]
    have HK := Lib.hid (And.intro hb3 (And.intro hfa (hrw b1 b2 rfl)))
    clear hb3 hfa hrw lO lM d1 d4 kp LF
    go_wp2
    go_ret
    obtain ⟨hb3, ⟨j1, j3, j4, j6⟩, k3, k4⟩ := HK.out
    have hb4 := HB2.out.trans (hb3.mono HB2.out.size)
    exact ⟨_, _, _, rfl, enters_of Try.func85 (by kernel_rfl) rfl, hb4, countc_any w w3 lo mb lb b1 b2 ab bm zs N P C p f HH.out hb4 HF.out e (h4 e) (by omega) hl HZ.out k3 k4 j4 j6 ⟨(Array.getElem?_eq_some_iff.1 j4).1, (Array.getElem?_eq_some_iff.1 j6).1⟩⟩
  by_cases hk : f.so = 5
  · have e : f.so = 5 := by omega
    rw [e] at d1
    rw [← hw2] at d1 d4 kp
    have HM := Lib.hid d4
    unfold Fd.v
    rw [hX0] at HW2 d1 d4 kp ⊢
    clear hX0 hw2 b2 q0 q1 s2 d0 d2 d3 d5 d6 h hf hz hso HM
    go_enter Try.func38, Try.ntmps38
    go_wp2_with fail
    rw [HW2.out]
    refine (textR_any f.mo 66 #[.pointer (some ⟨w.heap.size, 0, none⟩)] w2).mono ?_
    rintro r w3 ⟨a1, a2, rfl, k1, k2, k3, k4, k5⟩
    have HK := Lib.hid (And.intro k3 (And.intro k4 k5))
    clear k3 k4 k5 d1 d4 kp LF
    go_wp2
    go_ret
    obtain ⟨k3, k4, k5⟩ := HK.out
    have hb3 := HB2.out.trans (k5.mono HB2.out.size)
    have kb := (k5.block _ (by omega)).trans HQ0.out
    exact ⟨_, _, _, rfl, enters_of Try.func91 (by kernel_rfl) rfl, hb3, (textr_any lo mb lb a1 a2 w.heap.size zs N P C p f w3 (HH.out.later hb3) HF.out e hl HZ.out k3 k4 kb).mono fun r w4 h => h.since hb3⟩
  · have e : f.so = 6 := by omega
    rw [e] at d1
    rw [← hw2] at d1 d4 kp
    have HM := Lib.hid d4
    unfold Fd.v
    rw [hX0] at HW2 d1 d4 kp ⊢
    clear hX0 hw2 b2 q0 q1 s2 d0 d2 d3 d5 d6 h hf hz hso HM
    go_enter Try.func38, Try.ntmps38
    go_wp2_with fail
    rw [HW2.out]
    refine (textR_any f.mo 67 #[.pointer (some ⟨w.heap.size, 0, none⟩)] w2).mono ?_
    rintro r w3 ⟨a1, a2, rfl, k1, k2, k3, k4, k5⟩
    have HK := Lib.hid (And.intro k3 (And.intro k4 k5))
    clear k3 k4 k5 d1 d4 kp LF
    go_wp2
    go_ret
    obtain ⟨k3, k4, k5⟩ := HK.out
    have hb3 := HB2.out.trans (k5.mono HB2.out.size)
    have kb := (k5.block _ (by omega)).trans HQ0.out
    exact ⟨_, _, _, rfl, enters_of Try.func91 (by kernel_rfl) rfl, hb3, (tagr_any lo mb lb a1 a2 w.heap.size zs N P C p f w3 (HH.out.later hb3) HF.out e hl HZ.out k3 k4 kb).mono fun r w4 h => h.since hb3⟩
end Go.Proofs.Ytmjbimmbphofjaa

namespace Go.Proofs.Ytmjbimmbphofjaa
open Go.RowKit Go.Shelf
set_option maxRecDepth 100000
attribute [local go_sem] Oper.semAt_some

/-- what Decode answers -/
def DecR (w : World) (r : Nat × Mg) (e : Ending) (w' : World) : Prop := ∃ x, e = .returned (.tuple #[x, .int .i64 (r.1 : Int)]) ∧ FMs r.2 x w' ∧ Below w.heap.size w w'
theorem mC_zero (k : Int) : mC (Mg.zero k) (.slice none 0 0) (.slice none 0 0) = #[.int .i64 k, .int .i64 0, .int .i64 0, .int .i64 0, .int .i64 0, .int .i64 0, .int .i64 0, .slice none 0 0, .slice none 0 0, .string ⟨#[]⟩, .string ⟨#[]⟩] := rfl
theorem MAt.zero (w : World) (B : Nat) (k : Int) : MAt w B (Mg.zero k) (.slice none 0 0) (.slice none 0 0) := ⟨⟨none, 0, rfl, Nat.le_refl _, Nums.nil⟩, ⟨none, 0, rfl, Nat.le_refl _, Nums.nil⟩⟩
set_option maxHeartbeats 4000000 in
/-- of a version or a kind that isn't -/
theorem bdecode_no (k v : Int) (A : Option Addr) (len cap : Nat) (l : List Int) (w : World) (hE : (v ≠ 1 ∧ v ≠ 2) ∨ FD k = []) : Calls Try.prog 17 #[.int .i64 k, .int .i64 v, .slice A len cap] w fun e w' => DecR w (bdec k v l) e w' := by
  obtain ⟨w2, hw2⟩ : ∃ w2, w.alloc (.cells #[.int .i64 0, .int .i64 0, .int .i64 0, .int .i64 0, .int .i64 0, .int .i64 0, .int .i64 0, .slice none 0 0, .slice none 0 0, .string ⟨#[]⟩, .string ⟨#[]⟩] 26) = w2 := ⟨_, rfl⟩
  have hb2 : Below w.heap.size w w2 := by rw [← hw2]; exact (Below.refl _ w).alloc (Nat.le_refl _) _
  have q0 : w2.heap[w.heap.size]? = some (.cells (mC (Mg.zero 0) (.slice none 0 0) (.slice none 0 0)) 26 (0, 0)) := by rw [← hw2]; exact World.alloc_heap_new _ _
  have HW2 := Lib.hid hw2
  have KK := Lib.hid (bknown_any v w2)
  have KW := Lib.hid (word_any k w2)
  have hst := mg_store w2 w.heap.size _ (mC (Mg.zero 0) (.slice none 0 0) (.slice none 0 0)) q0 rfl rfl (mg_one _ _ _ _ _ _ _)
  have hrow := setRow_heap w2 w.heap.size _ (mC (Mg.zero 0) (.slice none 0 0) (.slice none 0 0)) _ _ q0
  have hoff := (Off.setRow (S := fun q => q = w.heap.size) (Off.refl _ w2) rfl (mC (Mg.zero 0) (.slice none 0 0) (.slice none 0 0)))
  obtain ⟨W', hW'⟩ : ∃ W', w2.setRow w.heap.size (mC (Mg.zero 0) (.slice none 0 0) (.slice none 0 0)) = W' := ⟨_, rfl⟩
  rw [hW'] at hst hrow hoff
  have hbel : Below w.heap.size w W' := hb2.trans (hoff.below (B := w.heap.size) (fun q hq => by omega) hb2.size)
  rw [mC_zero] at hst
  have HST := Lib.hid hst
  have HRW := Lib.hid hrow
  have HBE := Lib.hid hbel
  clear hw2 q0 hst hrow hoff hW' hb2 hbel
  by_cases hv : v = 1 ∨ v = 2
  · have hk : FD k = [] := by
      rcases hE with h | h
      · omega
      · exact h
    have hr : bdec k v l = (9, Mg.zero 0) := by unfold bdec; rw [if_neg (by omega), if_pos hk]
    rw [hr]
    rw [decide_eq_true hv] at KK
    rw [(FD_nil k).1 hk] at KW
    go_enter Try.func17, Try.ntmps17
    go_wp2
    refine wp_scope_straight ?_
    go_wp2_with fail
    rw [HW2.out]
    refine KK.out.mono ?_
    rintro e w3 ⟨rfl, rfl⟩
    go_wp2_with fail
    refine KW.out.mono ?_
    rintro e w3 ⟨rfl, rfl⟩
    go_wp2_with (refine wpList_store_run rfl 26 (.tmp 6) (.tmp 22) rfl (some ⟨w.heap.size, 0, none⟩) rfl (.agg #[.int .i64 0, .int .i64 0, .int .i64 0, .int .i64 0, .int .i64 0, .int .i64 0, .int .i64 0, .slice none 0 0, .slice none 0 0, .string ⟨#[]⟩, .string ⟨#[]⟩]) rfl HST.out ?_)
    try simp only [Exit.noGoto]
    obtain ⟨y0, y1, y2, y3, y4, y5, y6, y7, y8, y9, y10⟩ := mg_block HRW.out
    refine bodyPost_ret (v := .tuple #[.agg (mC (Mg.zero 0) (.slice none 0 0) (.slice none 0 0)), .int .i64 9]) (by simp [results, Try.results17, go_sem, y0, y1, y2, y3, y4, y5, y6, y7, y8, y9, y10, mC]) rfl ?_
    exact ⟨_, rfl, ⟨_, _, rfl, MAt.zero _ _ _⟩, HBE.out⟩
  · have hr : bdec k v l = (10, Mg.zero 0) := by unfold bdec; rw [if_pos (by omega)]
    rw [hr]
    rw [decide_eq_false hv] at KK
    go_enter Try.func17, Try.ntmps17
    go_wp2
    refine wp_scope_straight ?_
    go_wp2_with fail
    rw [HW2.out]
    refine KK.out.mono ?_
    rintro e w3 ⟨rfl, rfl⟩
    go_wp2_with (refine wpList_store_run rfl 26 (.tmp 6) (.tmp 17) rfl (some ⟨w.heap.size, 0, none⟩) rfl (.agg #[.int .i64 0, .int .i64 0, .int .i64 0, .int .i64 0, .int .i64 0, .int .i64 0, .int .i64 0, .slice none 0 0, .slice none 0 0, .string ⟨#[]⟩, .string ⟨#[]⟩]) rfl HST.out ?_)
    try simp only [Exit.noGoto]
    obtain ⟨y0, y1, y2, y3, y4, y5, y6, y7, y8, y9, y10⟩ := mg_block HRW.out
    refine bodyPost_ret (v := .tuple #[.agg (mC (Mg.zero 0) (.slice none 0 0) (.slice none 0 0)), .int .i64 10]) (by simp [results, Try.results17, go_sem, y0, y1, y2, y3, y4, y5, y6, y7, y8, y9, y10, mC]) rfl ?_
    exact ⟨_, rfl, ⟨_, _, rfl, MAt.zero _ _ _⟩, HBE.out⟩
theorem FD_mo1 (k : Int) : ∀ f ∈ FD k, f.so = 1 → 0 ≤ f.mo := by
  have hall : ∀ L : List Fd, (L.all fun f => decide (f.so = 1 → 0 ≤ f.mo)) = true → ∀ f ∈ L, (f.so = 1 → 0 ≤ f.mo) := by
    intro L h f hf
    rw [List.all_eq_true] at h
    exact of_decide_eq_true (h f hf)
  rcases kind_ways k with rfl | rfl | rfl | rfl | rfl | ⟨h1, h2, h3, h4, h5⟩
  case' inr.inr.inr.inr.inr => rw [show FD k = [] by simp [FD, raw, h1, h2, h3, h4, h5, pls]]
  all_goals exact hall _ (by decide)
theorem setCell_same {w : World} {b : Nat} {v : Value} {t : TypeId} (h : w.heap[b]? = some (.cells #[v] t (0, 0))) : w.setCell ⟨b, 0, none⟩ v = w := by
  have hlt := (Array.getElem?_eq_some_iff.1 h).1
  have : (w.setCell ⟨b, 0, none⟩ v).heap = w.heap := by
    apply Array.ext_getElem?
    intro i
    by_cases hi : i = b
    · subst hi
      rw [setCell_at h, h]
      rfl
    · exact Below.heap_setCell _ _ _ _ hi
  cases w
  simp only [World.setCell] at this ⊢
  rw [this]
theorem NuX.putObj {W : World} {mb lb l : Nat} {a : Option Addr} {zs : List Int} {o o' : Obj} (h : NuX W mb lb a zs) (ho : W.heap[l]? = some o) (hc : o.isCells = false) : NuX (W.putObj l o') mb lb a zs := fun hn => by
  obtain ⟨b, off, e, h1, h2, hcl⟩ := h hn
  obtain ⟨z, hz⟩ : ∃ z, zs[0]? = some z := by
    cases zs with
    | nil => exact absurd rfl hn
    | cons x r => exact ⟨x, rfl⟩
  have hne : b ≠ l := fun e2 => by
    subst e2
    have := hcl 0 z hz
    unfold World.cell? at this
    simp only [ho] at this
    cases o <;> simp_all [Obj.isCells]
  refine ⟨b, off, e, h1, h2, fun j c hj => ?_⟩
  have hx : (W.putObj l o').heap[b]? = W.heap[b]? := World.putObj_heap_other hne
  rw [← hcl j c hj]
  simp only [World.cell?, hx]
theorem RdAt.putObj {lo mb lb l : Nat} {W : World} {zs : List Int} {N : Mg} {P C : Value} {p e : Nat} {o o' : Obj} (h : RdAt lo W mb lb zs N P C p e) (hl : mb < l) (ho : W.heap[l]? = some o) (hc : o.isCells = false) : RdAt lo (W.putObj l o') mb lb zs N P C p e := by
  obtain ⟨⟨a, c, h1, h2, h3⟩, ⟨a', c', h4, h5, h6⟩⟩ := And.intro h.p h.c
  have ha := h.a
  have hoff : Off (fun k => k = l) W (W.putObj l o') := ⟨rfl, rfl, rfl, by simp [World.putObj], fun k _ hn => World.putObj_heap_other hn⟩
  exact ⟨(World.putObj_heap_other (by omega)).trans h.m, h.l.off hoff (fun k _ hk => by omega), h.a, ⟨a, c, h1, h2, h3.putObj ho hc⟩, ⟨a', c', h4, h5, h6.putObj ho hc⟩, h.pz, h.cz⟩
/-- while fields are read: so many have been -/
def DcI (w6 : World) (lo mb lb qe : Nat) (zs : List Int) (FL : List Fd) (k : Int) (j : Nat) (V : World) : Prop := ∃ (N : Mg) (P C : Value) (p : Nat), RdAt lo V mb lb zs N P C p 0 ∧ V.heap[qe]? = some (.cells #[.int .i64 0] 29 (0, 0)) ∧ Off (fun q => q = mb ∨ q = lb ∨ q = qe) w6 V ∧
  Msm N ∧ Flds (FL.drop j) N ∧ rdL FL (Mg.zero k) zs = ((rdL (FL.drop j) N (zs.drop p)).1, p + (rdL (FL.drop j) N (zs.drop p)).2.1, (rdL (FL.drop j) N (zs.drop p)).2.2)
section
variable {w6 V V' : World} {lo mb lb qe : Nat} {zs : List Int} {FL : List Fd} {k : Int} {j : Nat}
theorem DcI.later (h : DcI w6 lo mb lb qe zs FL k j V) (hb : Below V.heap.size V V') : DcI w6 lo mb lb qe zs FL k j V' := by
  obtain ⟨N, P, C, p, h1, h2, h3, h4, h5, h6⟩ := h
  exact ⟨N, P, C, p, h1.later hb, (hb.block _ (Array.getElem?_eq_some_iff.1 h2).1).trans h2, h3.trans (Off.of_below (S := fun _ => False) hb) (fun _ _ h => h.elim), h4, h5, h6⟩
theorem DcI.putObj {l : Nat} {o o' : Obj} (h : DcI w6 lo mb lb qe zs FL k j V) (hl : w6.heap.size ≤ l) (hm : mb < w6.heap.size) (hq : qe < w6.heap.size) (ho : V.heap[l]? = some o) (hc : o.isCells = false) : DcI w6 lo mb lb qe zs FL k j (V.putObj l o') := by
  obtain ⟨N, P, C, p, h1, h2, h3, h4, h5, h6⟩ := h
  have hoff : Off (fun k => k = l) V (V.putObj l o') := ⟨rfl, rfl, rfl, by simp [World.putObj], fun k _ hn => World.putObj_heap_other hn⟩
  exact ⟨N, P, C, p, h1.putObj (by omega) ho hc, (World.putObj_heap_other (by omega)).trans h2, h3.trans hoff (fun _ _ e => by omega), h4, h5, h6⟩
end
theorem off3_kf {V W : World} {a b c s : Nat} {c1 c2 c3 : Array Value} {t1 t2 t3 : TypeId} (h : Off (fun q => q = a ∨ q = b ∨ q = c) V W) (h1 : V.heap[a]? = some (.cells c1 t1 (0, 0))) (h2 : V.heap[b]? = some (.cells c2 t2 (0, 0))) (h3 : V.heap[c]? = some (.cells c3 t3 (0, 0))) : KeepsFrom s V W := ⟨h.size, fun q o _ hq hc => (h.block q (Array.getElem?_eq_some_iff.1 hq).1 (by
  rintro (rfl | rfl | rfl)
  · rw [h1] at hq; injection hq with hq; subst hq; cases hc
  · rw [h2] at hq; injection hq with hq; subst hq; cases hc
  · rw [h3] at hq; injection hq with hq; subst hq; cases hc)).trans hq⟩
theorem off3_ket {V W : World} {a b c lo : Nat} {c1 c2 c3 : Array Value} (h : Off (fun q => q = a ∨ q = b ∨ q = c) V W) (h1 : V.heap[a]? = some (.cells c1 26 (0, 0))) (h2 : V.heap[b]? = some (.cells c2 116 (0, 0))) (h3 : V.heap[c]? = some (.cells c3 29 (0, 0))) : KeT 68 3 lo V W := ⟨h.size, fun q cs t _ ht hq => h.block q (Array.getElem?_eq_some_iff.1 hq).1 (by
  have e1 := fun e : t ≠ 26 => row_ne hq h1 e
  have e2 := fun e : t ≠ 116 => row_ne hq h2 e
  have e3 := fun e : t ≠ 29 => row_ne hq h3 e
  rcases ht with rfl | rfl
  · have := e1 (by decide); have := e2 (by decide); have := e3 (by decide); omega
  · have := e1 (by decide); have := e2 (by decide); have := e3 (by decide); omega)⟩
theorem rdL_step (f : Fd) (r : List Fd) (M : Mg) (l : List Int) : rdL (f :: r) M l = if (rdF M f l).1 ≠ 0 then ((rdF M f l).1, 0, M) else ((rdL r (rdF M f l).2.2 (l.drop (rdF M f l).2.1)).1, (rdF M f l).2.1 + (rdL r (rdF M f l).2.2 (l.drop (rdF M f l).2.1)).2.1, (rdL r (rdF M f l).2.2 (l.drop (rdF M f l).2.1)).2.2) := rfl
theorem rdF_small {f : Fd} (hf : FdX f) {N N' : Mg} (h : fE N' f = 0) (hc : N' = cp N N' f) (hs : Msm N) : Msm N' := by
  unfold cp at hc
  unfold fE at h
  by_cases h3 : f.so = 3
  · rw [if_pos h3] at hc h
    obtain ⟨-, h2, -⟩ := wP_zero h
    have := hf.mo.1 h3
    rw [hc]
    exact ⟨by show N'.p.length ≤ 40; omega, hs.c, hs.tx, hs.tg⟩
  rw [if_neg h3] at hc h
  by_cases h4 : f.so = 4
  · rw [if_pos h4] at hc h
    obtain ⟨-, h2, -⟩ := wC_zero h
    have := hf.mo.2.1 h4
    rw [hc]
    exact ⟨hs.p, by show N'.c.length ≤ 40; omega, hs.tx, hs.tg⟩
  rw [if_neg h4] at hc h
  by_cases h5 : f.so = 5
  · rw [if_pos h5] at hc h
    obtain ⟨h2, -⟩ := wT_zero h
    have := hf.mo.2.2.1 h5
    rw [hc]
    exact ⟨hs.p, hs.c, by show N'.tx.size ≤ 80; omega, hs.tg⟩
  rw [if_neg h5] at hc h
  by_cases h6 : f.so = 6
  · rw [if_pos h6] at hc h
    obtain ⟨h2, -⟩ := wT_zero h
    have := hf.mo.2.2.2 h6
    rw [hc]
    exact ⟨hs.p, hs.c, hs.tx, by show N'.tg.size ≤ 80; omega⟩
  rw [if_neg h6] at hc
  rw [hc]
  exact ⟨by rw [Mg.put_p]; exact hs.p, by rw [Mg.put_c]; exact hs.c, by rw [Mg.put_tx]; exact hs.tx, by rw [Mg.put_tg]; exact hs.tg⟩
set_option maxHeartbeats 16000000 in
theorem bdecode_yes (k v : Int) (A : Option Addr) (len cap : Nat) (zs : List Int) (w : World) (hlen : zs.length = len) (hll : len ≤ 1000000) (hby : Bys zs) (hA : Nums .u8 w w.heap.size A zs) (hv : v = 1 ∨ v = 2) (hk : FD k ≠ []) : Calls Try.prog 17 #[.int .i64 k, .int .i64 v, .slice A len cap] w fun e w' => DecR w (bdec k v zs) e w' := by
  obtain ⟨w2, hw2⟩ : ∃ w2, w.alloc (.cells #[.int .i64 0, .int .i64 0, .int .i64 0, .int .i64 0, .int .i64 0, .int .i64 0, .int .i64 0, .slice none 0 0, .slice none 0 0, .string ⟨#[]⟩, .string ⟨#[]⟩] 26) = w2 := ⟨_, rfl⟩
  have hb2 : Below w.heap.size w w2 := by rw [← hw2]; exact (Below.refl _ w).alloc (Nat.le_refl _) _
  have q0 : w2.heap[w.heap.size]? = some (.cells (mC (Mg.zero 0) (.slice none 0 0) (.slice none 0 0)) 26 (0, 0)) := by rw [← hw2]; exact World.alloc_heap_new _ _
  have HW2 := Lib.hid hw2
  have hlt0 := (Array.getElem?_eq_some_iff.1 q0).1
  have KK := Lib.hid (bknown_any v w2)
  have KW := Lib.hid (word_any k w2)
  rw [decide_eq_true hv] at KK
  have hwk : wd k ≠ ⟨#[]⟩ := fun e => hk ((FD_nil k).2 e)
  have hwne := str_nil hwk
  have hwn2 : (wd k).toList.isEmpty = false := by simpa using hwne
  have KL := Lib.hid (lnew_any A len cap zs w2 hlen (by omega) ((hA.below hb2).mono hb2.size))
  obtain ⟨R, hR⟩ : ∃ R, bdec k v zs = R := ⟨_, rfl⟩
  rw [hR]
  unfold bdec at hR
  rw [if_neg (by omega), if_neg hk] at hR
  have HR := Lib.hid hR
  have HB2 := Lib.hid hb2
  have HQ0 := Lib.hid q0
  have HBY := Lib.hid hby
  have HLEN := Lib.hid hlen
  clear hR hw2 hb2 q0 hA hby hlen
  refine (callsIn_wide (n := 9)).1 ?_
  refine callsIn_of_wp_marks Try.func17 rfl trivial ?_ rfl
  simp only [Try.ntmps17, List.size_toArray, List.length_cons, List.length_nil, Nat.reduceAdd, Nat.reduceSub, Array.replicate_succ, Array.replicate_zero, List.push_toArray, List.append_toArray, List.nil_append, List.cons_append]
  gi_wp2_with fail
  refine wpIn_wide.2 (wp_scope_straight ((wpIn_wide (n := 9)).1 ?_))
  gi_wp2_with fail
  rw [HW2.out]
  refine ⟨trivial, (callsIn_wide.2 KK.out).mono ?_⟩
  rintro e w3 ⟨rfl, rfl⟩
  gi_wp2_with fail
  refine ⟨trivial, (callsIn_wide.2 KW.out).mono ?_⟩
  rintro e w3 ⟨rfl, rfl⟩
  clear KW KK
  gi_wp2_with fail
  refine ⟨trivial, (callsIn_wide.2 KL.out).mono ?_⟩
  rintro e w3 ⟨lb, rfl, hl3, hb3⟩
  clear KL
  gi_wp2_with fail
  obtain ⟨w5, hw5⟩ : ∃ w5, ((w3.alloc (.cells #[.int .i64 k, .int .i64 0, .int .i64 0, .int .i64 0, .int .i64 0, .int .i64 0, .int .i64 0, .slice none 0 0, .slice none 0 0, .string ⟨#[]⟩, .string ⟨#[]⟩] 26)).alloc (.cells #[.pointer (some ⟨lb, 0, none⟩)] 79)).alloc (.cells #[.int .i64 0] 29) = w5 := ⟨_, rfl⟩
  have hs3 := hb3.size
  have hlb3 := hl3.lt
  have hlbo := hl3.lo_le
  obtain ⟨mb, hmb⟩ : ∃ mb, w3.heap.size = mb := ⟨_, rfl⟩
  obtain ⟨hb4, m4, r4, hs4⟩ := two_rows (W := w3) (c1 := #[.int .i64 k, .int .i64 0, .int .i64 0, .int .i64 0, .int .i64 0, .int .i64 0, .int .i64 0, .slice none 0 0, .slice none 0 0, .string ⟨#[]⟩, .string ⟨#[]⟩]) (t1 := 26) (c2 := #[.pointer (some ⟨lb, 0, none⟩)]) (t2 := 79)
  obtain ⟨w4, hw4⟩ : ∃ w4, (w3.alloc (.cells #[.int .i64 k, .int .i64 0, .int .i64 0, .int .i64 0, .int .i64 0, .int .i64 0, .int .i64 0, .slice none 0 0, .slice none 0 0, .string ⟨#[]⟩, .string ⟨#[]⟩] 26)).alloc (.cells #[.pointer (some ⟨lb, 0, none⟩)] 79) = w4 := ⟨_, rfl⟩
  rw [hw4] at hb4 m4 r4 hs4
  have hb45 : Below w4.heap.size w4 w5 := by rw [← hw5, hw4]; exact (Below.refl _ w4).alloc (Nat.le_refl _) _
  have e5 : w5.heap[w4.heap.size]? = some (.cells #[.int .i64 0] 29 (0, 0)) := by rw [← hw5, hw4]; exact World.alloc_heap_new _ _
  have m5 := (hb45.block _ (Array.getElem?_eq_some_iff.1 m4).1).trans m4
  have r5 := (hb45.block _ (Array.getElem?_eq_some_iff.1 r4).1).trans r4
  have hb35 := hb4.trans (hb45.mono (by omega))
  have hl5 := hl3.below hb35
  rw [hs4, hmb] at e5
  have e5 : w5.heap[mb + 1 + 1]? = some (.cells #[.int .i64 0] 29 (0, 0)) := e5
  rw [hmb] at m5 r5 hlb3 hs3 ⊢
  have hR5 : RdAt w2.heap.size w5 mb lb zs (Mg.zero k) (.slice none 0 0) (.slice none 0 0) 0 0 := ⟨m5, hl5, hlb3, ⟨none, 0, rfl, Nat.le_refl _, fun h => absurd rfl h⟩, ⟨none, 0, rfl, Nat.le_refl _, fun h => absurd rfl h⟩, fun _ => rfl, fun _ => rfl⟩
  have hs5 : mb + 1 + 1 < w5.heap.size := (Array.getElem?_eq_some_iff.1 e5).1
  have hb05 : Below w.heap.size w w5 := HB2.out.trans ((hb3.trans (hb35.mono (by omega))).mono (by omega))
  have q5 := (hb35.block _ (by omega)).trans ((hb3.block _ hlt0).trans HQ0.out)
  have HW5 := Lib.hid hw5
  have HR5 := Lib.hid hR5
  have HE5 := Lib.hid e5
  have HP5 := Lib.hid r5
  have HQ5 := Lib.hid q5
  have HB05 := Lib.hid hb05
  clear hw5 hR5 e5 r5 q5 hb05 m5 hl5 hb35 hb45 hb4 m4 r4 hs4 hw4 hb3 hl3 HQ0 HB2
  rw [HW5.out]
  clear HW5
  apply wpIn_label
  gi_wp2_with fail
  refine ⟨trivial, (callsIn_wide.2 (fall_any k v w5)).mono ?_⟩
  rintro e w6 ⟨rfl, hg0, hg1, hb6⟩
  have hs6 := (Array.getElem?_eq_some_iff.1 hg1).1
  have hR6 := HR5.out.later hb6
  have e6 := (hb6.block _ hs5).trans HE5.out
  have HP6 := Lib.hid ((hb6.block _ (by omega)).trans HP5.out)
  have HQ6 := Lib.hid ((hb6.block _ (by omega)).trans HQ5.out)
  have HB06 := Lib.hid (HB05.out.trans (hb6.mono HB05.out.size))
  have HFX := Lib.hid (show ∀ f ∈ FDv k v, f.so = 1 → 0 ≤ f.mo from fun f hf => FD_mo1 k f (FDv_sub hf))
  have hfl := FDv_flds k v
  have hsm0 : Msm (Mg.zero k) := ⟨by simp [Mg.zero], by simp [Mg.zero], by show (ByteArray.mk #[]).size ≤ 80; decide, by show (ByteArray.mk #[]).size ≤ 80; decide⟩
  obtain ⟨FL, hFL⟩ : ∃ FL, FDv k v = FL := ⟨_, rfl⟩
  rw [hFL] at HR HFX hfl
  have HFL := Lib.hid hFL
  have hD0 : DcI w6 w2.heap.size mb lb (mb + 1 + 1) zs FL k 0 w6 := ⟨Mg.zero k, _, _, 0, hR6, e6, Off.refl _ _, hsm0, by rw [List.drop_zero]; exact hfl, by simp⟩
  clear hR6 e6 hb6 hFL hfl hsm0 HR5 HE5 HP5 HQ5 HB05
  gi_wp2_with fail
  refine range_stopb rfl (by omega) (gf := 48) (lb := #[.pointer (some ⟨w5.heap.size, 0, none⟩), .pointer (some ⟨w5.heap.size + 1, 0, none⟩)]) rfl trivial (enters_of Try.func48 (by kernel_rfl) rfl)
    (fun f : Fd => #[f.v]) (fun _ => rfl)
    (fun j f V => FL[j]? = some f ∧ DcI w6 w2.heap.size mb lb (mb + 1 + 1) zs FL k j V)
    (fun j f q V => (FL[j]? = some f ∧ DcI w6 w2.heap.size mb lb (mb + 1 + 1) zs FL k j V) ∧ w6.heap.size ≤ q ∧ V.heap[q]? = some (.cells f.cs 68 (0, 0)))
    (fun j V => DcI w6 w2.heap.size mb lb (mb + 1 + 1) zs FL k j V)
    (fun cd V => cd = .exit 1 ∧ ∃ E : Nat, E ≠ 0 ∧ (rdL FL (Mg.zero k) zs).1 = E ∧ V.heap[mb + 1 + 1]? = some (.cells #[.int .i64 (E : Int)] 29 (0, 0)) ∧ Off (fun q => q = mb ∨ q = lb ∨ q = mb + 1 + 1) w6 V)
    (KeT 68 3 w5.heap.size) FL.length
    (fun j f q V l o o' h hl ho hc' => ⟨⟨h.1.1, h.1.2.putObj hl (by omega) (by omega) ho hc'⟩, h.2.1, (World.putObj_heap_other (fun e => by subst e; rw [h.2.2] at ho; injection ho with ho; subst ho; cases hc')).trans h.2.2⟩)
    (fun j V l o o' h hl ho hc' => h.putObj hl (by omega) (by omega) ho hc')
    (fun cd V l o o' h hl ho hc' => by
      obtain ⟨h1, E, h2, h3, h4, h5⟩ := h
      have hoff : Off (fun k => k = l) V (V.putObj l o') := ⟨rfl, rfl, rfl, by simp [World.putObj], fun k _ hn => World.putObj_heap_other hn⟩
      exact ⟨h1, E, h2, h3, (World.putObj_heap_other (by omega)).trans h4, h5.trans hoff (fun _ _ e => by omega)⟩)
    (fun _ _ _ h k => h.trans k) (fun V l o o' hl ho hc' => KeT.putObj ho hc')
    (fun o => (hD0.later ((Below.refl _ w6).alloc (Nat.le_refl _) _)).later ((Below.refl _ _).alloc (Nat.le_refl _) _)) ?round ?iter ?done ?stop
  case round =>
    rintro l j f V K ⟨hf, hC⟩ hj hK
    have HK := Lib.hid hK
    have hsz : w6.heap.size ≤ V.heap.size := by
      obtain ⟨_, _, _, _, _, _, h3, _⟩ := hC
      exact h3.size
    clear hK
    unfold Fd.v Fd.cs
    gi_wp2_with fail
    refine HK.out _ V.heap.size _ ⟨⟨hf, hC.later ((Below.refl _ V).alloc (Nat.le_refl _) _)⟩, hsz, World.alloc_heap_new _ _⟩ ⟨by simp, fun q o _ ho _ => (Below.heap_alloc _ _ _ (Array.getElem?_eq_some_iff.1 ho).1).trans ho⟩ (KeT.of_below ((Below.refl _ V).alloc (Nat.le_refl _) _)) ?_
    clear HK hC
    rintro l V2 hl ⟨⟨_, hC⟩, hq, hc⟩
    obtain ⟨qb, hqb⟩ : ∃ qb, V.heap.size = qb := ⟨_, rfl⟩
    rw [hqb] at hq hc ⊢
    clear hqb hD0
    obtain ⟨N, P, C, p, h1, h2, h3, hsm, h4, h5⟩ := hC
    have hd : FL.drop j = f :: FL.drop (j + 1) := by
      obtain ⟨hlt, he⟩ := List.getElem?_eq_some_iff.1 hf
      rw [List.drop_eq_getElem_cons hlt, he]
    rw [hd] at h4 h5
    have hfx := h4.fdx f (List.mem_cons_self ..)
    have hfp := h4.p f (List.mem_cons_self ..)
    have hfc := h4.c f (List.mem_cons_self ..)
    have KR := reader_any w2.heap.size mb lb zs N P C p f V2 h1 hfx (HFX.out f (List.mem_of_getElem? hf)) hfp hfc (by rw [HLEN.out]; omega) HBY.out
    have hst := rdL_step f (FL.drop (j + 1)) N (zs.drop p)
    have hok : ∀ u N', rdF N f (zs.drop p) = (0, u, N') → fE N' f = 0 ∧ N' = cp N N' f := fun u N' h => (rdFld_ok hfx (HBY.out.drop p) hfp hfc h).2.2
    unfold RdrR at KR
    obtain ⟨⟨E, u, N'⟩, hrd⟩ : ∃ r, rdF N f (zs.drop p) = r := ⟨_, rfl⟩
    rw [hrd] at KR hst hok
    simp only at hst
    rw [hst] at h5
    have r9 := (h3.block _ (by omega) (by omega)).trans HP6.out
    have k9 := row_cell r9 0 _ rfl
    obtain ⟨_, _, hbl, -⟩ := h1.l.open
    have LF : Hid ((Instr.loadAt 68 (.pointer (some ⟨qb, 0, none⟩))).run Try.prog V2 = .ok f.v V2) := by
      obtain ⟨t0, t1, t2, t3, t4, t5, t6⟩ := fd_block hc
      exact Lib.hid (by simp [Instr.loadAt, go_sem, t0, t1, t2, t3, t4, t5, t6, Fd.v, Fd.cs])
    have HM := Lib.hid h1.m
    have HBL := Lib.hid hbl
    have HEQ := Lib.hid h2
    have HOF := Lib.hid h3
    have HST := Lib.hid h5
    have HFL4 := Lib.hid h4
    have HOK := Lib.hid hok
    have HSM := Lib.hid hsm
    have HFD := Lib.hid hfx
    have KR := Lib.hid KR
    have hlbm := h1.a
    have hV2 := h3.size
    clear h1 h2 h3 h4 h5 hst hok hsm hfp hfc hd hf hrd hbl r9 hfx hc
    gi_wp2_with (refine wpListIn_load_run rfl 68 (.tmp 11) rfl (some ⟨qb, 0, none⟩) rfl f.v LF.out ?_)
    refine ⟨trivial, ((callsIn_wide.2 KR.out).inRound l).mono ?_⟩
    rintro e V3 ⟨F, c1, c2, rfl, hent, hb3, hcall⟩
    have hs3 := hb3.size
    have k9 := (hb3.cell (p := ⟨mb + 1, 0, none⟩) (by show mb + 1 < _; omega)).trans k9
    have HCALL := Lib.hid hcall
    clear hcall KR hb3
    gi_wp2_with fail
    refine ⟨trivial, ((callsIn_wide.2 HCALL.out).inRound l).mono ?_⟩
    rintro e V4 ⟨rfl, ho4, hok4⟩
    simp only at hok4 ⊢
    have hV4 := ho4.size
    have m4 := HM.out
    have e4 := (ho4.block _ (Array.getElem?_eq_some_iff.1 HEQ.out).1 (by omega)).trans HEQ.out
    have k4 := row_cell e4 0 _ rfl
    have z4 := frozen_of_row V4 (mb + 1 + 1) 0 _ _ e4
    have ho3 : Off (fun q => q = mb ∨ q = lb ∨ q = mb + 1 + 1) V2 V4 := ho4.mono fun j _ h => by omega
    clear HCALL m4
    by_cases hE : E = 0
    · subst hE
      obtain ⟨P', C', hR'⟩ := hok4 rfl
      obtain ⟨hfe, hcp⟩ := HOK.out u N' rfl
      have hst := HST.out
      rw [if_neg (by simp)] at hst
      simp only [List.drop_drop] at hst
      have HJ : Hid (DcI w6 w2.heap.size mb lb (mb + 1 + 1) zs FL k (j + 1) V4) := Lib.hid ⟨N', P', C', p + u, hR', e4, HOF.out.trans ho3 (fun _ _ h => h), rdF_small HFD.out hfe hcp HSM.out, by rw [hcp]; exact HFL4.out.next N', by rw [hst]; simp only [Nat.add_assoc]⟩
      have HKF := Lib.hid (off3_kf (s := w6.heap.size) ho3 HM.out HBL.out HEQ.out)
      have HKE := Lib.hid (off3_ket (lo := w5.heap.size) ho3 HM.out HBL.out HEQ.out)
      have HSA := Lib.hid (setCell_same e4)
      clear hok4 hR' ho4 ho3 hst hfe hcp e4
      rw [show ((0 : Nat) : Int) = 0 from rfl]
      gi_wp2
      rw [HSA.out]
      exact ⟨HKF.out, HJ.out, HKE.out⟩
    · have hEn : ((E : Int) != 0) = true := by simpa using hE
      have hst := HST.out
      rw [if_pos hE] at hst
      have ho5 : Off (fun q => q = mb ∨ q = lb ∨ q = mb + 1 + 1) V2 (V4.setCell ⟨mb + 1 + 1, 0, none⟩ (.int .i64 (E : Int))) := ho3.setCell (p := ⟨mb + 1 + 1, 0, none⟩) (.inr (.inr rfl)) _
      have HKF := Lib.hid (off3_kf (s := w6.heap.size) ho5 HM.out HBL.out HEQ.out)
      have HX : Hid (∃ E' : Nat, E' ≠ 0 ∧ (rdL FL (Mg.zero k) zs).1 = E' ∧ (V4.setCell ⟨mb + 1 + 1, 0, none⟩ (.int .i64 (E : Int))).heap[mb + 1 + 1]? = some (.cells #[.int .i64 (E' : Int)] 29 (0, 0)) ∧ Off (fun q => q = mb ∨ q = lb ∨ q = mb + 1 + 1) w6 (V4.setCell ⟨mb + 1 + 1, 0, none⟩ (.int .i64 (E : Int)))) := Lib.hid ⟨E, hE, by rw [hst], by rw [setCell_at e4]; rfl, HOF.out.trans ho5 (fun _ _ h => h)⟩
      clear hok4 ho4 ho3 ho5 hst e4
      gi_wp2
      exact ⟨HKF.out, rfl, HX.out⟩
  case iter =>
    intro Bk X l V hBk hBlt hX hl hD hB hY
    have h := fall_in 8 (by omega) 7 l w5.heap.size k v (fun j V => DcI w6 w2.heap.size mb lb (mb + 1 + 1) zs FL k j V ∧ Bk V) X
      (fun j A B h hb => ⟨h.1.later hb, hBk A _ h.2 hb.size (fun q h1 h2 => by have := hBlt A h.2; exact hb.block q (by omega))⟩)
      (fun j f W h hf => by
        rw [HFL.out] at hf
        exact (hY j f W ⟨hf, h.1⟩ h.2 (List.getElem?_eq_some_iff.1 hf).1).mono (fun e W2 h => h.elim (fun h => .inl ⟨h.1, h.2.1, h.2.2.1⟩) (fun h => .inr ⟨h.1, h.2.1⟩)))
      V (by
        obtain ⟨_, _, _, _, _, _, h3, _⟩ := hD
        exact (h3.block _ (by omega) (by omega)).trans hg0) (by
        obtain ⟨_, _, _, _, _, _, h3, _⟩ := hD
        exact (h3.block _ (by omega) (by omega)).trans hg1) ⟨hD, hB⟩
    rw [HFL.out] at h
    exact h
  case done =>
    rintro D V hD hC hK
    obtain ⟨N, P, C, p, h1, h2, h3, hsm, -, h5⟩ := hC
    rw [List.drop_length] at h5
    simp only [rdL, Nat.add_zero] at h5
    have hR := HR.out
    rw [h5] at hR
    simp only [ne_eq, not_true_eq_false, if_false] at hR
    have hp := h1.l.place
    have ce := row_cell h2 0 _ rfl
    have cz := frozen_of_row V (mb + 1 + 1) 0 _ _ h2
    have k9 := row_cell ((h3.block _ (by omega) (by omega)).trans HP6.out) 0 _ rfl
    have HQ := Lib.hid ((h3.block _ (by omega) (by omega)).trans HQ6.out)
    have HB0 := Lib.hid (HB06.out.trans (h3.below (B := w.heap.size) (fun q hq => by omega) HB06.out.size))
    have KE := Lib.hid (lend_any _ _ _ _ _ _ h1.l (by rw [HLEN.out]; omega))
    have HKD0 := Lib.hid hK
    have hV := h3.size
    have HR1 := Lib.hid h1
    have HE1 := Lib.hid h2
    have HSM := Lib.hid hsm
    clear h1 h2 h3 hsm h5 hK hD0 hg0 hg1
    by_cases hlt : p < zs.length
    · rw [if_pos hlt] at hR
      have he3 : endOf zs p 0 = 3 := by unfold endOf; rw [if_neg (by simp), if_pos hlt]
      rw [he3] at KE
      have HR2 := Lib.hid hR
      clear hR
      gi_wp2_with fail
      refine ⟨trivial, (callsIn_wide.2 KE.out).mono ?_⟩
      rintro e V2 ⟨rfl, n2, rfl⟩
      have hb2 := below_of_drewN (B := V.heap.size) V n2
      obtain ⟨V2, hV2⟩ : ∃ V2, V.drewN n2 = V2 := ⟨_, rfl⟩
      rw [hV2] at hb2 ⊢
      have e2 := (hb2.block _ (Array.getElem?_eq_some_iff.1 HE1.out).1).trans HE1.out
      have ce2 := row_cell e2 0 _ rfl
      have cz2 := frozen_of_row V2 (mb + 1 + 1) 0 _ _ e2
      obtain ⟨V4, hV4⟩ : ∃ V4, V2.setCell ⟨mb + 1 + 1, 0, none⟩ (.int .i64 3) = V4 := ⟨_, rfl⟩
      have hof4 : Off (fun q => q = mb + 1 + 1) V2 V4 := by rw [← hV4]; exact Off.setCell (S := fun q => q = mb + 1 + 1) (p := ⟨mb + 1 + 1, 0, none⟩) (Off.refl _ V2) rfl _
      have HEE : Hid (V4.heap[mb + 1 + 1]? = some (.cells #[.int .i64 3] 29 (0, 0))) := Lib.hid (by rw [← hV4, setCell_at e2]; rfl)
      have hqq := (hb2.block _ (Array.getElem?_eq_some_iff.1 HQ.out).1).trans HQ.out
      have HQV := Lib.hid ((hof4.block _ (Array.getElem?_eq_some_iff.1 hqq).1 (by omega)).trans hqq)
      have hkk := (hb2.block _ (Array.getElem?_eq_some_iff.1 HKD0.out).1).trans HKD0.out
      have HKD := Lib.hid ((hof4.block _ (Array.getElem?_eq_some_iff.1 hkk).1 (by omega)).trans hkk)
      have HBV := Lib.hid ((HB0.out.trans (hb2.mono HB0.out.size)).trans (hof4.below (B := w.heap.size) (fun q hq => by omega) (by have := HB0.out.size; have := hb2.size; omega)))
      have HV4 := Lib.hid hV4
      clear KE hb2 hV2 e2 hof4 hqq hkk HQ HB0 HE1 HR1 HKD0 hV4
      rw [show ((3 : Nat) : Int) = 3 from rfl]
      gi_wp2_with fail
      rw [HV4.out]
      have lE : ∀ W, Off (fun q => q = w.heap.size) V4 W → (Instr.loadAt 29 (.pointer (some ⟨mb + 1 + 1, 0, none⟩))).run Try.prog W = .ok (.int .i64 3) W := fun W hW => by
        have k := row_cell ((hW.block _ (Array.getElem?_eq_some_iff.1 HEE.out).1 (by omega)).trans HEE.out) 0 _ rfl
        simp [Instr.loadAt, go_sem, k]
      refine wpIn_wide.2 ?_
      refine wp_region_order9 3 (0 :: 1 :: 2 :: []) (fun W => Off (fun q => q = w.heap.size) V4 W) (C := fun W => Below V4.heap.size V4 W) (by kernel_rfl) (by kernel_rfl) (by kernel_rfl) (Below.refl _ _).drew (fun W hW => Off.of_below hW) ?_
      refine wpO9_build (.agg #[.int .i64 0, .int .i64 0, .int .i64 0, .int .i64 0, .int .i64 0, .int .i64 0, .int .i64 0, .slice none 0 0, .slice none 0 0, .string ⟨#[]⟩, .string ⟨#[]⟩]) rfl rfl rfl (fun W _ => by simp [execOp, go_sem]) ?_
      simp only [Act.put, List.setIfInBounds_toArray, List.set_cons_succ, List.set_cons_zero]
      refine wpO9_load (ad := ⟨mb + 1 + 1, 0, none⟩) (.int .i64 3) rfl rfl rfl (by rfl) lE ?_
      simp only [Act.put, List.setIfInBounds_toArray, List.set_cons_succ, List.set_cons_zero]
      refine wpO9_store (fun W => ∃ W0, Below V4.heap.size V4 W0 ∧ W = W0.setRow w.heap.size #[.int .i64 0, .int .i64 0, .int .i64 0, .int .i64 0, .int .i64 0, .int .i64 0, .int .i64 0, .slice none 0 0, .slice none 0 0, .string ⟨#[]⟩, .string ⟨#[]⟩]) rfl rfl rfl rfl ⟨w.heap.size, 0, none⟩ (.agg #[.int .i64 0, .int .i64 0, .int .i64 0, .int .i64 0, .int .i64 0, .int .i64 0, .int .i64 0, .slice none 0 0, .slice none 0 0, .string ⟨#[]⟩, .string ⟨#[]⟩]) (by rfl) (by rfl) (fun W hW => ?_) (fun W hW => ?_) ?_
      · obtain ⟨W0, h1, rfl⟩ := hW
        exact Off.setRow (S := fun q => q = w.heap.size) (Off.of_below h1) rfl _
      · exact ⟨_, mg_store W w.heap.size _ _ ((hW.block _ (Array.getElem?_eq_some_iff.1 HQV.out).1).trans HQV.out) rfl rfl (mg_one (Mg.zero 0) _ _ _ _ _ _), W, hW, rfl⟩
      rintro V6 ⟨W0, hb0, rfl⟩
      simp only [List.drop_succ_cons, List.drop_zero]
      have q0 := (hb0.block _ (Array.getElem?_eq_some_iff.1 HQV.out).1).trans HQV.out
      have hrow := setRow_heap W0 w.heap.size _ #[.int .i64 0, .int .i64 0, .int .i64 0, .int .i64 0, .int .i64 0, .int .i64 0, .int .i64 0, .slice none 0 0, .slice none 0 0, .string ⟨#[]⟩, .string ⟨#[]⟩] _ _ q0
      have hof0 := Off.setRow (S := fun q => q = w.heap.size) (Off.refl _ W0) rfl #[.int .i64 0, .int .i64 0, .int .i64 0, .int .i64 0, .int .i64 0, .int .i64 0, .int .i64 0, .slice none 0 0, .slice none 0 0, .string ⟨#[]⟩, .string ⟨#[]⟩]
      have hbf : Below w.heap.size w (W0.setRow w.heap.size #[.int .i64 0, .int .i64 0, .int .i64 0, .int .i64 0, .int .i64 0, .int .i64 0, .int .i64 0, .slice none 0 0, .slice none 0 0, .string ⟨#[]⟩, .string ⟨#[]⟩]) := (HBV.out.trans (hb0.mono HBV.out.size)).trans (hof0.below (B := w.heap.size) (fun q hq => by omega) (by have := HBV.out.size; have := hb0.size; omega))
      have hkf := (hof0.block _ (by have := (Array.getElem?_eq_some_iff.1 HKD.out).1; have := hb0.size; omega) (by omega)).trans ((hb0.block _ (Array.getElem?_eq_some_iff.1 HKD.out).1).trans HKD.out)
      generalize W0.setRow w.heap.size _ = Vf at *
      have HRW := Lib.hid hrow
      have HBF := Lib.hid hbf
      have HKF := Lib.hid hkf
      clear lE q0 hrow hof0 hbf hkf hb0 HBV HKD
      go_wp2
      gi_wp2
      try simp only [Exit.noGoto]
      refine ⟨by simp, .inl ⟨_, _, rfl, run_takeDeferred HKF.out, ?_⟩⟩
      obtain ⟨y0, y1, y2, y3, y4, y5, y6, y7, y8, y9, y10⟩ := mg_block (M := Mg.zero 0) (P := .slice none 0 0) (C := .slice none 0 0) (W := Vf.putObj D (.deferred none)) ((World.putObj_heap_other (by omega)).trans HRW.out)
      refine ⟨.tuple #[.agg (mC (Mg.zero 0) (.slice none 0 0) (.slice none 0 0)), .int .i64 3], by simp [results, Try.f17, go_sem, y0, y1, y2, y3, y4, y5, y6, y7, y8, y9, y10, mC], ?_⟩
      rw [← HR2.out]
      exact ⟨_, rfl, ⟨_, _, rfl, MAt.zero _ _ _⟩, HBF.out.trans (below_put _ _ (by omega))⟩
    · rw [if_neg hlt] at hR
      have he3 : endOf zs p 0 = 0 := by unfold endOf; rw [if_neg (by simp), if_neg hlt]
      rw [he3] at KE
      have HR2 := Lib.hid hR
      clear hR
      gi_wp2_with fail
      refine ⟨trivial, (callsIn_wide.2 KE.out).mono ?_⟩
      rintro e V2 ⟨rfl, n2, rfl⟩
      have hb2 := below_of_drewN (B := V.heap.size) V n2
      obtain ⟨V2, hV2⟩ : ∃ V2, V.drewN n2 = V2 := ⟨_, rfl⟩
      rw [hV2] at hb2 ⊢
      have e2 := (hb2.block _ (Array.getElem?_eq_some_iff.1 HE1.out).1).trans HE1.out
      have ce2 := row_cell e2 0 _ rfl
      have cz2 := frozen_of_row V2 (mb + 1 + 1) 0 _ _ e2
      have HSA := Lib.hid (setCell_same e2)
      have h1 := HR1.out.later hb2
      have LM := Lib.hid (mg_read h1.m)
      have hmat : MAt V2 V2.heap.size N P C := by
        obtain ⟨⟨a, c, e1, e2, e3⟩, ⟨a', c', e4, e5, e6⟩⟩ := And.intro h1.p h1.c
        exact ⟨⟨a, c, e1, e2, e3.nums⟩, ⟨a', c', e4, e5, e6.nums⟩⟩
      have KP := mproject_any N P C v V2 HSM.out hmat
      unfold mV at KP LM
      have KP := Lib.hid KP
      have HQ2 := Lib.hid ((hb2.block _ (Array.getElem?_eq_some_iff.1 HQ.out).1).trans HQ.out)
      have HK2 := Lib.hid ((hb2.block _ (Array.getElem?_eq_some_iff.1 HKD0.out).1).trans HKD0.out)
      have HB2' := Lib.hid (HB0.out.trans (hb2.mono HB0.out.size))
      clear KE hb2 hV2 e2 HQ HB0 HE1 HR1 HKD0 h1 hmat
      rw [show ((0 : Nat) : Int) = 0 from rfl]
      gi_wp2_with (rw [HSA.out]; refine wpListIn_load_run rfl 26 (.tmp 8) rfl (some ⟨mb, 0, none⟩) rfl (.agg (mC N P C)) LM.out ?_)
      refine ⟨trivial, (callsIn_wide.2 KP.out).mono ?_⟩
      rintro e V3 ⟨P3, C3, rfl, hown3, hb3⟩
      obtain ⟨G, hG⟩ : ∃ G, mproj N v = G := ⟨_, rfl⟩
      rw [hG] at hown3 HR2 ⊢
      have hm3 := hown3.at
      obtain ⟨⟨a3, c3, rfl, -, -⟩, ⟨b3, cc3, rfl, -, -⟩⟩ := And.intro hm3.p hm3.c
      have hq3 := (hb3.block _ (Array.getElem?_eq_some_iff.1 HQ2.out).1).trans HQ2.out
      have hk3 := (hb3.block _ (Array.getElem?_eq_some_iff.1 HK2.out).1).trans HK2.out
      have hst := mg_store V3 w.heap.size _ (mC G (.slice a3 G.p.length c3) (.slice b3 G.c.length cc3)) hq3 rfl rfl (mg_one _ _ _ _ _ _ _)
      have hrow := setRow_heap V3 w.heap.size _ (mC G (.slice a3 G.p.length c3) (.slice b3 G.c.length cc3)) _ _ hq3
      have hof3 := Off.setRow (S := fun q => q = w.heap.size) (Off.refl _ V3) rfl (mC G (.slice a3 G.p.length c3) (.slice b3 G.c.length cc3))
      have hbq : w.heap.size < V2.heap.size := (Array.getElem?_eq_some_iff.1 HQ2.out).1
      have hown4 := hown3.off hof3 (fun g hg e => by have := (hown3.p.lt g hg).1; omega) (fun g hg e => by have := (hown3.c.lt g hg).1; omega)
      have hbf : Below w.heap.size w (V3.setRow w.heap.size (mC G (.slice a3 G.p.length c3) (.slice b3 G.c.length cc3))) := (HB2'.out.trans (hb3.mono HB2'.out.size)).trans (hof3.below (B := w.heap.size) (fun q hq => by omega) (by have := HB2'.out.size; have := hb3.size; omega))
      have hkf := (hof3.block _ (Array.getElem?_eq_some_iff.1 hk3).1 (by omega)).trans hk3
      obtain ⟨Vf, hVf⟩ : ∃ Vf, V3.setRow w.heap.size (mC G (.slice a3 G.p.length c3) (.slice b3 G.c.length cc3)) = Vf := ⟨_, rfl⟩
      rw [hVf] at hst hrow hown4 hbf hkf
      have HST := Lib.hid hst
      have HRW := Lib.hid hrow
      have HOW := Lib.hid hown4
      have HBF := Lib.hid hbf
      have HKF := Lib.hid hkf
      clear hst hrow hown3 hown4 hbf hkf hq3 hk3 hof3 hVf hm3 KP LM HSA hG
      unfold mV
      gi_wp2_with (refine wpListIn_store_run rfl 26 (.tmp 6) (.tmp 48) rfl (some ⟨w.heap.size, 0, none⟩) rfl (.agg (mC G (.slice a3 G.p.length c3) (.slice b3 G.c.length cc3))) rfl HST.out ?_)
      try simp only [Exit.noGoto]
      refine ⟨by simp, .inl ⟨_, _, rfl, run_takeDeferred HKF.out, ?_⟩⟩
      obtain ⟨y0, y1, y2, y3, y4, y5, y6, y7, y8, y9, y10⟩ := mg_block (W := Vf.putObj D (.deferred none)) ((World.putObj_heap_other (by omega)).trans HRW.out)
      refine ⟨.tuple #[.agg (mC G (.slice a3 G.p.length c3) (.slice b3 G.c.length cc3)), .int .i64 0], by simp [results, Try.f17, go_sem, y0, y1, y2, y3, y4, y5, y6, y7, y8, y9, y10, mC], ?_⟩
      rw [← HR2.out]
      refine ⟨_, rfl, ⟨_, _, rfl, ?_⟩, HBF.out.trans (below_put _ _ (by omega))⟩
      have ho5 : Off (fun k => k = D) Vf (Vf.putObj D (.deferred none)) := ⟨rfl, rfl, rfl, by simp [World.putObj], fun k _ hn => World.putObj_heap_other hn⟩
      exact (HOW.out.off ho5 (fun g hg e => by have := (HOW.out.p.lt g hg).1; have := (Array.getElem?_eq_some_iff.1 HK2.out).1; omega) (fun g hg e => by have := (HOW.out.c.lt g hg).1; have := (Array.getElem?_eq_some_iff.1 HK2.out).1; omega)).at
  case stop =>
    rintro D cd V hD ⟨rfl, E, hE, hrd, he, hof⟩ hK
    have hR := HR.out
    rw [if_pos (by rw [hrd]; exact hE), hrd] at hR
    have ce := row_cell he 0 _ rfl
    have e0 : ((E : Int) == 0) = false := by simpa using hE
    have e1 : ((E : Int) != 0) = true := by simpa using hE
    have HEE := Lib.hid he
    have HQV := Lib.hid ((hof.block _ (by omega) (by omega)).trans HQ6.out)
    have HBV := Lib.hid (HB06.out.trans (hof.below (B := w.heap.size) (fun q hq => by omega) HB06.out.size))
    have HKD := Lib.hid hK
    have HR2 := Lib.hid hR
    clear he hof hK hR hrd hD0 hg0 hg1
    gi_wp2_with fail
    have lE : ∀ W, Off (fun q => q = w.heap.size) V W → (Instr.loadAt 29 (.pointer (some ⟨mb + 1 + 1, 0, none⟩))).run Try.prog W = .ok (.int .i64 (E : Int)) W := fun W hW => by
      have k := row_cell ((hW.block _ (Array.getElem?_eq_some_iff.1 HEE.out).1 (by omega)).trans HEE.out) 0 _ rfl
      simp [Instr.loadAt, go_sem, k]
    refine wpIn_wide.2 ?_
    refine wp_region_order9 3 (0 :: 1 :: 2 :: []) (fun W => Off (fun q => q = w.heap.size) V W) (C := fun W => Below V.heap.size V W) (by kernel_rfl) (by kernel_rfl) (by kernel_rfl) (Below.refl _ _).drew (fun W hW => Off.of_below hW) ?_
    refine wpO9_build (.agg #[.int .i64 0, .int .i64 0, .int .i64 0, .int .i64 0, .int .i64 0, .int .i64 0, .int .i64 0, .slice none 0 0, .slice none 0 0, .string ⟨#[]⟩, .string ⟨#[]⟩]) rfl rfl rfl (fun W _ => by simp [execOp, go_sem]) ?_
    simp only [Act.put, List.setIfInBounds_toArray, List.set_cons_succ, List.set_cons_zero]
    refine wpO9_load (ad := ⟨mb + 1 + 1, 0, none⟩) (.int .i64 (E : Int)) rfl rfl rfl (by rfl) lE ?_
    simp only [Act.put, List.setIfInBounds_toArray, List.set_cons_succ, List.set_cons_zero]
    refine wpO9_store (fun W => ∃ W0, Below V.heap.size V W0 ∧ W = W0.setRow w.heap.size #[.int .i64 0, .int .i64 0, .int .i64 0, .int .i64 0, .int .i64 0, .int .i64 0, .int .i64 0, .slice none 0 0, .slice none 0 0, .string ⟨#[]⟩, .string ⟨#[]⟩]) rfl rfl rfl rfl ⟨w.heap.size, 0, none⟩ (.agg #[.int .i64 0, .int .i64 0, .int .i64 0, .int .i64 0, .int .i64 0, .int .i64 0, .int .i64 0, .slice none 0 0, .slice none 0 0, .string ⟨#[]⟩, .string ⟨#[]⟩]) (by rfl) (by rfl) (fun W hW => ?_) (fun W hW => ?_) ?_
    · obtain ⟨W0, h1, rfl⟩ := hW
      exact Off.setRow (S := fun q => q = w.heap.size) (Off.of_below h1) rfl _
    · exact ⟨_, mg_store W w.heap.size _ _ ((hW.block _ (Array.getElem?_eq_some_iff.1 HQV.out).1).trans HQV.out) rfl rfl (mg_one (Mg.zero 0) _ _ _ _ _ _), W, hW, rfl⟩
    rintro V6 ⟨W0, hb0, rfl⟩
    simp only [List.drop_succ_cons, List.drop_zero]
    have q0 := (hb0.block _ (Array.getElem?_eq_some_iff.1 HQV.out).1).trans HQV.out
    have hrow := setRow_heap W0 w.heap.size _ #[.int .i64 0, .int .i64 0, .int .i64 0, .int .i64 0, .int .i64 0, .int .i64 0, .int .i64 0, .slice none 0 0, .slice none 0 0, .string ⟨#[]⟩, .string ⟨#[]⟩] _ _ q0
    have hof0 := Off.setRow (S := fun q => q = w.heap.size) (Off.refl _ W0) rfl #[.int .i64 0, .int .i64 0, .int .i64 0, .int .i64 0, .int .i64 0, .int .i64 0, .int .i64 0, .slice none 0 0, .slice none 0 0, .string ⟨#[]⟩, .string ⟨#[]⟩]
    have hbf : Below w.heap.size w (W0.setRow w.heap.size #[.int .i64 0, .int .i64 0, .int .i64 0, .int .i64 0, .int .i64 0, .int .i64 0, .int .i64 0, .slice none 0 0, .slice none 0 0, .string ⟨#[]⟩, .string ⟨#[]⟩]) := (HBV.out.trans (hb0.mono HBV.out.size)).trans (hof0.below (B := w.heap.size) (fun q hq => by omega) (by have := HBV.out.size; have := hb0.size; omega))
    have hkf := (hof0.block _ (by have := (Array.getElem?_eq_some_iff.1 HKD.out).1; have := hb0.size; omega) (by omega)).trans ((hb0.block _ (Array.getElem?_eq_some_iff.1 HKD.out).1).trans HKD.out)
    generalize W0.setRow w.heap.size _ = Vf at *
    have HRW := Lib.hid hrow
    have HBF := Lib.hid hbf
    have HKF := Lib.hid hkf
    clear lE q0 hrow hof0 hbf hkf hb0 HBV HKD
    go_wp2
    gi_wp2
    try simp only [Exit.noGoto]
    refine ⟨by simp, .inl ⟨_, _, rfl, run_takeDeferred HKF.out, ?_⟩⟩
    obtain ⟨y0, y1, y2, y3, y4, y5, y6, y7, y8, y9, y10⟩ := mg_block (M := Mg.zero 0) (P := .slice none 0 0) (C := .slice none 0 0) (W := Vf.putObj D (.deferred none)) ((World.putObj_heap_other (by omega)).trans HRW.out)
    refine ⟨.tuple #[.agg (mC (Mg.zero 0) (.slice none 0 0) (.slice none 0 0)), .int .i64 (E : Int)], by simp [results, Try.f17, go_sem, y0, y1, y2, y3, y4, y5, y6, y7, y8, y9, y10, mC], ?_⟩
    rw [← HR2.out]
    exact ⟨_, rfl, ⟨_, _, rfl, MAt.zero _ _ _⟩, HBF.out.trans (below_put _ _ (by omega))⟩
theorem bdecode_any (k v : Int) (A : Option Addr) (len cap : Nat) (zs : List Int) (w : World) (hlen : zs.length = len) (hll : len ≤ 1000000) (hby : Bys zs) (hA : Nums .u8 w w.heap.size A zs) : Calls Try.prog 17 #[.int .i64 k, .int .i64 v, .slice A len cap] w fun e w' => DecR w (bdec k v zs) e w' := by
  by_cases hv : v = 1 ∨ v = 2
  · by_cases hk : FD k = []
    · exact bdecode_no k v A len cap zs w (.inr hk)
    · exact bdecode_yes k v A len cap zs w hlen hll hby hA hv hk
  · exact bdecode_no k v A len cap zs w (.inl (by omega))
end Go.Proofs.Ytmjbimmbphofjaa

namespace Go.Proofs.Ytmjbimmbphofjaa
open Go.RowKit Go.Shelf
set_option maxRecDepth 100000
attribute [local go_sem] Oper.semAt_some

theorem mg_oneV {w : World} {B : Nat} {M : Mg} {P C : Value} (h : MAt w B M P C) : (mC M P C).all (·.oneCell') = true := by
  obtain ⟨⟨a, c, rfl, -, -⟩, ⟨a', c', rfl, -, -⟩⟩ := h
  exact mg_one _ _ _ _ _ _ _
/-- a message is stored into a new box -/
theorem new_msg (W : World) {w : World} {B : Nat} {M : Mg} {P C : Value} (h : MAt w B M P C) : ∃ W2, (Instr.storeAt 26 (.pointer (some ⟨W.heap.size, 0, none⟩)) (.agg (mC M P C))).run Try.prog (W.alloc (.cells #[.int .i64 0, .int .i64 0, .int .i64 0, .int .i64 0, .int .i64 0, .int .i64 0, .int .i64 0, .slice none 0 0, .slice none 0 0, .string ⟨#[]⟩, .string ⟨#[]⟩] 26)) = .ok () W2 ∧
    W2.heap[W.heap.size]? = some (.cells (mC M P C) 26 (0, 0)) ∧ Below W.heap.size W W2 := by
  have r := World.alloc_heap_new W (.cells #[.int .i64 0, .int .i64 0, .int .i64 0, .int .i64 0, .int .i64 0, .int .i64 0, .int .i64 0, .slice none 0 0, .slice none 0 0, .string ⟨#[]⟩, .string ⟨#[]⟩] 26)
  have hb : Below W.heap.size W (W.alloc (.cells #[.int .i64 0, .int .i64 0, .int .i64 0, .int .i64 0, .int .i64 0, .int .i64 0, .int .i64 0, .slice none 0 0, .slice none 0 0, .string ⟨#[]⟩, .string ⟨#[]⟩] 26)) := (Below.refl _ W).alloc (Nat.le_refl _) _
  have hoff := Off.setRow (S := fun k => k = W.heap.size) (Off.refl _ (W.alloc (.cells #[.int .i64 0, .int .i64 0, .int .i64 0, .int .i64 0, .int .i64 0, .int .i64 0, .int .i64 0, .slice none 0 0, .slice none 0 0, .string ⟨#[]⟩, .string ⟨#[]⟩] 26))) rfl (mC M P C)
  exact ⟨_, mg_store _ _ _ (mC M P C) r rfl rfl (mg_oneV h), setRow_heap _ _ _ _ _ _ r, hb.trans (hoff.below (B := W.heap.size) (fun k hk => by omega) hb.size)⟩
end Go.Proofs.Ytmjbimmbphofjaa

namespace Go.Proofs.Ytmjbimmbphofjaa
open Go.RowKit Go.Shelf
set_option maxRecDepth 100000
attribute [local go_sem] Oper.semAt_some

/-- what Parts answers: nothing to hand out, or a copy of the message in a box beside the version's -/
theorem bparts_no (M : Mg) (P C : Value) (v : Int) (w : World) (hs : Msm M) (h1 : MAt w w.heap.size M P C) (hE : bwr M v ≠ 0) : Calls Try.prog 14 #[mV M P C, .int .i64 v] w fun e w' => e = .returned (.func (.func 30) #[] #[]) ∧ Below w.heap.size w w' := by
  obtain ⟨w2, hw2⟩ : ∃ w2, (w.alloc (.cells (mC M P C) 26)).alloc (.cells #[.int .i64 v] 3) = w2 := ⟨_, rfl⟩
  have hb2 : Below w.heap.size w w2 := by rw [← hw2]; exact ((Below.refl _ w).alloc (Nat.le_refl _) _).alloc (by simp) _
  have q0 : w2.heap[w.heap.size]? = some (.cells (mC M P C) 26 (0, 0)) := by rw [← hw2, Below.heap_alloc _ _ _ (by simp)]; exact World.alloc_heap_new _ _
  have q1 : w2.heap[w.heap.size + 1]? = some (.cells #[.int .i64 v] 3 (0, 0)) := by
    have := World.alloc_heap_new (w.alloc (.cells (mC M P C) 26)) (.cells #[.int .i64 v] 3)
    rw [World.size_alloc] at this
    rw [← hw2]; exact this
  have KW := Lib.hid (bwrong_any M P C v w2 hs (h1.later hb2))
  have LM := Lib.hid (mg_read q0)
  have c1 := row_cell q1 0 (.int .i64 v) rfl
  have HW2 := Lib.hid hw2
  have HB2 := Lib.hid hb2
  obtain ⟨E, hEe⟩ : ∃ E, bwr M v = E := ⟨_, rfl⟩
  rw [hEe] at KW hE
  have e1 : (E != 0) = true := by simpa using hE
  rw [← hw2] at c1
  clear hw2 hb2 q0 q1 h1 hEe
  unfold mV at *
  go_enter Try.func14, Try.ntmps14
  go_wp2_with (rw [HW2.out]; refine wpList_load_run rfl 26 (.tmp 2) rfl (some ⟨w.heap.size, 0, none⟩) rfl (.agg (mC M P C)) LM.out ?_; rw [← HW2.out])
  rw [HW2.out]
  refine KW.out.mono ?_
  rintro e w3 ⟨rfl, hb3⟩
  have HF := Lib.hid (HB2.out.trans (hb3.mono HB2.out.size))
  clear hb3 KW c1
  go_wp2
  go_ret
  exact ⟨rfl, HF.out⟩
theorem bparts_yes (M : Mg) (P C : Value) (v : Int) (w : World) (hs : Msm M) (h1 : MAt w w.heap.size M P C) (hE : bwr M v = 0) : Calls Try.prog 14 #[mV M P C, .int .i64 v] w fun e w' => ∃ b d P' C', e = .returned (.func (.func 32) #[] #[.pointer (some ⟨b, 0, none⟩), .pointer (some ⟨d, 0, none⟩)]) ∧ w.heap.size ≤ b ∧ w.heap.size ≤ d ∧ w'.heap[b]? = some (.cells (mC M P' C') 26 (0, 0)) ∧ w'.heap[d]? = some (.cells #[.int .i64 v] 3 (0, 0)) ∧ MOwn w.heap.size w' M P' C' ∧ Below w.heap.size w w' := by
  obtain ⟨w2, hw2⟩ : ∃ w2, (w.alloc (.cells (mC M P C) 26)).alloc (.cells #[.int .i64 v] 3) = w2 := ⟨_, rfl⟩
  have hb2 : Below w.heap.size w w2 := by rw [← hw2]; exact ((Below.refl _ w).alloc (Nat.le_refl _) _).alloc (by simp) _
  have q0 : w2.heap[w.heap.size]? = some (.cells (mC M P C) 26 (0, 0)) := by rw [← hw2, Below.heap_alloc _ _ _ (by simp)]; exact World.alloc_heap_new _ _
  have q1 : w2.heap[w.heap.size + 1]? = some (.cells #[.int .i64 v] 3 (0, 0)) := by
    have := World.alloc_heap_new (w.alloc (.cells (mC M P C) 26)) (.cells #[.int .i64 v] 3)
    rw [World.size_alloc] at this
    rw [← hw2]; exact this
  have KW := Lib.hid (bwrong_any M P C v w2 hs (h1.later hb2))
  have LM := Lib.hid (mg_read q0)
  have c1 := row_cell q1 0 (.int .i64 v) rfl
  have HW2 := Lib.hid hw2
  have HB2 := Lib.hid hb2
  have HQ1 := Lib.hid q1
  have KC : Hid (∀ W, Below w2.heap.size w2 W → Calls Try.prog 31 #[.agg (mC M P C)] W fun e w' => MR W M e w') := Lib.hid fun W hW => mcopy_any M P C W hs ((h1.later hb2).later hW)
  have LM2 : Hid (∀ W, Below w2.heap.size w2 W → (Instr.loadAt 26 (.pointer (some ⟨w.heap.size, 0, none⟩))).run Try.prog W = .ok (.agg (mC M P C)) W) := Lib.hid fun W hW => mg_read ((hW.block _ (Array.getElem?_eq_some_iff.1 q0).1).trans q0)
  have hd := (Array.getElem?_eq_some_iff.1 q1).1
  rw [hE] at KW
  rw [← hw2] at c1
  clear hw2 hb2 q0 q1 h1 hE
  unfold mV at *
  go_enter Try.func14, Try.ntmps14
  go_wp2_with (rw [HW2.out]; refine wpList_load_run rfl 26 (.tmp 2) rfl (some ⟨w.heap.size, 0, none⟩) rfl (.agg (mC M P C)) LM.out ?_; rw [← HW2.out])
  rw [HW2.out]
  refine KW.out.mono ?_
  rintro e w3 ⟨rfl, hb3⟩
  have HB3 := Lib.hid hb3
  have l3 := LM2.out w3 hb3
  clear hb3 KW c1 LM LM2
  go_wp2_with (refine wpList_load_run rfl 26 (.tmp 2) rfl (some ⟨w.heap.size, 0, none⟩) rfl (.agg (mC M P C)) l3 ?_)
  refine (KC.out w3 HB3.out).mono ?_
  rintro e w4 ⟨P', C', rfl, hm4, hb4⟩
  obtain ⟨w5, hst5, q5, hb5⟩ := new_msg w4 hm4.at
  have HST5 := Lib.hid hst5
  have hb35 := hb4.trans (hb5.mono hb4.size)
  have hb25 := HB3.out.trans (hb35.mono HB3.out.size)
  have HF := Lib.hid (And.intro q5 (And.intro ((hb25.block _ hd).trans HQ1.out) (And.intro ((hm4.later hb5).less (Nat.le_trans HB2.out.size HB3.out.size)) (HB2.out.trans (hb25.mono HB2.out.size)))))
  have hs4 : w.heap.size ≤ w4.heap.size := Nat.le_trans HB2.out.size (Nat.le_trans HB3.out.size hb4.size)
  clear hst5 q5 hb4 hb5 hb35 hb25 hm4 l3 KC
  unfold mV
  go_wp2_with (refine wpList_store_run rfl 26 (.tmp 5) (.tmp 11) rfl (some ⟨w4.heap.size, 0, none⟩) rfl (.agg (mC M P' C')) rfl HST5.out ?_)
  go_ret
  exact ⟨_, _, P', C', rfl, hs4, by omega, HF.out⟩
end Go.Proofs.Ytmjbimmbphofjaa

namespace Go.Proofs.Ytmjbimmbphofjaa
open Go.RowKit Go.Shelf
set_option maxRecDepth 100000
attribute [local go_sem] Oper.semAt_some

/-- the iterator of a message without a body hands out nothing -/
theorem bparts_none (n : Nat) (y : Value) (W : World) (Q : World → Prop) (h : Q W) : CallsIn Fence.wide n Try.prog 30 #[y] W fun e W' => (∃ v, e = .returned v) ∧ Q W' := by
  refine callsIn_of_wp Try.func30 rfl trivial ?_ rfl
  simp only [Try.ntmps30, List.size_toArray, List.length_cons, List.length_nil, Nat.reduceAdd, Nat.reduceSub, Array.replicate_succ, Array.replicate_zero, List.push_toArray, List.append_toArray, List.nil_append, List.cons_append]
  gi_wp2
  go_end0
  exact ⟨⟨_, rfl⟩, h⟩
set_option maxHeartbeats 16000000 in
/-- the iterator of one with a body: its fields, each one's bytes -/
theorem bparts_in (n : Nat) (hn5 : 5 ≤ n) (m' l b d s0 : Nat) (M : Mg) (P C : Value) (v : Int) (hv : v = 1 ∨ v = 2) (hmk : mck M = 0) (Dn : Nat → World → Prop) (Bk Xp : World → Prop) (Kp : World → World → Prop) (hls : l < s0 + 2)
    (hDb : ∀ j A B, Dn j A → Below s0 A B → Dn j B)
    (hDm : ∀ j V, Dn j V → V.heap[b]? = some (.cells (mC M P C) 26 (0, 0)) ∧ V.heap[d]? = some (.cells #[.int .i64 v] 3 (0, 0)) ∧ MAt V V.heap.size M P C)
    (hBk : ∀ A B, Bk A → A.heap.size ≤ B.heap.size → (∀ k, s0 ≤ k → k < s0 + 2 → B.heap[k]? = A.heap[k]?) → Bk B) (hBlt : ∀ A, Bk A → s0 + 2 ≤ A.heap.size)
    (hX : ∀ A l' o o', Xp A → s0 + 2 ≤ l' → A.heap[l']? = some o → o.isCells = false → Xp (A.putObj l' o'))
    (hKp : ∀ V V' k cs t, Kp V V' → s0 + 2 ≤ k → V.heap[k]? = some (.cells cs t (0, 0)) → V'.heap[k]? = some (.cells cs t (0, 0)))
    (hY : ∀ (j : Nat) (f : Fd) (A : Option Addr) (c : Nat) (V : World), Dn j V → (FDv M.k v)[j]? = some f → (mpart M f).length ≤ c → Nums .u8 V V.heap.size A (mpart M f) → Bk V →
      YieldAt Fence.wide m' Try.prog l #[.string f.nm, .slice A (mpart M f).length c] V (YPost s0 l Kp (fun W2 => Dn (j + 1) W2 ∧ Bk W2) Xp V))
    (W : World) (hD0 : Dn 0 W) (hB0 : Bk W) :
    CallsIn Fence.wide n Try.prog 32 #[.func (.yield l) #[] #[], .pointer (some ⟨b, 0, none⟩), .pointer (some ⟨d, 0, none⟩)] W fun e W' => (∃ v, e = .returned v) ∧ ((Dn (FDv M.k v).length W' ∧ Bk W') ∨ Xp W') := by
  have hn1 : 1 ≤ n := by omega
  have hsW := hBlt W hB0
  obtain ⟨m0, v0, _⟩ := hDm 0 W hD0
  have hbl := (Array.getElem?_eq_some_iff.1 m0).1
  have hdl := (Array.getElem?_eq_some_iff.1 v0).1
  obtain ⟨yb, hyb⟩ : ∃ yb, W.heap.size = yb := ⟨_, rfl⟩
  obtain ⟨w1, hw1⟩ : ∃ w1, W.alloc (.cells #[.func (.yield l) #[] #[]] 75) = w1 := ⟨_, rfl⟩
  have hb1 : Below yb W w1 := by rw [← hw1, ← hyb]; exact (Below.refl _ W).alloc (Nat.le_refl _) _
  have y1 : w1.heap[yb]? = some (.cells #[.func (.yield l) #[] #[]] 75 (0, 0)) := by rw [← hw1, ← hyb]; exact World.alloc_heap_new _ _
  have hs1 : w1.heap.size = yb + 1 := by rw [← hw1, ← hyb]; simp
  have m1 := (hb1.block _ (by omega)).trans m0
  have v1 := (hb1.block _ (by omega)).trans v0
  have k1 := row_cell m1 0 (.int .i64 M.k) rfl
  have k2 := row_cell v1 0 (.int .i64 v) rfl
  have HFE := Lib.hid (show ∀ f ∈ FDv M.k v, FdX f ∧ fE M f = 0 from fun f hf => ⟨FD_fdx M.k f (FDv_sub hf), ((mck_zero M).1 hmk).2.1 f (FDv_sub hf)⟩)
  have hbl192 := body_len hv hmk
  have HPL := Lib.hid (show ∀ j f, (FDv M.k v)[j]? = some f → (mpart M f).length ≤ 192 from fun j f hf => by
    have h1 := parts_sub M (FDv M.k v) (j + 1)
    rw [part_take hf, List.length_append] at h1
    have h2 : (((FDv M.k v).map (mpart M)).flatten).length ≤ 192 := hbl192
    omega)
  have HY := Lib.hid hY
  have HW1 := Lib.hid hw1
  have KA := Lib.hid (fall_any M.k v w1)
  rw [hs1] at KA
  clear hY hw1 m1 v1 hbl192 hmk hv
  refine callsIn_of_wp_marks Try.func32 rfl trivial ?_ rfl
  simp only [Try.ntmps32, List.size_toArray, List.length_cons, List.length_nil, Nat.reduceAdd, Nat.reduceSub, Array.replicate_succ, Array.replicate_zero, List.push_toArray, List.append_toArray, List.nil_append, List.cons_append]
  gi_wp2_with fail
  refine wpIn_wide.2 (wp_scope_straight ((wpIn_wide (n := n)).1 ?_))
  gi_wp2_with fail
  apply wpIn_label
  rw [HW1.out]
  gi_wp2_with fail
  refine ⟨trivial, (callsIn_wide.2 KA.out).mono ?_⟩
  rintro e w6 ⟨rfl, hg0, hg1, hb6⟩
  have hs6 := (Array.getElem?_eq_some_iff.1 hg1).1
  have hbW6 : Below yb W w6 := hb1.trans (hb6.mono (by omega))
  have y6 := (hb6.block _ (by omega)).trans y1
  have hsy : s0 ≤ yb := by omega
  have hD6 := hDb 0 _ _ hD0 (hbW6.mono hsy)
  have hB6 : Bk w6 := hBk _ _ hB0 hbW6.size (fun k _ h2 => hbW6.block k (by omega))
  obtain ⟨BX, hBX⟩ : ∃ BX : World → Prop, BX = fun V => w6.heap.size ≤ V.heap.size ∧ V.heap[yb]? = some (.cells #[.func (.yield l) #[] #[]] 75 (0, 0)) ∧ V.heap[yb + 1]? = some (.cells #[.int .i64 M.k] 3 (0, 0)) ∧ V.heap[yb + 1 + 1]? = some (.cells #[.int .i64 v] 3 (0, 0)) := ⟨_, rfl⟩
  have hBX0 : ∀ V, BX V → w6.heap.size ≤ V.heap.size ∧ V.heap[yb]? = some (.cells #[.func (.yield l) #[] #[]] 75 (0, 0)) ∧ V.heap[yb + 1]? = some (.cells #[.int .i64 M.k] 3 (0, 0)) ∧ V.heap[yb + 1 + 1]? = some (.cells #[.int .i64 v] 3 (0, 0)) := fun V hV => by rwa [hBX] at hV
  have hBXb : ∀ V V', BX V → Below w6.heap.size V V' → BX V' := fun V V' h hb => by
    rw [hBX] at h ⊢
    exact ⟨Nat.le_trans h.1 hb.size, (hb.block _ (by omega)).trans h.2.1, (hb.block _ (by omega)).trans h.2.2.1, (hb.block _ (by omega)).trans h.2.2.2⟩
  have hBXk : ∀ V V', BX V → Kp V V' → V.heap.size ≤ V'.heap.size → BX V' := fun V V' h hk hsz => by
    rw [hBX] at h ⊢
    exact ⟨Nat.le_trans h.1 hsz, hKp _ _ _ _ _ hk (by omega) h.2.1, hKp _ _ _ _ _ hk (by omega) h.2.2.1, hKp _ _ _ _ _ hk (by omega) h.2.2.2⟩
  have hBX6 : BX w6 := by rw [hBX]; exact ⟨Nat.le_refl _, y6, hg0, hg1⟩
  have hJb : ∀ j V, Dn j V ∧ Bk V ∧ BX V → ∀ V', Below w6.heap.size V V' → Dn j V' ∧ Bk V' ∧ BX V' := fun j V h V' hb =>
    ⟨hDb _ _ _ h.1 (hb.mono (by omega)), hBk _ _ h.2.1 hb.size (fun k _ h2 => hb.block k (by omega)), hBXb _ _ h.2.2 hb⟩
  clear hBX hbW6 y6 y1 hg0 hg1 hb1 hb6 k1 k2 m0 v0 hD0 hB0 KA HW1
  gi_wp2_with fail
  refine range_stopb rfl hn1 (gf := 48) (lb := #[.pointer (some ⟨yb + 1, 0, none⟩), .pointer (some ⟨yb + 1 + 1, 0, none⟩)]) rfl trivial (enters_of Try.func48 (by kernel_rfl) rfl)
    (fun f : Fd => #[f.v]) (fun _ => rfl)
    (fun j f V => (FDv M.k v)[j]? = some f ∧ Dn j V ∧ Bk V ∧ BX V)
    (fun j f q V => ((FDv M.k v)[j]? = some f ∧ Dn j V ∧ Bk V ∧ BX V) ∧ w6.heap.size ≤ q ∧ V.heap[q]? = some (.cells f.cs 68 (0, 0)))
    (fun j V => Dn j V ∧ Bk V ∧ BX V)
    (fun cd V => cd = .exit 0 ∧ Xp V)
    (KeT 68 3 (yb + 1)) (FDv M.k v).length
    (fun j f q V l' o o' h hl ho hc' => ⟨⟨h.1.1, hJb j V h.1.2 _ (below_put V o' hl)⟩, h.2.1, (World.putObj_heap_other (fun e => by subst e; rw [h.2.2] at ho; injection ho with ho; subst ho; cases hc')).trans h.2.2⟩)
    (fun j V l' o o' h hl ho hc' => hJb j V h _ (below_put V o' hl))
    (fun cd V l' o o' h hl ho hc' => ⟨h.1, hX V l' o o' h.2 (by omega) ho hc'⟩)
    (fun _ _ _ h k => h.trans k) (fun V l' o o' hl ho hc' => KeT.putObj ho hc')
    (fun o => hJb 0 w6 ⟨hD6, hB6, hBX6⟩ _ (((Below.refl w6.heap.size w6).alloc (Nat.le_refl _) _).alloc (by simp) _)) ?round ?iter ?done ?stop
  case round =>
    rintro l2 j f V K ⟨hf, hJ⟩ hj hK
    have HK := Lib.hid hK
    have hsz := (hBX0 V hJ.2.2).1
    clear hK hD6 hB6 hBX6
    unfold Fd.v Fd.cs
    gi_wp2_with fail
    refine HK.out _ V.heap.size _ ⟨⟨hf, hJb j V hJ _ ((Below.refl _ V).alloc hsz _)⟩, hsz, World.alloc_heap_new _ _⟩ ⟨by simp, fun q o _ ho _ => (Below.heap_alloc _ _ _ (Array.getElem?_eq_some_iff.1 ho).1).trans ho⟩ (KeT.of_below ((Below.refl _ V).alloc (Nat.le_refl _) _)) ?_
    clear HK hJ
    rintro l2 V2 hl2 ⟨⟨_, hJ⟩, hq, hc⟩
    obtain ⟨qb, hqb⟩ : ∃ qb, V.heap.size = qb := ⟨_, rfl⟩
    rw [hqb] at hq hc ⊢
    clear hqb
    obtain ⟨m2, v2, ma2⟩ := hDm j V2 hJ.1
    obtain ⟨hs2, y2, _⟩ := hBX0 V2 hJ.2.2
    have hqlt := (Array.getElem?_eq_some_iff.1 hc).1
    have hblt := (Array.getElem?_eq_some_iff.1 m2).1
    obtain ⟨hfx, hfe⟩ := HFE.out f (List.mem_of_getElem? hf)
    have hpl := HPL.out j f hf
    have KN := Lib.hid (new_any 192 V2 (by omega) (by omega))
    have HJ := Lib.hid hJ
    have HF := Lib.hid hf
    have HM2 := Lib.hid m2
    have HA2 := Lib.hid ma2
    have HC2 := Lib.hid hc
    have HY2 := Lib.hid y2
    clear hJ hf m2 v2 ma2 hc y2
    gi_wp2_with fail
    refine ⟨trivial, fun _ => by omega, ?_⟩
    refine (CallsIn.inRound l2 (callsIn_wide.2 KN.out)).mono ?_
    rintro e V3 ⟨rfl, hp3, hb3⟩
    rw [show max (192 : Int) 0 = 192 from rfl] at hp3
    obtain ⟨pb, hpb⟩ : ∃ pb, V2.heap.size = pb := ⟨_, rfl⟩
    have hs3 := hb3.size
    have LM := Lib.hid (mg_read ((hb3.block _ hblt).trans HM2.out))
    have LF : Hid ((Instr.loadAt 68 (.pointer (some ⟨qb, 0, none⟩))).run Try.prog V3 = .ok f.v V3) := by
      obtain ⟨t0, t1, t2, t3, t4, t5, t6⟩ := fd_block ((hb3.block _ hqlt).trans HC2.out)
      exact Lib.hid (by simp [Instr.loadAt, go_sem, t0, t1, t2, t3, t4, t5, t6, Fd.v, Fd.cs])
    have KW := bwrite_any M f P C V2.heap.size V2.heap.size V2.heap.size [] V3 hp3 (HA2.out.below hb3) (Nat.le_refl _) (Nat.le_refl _) hfx hfe (by simpa using hpl)
    rw [List.nil_append] at KW
    unfold mV at KW
    have KW := Lib.hid KW
    have HB3 := Lib.hid hb3
    clear hp3 hb3 KN hfx hfe
    rw [hpb] at hs3 KW HB3 hblt hqlt hs2 ⊢
    gi_wp2_with (first | refine wpListIn_load_run rfl 26 (.tmp 1) rfl (some ⟨b, 0, none⟩) rfl (.agg (mC M P C)) LM.out ?_ | refine wpListIn_load_run rfl 68 (.tmp 4) rfl (some ⟨qb, 0, none⟩) rfl f.v LF.out ?_)
    refine ⟨trivial, fun _ => by omega, ?_⟩
    refine (CallsIn.inRound l2 (callsIn_wide.2 KW.out)).mono ?_
    rintro e V4 ⟨⟨x, rfl⟩, hv4⟩
    have hb34 : Below pb V3 V4 := hv4.below (Nat.le_refl _) (Nat.le_refl _) hs3
    have hb24 : Below pb V2 V4 := HB3.out.trans hb34
    have hs4 := hb34.size
    obtain ⟨g4, hp4, -, -, -⟩ := hv4
    have KB : Hid (∀ V', Below V4.heap.size V4 V' → Calls Try.prog 28 #[.pointer (some ⟨pb, 0, none⟩)] V' fun e w' => ∃ z, e = .returned z ∧ Made V4 w' (mpart M f) z ∧ Below V'.heap.size V' w') := Lib.hid fun V' hV => (Bytes_any pb g4 192 (mpart M f) false V' (hp4.below hV) (by omega)).mono fun e w' h => by
      obtain ⟨z, e, hm⟩ := h
      exact ⟨z, e, hm.since hV, hm.2⟩
    have L1 : ∀ V', Below V4.heap.size V4 V' → (Instr.loadAt 75 (.pointer (some ⟨yb, 0, none⟩))).run Try.prog V' = .ok (.func (.yield l) #[] #[]) V' := fun V' hb => by
      have k1 := row_cell ((hb.block _ (by omega)).trans ((hb24.block _ (by omega)).trans HY2.out)) 0 _ rfl
      simp [Instr.loadAt, go_sem, k1]
    have L2 : ∀ V', Below V4.heap.size V4 V' → (Instr.loadAt 9 (.pointer (some ⟨qb, 0, none⟩))).run Try.prog V' = .ok (.string f.nm) V' := fun V' hb => by
      have k1 := row_cell ((hb.block _ (by omega)).trans ((hb24.block _ hqlt).trans HC2.out)) 0 (.string f.nm) rfl
      simp [Instr.loadAt, go_sem, k1]
    have c4 := row_cell ((hb24.block _ hqlt).trans HC2.out) 0 (.string f.nm) rfl
    have HB24 := Lib.hid hb24
    clear hb34 hb24 hp4 LM LF KW HB3
    gi_wp2_with fail
    refine wpIn_region_FT 23 5 [20] (fun _ z V' => Made V4 V' (mpart M f) z) (fun V' => Below V4.heap.size V4 V') (by kernel_rfl) (by kernel_rfl) (by rfl) (by kernel_rfl) (by kernel_rfl) (by kernel_rfl) (by rfl) (by simp) (fun W W' h hb => h.trans (hb.mono h.size)) (fun q z W W' h hb => h.later hb) (Below.refl _ _).drew (by rfl) ?_
    simp only [List.take_succ_cons, List.take_zero, List.drop_succ_cons, List.drop_zero]
    refine wpF_load _ rfl (by rfl) (by rfl) (by rfl) L1 ?_
    simp only [Act.put, List.setIfInBounds_toArray, List.set_cons_succ, List.set_cons_zero]
    repeat (refine wpF_pure rfl rfl ?_; go_big_quiet_step (fail); refine wpQuiet_nil ?_)
    refine wpF_load (.string f.nm) rfl (by rfl) (by rfl) (by rfl) L2 ?_
    simp only [Act.put, List.setIfInBounds_toArray, List.set_cons_succ, List.set_cons_zero]
    repeat (refine wpF_pure rfl rfl ?_; go_big_quiet_step (fail); refine wpQuiet_nil ?_)
    refine wpF_callsrc 20 (f := 28) (args := #[.pointer (some ⟨pb, 0, none⟩)]) (by simp) rfl rfl rfl (fun x => by first | rfl | (simp [go_sem]; done)) (fun V' hb => KB.out V' hb) ?_
    simp only [Act.put, List.setIfInBounds_toArray, List.set_cons_succ, List.set_cons_zero]
    intro xs V5 hb5 hx
    obtain ⟨A5, c5, e20, hc5, hn5⟩ := (show Made V4 V5 (mpart M f) (xs 20) from hx 20 (by simp)).slice
    simp only [fill, Act.put, List.setIfInBounds_toArray, List.set_cons_succ, List.set_cons_zero]
    rw [e20]
    have hb25 : Below pb V2 V5 := HB24.out.trans (hb5.mono (by omega))
    obtain ⟨hD5, hB5, hX5⟩ := hJb j V2 HJ.out V5 (hb25.mono hs2)
    have hyld := HY.out j f A5 c5 V5 hD5 HF.out hc5 hn5 hB5
    obtain ⟨fn, tmps, assign, body, hyr, hR⟩ := yield_any (n - 1 - 1 - 1) hyld
    have HR := Lib.hid hR
    have HB25 := Lib.hid hb25
    have HX5 := Lib.hid hX5
    clear hR hyld hD5 hB5 hX5 hx e20 hb5 hb25 L1 L2 KB c4
    gi_wp2_with fail
    refine ⟨fun _ => by omega, ?_⟩
    refine RoundIn.mono (F := Fence.wide.inRound l2) HR.out ?_
    rintro e V6 (⟨rfl, ⟨hd, hb⟩, hk, hkb⟩ | ⟨rfl, hx, hkb⟩)
    · have hX6 := hBXk _ _ HX5.out hk hkb.size
      have hfin := Lib.hid (show KeepsFrom w6.heap.size V2 V6 ∧ (Dn (j + 1) V6 ∧ Bk V6 ∧ BX V6) ∧ KeT 68 3 (yb + 1) V2 V6 from
        ⟨⟨Nat.le_trans HB25.out.size hkb.size, fun q o h1 h2 h3 => hkb.same q o (by omega) (by omega) ((HB25.out.block q (by have := (Array.getElem?_eq_some_iff.1 h2).1; omega)).trans h2) h3⟩, ⟨hd, hb, hX6⟩,
          ⟨Nat.le_trans HB25.out.size hkb.size, fun q cs t hq _ hA => (hKp V5 V6 q cs t hk (by omega) ((HB25.out.block q (by have := (Array.getElem?_eq_some_iff.1 hA).1; omega)).trans hA)).trans hA.symm⟩⟩)
      clear hd hb hk hkb hX6 HR
      gi_wp2
      exact hfin.out
    · have hfin := Lib.hid (show KeepsFrom w6.heap.size V2 V6 ∧ Xp V6 from
        ⟨⟨Nat.le_trans HB25.out.size hkb.size, fun q o h1 h2 h3 => hkb.same q o (by omega) (by omega) ((HB25.out.block q (by have := (Array.getElem?_eq_some_iff.1 h2).1; omega)).trans h2) h3⟩, hx⟩)
      clear hx hkb HR
      gi_wp2
      exact ⟨hfin.out.1, rfl, hfin.out.2⟩
  case iter =>
    intro Bk2 X2 l2 V hBk2 hBlt2 hX2 hl2 hDV hBV hYV
    obtain ⟨_, _, g0V, g1V⟩ := hBX0 V hDV.2.2
    exact fall_in (n - 1) (by omega) (n - 1 - 1) l2 (yb + 1) M.k v (fun j V => (Dn j V ∧ Bk V ∧ BX V) ∧ Bk2 V) X2
      (fun j A B h hb => ⟨hJb j A h.1 B (hb.mono (hBX0 A h.1.2.2).1), hBk2 A _ h.2 hb.size (fun q h1 h2 => by have := hBlt2 A h.2; exact hb.block q (by omega))⟩)
      (fun j f W h hf => (hYV j f W ⟨hf, h.1⟩ h.2 (List.getElem?_eq_some_iff.1 hf).1).mono (fun e W2 h => h.elim (fun h => .inl ⟨h.1, h.2.1, h.2.2.1⟩) (fun h => .inr ⟨h.1, h.2.1⟩)))
      V g0V g1V ⟨hDV, hBV⟩
  case done =>
    rintro D V hD ⟨hDV, hBV, _⟩ hK
    have hfin := Lib.hid (And.intro (hDb _ _ _ hDV (below_put V (.deferred none) (by omega : s0 ≤ D))) (hBk _ _ hBV (by simp [World.putObj]) (fun k _ h2 => World.putObj_heap_other (by omega)) : Bk (V.putObj D (.deferred none))))
    clear hDV hBV hD6 hB6 hBX6
    gi_wp2
    refine ⟨by simp, .inl ⟨_, _, rfl, run_takeDeferred hK, ?_⟩⟩
    refine ⟨_, results_none rfl _ _ _, ?_⟩
    exact ⟨⟨_, rfl⟩, .inl hfin.out⟩
  case stop =>
    rintro D cd V hD ⟨rfl, hx⟩ hK
    have hfin := Lib.hid (hX V D _ (.deferred none) hx (by omega) hK rfl)
    clear hx
    gi_wp2
    refine ⟨by simp, .inl ⟨_, _, rfl, run_takeDeferred hK, ?_⟩⟩
    refine ⟨_, results_none rfl _ _ _, ?_⟩
    exact ⟨⟨_, rfl⟩, .inr hfin.out⟩
end Go.Proofs.Ytmjbimmbphofjaa

namespace Go.Proofs.Ytmjbimmbphofjaa
open Go.RowKit Go.Shelf
set_option maxRecDepth 100000
attribute [local go_sem] Oper.semAt_some

end Go.Proofs.Ytmjbimmbphofjaa

namespace Go.Proofs.Ytmjbimmbphofjaa
open Go.RowKit Go.Shelf
set_option maxRecDepth 100000
attribute [local go_sem] Oper.semAt_some

section
variable {P : Program} {l : List Oper} {fs : List Tmp} {FS : Tmp → Value → World → Prop} {I : World → Prop} {E : Act → Prop} {o : Oper} {rest : List Oper} {a : Act}
end
/-- behind i fields: the number's box Bi, the flag's Bo -/
structure Fo (ti tb : TypeId) (Bi Bo : Nat) (w8 : World) (p : Nat) (V : World) : Prop where
  num : Boxed V Bi ti (.int .i64 (p : Int))
  ok : Boxed V Bo tb (.bool true)
  off : Off (fun q => q = Bi ∨ q = Bo) w8 V
section
variable {ti tb : TypeId} {Bi Bo p : Nat} {w8 V V' : World}
theorem Fo.later (h : Fo ti tb Bi Bo w8 p V) (hb : Below V.heap.size V V') : Fo ti tb Bi Bo w8 p V' := ⟨(hb.block _ h.num.lt).trans h.num, (hb.block _ h.ok.lt).trans h.ok, off_below h.off (hb.mono h.off.size)⟩
theorem Fo.putObj {l : Nat} {o o' : Obj} (h : Fo ti tb Bi Bo w8 p V) (hw : w8.heap.size ≤ l) (ho : V.heap[l]? = some o) (hc : o.isCells = false) : Fo ti tb Bi Bo w8 p (V.putObj l o') := by
  refine ⟨(World.putObj_heap_other (fun e => ?_)).trans h.num, (World.putObj_heap_other (fun e => ?_)).trans h.ok, off_below h.off (below_put V o' hw)⟩
  · subst e; rw [show V.heap[Bi]? = _ from h.num] at ho; injection ho with ho; subst ho; cases hc
  · subst e; rw [show V.heap[Bo]? = _ from h.ok] at ho; injection ho with ho; subst ho; cases hc
theorem Fo.num_set (h : Fo ti tb Bi Bo w8 p V) (hne : Bi ≠ Bo) : Fo ti tb Bi Bo w8 (p + 1) (V.setCell ⟨Bi, 0, none⟩ (.int .i64 ((p : Int) + 1))) :=
  ⟨by rw [Int.natCast_succ]; exact h.num.set _, h.ok.other (by omega) _, h.off.setCell (p := ⟨Bi, 0, none⟩) (.inl rfl) _⟩
theorem Fo.ok_set (h : Fo ti tb Bi Bo w8 p V) (hne : Bi ≠ Bo) : Fo ti tb Bi Bo w8 p (V.setCell ⟨Bo, 0, none⟩ (.bool true)) :=
  ⟨h.num.other hne _, h.ok.set _, h.off.setCell (p := ⟨Bo, 0, none⟩) (.inr rfl) _⟩
end
def boxN (b : Nat) (W : World) : Nat := (intOf ((W.cell? ⟨b, 0, none⟩).getD undef)).toNat
theorem Fo.boxN {ti tb : TypeId} {Bi Bo p : Nat} {w8 V : World} (h : Fo ti tb Bi Bo w8 p V) : boxN Bi V = p := by
  unfold Proofs.Ytmjbimmbphofjaa.boxN
  rw [h.num.cell]
  simp [intOf]
theorem FdsIn.below {lo : Nat} {w w' : World} {A : Option Addr} {L : List Fd} (h : FdsIn lo w A L) (hb : Below w.heap.size w w') : FdsIn lo w' A L := fun j f hj => by
  obtain ⟨g, hA, hlo, hlt, hc⟩ := h j f hj
  exact ⟨g, hA, hlo, Nat.lt_of_lt_of_le hlt hb.size, fun q u hq => (hb.cell (p := ⟨g, j * 7 + q, none⟩) hlt).trans (hc q u hq)⟩

theorem sel_lt {L : List Fd} {S : Fd → Bool} {d j : Nat} {f : Fd} (h : ((L.take d).filter S).length = j) (hf : (L.filter S)[j]? = some f) : d < L.length := by
  rcases Nat.lt_or_ge d L.length with h1 | h1
  · exact h1
  · rw [List.take_of_length_le h1] at h
    have := (List.getElem?_eq_some_iff.1 hf).1
    omega
theorem sel_hit {L : List Fd} {S : Fd → Bool} {d j : Nat} {f g : Fd} (hd : L[d]? = some g) (hS : S g = true) (h : ((L.take d).filter S).length = j) (hf : (L.filter S)[j]? = some f) : g = f := by
  have := filter_get hd hS
  rw [h, hf] at this
  exact (Option.some.inj this).symm
theorem sel_end {L : List Fd} {S : Fd → Bool} {d : Nat} {g : Fd} (hd : L[d]? = some g) (h : ((L.take d).filter S).length = (L.filter S).length) : S g = false := by
  rcases hS : S g with _ | _
  · rfl
  · have := filter_get hd hS
    have := (List.getElem?_eq_some_iff.1 this).1
    omega
end Go.Proofs.Ytmjbimmbphofjaa
