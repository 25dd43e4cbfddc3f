/-
  A part of the texts of one proof, put together: FenG, FrQ, Shelf, Ito, HdL, HdK, HdT, RhD, RhL, Wrd, RhB, HdU, FrY, RfA, RfB, RfC, RfS, RfO, Q9, RfG, RfW, FrN, Laid.
-/
import Derived.Shelf.Strconv.Itoa0
import Derived.Shelf.Strconv.Itoa1
import Derived.Shelf.LaysM
import Derived.Shelf.Strconv.Itoa2
import Derived.Shelf.Strconv.Itoa3
import Derived.Test.YtbohdmconeebeaaDoorProg
import Derived.Test.YtbohdmconeebeaaDoorRows
import Derived.Below
import Derived.WalkSmall
import Derived.WalkLawsBesides
import Derived.Lib.ItoaMem
import Derived.Lib.Hide
import Derived.BigCall
import Derived.BigGuard
import Derived.WalkMore
import Derived.Deep.LoopGhost
import Derived.Laws.IdiomStrings
import Derived.Handy
import Derived.ArgAppend
import Derived.Deep.WholeRow
import Derived.StillTail
import Derived.WalkKit
import Derived.ProofKit
import Derived.OpenShut
import Derived.LaidMore
import Derived.LaidLaws
import Derived.MakeChecks
import Derived.Lib.LaidTab
import Derived.Stop.Joined
import Derived.Stop.LaidErr
import Derived.Deep.Fields
import Derived.Test.YtbohdmconeebeaaDoorMC3
namespace Go.Proofs.YtbohdmconeebeaaDoor
open Go.RowKit Go.Shelf
set_option maxRecDepth 100000
attribute [local go_sem] Oper.semAt_some

/-- what an iterator over a copy of bytes is: a closure over a box with the copy -/
structure BoxSeq (w : World) (zs : List Int) (Bs : Nat) (A : Option Addr) (n c : Nat) (w' : World) : Prop where
  lo : w.heap.size ≤ Bs
  hi : Bs < w'.heap.size
  box : w'.cell? ⟨Bs, 0, none⟩ = some (.slice A n c)
  room : n ≤ c
  nums : NumsS .u8 w' (fun b => w.heap.size ≤ b ∧ b < w'.heap.size) A zs
  below : Below w.heap.size w w'

theorem segments_any (a : Option Addr) (n c : Nat) (zs : List Int) (w : World) (hn : zs.length = n) (hl : n ≤ 1000000) (h1 : Nums .u8 w w.heap.size a zs) :
    Calls Tryd.prog 31 #[.slice a n c] w fun e w' => ∃ Bs A c', e = .returned (.func (.func 45) #[] #[.pointer (some ⟨Bs, 0, none⟩)]) ∧ BoxSeq w zs Bs A n c' w' := by
  have K := clone_any a n c zs w hn hl h1
  clear h1
  go_enter Tryd.func31, Tryd.ntmps31
  go_wp2_with fail
  refine K.mono ?_
  rintro e w1 ⟨v, rfl, hm⟩
  obtain ⟨A, c1, rfl, hc, _⟩ := hm.slice
  have hnu := hm.numsS rfl
  rw [hn] at hc ⊢
  have hb := hm.2.size
  have hb2 := hm.2.alloc hb (.cells #[.slice A n c1] 29)
  have hn2 : NumsS .u8 (w1.alloc (.cells #[.slice A n c1] 29)) (fun b => w.heap.size ≤ b ∧ b < (w1.alloc (.cells #[.slice A n c1] 29)).heap.size) A zs :=
    (hnu.keeps (KeepS.of_below ((Below.refl w1.heap.size w1).alloc (Nat.le_refl _) _) (fun k hk => hk.2))).more (fun k hk => ⟨hk.1, by rw [World.size_alloc]; omega⟩)
  clear hm hnu K
  go_wp2
  go_ret
  exact ⟨w1.heap.size, A, c1, rfl, hb, by simp, by simp, hc, hn2, hb2⟩
theorem seg_not_nil (Bs : Nat) (w : World) : (binOp .eql 68 (.func (.func 45) #[] #[.pointer (some ⟨Bs, 0, none⟩)]) .nilFunc).run Tryd.prog w = .ok (.bool false) w := by
  kernel_rfl

set_option maxHeartbeats 4000000 in
theorem segments_in (n : Nat) (hn3 : 3 ≤ n) (m' l Bs m c Bi s0 : Nat) (A : Option Addr) (zs : List Int) (hm : zs.length = m) (hl : m ≤ 1000000) (hz : Bytes zs)
    (Dn : Nat → World → Prop) (Bk X : World → Prop) (hBi : Bi < s0) (hls : l < s0 + 2)
    (hDb : ∀ j A B, Dn j A → Below s0 A B → Dn j B)
    (hBk : ∀ A B, Bk A → A.heap.size ≤ B.heap.size → (∀ k, s0 ≤ k → k < s0 + 2 → B.heap[k]? = A.heap[k]?) → Bk B) (hBlt : ∀ A, Bk A → s0 + 2 ≤ A.heap.size)
    (hX : ∀ A l' o o', X A → s0 + 2 ≤ l' → A.heap[l']? = some o → o.isCells = false → X (A.putObj l' o'))
    (hY : ∀ j (x : Nat × Option Addr × List Int) W1, Dn j W1 → (Fc.scan 0 [] zs)[j]? = some (x.1, x.2.2) → Nums .u8 W1 W1.heap.size x.2.1 x.2.2 → Bk W1 →
      YieldAt Fence.wide m' Tryd.prog l #[Value.int .i64 (x.1 : Int), Value.slice x.2.1 x.2.2.length x.2.2.length] W1 (YPost s0 l (KpC Bi) (fun W2 => Dn (j + 1) W2 ∧ Bk W2) X W1))
    (W : World) (hBs : W.cell? ⟨Bs, 0, none⟩ = some (.slice A m c)) (hBsl : Bs < W.heap.size) (hN : Nums .u8 W W.heap.size A zs) (hD0 : Dn 0 W) (hB0 : Bk W) :
    CallsIn Fence.wide n Tryd.prog 45 #[.func (.yield l) #[] #[], .pointer (some ⟨Bs, 0, none⟩)] W fun e W' => (∃ v, e = .returned v) ∧ ((Dn (Fc.scan 0 [] zs).length W' ∧ Bk W') ∨ X W') := by
  have hn1 : 1 ≤ n := by omega
  have hsW := hBlt W hB0
  have hcl := clone_any A m c zs (W.alloc (.cells #[.func (.yield l) #[] #[]] 87)) hm hl ((hN.below ((Below.refl _ W).alloc (Nat.le_refl _) _)).mono (by simp))
  refine callsIn_of_wp_marks Tryd.func45 rfl trivial ?_ rfl
  simp only [Tryd.ntmps45, List.size_toArray, List.length_cons, List.length_nil, Nat.reduceAdd, Nat.reduceSub, Array.replicate_succ, Array.replicate_zero, List.push_toArray, List.append_toArray, List.nil_append, List.cons_append]
  gi_wp2_with fail
  refine ⟨trivial, ?_⟩
  refine (callsIn_wide.2 hcl).mono ?_
  rintro e W2 ⟨v, rfl, hmk⟩
  clear hcl
  obtain ⟨A2, c2, rfl, hc2, hnu2⟩ := hmk.slice
  rw [hm] at hc2 ⊢
  have hb2 := hmk.2
  rw [World.size_alloc] at hb2
  gi_wp2_with fail
  refine ⟨trivial, ?_⟩
  refine (callsIn_wide.2 (closed_any A2 m c2 W2)).mono ?_
  rintro e W3 ⟨rfl, hW3⟩
  have hs2 : W.heap.size + 1 ≤ W2.heap.size := by have := hb2.size; rw [World.size_alloc] at this; omega
  have hs3 : W3.heap.size = W2.heap.size + 1 := by rw [hW3]; simp
  have hbW3 : Below W.heap.size W W3 := by
    rw [hW3]
    exact (((Below.refl _ W).alloc (Nat.le_refl _) _).trans (hb2.mono (by simp))).alloc (by omega) _
  have hyb : W3.heap[W.heap.size]? = some (.cells #[.func (.yield l) #[] #[]] 87) := by
    rw [hW3]
    exact (Below.heap_alloc W2 _ _ (by omega)).trans ((hb2.block _ (by omega)).trans (heap_alloc_new W _))
  have hpb : W3.heap[W2.heap.size]? = some (.cells #[.slice A2 m c2] 29) := by
    rw [hW3]; exact heap_alloc_new W2 _
  obtain ⟨S, hSd⟩ : ∃ S : Nat → Prop, S = fun k => k = W.heap.size ∨ k = W2.heap.size ∨ (zs ≠ [] ∧ blockOf A2 k) := ⟨_, rfl⟩
  have hSc : ∀ k, S k → s0 ≤ k ∧ k < W3.heap.size ∧ ∃ o, W3.heap[k]? = some o ∧ o.isCells = true := by
    intro k hk
    rw [hSd] at hk
    rcases hk with rfl | rfl | ⟨hz0, hk⟩
    · exact ⟨by omega, by omega, _, hyb, rfl⟩
    · exact ⟨by omega, by omega, _, hpb, rfl⟩
    · obtain ⟨o, sp, rfl⟩ := hk
      obtain ⟨h1, cur, h2⟩ := hmk.own_ge (g := k) rfl
      rw [World.size_alloc] at h1
      have hlt := (Array.getElem?_eq_some_iff.1 h2).1
      exact ⟨by omega, by omega, .cells cur 5 (0, 0), by rw [hW3]; exact (Below.heap_alloc W2 _ _ hlt).trans h2, rfl⟩
  have hSlt : ∀ k, S k → k < W3.heap.size := fun k hk => (hSc k hk).2.1
  have hNS : NumsS .u8 W3 S A2 zs := fun h0 => by
    obtain ⟨b, off, e, hb, hcl⟩ := hnu2 h0
    refine ⟨b, off, e, by rw [hSd]; exact .inr (.inr ⟨h0, _, _, e⟩), fun j z hj => ?_⟩
    rw [hW3]
    exact (World.cell?_alloc_lt W2 _ ⟨b, off + j, none⟩ hb).trans (hcl j z hj)
  have hSy : S W.heap.size := by rw [hSd]; exact .inl rfl
  have hSp : S W2.heap.size := by rw [hSd]; exact .inr (.inl rfl)
  have hsm : ∀ V V', KeepS S W3 V → KpC Bi V V' → KeepS S V V' := fun V V' h1 h2 => ⟨h2.size, fun k hk => by
    obtain ⟨h3, _, o, h4, h5⟩ := hSc k hk
    have h6 := (h1.2 k hk).trans h4
    rw [h6]; exact h2.same k o (by omega) h6 h5⟩
  have hsb : s0 ≤ W.heap.size := by omega
  have hD3 := hDb 0 _ _ hD0 (hbW3.mono hsb)
  have hB3 : Bk W3 := hBk _ _ hB0 hbW3.size (fun k _ h2 => hbW3.block k (by omega))
  have hyc : W3.cell? ⟨W.heap.size, 0, none⟩ = some (.func (.yield l) #[] #[]) := by simp [World.cell?, hyb]
  have hpc : W3.cell? ⟨W2.heap.size, 0, none⟩ = some (.slice A2 m c2) := by simp [World.cell?, hpb]
  have hs03 : s0 ≤ W3.heap.size := by omega
  have hs032 : s0 + 2 ≤ W3.heap.size := by omega
  have hKo : ∀ (V : World) (l' : Nat) (o' : Obj), W3.heap.size ≤ l' → KeepS S V (V.putObj l' o') := fun V l' o' hl' => ⟨by simp [World.putObj], fun k hk => World.putObj_heap_other (by have := hSlt k hk; omega)⟩
  have hBo : ∀ (V : World) (l' : Nat) (o' : Obj), Bk V → W3.heap.size ≤ l' → Bk (V.putObj l' o') := fun V l' o' hb hl' => hBk _ _ hb (by simp [World.putObj]) (fun k _ h2 => World.putObj_heap_other (by omega))
  clear hW3 hSd hmk hb2 hyb hpb hN hBs hnu2
  gi_wp2_with fail
  refine range_stops rfl hn1 (gf := 60) (lb := #[.pointer (some ⟨W2.heap.size, 0, none⟩)]) rfl trivial (enters_of Tryd.func60 (by kernel_rfl) rfl)
    (fun x : Nat × Option Addr × List Int => #[Value.int .i64 (x.1 : Int), Value.slice x.2.1 x.2.2.length x.2.2.length]) (fun _ => rfl)
    (fun j x V => Dn j V ∧ Bk V ∧ KeepS S W3 V ∧ (Fc.scan 0 [] zs)[j]? = some (x.1, x.2.2) ∧ NumsS .u8 W3 S x.2.1 x.2.2)
    (fun j V => Dn j V ∧ Bk V ∧ KeepS S W3 V) (fun cd V => cd = .ret ∧ X V) (KeepS S) (Fc.scan 0 [] zs).length
    (fun j x V l' o o' h hl' ho hc' => ⟨hDb _ _ _ h.1 (below_put V o' (Nat.le_trans hs03 hl')), hBo V l' o' h.2.1 hl', h.2.2.1.trans (hKo V l' o' hl'), h.2.2.2⟩)
    (fun j V l' o o' h hl' ho hc' => ⟨hDb _ _ _ h.1 (below_put V o' (Nat.le_trans hs03 hl')), hBo V l' o' h.2.1 hl', h.2.2.trans (hKo V l' o' hl')⟩)
    (fun cd V l' o o' h hl' ho hc' => ⟨h.1, hX V l' o o' h.2 (Nat.le_trans hs032 hl') ho hc'⟩)
    (fun _ _ _ h k => h.trans k) (fun V l' o o' hl' ho hc' => hKo V l' o' hl')
    (fun o => ⟨hDb _ _ _ hD3 (((Below.refl s0 W3).alloc hs03 _).alloc (by rw [World.size_alloc]; omega) _), hBk _ _ hB3 (by simp; omega) (fun k _ h2 => (((Below.refl W3.heap.size W3).alloc (Nat.le_refl _) _).alloc (by simp) _).block k (by omega)), KeepS.of_below (((Below.refl W3.heap.size W3).alloc (Nat.le_refl _) _).alloc (by simp) _) hSlt⟩) ?a1 ?assign ?body ?iter ?done ?stop
  case assign =>
    intro l' x V K hK
    gi_wp2
    exact hK
  case body =>
    rintro l' j x V hl' ⟨hDV, hBV, hKV, hxj, hnx⟩ hj
    have hyV : V.cell? ⟨W.heap.size, 0, none⟩ = some (.func (.yield l) #[] #[]) := (hKV.cell (p := ⟨W.heap.size, 0, none⟩) hSy).trans hyc
    have hnV : Nums .u8 V V.heap.size x.2.1 x.2.2 := (hnx.keeps hKV).nums (fun k hk => by have := hSlt k hk; have := hKV.1; omega)
    obtain ⟨fn, tmps, assign, body, hy, hR⟩ := yield_any (n - 1 - 1 - 1) (hY j x V hDV hxj hnV hBV)
    have HR := Lib.hid hR
    have HKV := Lib.hid hKV
    clear hR hD3 hB3 hnV hKV hDV hBV hxj
    gi_wp2_with fail
    refine ⟨fun _ => by omega, ?_⟩
    refine RoundIn.mono (F := Fence.wide.inRound l') HR.out ?_
    rintro e V2 (⟨rfl, ⟨hd, hb⟩, hk, hkb⟩ | ⟨rfl, hx, hkb⟩)
    · have hkS := hsm V V2 HKV.out hk
      have hfin := Lib.hid (show KeepsFrom (W2.heap.size + 1) V V2 ∧ (Dn (j + 1) V2 ∧ Bk V2 ∧ KeepS S W3 V2) ∧ KeepS S V V2 from
        ⟨⟨hk.size, fun k o h1 h2 h3 => hkb.same k o (by omega) (by omega) h2 h3⟩, ⟨hd, hb, HKV.out.trans hkS⟩, hkS⟩)
      clear hd hb hk hkb hkS HKV HR
      gi_wp2
      rw [← hs3] at hfin
      exact hfin.out
    · have hfin := Lib.hid (show KeepsFrom (W2.heap.size + 1) V V2 ∧ X V2 from
        ⟨⟨hkb.size, fun k o h1 h2 h3 => hkb.same k o (by omega) (by omega) h2 h3⟩, hx⟩)
      clear hkb hx HKV HR
      gi_wp2
      rw [← hs3] at hfin
      exact ⟨hfin.out.1, rfl, hfin.out.2⟩
  case iter =>
    intro Bk2 X2 l2 V hBk2 hBlt2 hX2 hl2 hDV hBV hYV
    refine (closed_in (n - 1) (by omega) (n - 1 - 1) l2 W2.heap.size m c2 S W3 hSlt A2 zs hm hl hz hc2 (fun j V => (Dn j V ∧ Bk V ∧ KeepS S W3 V) ∧ Bk2 V) X2 ?_ V hSp hpc hDV.2.2 hNS ⟨hDV, hBV⟩).mono ?_
    · rintro j p A' b V1 ⟨⟨h1, h2, h3⟩, h4⟩ hk hx hnx
      have hj : j < (Fc.scan 0 [] zs).length := by
        rcases Nat.lt_or_ge j (Fc.scan 0 [] zs).length with h | h
        · exact h
        · rw [List.getElem?_eq_none h] at hx; cases hx
      refine (hYV j (p, A', b) V1 ⟨h1, h2, h3, hx, hnx⟩ h4 hj).mono ?_
      rintro e V2 (⟨rfl, hd, hkk, _⟩ | ⟨rfl, hx, _⟩)
      · exact .inl ⟨rfl, hd, hkk⟩
      · exact .inr ⟨rfl, hx⟩
    · rintro e V2 ⟨hv, ⟨h1, _⟩ | h⟩
      · exact ⟨hv, .inl h1⟩
      · exact ⟨hv, .inr h⟩
  case done =>
    rintro D V hD ⟨hDV, hBV, hKV⟩ hK
    have hfin := Lib.hid (And.intro (hDb _ _ _ hDV (below_put V (.deferred none) (Nat.le_trans hs03 hD))) (hBo V D (.deferred none) hBV hD))
    clear hDV hBV hKV hD3 hB3
    gi_wp2
    refine ⟨by simp, .inl ⟨_, _, rfl, run_takeDeferred hK, ?_⟩⟩
    refine ⟨_, results_none rfl _ _ _, ?_⟩
    exact ⟨⟨_, rfl⟩, .inl hfin.out⟩
  case stop =>
    rintro D cd V hD ⟨rfl, hx⟩ hK
    have hfin := Lib.hid (hX V D _ (.deferred none) hx (Nat.le_trans hs032 hD) hK rfl)
    clear hx
    gi_wp2
    refine ⟨by simp, .inl ⟨_, _, rfl, run_takeDeferred hK, ?_⟩⟩
    refine ⟨_, results_none rfl _ _ _, ?_⟩
    exact ⟨⟨_, rfl⟩, .inr hfin.out⟩
end Go.Proofs.YtbohdmconeebeaaDoor

namespace Go.Proofs.YtbohdmconeebeaaDoor
open Go.RowKit Go.Shelf
set_option maxRecDepth 100000
attribute [local go_sem] Oper.semAt_some

/-- what Frames leaves: the segments' iterator in the box Ba, the codec in the box Bc -/
structure FrSeq (w : World) (zs : List Int) (cb Bs Ba Bc : Nat) (A : Option Addr) (n c : Nat) (w' : World) : Prop where
  loS : w.heap.size ≤ Bs
  hiS : Bs < w'.heap.size
  loA : w.heap.size ≤ Ba
  hiA : Ba < w'.heap.size
  loC : w.heap.size ≤ Bc
  hiC : Bc < w'.heap.size
  boxS : w'.cell? ⟨Bs, 0, none⟩ = some (.slice A n c)
  boxA : w'.cell? ⟨Ba, 0, none⟩ = some (.func (.func 45) #[] #[.pointer (some ⟨Bs, 0, none⟩)])
  boxC : w'.cell? ⟨Bc, 0, none⟩ = some (.pointer (some ⟨cb, 0, none⟩))
  room : n ≤ c
  nums : NumsS .u8 w' (fun b => w.heap.size ≤ b ∧ b < w'.heap.size) A zs
  below : Below w.heap.size w w'
theorem store_func (W : World) (t : TypeId) (f : FuncId) (lb : Array Value) : (store ⟨W.heap.size, 0, none⟩ (.func (.func f) #[] lb)).run Tryd.prog (W.alloc (.cells #[.nilFunc] t)) = .ok () (W.alloc (.cells #[.func (.func f) #[] lb] t)) := by
  have hg := heap_alloc_new W (.cells #[.nilFunc] t)
  rw [run_store Tryd.prog _ _ _ _ (by rfl), cell_of_row _ _ 0 _ _ _ hg, frozen_of_row _ _ 0 _ _ hg, setCell_eq_setRow _ _ 0 _ t (0, 0) _ hg, World.setRow_alloc_new]
  rfl
theorem frames_any (cb : Nat) (a : Option Addr) (n c : Nat) (zs : List Int) (w : World) (hn : zs.length = n) (hl : n ≤ 1000000) (h1 : Nums .u8 w w.heap.size a zs) :
    Calls Tryd.prog 15 #[.pointer (some ⟨cb, 0, none⟩), .slice a n c] w fun e w' => ∃ Bs Ba Bc A c', e = .returned (.func (.func 32) #[] #[.pointer (some ⟨Ba, 0, none⟩), .pointer (some ⟨Bc, 0, none⟩)]) ∧ FrSeq w zs cb Bs Ba Bc A n c' w' := by
  obtain ⟨w0, hw0⟩ : ∃ w0, w.alloc (.cells #[.pointer (some ⟨cb, 0, none⟩)] 23) = w0 := ⟨_, rfl⟩
  have hb0 : Below w.heap.size w w0 := by rw [← hw0]; exact (Below.refl _ w).alloc (Nat.le_refl _) _
  have hs0 : w0.heap.size = w.heap.size + 1 := by rw [← hw0]; simp
  have hC0 : w0.cell? ⟨w.heap.size, 0, none⟩ = some (.pointer (some ⟨cb, 0, none⟩)) := by rw [← hw0]; exact World.cell?_alloc_at _ _ _ _ rfl
  have K := segments_any a n c zs w0 hn hl ((h1.below hb0).mono hb0.size)
  have HW0 := Lib.hid hw0
  have HB0 := Lib.hid hb0
  have HC0 := Lib.hid hC0
  have HS0 := Lib.hid hs0
  clear hw0 hb0 hC0 h1 hs0
  go_enter Tryd.func15, Tryd.ntmps15
  go_wp2_with fail
  rw [HW0.out]
  refine K.mono ?_
  rintro e w1 ⟨Bs, A, c', rfl, hq⟩
  clear K
  have HQ := Lib.hid hq
  clear hq
  have hst := store_func w1 68 45 #[.pointer (some ⟨Bs, 0, none⟩)]
  go_wp2
  go_ret
  have hq := HQ.out
  have hs0 := HS0.out
  have hlo := hq.lo
  have hhi := hq.hi
  have hsz := hq.below.size
  have hb2 := (Below.refl w1.heap.size w1).alloc (Nat.le_refl _) (.cells #[.func (.func 45) #[] #[.pointer (some ⟨Bs, 0, none⟩)]] 68)
  refine ⟨Bs, w1.heap.size, w.heap.size, A, c', rfl, by omega, by simp; omega, by omega, by simp, Nat.le_refl _, by simp; omega, ?_, ?_, ?_, hq.room, ?_, HB0.out.trans ((hq.below.trans (hb2.mono hsz)).mono HB0.out.size)⟩
  · exact (hb2.cell (p := ⟨Bs, 0, none⟩) hhi).trans hq.box
  · exact World.cell?_alloc_at _ _ _ _ rfl
  · exact (hb2.cell (p := ⟨w.heap.size, 0, none⟩) (by simp only; omega)).trans ((hq.below.cell (p := ⟨w.heap.size, 0, none⟩) (by simp only; omega)).trans HC0.out)
  · exact (hq.nums.keeps (KeepS.of_below hb2 fun k hk => hk.2)).more fun k hk => ⟨by omega, by rw [World.size_alloc]; omega⟩
theorem frs_not_nil (Ba Bc : Nat) (w : World) : (binOp .eql 48 (.func (.func 32) #[] #[.pointer (some ⟨Ba, 0, none⟩), .pointer (some ⟨Bc, 0, none⟩)]) .nilFunc).run Tryd.prog w = .ok (.bool false) w := by
  kernel_rfl

theorem scan_bytes {zs : List Int} (hz : Bytes zs) {p : Nat} {b : List Int} (h : (p, b) ∈ Fc.scan 0 [] zs) : Bytes b := by
  have key : ∀ (l : List Int) (p : Nat) (now : List Int), Bytes l → Bytes now → ∀ x ∈ Fc.scan p now l, Bytes x.2 := by
    intro l
    induction l with
    | nil => intro p now _ _ x hx; simp [Fc.scan] at hx
    | cons z r ih =>
      intro p now h1 h2 x hx
      have hr : Bytes r := fun c hc => h1 c (by simp [hc])
      by_cases hz0 : z = 0
      · subst hz0
        rw [Fc.scan_zero] at hx
        rcases List.mem_append.1 hx with hx | hx
        · split at hx
          · cases hx
          · obtain rfl : x = (p - now.length, now) := by simpa using hx
            exact h2
        · exact ih _ [] hr (fun c hc => by cases hc) x hx
      · rw [Fc.scan_ne hz0] at hx
        exact ih _ (now ++ [z]) hr (h2.append fun c hc => by
          obtain rfl : c = z := by simpa using hc
          exact h1 c (by simp)) x hx
  exact key zs 0 [] hz (fun c hc => by cases hc) _ h
set_option maxHeartbeats 8000000 in
theorem frames_in (n : Nat) (hn5 : 5 ≤ n) (m' l Bs Ba Bc cb m c Bi s0 : Nat) (A : Option Addr) (zs : List Int) (hm : zs.length = m) (hl : m ≤ 1000000) (hz : Bytes zs)
    (Dn : Nat → World → Prop) (Bk X : World → Prop) (hBi : Bi < s0) (hls : l < s0 + 2)
    (hDb : ∀ j A B, Dn j A → Below s0 A B → Dn j B) (hDc : ∀ j A, Dn j A → CodAt A A.heap.size cb)
    (hBk : ∀ A B, Bk A → A.heap.size ≤ B.heap.size → (∀ k, s0 ≤ k → k < s0 + 2 → B.heap[k]? = A.heap[k]?) → Bk B) (hBlt : ∀ A, Bk A → s0 + 2 ≤ A.heap.size)
    (hX : ∀ A l' o o', X A → s0 + 2 ≤ l' → A.heap[l']? = some o → o.isCells = false → X (A.putObj l' o'))
    (hY : ∀ (j p : Nat) (s : List Int) (A1 : Option Addr) (c1 : Nat) (W1 : World), Dn j W1 → (Fc.scan 0 [] zs)[j]? = some (p, s) → (unS s).1.2.length ≤ c1 → Nums .u8 W1 W1.heap.size A1 (unS s).1.2 → Bk W1 →
      YieldAt Fence.wide m' Tryd.prog l #[frP (unS s).1 (.slice A1 (unS s).1.2.length c1), .int .i64 (unS s).2] W1 (YPost s0 l (KpC Bi) (fun W2 => Dn (j + 1) W2 ∧ Bk W2) X W1))
    (W : World) (hBs : W.cell? ⟨Bs, 0, none⟩ = some (.slice A m c)) (hBa : W.cell? ⟨Ba, 0, none⟩ = some (.func (.func 45) #[] #[.pointer (some ⟨Bs, 0, none⟩)])) (hBc : W.cell? ⟨Bc, 0, none⟩ = some (.pointer (some ⟨cb, 0, none⟩)))
    (hBci : Bc ≠ Bi) (hN : Nums .u8 W W.heap.size A zs) (hD0 : Dn 0 W) (hB0 : Bk W) :
    CallsIn Fence.wide n Tryd.prog 32 #[.func (.yield l) #[] #[], .pointer (some ⟨Ba, 0, none⟩), .pointer (some ⟨Bc, 0, none⟩)] W fun e W' => (∃ v, e = .returned v) ∧ ((Dn (Fc.scan 0 [] zs).length W' ∧ Bk W') ∨ X W') := by
  have hn1 : 1 ≤ n := by omega
  have hsW := hBlt W hB0
  have hBsl := block_of_cell hBs
  have hBal := block_of_cell hBa
  have hBcl := block_of_cell hBc
  simp only at hBsl hBal hBcl
  refine callsIn_of_wp_marks Tryd.func32 rfl trivial ?_ rfl
  simp only [Tryd.ntmps32, List.size_toArray, List.length_cons, List.length_nil, Nat.reduceAdd, Nat.reduceSub, Array.replicate_succ, Array.replicate_zero, List.push_toArray, List.append_toArray, List.nil_append, List.cons_append]
  gi_wp2_with fail
  refine wpIn_wide.2 (wp_scope_straight ((wpIn_wide (n := n)).1 ?_))
  gi_wp2_with fail
  apply wpIn_label
  gi_wp2_with fail
  have hcc0 := hDc 0 W hD0
  obtain ⟨w1, hw1⟩ : ∃ w1, W.alloc (.cells #[.func (.yield l) #[] #[]] 66) = w1 := ⟨_, rfl⟩
  have hs1 : w1.heap.size = W.heap.size + 1 := by rw [← hw1]; simp
  have hb1 : Below W.heap.size W w1 := by rw [← hw1]; exact (Below.refl _ W).alloc (Nat.le_refl _) _
  have hyb : w1.heap[W.heap.size]? = some (.cells #[.func (.yield l) #[] #[]] 66 (0, 0)) := by rw [← hw1]; exact heap_alloc_new W _
  have hyc : w1.cell? ⟨W.heap.size, 0, none⟩ = some (.func (.yield l) #[] #[]) := by simp [World.cell?, hyb]
  obtain ⟨oc, hoc, hocc⟩ := cells_of_cell hBc
  have hsb : s0 ≤ W.heap.size := by omega
  have hD1 := hDb 0 _ _ hD0 (hb1.mono hsb)
  have hB1 : Bk w1 := hBk _ _ hB0 hb1.size (fun k _ h2 => hb1.block k (by omega))
  have hs01 : s0 ≤ w1.heap.size := by omega
  have hs012 : s0 + 2 ≤ w1.heap.size := by omega
  have hcw : w1.heap[Bc]? = some oc := (hb1.block _ hBcl).trans hoc
  -- the two boxes that a round reads stay as they are
  obtain ⟨BX, hBX⟩ : ∃ BX : World → Prop, BX = fun V => w1.heap.size ≤ V.heap.size ∧ V.heap[W.heap.size]? = w1.heap[W.heap.size]? ∧ V.heap[Bc]? = w1.heap[Bc]? := ⟨_, rfl⟩
  have hBX0 : ∀ V, BX V → w1.heap.size ≤ V.heap.size ∧ V.cell? ⟨W.heap.size, 0, none⟩ = some (.func (.yield l) #[] #[]) ∧ V.cell? ⟨Bc, 0, none⟩ = some (.pointer (some ⟨cb, 0, none⟩)) := fun V hV => by
    rw [hBX] at hV
    exact ⟨hV.1, (World.cell?_of_block (a := ⟨W.heap.size, 0, none⟩) hV.2.1).trans hyc, (World.cell?_of_block (a := ⟨Bc, 0, none⟩) (hV.2.2.trans (hcw.trans hoc.symm))).trans hBc⟩
  have hBXb : ∀ V V', BX V → Below w1.heap.size V V' → BX V' := fun V V' h hb => by
    rw [hBX] at h ⊢
    exact ⟨Nat.le_trans h.1 hb.size, (hb.block _ (by omega)).trans h.2.1, (hb.block _ (by omega)).trans h.2.2⟩
  have hBXk : ∀ V V', BX V → KpC Bi V V' → BX V' := fun V V' h hk => by
    rw [hBX] at h ⊢
    refine ⟨Nat.le_trans h.1 hk.size, ?_, ?_⟩
    · rw [hyb] at h ⊢; exact hk.same _ _ (by omega) h.2.1 rfl
    · rw [hcw] at h ⊢; exact hk.same _ _ hBci h.2.2 hocc
  have hBX1 : BX w1 := by rw [hBX]; exact ⟨Nat.le_refl _, rfl, rfl⟩
  have hW1b : ∀ j V, Dn j V ∧ Bk V ∧ BX V ∧ (j = 0 → Below w1.heap.size w1 V) → ∀ V', Below w1.heap.size V V' → Dn j V' ∧ Bk V' ∧ BX V' ∧ (j = 0 → Below w1.heap.size w1 V') := fun j V h V' hb =>
    ⟨hDb _ _ _ h.1 (hb.mono hs01), hBk _ _ h.2.1 hb.size (fun k _ h2 => hb.block k (by omega)), hBXb _ _ h.2.2.1 hb, fun h0 => (h.2.2.2 h0).trans hb⟩
  rw [hw1]
  clear hw1
  refine range_stops rfl hn1 (gf := 45) (lb := #[.pointer (some ⟨Bs, 0, none⟩)]) rfl trivial (enters_of Tryd.func45 (by kernel_rfl) rfl)
    (fun x : Nat × Option Addr × List Int => #[Value.int .i64 (x.1 : Int), Value.slice x.2.1 x.2.2.length x.2.2.length]) (fun _ => rfl)
    (fun j x V => (Dn j V ∧ Bk V ∧ BX V ∧ (j = 0 → Below w1.heap.size w1 V)) ∧ (Fc.scan 0 [] zs)[j]? = some (x.1, x.2.2) ∧ Nums .u8 V V.heap.size x.2.1 x.2.2)
    (fun j V => Dn j V ∧ Bk V ∧ BX V ∧ (j = 0 → Below w1.heap.size w1 V)) (fun cd V => cd = .exit 0 ∧ X V) (KpC Bi) (Fc.scan 0 [] zs).length
    (fun j x V l' o o' h hl' ho hc' => ⟨hW1b j V h.1 _ (below_put V o' hl'), h.2.1, by rw [show (V.putObj l' o').heap.size = V.heap.size by simp [World.putObj]]; exact h.2.2.putObj ho hc' o'⟩)
    (fun j V l' o o' h hl' ho hc' => hW1b j V h _ (below_put V o' hl'))
    (fun cd V l' o o' h hl' ho hc' => ⟨h.1, hX V l' o o' h.2 (by omega) ho hc'⟩)
    (fun _ _ _ h k => h.trans k) (fun V l' o o' hl' ho hc' => KpC.putObj ho hc')
    (fun o => hW1b 0 w1 ⟨hD1, hB1, hBX1, fun _ => Below.refl _ _⟩ _ (((Below.refl w1.heap.size w1).alloc (Nat.le_refl _) _).alloc (by simp) _)) ?a1 ?assign ?body ?iter ?done ?stop
  case assign =>
    intro l' x V K hK
    gi_wp2
    exact hK
  case body =>
    rintro l' j x V hl' ⟨hV, hxj, hnx⟩ hj
    obtain ⟨hsV, kY, kC⟩ := hBX0 V hV.2.2.1
    have hmem := Fc.scan_mem zs 0 [] (by intro c hc; cases hc) _ (List.mem_of_getElem? hxj)
    have hxl : x.2.2.length ≤ 1000000 := by have := hmem.2.2; simp only [List.length_nil] at this; omega
    have hxb : Bytes x.2.2 := scan_bytes hz (List.mem_of_getElem? hxj)
    have K := funpack_any cb x.2.1 x.2.2.length x.2.2.length x.2.2 V (hDc j V hV.1) rfl (Nat.le_refl _) hxl hxb hnx
    obtain ⟨⟨⟨⟨v, k, s, i, d⟩, L⟩, er⟩, hP⟩ : ∃ y, unS x.2.2 = y := ⟨_, rfl⟩
    rw [hP] at K
    have HV := Lib.hid hV
    have HXJ := Lib.hid hxj
    have HP := Lib.hid hP
    clear hV hxj hP hmem hxb hnx
    gi_wp2_with fail
    refine ⟨trivial, fun _ => by omega, ?_⟩
    refine (CallsIn.inRound l' (callsIn_wide.2 K)).mono ?_
    rintro e V1 ⟨A1, c1, rfl, hc1, hn1', hb1'⟩
    clear K
    simp only [frP] at hc1 hn1' ⊢
    unfold frV frC
    obtain ⟨V2, hV2⟩ : ∃ V2, V1.alloc (.cells (frC v k s i d (.slice A1 L.length c1)) 31) = V2 := ⟨_, rfl⟩
    have hb12 : Below V1.heap.size V1 V2 := by rw [← hV2]; exact (Below.refl _ V1).alloc (Nat.le_refl _) _
    have hfb : V2.heap[V1.heap.size]? = some (.cells (frC v k s i d (.slice A1 L.length c1)) 31 (0, 0)) := by rw [← hV2]; exact World.alloc_heap_new _ _
    have hbV2 := hb1'.trans (hb12.mono hb1'.size)
    obtain ⟨hD2, hB2, hX2, _⟩ := hW1b j V HV.out V2 (hbV2.mono hsV)
    obtain ⟨_, kY2, _⟩ := hBX0 V2 hX2
    have hn2 : Nums .u8 V2 V2.heap.size A1 L := ((hn1'.nums (B := V1.heap.size) fun q hq => hq.2).below hb12).mono hb12.size
    obtain ⟨d0, d1, d2, d3, d4, d5⟩ := fr_block hfb
    have hyld := hY j x.1 x.2.2 A1 c1 V2 hD2 HXJ.out (by rw [HP.out]; exact hc1) (by rw [HP.out]; exact hn2) hB2
    rw [HP.out] at hyld
    simp only [frP] at hyld
    unfold frV frC at hyld
    unfold frC at hV2
    rw [← hV2] at hyld kY2
    obtain ⟨fn, tmps, assign, body, hy, hR⟩ := yield_any (n - 1 - 1 - 1) hyld
    have HR := Lib.hid hR
    have HBV := Lib.hid hbV2
    have HX2 := Lib.hid hX2
    have HV2 := Lib.hid hV2
    clear hR hD2 hB2 hX2 hn2 hyld hfb hb12 hb1' hn1' hbV2 hV2 kY kC d0 d1 d2 d3 d4 d5
    gi_wp2_with fail
    refine ⟨fun _ => by omega, ?_⟩
    refine RoundIn.mono (F := Fence.wide.inRound l') HR.out ?_
    rw [HV2.out]
    rintro e V3 (⟨rfl, ⟨hd, hb⟩, hk, hkb⟩ | ⟨rfl, hx, hkb⟩)
    · have hX3 := hBXk _ _ HX2.out hk
      have hfin := Lib.hid (show KeepsFrom w1.heap.size V V3 ∧ (Dn (j + 1) V3 ∧ Bk V3 ∧ BX V3 ∧ (j + 1 = 0 → Below w1.heap.size w1 V3)) ∧ KpC Bi V V3 from
        ⟨⟨Nat.le_trans HBV.out.size hk.size, fun q o h1 h2 h3 => hkb.same q o (by omega) (by omega) ((HBV.out.block q (Array.getElem?_eq_some_iff.1 h2).1).trans h2) h3⟩, ⟨hd, hb, hX3, fun h => by omega⟩, (KpC.of_below HBV.out).trans hk⟩)
      clear hd hb hk hkb hX3 HR
      gi_wp2
      exact hfin.out
    · have hfin := Lib.hid (show KeepsFrom w1.heap.size V V3 ∧ X V3 from
        ⟨⟨Nat.le_trans HBV.out.size hkb.size, fun q o h1 h2 h3 => hkb.same q o (by omega) (by omega) ((HBV.out.block q (Array.getElem?_eq_some_iff.1 h2).1).trans h2) h3⟩, hx⟩)
      clear hx hkb HR
      gi_wp2
      exact ⟨hfin.out.1, rfl, hfin.out.2⟩
  case iter =>
    intro Bk2 X2 l2 V hBk2 hBlt2 hX2 hl2 hDV hBV hYV
    have hb1V := hDV.2.2.2 rfl
    have hbWV := hb1.trans (hb1V.mono hb1.size)
    exact segments_in (n - 1) (by omega) (n - 1 - 1) l2 Bs m c Bi w1.heap.size A zs hm hl hz (fun j V => Dn j V ∧ Bk V ∧ BX V ∧ (j = 0 → Below w1.heap.size w1 V)) Bk2 X2 (by omega) hl2 (fun j A B h hb => hW1b j A h B hb) hBk2 hBlt2 hX2
      (fun j x W1 h1 h2 h3 h4 => hYV j x W1 ⟨h1, h2, h3⟩ h4 (by
        rcases Nat.lt_or_ge j (Fc.scan 0 [] zs).length with h | h
        · exact h
        · rw [List.getElem?_eq_none h] at h2; cases h2)) V ((hbWV.cell (p := ⟨Bs, 0, none⟩) hBsl).trans hBs) (Nat.lt_of_lt_of_le hBsl hbWV.size) ((hN.below hbWV).mono hbWV.size) hDV hBV
  case done =>
    rintro D V hD ⟨hDV, hBV, _, _⟩ hK
    have hfin := Lib.hid (And.intro (hDb _ _ _ hDV (below_put V (.deferred none) (Nat.le_trans hs01 hD))) (hBk _ _ hBV (by simp [World.putObj]) (fun k _ h2 => World.putObj_heap_other (by omega)) : Bk (V.putObj D (.deferred none))))
    clear hDV hBV hD1 hB1
    gi_wp2
    refine ⟨by simp, .inl ⟨_, _, rfl, run_takeDeferred hK, ?_⟩⟩
    refine ⟨_, results_none rfl _ _ _, ?_⟩
    exact ⟨⟨_, rfl⟩, .inl hfin.out⟩
  case stop =>
    rintro D cd V hD ⟨rfl, hx⟩ hK
    have hfin := Lib.hid (hX V D _ (.deferred none) hx (Nat.le_trans hs012 hD) hK rfl)
    clear hx
    gi_wp2
    refine ⟨by simp, .inl ⟨_, _, rfl, run_takeDeferred hK, ?_⟩⟩
    refine ⟨_, results_none rfl _ _ _, ?_⟩
    exact ⟨⟨_, rfl⟩, .inr hfin.out⟩
end Go.Proofs.YtbohdmconeebeaaDoor

namespace Go.Proofs
open Go.Shelf
def Tryd.lays283_ren : Go.Shelf.Ren := ⟨fun | 283 => 69 | n => n, fun | 3 => 3 | 9 => 9 | 4 => 4 | n => n, fun | n => n⟩
theorem Tryd.lays283 : Go.Proofs.Lays.n283 Tryd.prog Tryd.lays283_ren := {
  mixed := by kernel_rfl
  f283 := Tryd.func69.trans (congrArg some (by kernel_rfl))
  t3 := Tryd.underlying3
  a3 := Tryd.isAgg3
  z3 := Tryd.sizeOf3
  v3 := Tryd.zeroValue3
  t4 := Tryd.underlying4
  a4 := Tryd.isAgg4
  z4 := Tryd.sizeOf4
  v4 := Tryd.zeroValue4
  t9 := Tryd.underlying9
  a9 := Tryd.isAgg9
  z9 := Tryd.sizeOf9
  v9 := Tryd.zeroValue9 }
open Go.Lib in
theorem Tryd.internal_strconv_small (i : Nat) (h : i < 100) (w : World) :
    Calls Tryd.prog 69 #[.int .i64 i] w fun e w' => e = .returned (.string ⟨(Lib.decDigits i).toArray⟩) ∧ w' = w := Any.internal_strconv_small Tryd.lays283 i h w
def Tryd.laysM284_ren : Go.Shelf.Ren := ⟨fun | 284 => 70 | 129 => 83 | 317 => 82 | 318 => 84 | n => n, fun | 53 => 84 | 3 => 3 | 212 => 126 | 0 => 0 | 4 => 4 | 46 => 92 | 5 => 5 | 9 => 9 | n => n, fun | 17 => 0 | n => n⟩
theorem Tryd.laysM284 : Go.Proofs.LaysM.n284 Tryd.prog Tryd.laysM284_ren := {
  mixed := by kernel_rfl
  f129 := Tryd.func83.trans (congrArg some (by kernel_rfl))
  f284 := Tryd.func70.trans (congrArg some (by kernel_rfl))
  f317 := Tryd.func82.trans (congrArg some (by kernel_rfl))
  f318 := Tryd.func84.trans (congrArg some (by kernel_rfl))
  t0 := Tryd.underlying0
  a0 := Tryd.isAgg0
  z0 := Tryd.sizeOf0
  v0 := Tryd.zeroValue0
  t3 := Tryd.underlying3
  a3 := Tryd.isAgg3
  z3 := Tryd.sizeOf3
  v3 := Tryd.zeroValue3
  t4 := Tryd.underlying4
  a4 := Tryd.isAgg4
  z4 := Tryd.sizeOf4
  v4 := Tryd.zeroValue4
  t5 := Tryd.underlying5
  a5 := Tryd.isAgg5
  z5 := Tryd.sizeOf5
  v5 := Tryd.zeroValue5
  t9 := Tryd.underlying9
  a9 := Tryd.isAgg9
  z9 := Tryd.sizeOf9
  v9 := Tryd.zeroValue9
  t46 := Tryd.underlying92
  a46 := Tryd.isAgg92
  z46 := Tryd.sizeOf92
  v46 := Tryd.zeroValue92
  t53 := Tryd.underlying84
  a53 := Tryd.isAgg84
  z53 := Tryd.sizeOf84
  v53 := Tryd.zeroValue84
  t212 := Tryd.underlying126
  a212 := Tryd.isAgg126
  z212 := Tryd.sizeOf126
  v212 := Tryd.zeroValue126
  g17 := by kernel_rfl
  i0 := by kernel_rfl
  i3 := by kernel_rfl
  i4 := by kernel_rfl
  i5 := by kernel_rfl
  i9 := by kernel_rfl
  i46 := by kernel_rfl
  i53 := by kernel_rfl
  i212 := by kernel_rfl
  m17 := by kernel_rfl }
open Go.Lib in
theorem Tryd.internal_strconv_numDigits (u : Nat) (h1 : 1 ≤ u) (h2 : u < 18446744073709551616) (w : World) (htab : Lib.TabIs Tryd.prog w "internal/strconv.uint64pow10" .u64 Lib.pow10Tab) :
    Calls Tryd.prog 70 #[.int .u64 u] w fun e w' => e = .returned (.int .i64 (Lib.nDigits u)) ∧ w' = w := Any.internal_strconv_numDigits Tryd.laysM284 u h1 h2 w htab
def Tryd.lays285_ren : Go.Shelf.Ren := ⟨fun | 285 => 71 | n => n, fun | 37 => 29 | 53 => 84 | 3 => 3 | 4 => 4 | 51 => 26 | 9 => 9 | 5 => 5 | 0 => 0 | n => n, fun | n => n⟩
theorem Tryd.lays285 : Go.Proofs.Lays.n285 Tryd.prog Tryd.lays285_ren := {
  mixed := by kernel_rfl
  f285 := Tryd.func71.trans (congrArg some (by kernel_rfl))
  t0 := Tryd.underlying0
  a0 := Tryd.isAgg0
  z0 := Tryd.sizeOf0
  v0 := Tryd.zeroValue0
  t3 := Tryd.underlying3
  a3 := Tryd.isAgg3
  z3 := Tryd.sizeOf3
  v3 := Tryd.zeroValue3
  t4 := Tryd.underlying4
  a4 := Tryd.isAgg4
  z4 := Tryd.sizeOf4
  v4 := Tryd.zeroValue4
  t5 := Tryd.underlying5
  a5 := Tryd.isAgg5
  z5 := Tryd.sizeOf5
  v5 := Tryd.zeroValue5
  t9 := Tryd.underlying9
  a9 := Tryd.isAgg9
  z9 := Tryd.sizeOf9
  v9 := Tryd.zeroValue9
  t37 := Tryd.underlying29
  a37 := Tryd.isAgg29
  z37 := Tryd.sizeOf29
  v37 := Tryd.zeroValue29
  t51 := Tryd.underlying26
  a51 := Tryd.isAgg26
  z51 := Tryd.sizeOf26
  v51 := Tryd.zeroValue26
  t53 := Tryd.underlying84
  a53 := Tryd.isAgg84
  z53 := Tryd.sizeOf84
  v53 := Tryd.zeroValue84 }
open Go.RowKit Go.Sort Go.Lib in
theorem Tryd.internal_strconv_formatBase10 (blk off cap : Nat) (u : Nat) (d : Array UInt8) (w : World) (hH : Holds (fun (b : UInt8) => Value.int .u8 (b.toNat : Int)) w blk off d) (hu : u < 10 ^ d.size) (hu64 : u < 18446744073709551616) (hsz : d.size < 4611686018427387904) :
    Calls Tryd.prog 71 #[.slice (some ⟨blk, off, none⟩) d.size cap, .int .u64 u] w fun e w' =>
      e = .returned (.tuple #[]) ∧ ∃ (n v' : Nat) (dk : Array UInt8), w' = (putRow (fun (b : UInt8) => Value.int .u8 (b.toNat : Int)) w blk off dk).drewN n ∧ FmtInv d.size u 0 v' dk := Any.internal_strconv_formatBase10 Tryd.lays285 blk off cap u d w hH hu hu64 hsz
def Tryd.laysM171_ren : Go.Shelf.Ren := ⟨fun | 171 => 23 | 243 => 38 | 246 => 55 | 283 => 69 | 284 => 70 | 285 => 71 | 286 => 72 | 129 => 83 | 317 => 82 | 318 => 84 | 319 => 85 | 320 => 86 | 337 => 89 | 338 => 90 | n => n, fun | 3 => 3 | 9 => 9 | 2 => 2 | 4 => 4 | 171 => 114 | 0 => 0 | 53 => 84 | 37 => 29 | 5 => 5 | 173 => 117 | 212 => 126 | 51 => 26 | 20 => 20 | 213 => 127 | 46 => 92 | 232 => 140 | 233 => 141 | n => n, fun | 17 => 0 | 18 => 2 | 19 => 3 | n => n⟩
theorem Tryd.laysM171 : Go.Proofs.LaysM.n171 Tryd.prog Tryd.laysM171_ren := {
  mixed := by kernel_rfl
  f129 := Tryd.func83.trans (congrArg some (by kernel_rfl))
  f171 := Tryd.func23.trans (congrArg some (by kernel_rfl))
  f243 := Tryd.func38.trans (congrArg some (by kernel_rfl))
  f246 := Tryd.func55.trans (congrArg some (by kernel_rfl))
  f283 := Tryd.func69.trans (congrArg some (by kernel_rfl))
  f284 := Tryd.func70.trans (congrArg some (by kernel_rfl))
  f285 := Tryd.func71.trans (congrArg some (by kernel_rfl))
  f286 := Tryd.func72.trans (congrArg some (by kernel_rfl))
  f317 := Tryd.func82.trans (congrArg some (by kernel_rfl))
  f318 := Tryd.func84.trans (congrArg some (by kernel_rfl))
  f319 := Tryd.func85.trans (congrArg some (by kernel_rfl))
  f320 := Tryd.func86.trans (congrArg some (by kernel_rfl))
  f337 := Tryd.func89.trans (congrArg some (by kernel_rfl))
  f338 := Tryd.func90.trans (congrArg some (by kernel_rfl))
  t0 := Tryd.underlying0
  a0 := Tryd.isAgg0
  z0 := Tryd.sizeOf0
  v0 := Tryd.zeroValue0
  t2 := Tryd.underlying2
  a2 := Tryd.isAgg2
  z2 := Tryd.sizeOf2
  v2 := Tryd.zeroValue2
  t3 := Tryd.underlying3
  a3 := Tryd.isAgg3
  z3 := Tryd.sizeOf3
  v3 := Tryd.zeroValue3
  t4 := Tryd.underlying4
  a4 := Tryd.isAgg4
  z4 := Tryd.sizeOf4
  v4 := Tryd.zeroValue4
  t5 := Tryd.underlying5
  a5 := Tryd.isAgg5
  z5 := Tryd.sizeOf5
  v5 := Tryd.zeroValue5
  t9 := Tryd.underlying9
  a9 := Tryd.isAgg9
  z9 := Tryd.sizeOf9
  v9 := Tryd.zeroValue9
  t20 := Tryd.underlying20
  a20 := Tryd.isAgg20
  z20 := Tryd.sizeOf20
  v20 := Tryd.zeroValue20
  t37 := Tryd.underlying29
  a37 := Tryd.isAgg29
  z37 := Tryd.sizeOf29
  v37 := Tryd.zeroValue29
  t46 := Tryd.underlying92
  a46 := Tryd.isAgg92
  z46 := Tryd.sizeOf92
  v46 := Tryd.zeroValue92
  t51 := Tryd.underlying26
  a51 := Tryd.isAgg26
  z51 := Tryd.sizeOf26
  v51 := Tryd.zeroValue26
  t53 := Tryd.underlying84
  a53 := Tryd.isAgg84
  z53 := Tryd.sizeOf84
  v53 := Tryd.zeroValue84
  t171 := Tryd.underlying114
  a171 := Tryd.isAgg114
  z171 := Tryd.sizeOf114
  v171 := Tryd.zeroValue114
  t173 := Tryd.underlying117
  a173 := Tryd.isAgg117
  z173 := Tryd.sizeOf117
  v173 := Tryd.zeroValue117
  t212 := Tryd.underlying126
  a212 := Tryd.isAgg126
  z212 := Tryd.sizeOf126
  v212 := Tryd.zeroValue126
  t213 := Tryd.underlying127
  a213 := Tryd.isAgg127
  z213 := Tryd.sizeOf127
  t232 := Tryd.underlying140
  a232 := Tryd.isAgg140
  z232 := Tryd.sizeOf140
  v232 := Tryd.zeroValue140
  t233 := Tryd.underlying141
  a233 := Tryd.isAgg141
  z233 := Tryd.sizeOf141
  v233 := Tryd.zeroValue141
  g17 := by kernel_rfl
  g18 := by kernel_rfl
  g19 := by kernel_rfl
  i0 := by kernel_rfl
  i2 := by kernel_rfl
  i3 := by kernel_rfl
  i4 := by kernel_rfl
  i5 := by kernel_rfl
  i9 := by kernel_rfl
  i20 := by kernel_rfl
  i37 := by kernel_rfl
  i46 := by kernel_rfl
  i51 := by kernel_rfl
  i53 := by kernel_rfl
  i171 := by kernel_rfl
  i173 := by kernel_rfl
  i212 := by kernel_rfl
  i232 := by kernel_rfl
  i233 := by kernel_rfl
  m17 := by kernel_rfl
  m18 := by kernel_rfl
  m19 := by kernel_rfl }
open Go.RowKit Go.Sort Go.Lib in
theorem Tryd.strconv_Itoa (n : Int) (h0 : -9223372036854775808 ≤ n) (h1 : n ≤ 9223372036854775807) (w : World) (htab : Lib.TabIs Tryd.prog w "internal/strconv.uint64pow10" .u64 Lib.pow10Tab) :
    Calls Tryd.prog 23 #[.int .i64 n] w fun e w' => e = .returned (.string ⟨(Lib.itoa n).toArray⟩) ∧ ∃ k os, w' = grow (w.drewN k) os := Any.strconv_Itoa Tryd.laysM171 n h0 h1 w htab
end Go.Proofs

namespace Go.Proofs.YtbohdmconeebeaaDoor
open Go.RowKit Go.Sort
set_option maxRecDepth 100000

/-- the table of powers of ten is as its text lays it, in a block below B -/
def Tens (w : World) (B : Nat) : Prop := Lib.TabIs Tryd.prog w "internal/strconv.uint64pow10" .u64 Lib.pow10Tab ∧ ∀ g, Tryd.prog.globalNamed "internal/strconv.uint64pow10" = some g → g < B
theorem Tens.below {w w' : World} {B : Nat} (h : Tens w B) (hb : Below B w w') : Tens w' B := by
  refine ⟨?_, h.2⟩
  have h1 := h.1
  unfold Lib.TabIs World.var? at *
  cases hg : Tryd.prog.globalNamed "internal/strconv.uint64pow10" with
  | none => rw [hg] at h1; simp at h1
  | some g =>
    rw [hg] at h1
    simp only [Option.bind_some] at h1 ⊢
    rw [hb.block g (h.2 g hg)]
    exact h1
theorem Tens.mono {w : World} {B B' : Nat} (h : Tens w B) (hB : B ≤ B') : Tens w B' := ⟨h.1, fun g hg => Nat.lt_of_lt_of_le (h.2 g hg) hB⟩
theorem Tens.of {w : World} (h : Lib.TabIs Tryd.prog w "internal/strconv.uint64pow10" .u64 Lib.pow10Tab) : Tens w w.heap.size := by
  refine ⟨h, fun g hg => ?_⟩
  unfold Lib.TabIs World.var? at h
  rw [hg] at h
  rcases Nat.lt_or_ge g w.heap.size with h1 | h1
  · exact h1
  · rw [Option.bind_some, Array.getElem?_eq_none h1] at h; simp at h

theorem below_grow (w : World) (k : Nat) (os : Array Obj) : Below w.heap.size w (grow (w.drewN k) os) :=
  ⟨rfl, rfl, rfl, by simp [grow, World.drewN], fun j hj => by simp only [grow]; rw [Array.getElem?_append_left (by simpa [World.drewN] using hj)]; rfl⟩

theorem itoa_any (n : Int) (h0 : -9223372036854775808 ≤ n) (h1 : n ≤ 9223372036854775807) (B : Nat) (w : World) (ht : Tens w B) :
    Calls Tryd.prog 23 #[.int .i64 n] w fun e w' => e = .returned (.string ⟨(Lib.itoa n).toArray⟩) ∧ Below w.heap.size w w' :=
  (Tryd.strconv_Itoa n h0 h1 w ht.1).mono fun e w' ⟨h, k, os, hw⟩ => ⟨h, by rw [hw]; exact below_grow w k os⟩

theorem holds_zero0 (w : World) (T : TypeId) (nd : Nat) (hs : nd ≤ 24) : Holds (fun (b : UInt8) => Value.int .u8 (b.toNat : Int)) (w.alloc (.cells Lib.zeros24 T)) w.heap.size 0 (Array.replicate nd (0 : UInt8)) := fun j hj => by
  have hj' : j < nd := by simpa using hj
  refine ⟨?_, World.frozen?_alloc_new _ _ _ _⟩
  rw [World.cell?_alloc_new, Lib.zeros24_at _ (by omega), getElem!_pos _ j hj]
  simp
theorem fin_zero (w : World) (o : Obj) (dk : Array UInt8) (k : Nat) : Below w.heap.size w ((putRow (fun (b : UInt8) => Value.int .u8 (b.toNat : Int)) (w.alloc o) w.heap.size 0 dk).drewN k) := by
  rw [alloc_eq_grow]
  obtain ⟨os', _, e⟩ := putRow_grow_new (fun (b : UInt8) => Value.int .u8 (b.toNat : Int)) w #[o] w.heap.size 0 dk (Nat.le_refl _)
  rw [e]
  exact below_grow w k os'

set_option maxHeartbeats 6400000 in
theorem fmtu_in (u : Nat) (hu64 : u < 18446744073709551616) (B : Nat) (w : World) (ht : Tens w B) :
    Calls Tryd.prog 54 #[.int .u64 (u : Int), .int .i64 10] w fun e w' => e = .returned (.string ⟨(Lib.decDigits u).toArray⟩) ∧ Below w.heap.size w w' := by
  by_cases hs : u < 100
  · go_enter Tryd.func54, Tryd.ntmps54
    go_wp2_with (go_at_call 69; refine (Tryd.internal_strconv_small u hs _).mono ?_; rintro e w' ⟨rfl, rfl⟩)
    go_ret
    exact ⟨rfl, Below.refl _ _⟩
  · have hu1 : 1 ≤ u := by omega
    have hnd20 : Lib.nDigits u ≤ 20 := by have := Lib.numDigits_eq u hu1 hu64; split at this <;> omega
    have hal : Tryd.prog.arrayLen 114 = 24 := by simp [Program.arrayLen, Tryd.underlying114]
    have hsl : ∀ W, (Instr.sliceAt 114 (.pointer (some ⟨w.heap.size, 0, none⟩)) none (some (.int .i64 (Lib.nDigits u : Int))) none).run Tryd.prog W = .ok (.slice (some ⟨w.heap.size, 0, none⟩) (Lib.nDigits u) 24) W := fun W => by
      rw [run_sliceAt_array_h W 114 ⟨w.heap.size, 0, none⟩ (by simp [Program.arrayLen, Program.elem, Tryd.underlying114]) .i64 (Lib.nDigits u : Int) (by omega) (by rw [hal]; omega)]
      go_simp
    have hH0 := holds_zero0 w 114 (Lib.nDigits u) (by omega)
    have hfmt := Tryd.internal_strconv_formatBase10 w.heap.size 0 24 u (Array.replicate (Lib.nDigits u) 0) (w.alloc (.cells Lib.zeros24 114)) hH0 (by rw [Array.size_replicate]; exact Lib.lt_pow_nDigits u) hu64 (by rw [Array.size_replicate]; omega)
    rw [Array.size_replicate] at hfmt
    have HH0 := Lib.hid hH0
    clear hH0 hal
    go_enter Tryd.func54, Tryd.ntmps54
    go_wp2_with (go_at_call 70; refine (Tryd.internal_strconv_numDigits u hu1 hu64 _ (Lib.tabIs_alloc ht.1 _)).mono ?_; rintro e w' ⟨rfl, rfl⟩)
    go_at_call 71
    refine hfmt.mono ?_
    rintro e w' ⟨rfl, k, v', dk, rfl, hF⟩
    have hcv : (convert 29 9 (.slice (some ⟨w.heap.size, 0, none⟩) (Lib.nDigits u) 24)).run Tryd.prog ((putRow (fun (b : UInt8) => Value.int .u8 (b.toNat : Int)) (w.alloc (.cells Lib.zeros24 114)) w.heap.size 0 dk).drewN k) = .ok (.string ⟨(Lib.decDigits u).toArray⟩) ((putRow (fun (b : UInt8) => Value.int .u8 (b.toNat : Int)) (w.alloc (.cells Lib.zeros24 114)) w.heap.size 0 dk).drewN k) := by
      have h := run_convert_bytes_back (P := Tryd.prog) ((putRow (fun (b : UInt8) => Value.int .u8 (b.toNat : Int)) (w.alloc (.cells Lib.zeros24 114)) w.heap.size 0 dk).drewN k) 29 9 5 ⟨w.heap.size, 0, none⟩ 24 (Lib.decDigits u) Tryd.underlying29 Tryd.underlying5 Tryd.underlying9 (fun j hj => by
        rw [Lib.row_is_numeral hF j hj, Lib.add_plain, World.cell?_drewN]
        exact cell?_putRow (fun (b : UInt8) => Value.int .u8 (b.toNat : Int)) _ w.heap.size 0 _ dk HH0.out (by rw [hF.size, Array.size_replicate]) j (by rw [hF.size]; rw [Lib.decDigits_length] at hj; exact hj))
      rw [Lib.decDigits_length] at h
      exact h
    go_wp2
    go_ret
    exact ⟨rfl, fin_zero w _ dk k⟩

theorem fmtu_any (u : Nat) (hu64 : u < 18446744073709551616) (B : Nat) (w : World) (ht : Tens w B) :
    Calls Tryd.prog 37 #[.int .u64 (u : Int), .int .i64 10] w fun e w' => e = .returned (.string ⟨(Lib.decDigits u).toArray⟩) ∧ Below w.heap.size w w' := by
  have H := fmtu_in u hu64 B w ht
  go_enter Tryd.func37, Tryd.ntmps37
  go_wp2_with (go_at_call 54; refine H.mono ?_; rintro e w' ⟨rfl, hb⟩)
  go_ret
  exact ⟨rfl, hb⟩
end Go.Proofs.YtbohdmconeebeaaDoor

namespace Go.Proofs.YtbohdmconeebeaaDoor
open Go.RowKit
set_option maxRecDepth 100000

/-- the line of a head, of its numerals -/
def lineB (a b c d e : ByteArray) : ByteArray := ({ data := #[118, 32] } : ByteArray) ++ a ++ { data := #[32, 107, 32] } ++ b ++ { data := #[32] } ++ c ++ { data := #[32] } ++ d ++ { data := #[47] } ++ e
/-- .. of its numbers -/
def lineZ (v k s i c : Int) : ByteArray := lineB ⟨(Lib.itoa v).toArray⟩ ⟨(Lib.itoa k).toArray⟩ ⟨(Lib.itoa s).toArray⟩ ⟨(Lib.itoa i).toArray⟩ ⟨(Lib.itoa c).toArray⟩

theorem nDigits_le {u : Nat} (h : u < 18446744073709551616) : Lib.nDigits u ≤ 20 := by
  rcases Nat.eq_zero_or_pos u with h0 | h0
  · subst h0; rw [Lib.nDigits_small (by omega)]; omega
  · have := Lib.numDigits_eq u h0 h
    split at this <;> omega
theorem itoa_len {n : Int} (h : -9223372036854775808 ≤ n ∧ n ≤ 9223372036854775807) : (⟨(Lib.itoa n).toArray⟩ : ByteArray).size ≤ 21 := by
  show (Lib.itoa n).toArray.size ≤ 21
  simp only [List.size_toArray]
  unfold Lib.itoa
  split
  · rw [List.length_cons, Lib.decDigits_length]; have := @nDigits_le n.natAbs (by omega); omega
  · rw [Lib.decDigits_length]; have := @nDigits_le n.toNat (by omega); omega
theorem dec_len {u : Nat} (h : u < 18446744073709551616) : (⟨(Lib.decDigits u).toArray⟩ : ByteArray).size ≤ 21 := by
  show (Lib.decDigits u).toArray.size ≤ 21
  simp only [List.size_toArray]
  rw [Lib.decDigits_length]; have := nDigits_le h; omega

set_option maxHeartbeats 4000000 in
theorem hline_any (v k s i c : Int) (hv : -9223372036854775808 ≤ v ∧ v ≤ 9223372036854775807) (hk : -9223372036854775808 ≤ k ∧ k ≤ 9223372036854775807) (hi : -9223372036854775808 ≤ i ∧ i ≤ 9223372036854775807) (hc : -9223372036854775808 ≤ c ∧ c ≤ 9223372036854775807)
    (hs : 0 ≤ s ∧ s ≤ 4294967295) (B : Nat) (w : World) (ht : Tens w B) (hB : B ≤ w.heap.size) :
    Calls Tryd.prog 22 #[hdV v k s i c] w fun e w' => e = .returned (.string (lineZ v k s i c)) ∧ Below w.heap.size w w' := by
  unfold hdV
  obtain ⟨w0, hw0⟩ : ∃ w0, w.alloc (.cells #[.int .i64 v, .int .i64 k, .int .u32 s, .int .i64 i, .int .i64 c] 28) = w0 := ⟨_, rfl⟩
  have hs0 : w0.heap.size = w.heap.size + 1 := by rw [← hw0]; simp
  have hb0 : Below w.heap.size w w0 := by rw [← hw0]; exact (Below.refl _ w).alloc (Nat.le_refl _) _
  have hd : ∀ W, Below w0.heap.size w0 W → W.cell? ⟨w.heap.size, 0, none⟩ = some (.int .i64 v) ∧ W.cell? ⟨w.heap.size, 1, none⟩ = some (.int .i64 k) ∧ W.cell? ⟨w.heap.size, 2, none⟩ = some (.int .u32 s) ∧ W.cell? ⟨w.heap.size, 3, none⟩ = some (.int .i64 i) ∧ W.cell? ⟨w.heap.size, 4, none⟩ = some (.int .i64 c) := fun W hW => by
    rw [← hw0] at hW; exact hd_cells hW
  have hT : ∀ W, Below w0.heap.size w0 W → Tens W B := fun W hW => (ht.below (hb0.mono hB)).below (hW.mono (by omega))
  have HW := Lib.hid hw0
  have cv := fun W hW => itoa_any v hv.1 hv.2 B W (hT W hW)
  have ck := fun W hW => itoa_any k hk.1 hk.2 B W (hT W hW)
  have ci := fun W hW => itoa_any i hi.1 hi.2 B W (hT W hW)
  have cc := fun W hW => itoa_any c hc.1 hc.2 B W (hT W hW)
  have lv := itoa_len hv
  have lk := itoa_len hk
  have li := itoa_len hi
  have lc := itoa_len hc
  clear hw0
  obtain ⟨u, rfl⟩ : ∃ u : Nat, s = (u : Int) := ⟨s.toNat, by omega⟩
  have hu : u < 18446744073709551616 := by omega
  have cs := fun W hW => fmtu_any u hu B W (hT W hW)
  have ls := dec_len hu
  have hz : lineZ v k (u : Int) i c = lineB ⟨(Lib.itoa v).toArray⟩ ⟨(Lib.itoa k).toArray⟩ ⟨(Lib.decDigits u).toArray⟩ ⟨(Lib.itoa i).toArray⟩ ⟨(Lib.itoa c).toArray⟩ := by unfold lineZ; rw [Lib.itoa_nonneg]
  rw [hz]
  unfold lineB
  clear hz
  generalize (⟨(Lib.itoa v).toArray⟩ : ByteArray) = tv at *
  generalize (⟨(Lib.itoa k).toArray⟩ : ByteArray) = tk at *
  generalize (⟨(Lib.itoa i).toArray⟩ : ByteArray) = ti at *
  generalize (⟨(Lib.itoa c).toArray⟩ : ByteArray) = tc at *
  generalize (⟨(Lib.decDigits u).toArray⟩ : ByteArray) = ts at *
  go_enter Tryd.func22, Tryd.ntmps22
  go_wp2_with fail
  rw [HW.out]
  refine wp_region_F 28 [] (fun _ _ _ => False) (fun W => Below w0.heap.size w0 W) (by kernel_rfl) (by kernel_rfl) (by rfl) (by simp) (fun W W' h hb => h.trans (hb.mono h.size)) (fun s v W W' h hb => h) (Below.refl _ _).drew ?_
  refine wpF_pure rfl rfl ?_; go_big_quiet_step (fail); refine wpQuiet_nil ?_
  refine wpF_load (.int .i64 v) rfl (by rfl) (by rfl) (by rfl) (fun W hW => by have := (hd W hW).1; simp [Instr.loadAt, go_sem, this]) ?_
  simp only [Act.put, List.setIfInBounds_toArray, List.set_cons_succ, List.set_cons_zero]
  refine wpF_call (f := 23) (args := #[.int .i64 v]) (.string tv) rfl rfl (fun x => by first | rfl | (simp [go_sem]; done)) (fun W hW => cv W hW) ?_
  simp only [Act.put, List.setIfInBounds_toArray, List.set_cons_succ, List.set_cons_zero]
  refine wpF_pure rfl rfl ?_; go_big_quiet_step (fail); refine wpQuiet_nil ?_
  refine wpF_pure rfl rfl ?_; go_big_quiet_step (fail); refine wpQuiet_nil ?_
  refine wpF_pure rfl rfl ?_; go_big_quiet_step (fail); refine wpQuiet_nil ?_
  refine wpF_load (.int .i64 k) rfl (by rfl) (by rfl) (by rfl) (fun W hW => by have := (hd W hW).2.1; simp [Instr.loadAt, go_sem, this]) ?_
  simp only [Act.put, List.setIfInBounds_toArray, List.set_cons_succ, List.set_cons_zero]
  refine wpF_call (f := 23) (args := #[.int .i64 k]) (.string tk) rfl rfl (fun x => by first | rfl | (simp [go_sem]; done)) (fun W hW => ck W hW) ?_
  simp only [Act.put, List.setIfInBounds_toArray, List.set_cons_succ, List.set_cons_zero]
  refine wpF_pure rfl rfl ?_; go_big_quiet_step (fail); refine wpQuiet_nil ?_
  refine wpF_pure rfl rfl ?_; go_big_quiet_step (fail); refine wpQuiet_nil ?_
  refine wpF_pure rfl rfl ?_; go_big_quiet_step (fail); refine wpQuiet_nil ?_
  refine wpF_load (.int .u32 (u : Int)) rfl (by rfl) (by rfl) (by rfl) (fun W hW => by have := (hd W hW).2.2.1; simp [Instr.loadAt, go_sem, this]) ?_
  simp only [Act.put, List.setIfInBounds_toArray, List.set_cons_succ, List.set_cons_zero]
  refine wpF_pure rfl rfl ?_; go_big_quiet_step (fail); refine wpQuiet_nil ?_
  refine wpF_call (f := 37) (args := #[.int .u64 (u : Int), .int .i64 10]) (.string ts) rfl rfl (fun x => by first | rfl | (simp [go_sem]; done)) (fun W hW => cs W hW) ?_
  simp only [Act.put, List.setIfInBounds_toArray, List.set_cons_succ, List.set_cons_zero]
  refine wpF_pure rfl rfl ?_; go_big_quiet_step (fail); refine wpQuiet_nil ?_
  refine wpF_pure rfl rfl ?_; go_big_quiet_step (fail); refine wpQuiet_nil ?_
  refine wpF_pure rfl rfl ?_; go_big_quiet_step (fail); refine wpQuiet_nil ?_
  refine wpF_load (.int .i64 i) rfl (by rfl) (by rfl) (by rfl) (fun W hW => by have := (hd W hW).2.2.2.1; simp [Instr.loadAt, go_sem, this]) ?_
  simp only [Act.put, List.setIfInBounds_toArray, List.set_cons_succ, List.set_cons_zero]
  refine wpF_call (f := 23) (args := #[.int .i64 i]) (.string ti) rfl rfl (fun x => by first | rfl | (simp [go_sem]; done)) (fun W hW => ci W hW) ?_
  simp only [Act.put, List.setIfInBounds_toArray, List.set_cons_succ, List.set_cons_zero]
  refine wpF_pure rfl rfl ?_; go_big_quiet_step (fail); refine wpQuiet_nil ?_
  refine wpF_pure rfl rfl ?_; go_big_quiet_step (fail); refine wpQuiet_nil ?_
  refine wpF_pure rfl rfl ?_; go_big_quiet_step (fail); refine wpQuiet_nil ?_
  refine wpF_load (.int .i64 c) rfl (by rfl) (by rfl) (by rfl) (fun W hW => by have := (hd W hW).2.2.2.2; simp [Instr.loadAt, go_sem, this]) ?_
  simp only [Act.put, List.setIfInBounds_toArray, List.set_cons_succ, List.set_cons_zero]
  refine wpF_call (f := 23) (args := #[.int .i64 c]) (.string tc) rfl rfl (fun x => by first | rfl | (simp [go_sem]; done)) (fun W hW => cc W hW) ?_
  simp only [Act.put, List.setIfInBounds_toArray, List.set_cons_succ, List.set_cons_zero]
  refine wpF_pure rfl rfl ?_; go_big_quiet_step (fail); refine wpQuiet_nil ?_
  refine wpF_pure rfl rfl ?_; go_big_quiet_step (fail); refine wpQuiet_nil ?_
  intro xs W hW _
  simp only [fill]
  go_wp2
  go_ret
  exact ⟨rfl, hb0.trans (hW.mono (by omega))⟩
end Go.Proofs.YtbohdmconeebeaaDoor

namespace Go.Proofs.YtbohdmconeebeaaDoor
open Go.RowKit
set_option maxRecDepth 100000

theorem line77 : lineZ 2 4 77 0 3 = { data := #[118, 32, 50, 32, 107, 32, 52, 32, 55, 55, 32, 48, 47, 51] } := by
  unfold lineZ
  rw [show (2 : Int) = ((2 : Nat) : Int) from rfl, show (4 : Int) = ((4 : Nat) : Int) from rfl, show (77 : Int) = ((77 : Nat) : Int) from rfl, show (0 : Int) = ((0 : Nat) : Int) from rfl, show (3 : Int) = ((3 : Nat) : Int) from rfl]
  rw [Lib.itoa_nonneg, Lib.itoa_nonneg, Lib.itoa_nonneg, Lib.itoa_nonneg, Lib.itoa_nonneg, Lib.decDigits_one (by omega), Lib.decDigits_one (by omega), Lib.decDigits_two (by omega) (by omega), Lib.decDigits_one (by omega), Lib.decDigits_one (by omega)]
  rfl

/-- whether two heads are alike but for the index -/
def mateZ (v k s c v' k' s' c' : Int) : Bool := decide (v = v' ∧ k = k' ∧ s = s' ∧ c = c')
end Go.Proofs.YtbohdmconeebeaaDoor

namespace Go.Proofs.YtbohdmconeebeaaDoor
open Go.RowKit
set_option maxRecDepth 100000

end Go.Proofs.YtbohdmconeebeaaDoor

namespace Go.Proofs.YtbohdmconeebeaaDoor
open Go.RowKit
set_option maxRecDepth 100000

/-- one byte as a string -/
theorem conv_one (w : World) (z : Int) (d : UInt8) (h : z = (d.toNat : Int)) :
    (convert 29 9 (.slice (some ⟨w.heap.size, 0, none⟩) 1 1)).run Tryd.prog (w.alloc (.cells #[.int .u8 z] 5)) = .ok (.string ⟨#[d]⟩) (w.alloc (.cells #[.int .u8 z] 5)) := by
  have := run_convert_bytes_back (P := Tryd.prog) (w.alloc (.cells #[.int .u8 z] 5)) 29 9 5 ⟨w.heap.size, 0, none⟩ 1 [d] Tryd.underlying29 Tryd.underlying5 Tryd.underlying9 (fun j hj => by
    obtain rfl : j = 0 := by simpa using hj
    simp [Addr.add, h])
  exact this

/-- the digits that stand behind those of u -/
def Behind (u0 u : Nat) (B : ByteArray) : Prop := ∃ bs : List UInt8, B = ⟨bs.toArray⟩ ∧ Lib.decDigits u0 = Lib.decDigits u ++ bs
theorem Behind.size {u0 u : Nat} {B : ByteArray} (h0 : u0 < 18446744073709551616) (h : Behind u0 u B) : B.size ≤ 20 := by
  obtain ⟨bs, rfl, e⟩ := h
  have h1 := congrArg List.length e
  rw [List.length_append, Lib.decDigits_length] at h1
  have := nDigits_le h0
  show bs.toArray.size ≤ 20
  simp only [List.size_toArray]
  omega
theorem Behind.step {u0 u : Nat} {B : ByteArray} (h : Behind u0 u B) (hu : ¬ u < 10) : Behind u0 (u / 10) (({ data := #[UInt8.ofNat (48 + u % 10)] } : ByteArray) ++ B) := by
  obtain ⟨bs, rfl, e⟩ := h
  refine ⟨UInt8.ofNat (48 + u % 10) :: bs, ?_, ?_⟩
  · apply ByteArray.ext
    simp
  · rw [e, Lib.decDigits, dif_neg hu, List.append_assoc]; rfl
theorem Behind.last {u0 u : Nat} {B : ByteArray} (h : Behind u0 u B) (hu : u < 10) : (({ data := #[UInt8.ofNat (48 + u)] } : ByteArray) ++ B) = ⟨(Lib.decDigits u0).toArray⟩ := by
  obtain ⟨bs, rfl, e⟩ := h
  rw [e, Lib.decDigits_one hu]
  apply ByteArray.ext
  simp
theorem dig_nat {u : Nat} (hu : u < 10) : (48 + (u : Int)) = ((UInt8.ofNat (48 + u)).toNat : Int) := by
  rw [UInt8.toNat_ofNat']; omega

set_option maxHeartbeats 1000000 in
theorem rdigits_pos (u0 : Nat) (h0 : u0 ≤ 9223372036854775807) (w : World) :
    Calls Tryd.prog 25 #[.int .i64 (u0 : Int)] w fun e w' => e = .returned (.string ⟨(Lib.decDigits u0).toArray⟩) ∧ Below w.heap.size w w' := by
  have H0 := Lib.hid (show u0 < 18446744073709551616 by omega)
  go_enter Tryd.func25, Tryd.ntmps25
  go_wp2
  go_loopw [0, 4] (fun nv ov wr => ∃ (u : Nat) (B : ByteArray), u ≤ 9223372036854775807 ∧ nv = .int .i64 (u : Int) ∧ ov = .string B ∧ Hid (Behind u0 u B) ∧ Below w.heap.size w wr) (fun nv _ _ => (intOf nv).toNat)
  case atStart => exact ⟨u0, _, h0, rfl, rfl, ⟨[], rfl, by simp⟩, Below.refl _ _⟩
  case round =>
    obtain ⟨u, B, hu, rfl, rfl, HB, hb⟩ := hrel
    have hsz := HB.out.size H0.out
    by_cases h1 : u < 10
    · have h2 : ¬ (10 : Int) ≤ (u : Int) := by omega
      have hcv := conv_one wr (48 + (u : Int)) (UInt8.ofNat (48 + u)) (dig_nat h1)
      have HL := Lib.hid (HB.out.last h1)
      obtain ⟨d, hd⟩ : ∃ d, UInt8.ofNat (48 + u) = d := ⟨_, rfl⟩
      rw [hd] at hcv HL
      clear hd
      go_wp2
      go_ret
      exact ⟨congrArg (fun x => Ending.returned (.string x)) HL.out, hb.alloc hb.size _⟩
    · have h2 : (10 : Int) ≤ (u : Int) := by omega
      have h3 : ((u / 10 : Nat) : Int) = (u : Int) / 10 := by omega
      have hcv := conv_one wr (48 + (u : Int) % 10) (UInt8.ofNat (48 + u % 10)) (by rw [← dig_nat (by omega)]; omega)
      have HS := Lib.hid (HB.out.step h1)
      obtain ⟨d, hd⟩ : ∃ d, UInt8.ofNat (48 + u % 10) = d := ⟨_, rfl⟩
      rw [hd] at hcv HS
      clear hd
      go_wp2
      go_roundw
      case rel => exact ⟨u / 10, _, by omega, by rw [h3], rfl, HS, hb.alloc hb.size _⟩
      case measure => simp [intOf]; omega

/-- as Behind, of a number that has been turned down to nought -/
def Gone (u0 u : Nat) (B : ByteArray) : Prop := (0 < u → Behind u0 u B) ∧ (u = 0 → B = ⟨(Lib.decDigits u0).toArray⟩)
theorem Gone.step {u0 u : Nat} {B : ByteArray} (h : Gone u0 u B) (hu : 0 < u) : Gone u0 (u / 10) (({ data := #[UInt8.ofNat (48 + u % 10)] } : ByteArray) ++ B) := by
  have hb := h.1 hu
  by_cases h1 : u < 10
  · refine ⟨fun h2 => by omega, fun _ => ?_⟩
    rw [Nat.mod_eq_of_lt h1]
    exact hb.last h1
  · exact ⟨fun _ => hb.step h1, fun h2 => by omega⟩
theorem Gone.size {u0 u : Nat} {B : ByteArray} (h0 : u0 < 18446744073709551616) (h : Gone u0 u B) : B.size ≤ 20 := by
  rcases Nat.eq_zero_or_pos u with h1 | h1
  · rw [h.2 h1]
    show (Lib.decDigits u0).toArray.size ≤ 20
    simp only [List.size_toArray]
    rw [Lib.decDigits_length]; exact nDigits_le h0
  · exact (h.1 h1).size h0

set_option maxHeartbeats 1000000 in
theorem rdigits_neg (u0 : Nat) (hp : 0 < u0) (h0 : u0 ≤ 9223372036854775808) (w : World) :
    Calls Tryd.prog 25 #[.int .i64 (-(u0 : Int))] w fun e w' => e = .returned (.string ⟨(Lib.itoa (-(u0 : Int))).toArray⟩) ∧ Below w.heap.size w w' := by
  have H0 := Lib.hid (show u0 < 18446744073709551616 by omega)
  have HI := Lib.hid (Lib.itoa_neg u0 hp)
  have hneg : -(u0 : Int) < 0 := by omega
  go_enter Tryd.func25, Tryd.ntmps25
  go_wp2
  go_loopw [0, 3] (fun nv ov wr => ∃ (u : Nat) (B : ByteArray), u ≤ 9223372036854775808 ∧ nv = .int .i64 (-(u : Int)) ∧ ov = .string B ∧ Hid (Gone u0 u B) ∧ Below w.heap.size w wr) (fun nv _ _ => (-(intOf nv)).toNat)
  case atStart => exact ⟨u0, _, h0, rfl, rfl, ⟨fun _ => ⟨[], rfl, by simp⟩, fun h => by omega⟩, Below.refl _ _⟩
  case round =>
    obtain ⟨u, B, hu, rfl, rfl, HB, hb⟩ := hrel
    have hsz := HB.out.size H0.out
    by_cases h1 : u = 0
    · subst h1
      have h2 : ¬ (-((0 : Nat) : Int)) < 0 := by omega
      have HL := Lib.hid (HB.out.2 rfl)
      go_wp2
      go_ret
      exact ⟨congrArg (fun x => Ending.returned (.string x)) (by rw [HL.out, HI.out]; apply ByteArray.ext; simp), hb⟩
    · have h2 : -(u : Int) < 0 := by omega
      have h3 : ((u / 10 : Nat) : Int) = (u : Int) / 10 := by omega
      have HS := Lib.hid (HB.out.step (by omega))
      have hcv := conv_one wr (48 + (u : Int) % 10) (UInt8.ofNat (48 + u % 10)) (by rw [← dig_nat (by omega)]; omega)
      obtain ⟨d, hd⟩ : ∃ d, UInt8.ofNat (48 + u % 10) = d := ⟨_, rfl⟩
      rw [hd] at hcv HS
      clear hd
      go_wp2
      go_roundw
      case rel => exact ⟨u / 10, _, by omega, by rw [h3], rfl, HS, hb.alloc hb.size _⟩
      case measure => simp [intOf]; omega

theorem rdigits_any (n : Int) (h : -9223372036854775808 ≤ n ∧ n ≤ 9223372036854775807) (w : World) :
    Calls Tryd.prog 25 #[.int .i64 n] w fun e w' => e = .returned (.string ⟨(Lib.itoa n).toArray⟩) ∧ Below w.heap.size w w' := by
  by_cases h0 : n < 0
  · obtain ⟨u, rfl⟩ : ∃ u : Nat, n = -(u : Int) := ⟨n.natAbs, by omega⟩
    exact rdigits_neg u (by omega) (by omega) w
  · obtain ⟨u, rfl⟩ : ∃ u : Nat, n = (u : Int) := ⟨n.toNat, by omega⟩
    rw [Lib.itoa_nonneg]
    exact rdigits_pos u (by omega) w
end Go.Proofs.YtbohdmconeebeaaDoor

namespace Go.Proofs.YtbohdmconeebeaaDoor
open Go.RowKit
set_option maxRecDepth 100000

set_option maxHeartbeats 4000000 in
theorem rline_any (v k s i c : Int) (hv : -9223372036854775808 ≤ v ∧ v ≤ 9223372036854775807) (hk : -9223372036854775808 ≤ k ∧ k ≤ 9223372036854775807) (hi : -9223372036854775808 ≤ i ∧ i ≤ 9223372036854775807) (hc : -9223372036854775808 ≤ c ∧ c ≤ 9223372036854775807)
    (hs : 0 ≤ s ∧ s ≤ 4294967295) (w : World) :
    Calls Tryd.prog 24 #[hdV v k s i c] w fun e w' => e = .returned (.string (lineZ v k s i c)) ∧ Below w.heap.size w w' := by
  unfold hdV
  obtain ⟨w0, hw0⟩ : ∃ w0, w.alloc (.cells #[.int .i64 v, .int .i64 k, .int .u32 s, .int .i64 i, .int .i64 c] 33) = w0 := ⟨_, rfl⟩
  have hs0 : w0.heap.size = w.heap.size + 1 := by rw [← hw0]; simp
  have hb0 : Below w.heap.size w w0 := by rw [← hw0]; exact (Below.refl _ w).alloc (Nat.le_refl _) _
  have hd : ∀ W, Below w0.heap.size w0 W → W.cell? ⟨w.heap.size, 0, none⟩ = some (.int .i64 v) ∧ W.cell? ⟨w.heap.size, 1, none⟩ = some (.int .i64 k) ∧ W.cell? ⟨w.heap.size, 2, none⟩ = some (.int .u32 s) ∧ W.cell? ⟨w.heap.size, 3, none⟩ = some (.int .i64 i) ∧ W.cell? ⟨w.heap.size, 4, none⟩ = some (.int .i64 c) := fun W hW => by
    rw [← hw0] at hW; exact hd_cells hW
  have HW := Lib.hid hw0
  have cv := rdigits_any v hv
  have ck := rdigits_any k hk
  have cs := rdigits_any s (by omega)
  have ci := rdigits_any i hi
  have cc := rdigits_any c hc
  have lv := itoa_len hv
  have lk := itoa_len hk
  have ls := itoa_len (n := s) (by omega)
  have li := itoa_len hi
  have lc := itoa_len hc
  clear hw0
  unfold lineZ lineB
  generalize (⟨(Lib.itoa v).toArray⟩ : ByteArray) = tv at *
  generalize (⟨(Lib.itoa k).toArray⟩ : ByteArray) = tk at *
  generalize (⟨(Lib.itoa s).toArray⟩ : ByteArray) = ts at *
  generalize (⟨(Lib.itoa i).toArray⟩ : ByteArray) = ti at *
  generalize (⟨(Lib.itoa c).toArray⟩ : ByteArray) = tc at *
  go_enter Tryd.func24, Tryd.ntmps24
  go_wp2_with fail
  rw [HW.out]
  refine wp_region_F 28 [] (fun _ _ _ => False) (fun W => Below w0.heap.size w0 W) (by kernel_rfl) (by kernel_rfl) (by rfl) (by simp) (fun W W' h hb => h.trans (hb.mono h.size)) (fun s v W W' h hb => h) (Below.refl _ _).drew ?_
  refine wpF_pure rfl rfl ?_; go_big_quiet_step (fail); refine wpQuiet_nil ?_
  refine wpF_load (.int .i64 v) rfl (by rfl) (by rfl) (by rfl) (fun W hW => by have := (hd W hW).1; simp [Instr.loadAt, go_sem, this]) ?_
  simp only [Act.put, List.setIfInBounds_toArray, List.set_cons_succ, List.set_cons_zero]
  refine wpF_call (f := 25) (args := #[.int .i64 v]) (.string tv) rfl rfl (fun x => by first | rfl | (simp [go_sem]; done)) (fun W _ => cv W) ?_
  simp only [Act.put, List.setIfInBounds_toArray, List.set_cons_succ, List.set_cons_zero]
  refine wpF_pure rfl rfl ?_; go_big_quiet_step (fail); refine wpQuiet_nil ?_
  refine wpF_pure rfl rfl ?_; go_big_quiet_step (fail); refine wpQuiet_nil ?_
  refine wpF_pure rfl rfl ?_; go_big_quiet_step (fail); refine wpQuiet_nil ?_
  refine wpF_load (.int .i64 k) rfl (by rfl) (by rfl) (by rfl) (fun W hW => by have := (hd W hW).2.1; simp [Instr.loadAt, go_sem, this]) ?_
  simp only [Act.put, List.setIfInBounds_toArray, List.set_cons_succ, List.set_cons_zero]
  refine wpF_call (f := 25) (args := #[.int .i64 k]) (.string tk) rfl rfl (fun x => by first | rfl | (simp [go_sem]; done)) (fun W _ => ck W) ?_
  simp only [Act.put, List.setIfInBounds_toArray, List.set_cons_succ, List.set_cons_zero]
  refine wpF_pure rfl rfl ?_; go_big_quiet_step (fail); refine wpQuiet_nil ?_
  refine wpF_pure rfl rfl ?_; go_big_quiet_step (fail); refine wpQuiet_nil ?_
  refine wpF_pure rfl rfl ?_; go_big_quiet_step (fail); refine wpQuiet_nil ?_
  refine wpF_load (.int .u32 s) rfl (by rfl) (by rfl) (by rfl) (fun W hW => by have := (hd W hW).2.2.1; simp [Instr.loadAt, go_sem, this]) ?_
  simp only [Act.put, List.setIfInBounds_toArray, List.set_cons_succ, List.set_cons_zero]
  refine wpF_pure rfl rfl ?_; go_big_quiet_step (fail); refine wpQuiet_nil ?_
  refine wpF_call (f := 25) (args := #[.int .i64 s]) (.string ts) rfl rfl (fun x => by first | rfl | (simp [go_sem]; done)) (fun W _ => cs W) ?_
  simp only [Act.put, List.setIfInBounds_toArray, List.set_cons_succ, List.set_cons_zero]
  refine wpF_pure rfl rfl ?_; go_big_quiet_step (fail); refine wpQuiet_nil ?_
  refine wpF_pure rfl rfl ?_; go_big_quiet_step (fail); refine wpQuiet_nil ?_
  refine wpF_pure rfl rfl ?_; go_big_quiet_step (fail); refine wpQuiet_nil ?_
  refine wpF_load (.int .i64 i) rfl (by rfl) (by rfl) (by rfl) (fun W hW => by have := (hd W hW).2.2.2.1; simp [Instr.loadAt, go_sem, this]) ?_
  simp only [Act.put, List.setIfInBounds_toArray, List.set_cons_succ, List.set_cons_zero]
  refine wpF_call (f := 25) (args := #[.int .i64 i]) (.string ti) rfl rfl (fun x => by first | rfl | (simp [go_sem]; done)) (fun W _ => ci W) ?_
  simp only [Act.put, List.setIfInBounds_toArray, List.set_cons_succ, List.set_cons_zero]
  refine wpF_pure rfl rfl ?_; go_big_quiet_step (fail); refine wpQuiet_nil ?_
  refine wpF_pure rfl rfl ?_; go_big_quiet_step (fail); refine wpQuiet_nil ?_
  refine wpF_pure rfl rfl ?_; go_big_quiet_step (fail); refine wpQuiet_nil ?_
  refine wpF_load (.int .i64 c) rfl (by rfl) (by rfl) (by rfl) (fun W hW => by have := (hd W hW).2.2.2.2; simp [Instr.loadAt, go_sem, this]) ?_
  simp only [Act.put, List.setIfInBounds_toArray, List.set_cons_succ, List.set_cons_zero]
  refine wpF_call (f := 25) (args := #[.int .i64 c]) (.string tc) rfl rfl (fun x => by first | rfl | (simp [go_sem]; done)) (fun W _ => cc W) ?_
  simp only [Act.put, List.setIfInBounds_toArray, List.set_cons_succ, List.set_cons_zero]
  refine wpF_pure rfl rfl ?_; go_big_quiet_step (fail); refine wpQuiet_nil ?_
  refine wpF_pure rfl rfl ?_; go_big_quiet_step (fail); refine wpQuiet_nil ?_
  intro xs W hW _
  simp only [fill]
  go_wp2
  go_ret
  exact ⟨rfl, hb0.trans (hW.mono (by omega))⟩
end Go.Proofs.YtbohdmconeebeaaDoor

namespace Go.Proofs.YtbohdmconeebeaaDoor
open Go.RowKit
set_option maxRecDepth 100000

theorem made_later {w w1 w2 : World} {L : List Int} {v : Value} (h1 : w2.ownsRow w1.heap.size 5 1 v L.length (L.map (Value.int .u8))) (h2 : Below w1.heap.size w1 w2) (hb : Below w.heap.size w w1) : Made w w2 L v := by
  have hs := hb.size
  refine ⟨⟨h1.1, ?_⟩, hb.trans (h2.mono hs)⟩
  rcases h1.2 with h | ⟨g, cap, cur, hv, hg, rest⟩
  · exact .inl h
  · exact .inr ⟨g, cap, cur, hv, by omega, rest⟩

/-- so many bytes of a number, the lowest ones first -/
def wordL (n : Int) : Nat → List Int
  | 0 => []
  | k + 1 => n % 256 :: wordL (n / 256) k
theorem wordL_length (n : Int) (k : Nat) : (wordL n k).length = k := by
  induction k generalizing n with
  | zero => rfl
  | succ k ih => simp [wordL, ih]
set_option maxHeartbeats 800000 in
theorem word_any (n : Int) (size : Nat) (w : World) (h0 : 0 ≤ n) (h1 : n ≤ 4294967295) (hs : size ≤ 1000) :
    Calls Tryd.prog 63 #[.int .u32 n, .int .i64 size] w fun e w' => ∃ v, e = .returned v ∧ Made w w' (wordL n size) v := by
  obtain ⟨i0, hi, hz0, hz1, hz2⟩ := info_parts byteInfo
  go_enter Tryd.func63, Tryd.ntmps63
  go_wp2
  go_loopw [0, 5, 6] (fun x v i wr => ∃ (k j : Nat) (L : List Int) (y : Int), k + j = size ∧ i = .int .i64 k ∧ 0 ≤ y ∧ y ≤ 4294967295 ∧ x = .int .u32 y ∧ Hid (L ++ wordL y j = wordL n size) ∧ L.length = k ∧ Made w wr L v) (fun _ _ i _ => size - (intOf i).toNat)
  case atStart => exact ⟨0, size, [], n, by omega, rfl, h0, h1, rfl, rfl, rfl, Made.nil w⟩
  case round =>
    obtain ⟨k, j, L, y, hkj, rfl, hy0, hy1, rfl, HE, hL, hm⟩ := hrel
    cases j with
    | zero =>
      go_wp2
      go_ret
      have he := HE.out
      simp [wordL] at he
      subst he
      exact ⟨_, rfl, hm⟩
    | succ j =>
      subst hL
      have hlt : L.length < size := by omega
      have hsz := hm.2.size
      go_wp2_with (at_builtin; refine wpList_append_own _ rfl _ _ 29 rfl w.heap.size 5 i0 (.int .u8 0) 1 1 Tryd.underlying29 hi hz0 hz1 hz2 rfl (by decide) _ _ _ rfl (hm.1.alloc _) ⟨wr.heap.size, 0, none⟩ 1 1 [_] rfl rfl (cell_one_new _ _ _) ?c2 ?c3 ?c4 ?c5 ?_)
      case c2 => intro u hu; simp at hu; subst hu; rfl
      case c3 => unfold maxLen; omega
      case c4 => omega
      case c5 => simp; omega
      intro v' w1 hown' hgrow _
      have HM := Lib.hid (hm.app hown' hgrow rfl)
      clear hown' hgrow hm
      go_wp2
      go_roundw
      case rel => exact ⟨L.length + 1, j, L ++ [y % 256], y / 256, by omega, by go_num, by omega, by omega, rfl, by have := HE.out; simpa [Hid, wordL] using this, by simp, HM.out⟩
      case measure => simp [intOf]; omega
end Go.Proofs.YtbohdmconeebeaaDoor

namespace Go.Proofs.YtbohdmconeebeaaDoor
open Go.RowKit
set_option maxRecDepth 100000

theorem exec_append {P : Program} {w w' : World} {o : Oper} {b : Act} {v1 v2 v' : Value} (s x : Operand) (t : TypeId) (hop : o.op = Op.call { callee := Callee.builtin Builtin.append, args := #[s, x], argTypes := #[t, t] })
    (hs : b.eval s = v1) (hx : b.eval x = v2) (hrun : (Builtin.append_ #[t, t] o.type #[v1, v2]).run P w = .ok v' w') : (execOp b.eval o).run P w = .ok (.value v') w' := by
  simp [execOp, hop, resolve, invoke, builtin, hs, hx, hrun, Result.andThen]
theorem owns_below {w w' : World} {base e n : Nat} {v : Value} {xs : List Value} (h : w.ownsRow base e 1 v n xs) (hb : Below w.heap.size w w') : w'.ownsRow base e 1 v n xs :=
  ⟨h.1, h.2.imp id fun ⟨g, cap, cur, hv, hg, hh, r⟩ => ⟨g, cap, cur, hv, hg, (hb.block g (Array.getElem?_eq_some_iff.1 hh).1).trans hh, r⟩⟩

/-- what the slots hold whose values are known by what they are good for -/
def FRb (B : Nat) (v k s : Int) (q : Tmp) (x : Value) (W : World) : Prop :=
  if q = 10 then ∃ g, x = .slice (some ⟨g, 0, none⟩) 2 2 ∧ W.heap[g]? = some (.cells #[.int .u8 v, .int .u8 k] 5 (0, 0))
  else if q = 13 then ∃ A c, x = .slice A 4 c ∧ Nums .u8 W W.heap.size A (wordL s 4)
  else W.ownsRow B 5 1 x 6 (([v, k] ++ wordL s 4).map (Value.int .u8))
theorem FRb.later {B : Nat} {v k s : Int} {q : Tmp} {x : Value} {W W' : World} (h : FRb B v k s q x W) (hb : Below W.heap.size W W') : FRb B v k s q x W' := by
  unfold FRb at *
  split
  · rename_i h1
    rw [if_pos h1] at h
    obtain ⟨g, e, hg⟩ := h
    exact ⟨g, e, (hb.block g (Array.getElem?_eq_some_iff.1 hg).1).trans hg⟩
  · rename_i h1
    rw [if_neg h1] at h
    split
    · rename_i h2
      rw [if_pos h2] at h
      obtain ⟨A, c, e, hn⟩ := h
      exact ⟨A, c, e, (hn.below hb).mono hb.size⟩
    · rename_i h2
      rw [if_neg h2] at h
      exact owns_below h hb

set_option maxHeartbeats 4000000 in
theorem rhbytes_any (v k s i c : Int) (hv : 0 ≤ v ∧ v ≤ 255) (hk : 0 ≤ k ∧ k ≤ 255) (hi : 0 ≤ i ∧ i ≤ 255) (hc : 0 ≤ c ∧ c ≤ 255) (hs : 0 ≤ s ∧ s ≤ 4294967295) (w : World) :
    Calls Tryd.prog 49 #[hdV v k s i c] w fun e w' => ∃ x, e = .returned x ∧ MadeK 5 .u8 w w' (hdB v k s i c) x := by
  unfold hdV
  obtain ⟨i0, hi0, hz0, hz1, hz2⟩ := info_parts byteInfo
  obtain ⟨w0, hw0⟩ : ∃ w0, w.alloc (.cells #[.int .i64 v, .int .i64 k, .int .u32 s, .int .i64 i, .int .i64 c] 33) = w0 := ⟨_, rfl⟩
  have hs0 : w0.heap.size = w.heap.size + 1 := by rw [← hw0]; simp
  have hb0 : Below w.heap.size w w0 := by rw [← hw0]; exact (Below.refl _ w).alloc (Nat.le_refl _) _
  have hd : ∀ W, Below w0.heap.size w0 W → W.cell? ⟨w.heap.size, 0, none⟩ = some (.int .i64 v) ∧ W.cell? ⟨w.heap.size, 1, none⟩ = some (.int .i64 k) ∧ W.cell? ⟨w.heap.size, 2, none⟩ = some (.int .u32 s) ∧ W.cell? ⟨w.heap.size, 3, none⟩ = some (.int .i64 i) ∧ W.cell? ⟨w.heap.size, 4, none⟩ = some (.int .i64 c) := fun W hW => by
    rw [← hw0] at hW; exact hd_cells hW
  have HW := Lib.hid hw0
  clear hw0
  go_enter Tryd.func49, Tryd.ntmps49
  go_wp2_with fail
  rw [HW.out]
  refine wp_region_F 24 [10, 13, 14, 3] (FRb w0.heap.size v k s) (fun W => Below w0.heap.size w0 W) (by kernel_rfl) (by kernel_rfl) (by rfl) (by simp) (fun W W' h hb => h.trans (hb.mono h.size)) (fun q x W W' h hb => h.later hb) (Below.refl _ _).drew ?_
  refine wpF_pure rfl rfl ?_; go_big_quiet_step (fail); refine wpQuiet_nil ?_
  refine wpF_load (.int .i64 v) rfl (by rfl) (by rfl) (by rfl) (fun W hW => by have := (hd W hW).1; simp [Instr.loadAt, go_sem, this]) ?_
  simp only [Act.put, List.setIfInBounds_toArray, List.set_cons_succ, List.set_cons_zero]
  refine wpF_pure rfl rfl ?_; go_big_quiet_step (fail); refine wpQuiet_nil ?_
  refine wpF_pure rfl rfl ?_; go_big_quiet_step (fail); refine wpQuiet_nil ?_
  refine wpF_load (.int .i64 k) rfl (by rfl) (by rfl) (by rfl) (fun W hW => by have := (hd W hW).2.1; simp [Instr.loadAt, go_sem, this]) ?_
  simp only [Act.put, List.setIfInBounds_toArray, List.set_cons_succ, List.set_cons_zero]
  refine wpF_pure rfl rfl ?_; go_big_quiet_step (fail); refine wpQuiet_nil ?_
  refine wpF_src 10 (by simp) rfl rfl rfl (fun W hW => ⟨.slice (some ⟨W.heap.size, 0, none⟩) 2 2, W.alloc (.cells #[.int .u8 v, .int .u8 k] 5), ?_, ?_, (Below.refl _ _).alloc (Nat.le_refl _) _⟩) ?_
  · simp [go_sem]
  · unfold FRb; rw [if_pos rfl]; exact ⟨_, rfl, World.alloc_heap_new _ _⟩
  simp only [Act.put, List.setIfInBounds_toArray, List.set_cons_succ, List.set_cons_zero]
  refine wpF_pure rfl rfl ?_; go_big_quiet_step (fail); refine wpQuiet_nil ?_
  refine wpF_load (.int .u32 s) rfl (by rfl) (by rfl) (by rfl) (fun W hW => by have := (hd W hW).2.2.1; simp [Instr.loadAt, go_sem, this]) ?_
  simp only [Act.put, List.setIfInBounds_toArray, List.set_cons_succ, List.set_cons_zero]
  refine wpF_callsrc 13 (f := 63) (args := #[.int .u32 s, .int .i64 4]) (by simp) rfl rfl rfl (fun x => by first | rfl | (simp [go_sem]; done)) (fun W hW => (word_any s 4 W hs.1 hs.2 (by omega)).mono fun e W' ⟨x, he, hm⟩ => ?_) ?_
  · obtain ⟨A, cc, rfl, _, hn⟩ := MadeK.slice hm
    exact ⟨_, he, by unfold FRb; rw [if_neg (by decide), if_pos rfl]; exact ⟨A, cc, rfl, hn⟩, hm.2⟩
  simp only [Act.put, List.setIfInBounds_toArray, List.set_cons_succ, List.set_cons_zero]
  refine wpF_mix 14 [10, 13] (by simp) rfl (by kernel_rfl) (by kernel_rfl) (fun xs => by rfl) (fun xs W hW hx => ?_) ?_
  · have h10 := hx 10 (by simp)
    have h13 := hx 13 (by simp)
    unfold FRb at h10 h13
    rw [if_pos rfl] at h10
    rw [if_neg (by decide), if_pos rfl] at h13
    obtain ⟨g, e10, hg⟩ := h10
    obtain ⟨A, cc, e13, hn⟩ := h13
    obtain ⟨b1, o1, rfl, hb1, hcl⟩ := hn (by simp [wordL])
    obtain ⟨x', w', hrun, hown, hgr⟩ := run_append_arg_grows (P := Tryd.prog) (w := W) 29 29 5 i0 (.int .u8 0) 1 1 Tryd.underlying29 hi0 hz0 hz1 hz2 rfl (by decide)
      ⟨g, 0, none⟩ 2 2 [.int .u8 v, .int .u8 k] (by rfl) (fun j u hj => by rw [Addr.add_lit, Nat.zero_add]; simp [World.cell?, hg, ← hj]) ⟨b1, o1, none⟩ 4 cc ((wordL s 4).map (Value.int .u8)) (by rfl)
      (fun j u hj => by
        rw [List.getElem?_map] at hj
        obtain ⟨y, hy, rfl⟩ := Option.map_eq_some_iff.1 hj
        rw [Addr.add_lit]
        exact hcl j y hy) (by decide) (by decide) (by decide)
    refine ⟨x', w', ?_, ?_, ⟨hgr.os, hgr.tape, hgr.output, hgr.size, fun q hq => hgr.block q hq (by simp)⟩⟩
    · refine exec_append (.tmp 10) (.tmp 13) 29 rfl (by simp [fill, Act.put, Act.eval, e10]) (by simp [fill, Act.put, Act.eval, e13]) hrun
    · unfold FRb
      rw [if_neg (by decide), if_neg (by decide)]
      exact ⟨hown.1, hown.2.imp id fun ⟨g, cap, cur, hv, hg, r⟩ => ⟨g, cap, cur, hv, Nat.le_trans hW.size hg, r⟩⟩
  simp only [Act.put, List.setIfInBounds_toArray, List.set_cons_succ, List.set_cons_zero]
  refine wpF_mix 3 [14] (by simp) rfl (by kernel_rfl) (by kernel_rfl) (fun xs => by rfl) (fun xs W hW hx => ⟨xs 14, W, ?_, ?_, Below.refl _ _⟩) ?_
  · simp [execOp, fill, Act.put, Act.eval, go_sem]
  · have := hx 14 (by simp)
    unfold FRb at this ⊢
    simpa using this
  simp only [Act.put, List.setIfInBounds_toArray, List.set_cons_succ, List.set_cons_zero]
  intro xs W hW hx
  have h3 := hx 3 (by simp)
  unfold FRb at h3
  rw [if_neg (by decide), if_neg (by decide)] at h3
  simp only [fill, Act.put, List.setIfInBounds_toArray, List.set_cons_succ, List.set_cons_zero]
  obtain ⟨d0, d1, d2, d3, d4⟩ := hd W hW
  obtain ⟨L, hL⟩ : ∃ L, [v, k] ++ wordL s 4 = L := ⟨_, rfl⟩
  have hlen : L.length = 6 := by rw [← hL]; rfl
  rw [hL] at h3
  have HM : Hid (MadeK 5 .u8 w0 W L (xs 3)) := ⟨by rw [hlen]; exact h3, hW⟩
  have hfin : L ++ [i, c] = hdB v k s i c := by
    rw [← hL]
    simp only [wordL, hdB, List.cons_append, List.nil_append, List.cons.injEq, and_true, true_and]
    omega
  have HL := Lib.hid hlen
  have HF := Lib.hid hfin
  clear hL hlen h3 hx hfin
  generalize xs 3 = x3 at *
  generalize xs 10 = x10
  generalize xs 13 = x13
  generalize xs 14 = x14
  have HZ := Lib.hid (Nums.new .u8 W 5 [i, c] #[.int .u8 i, .int .u8 c] rfl)
  have HX1 : Hid (L.length + 2 ≤ maxLen) := by show _ ≤ _; unfold maxLen; rw [HL.out]; omega
  have HX2 : Hid ((L.length + 2) * 1 ≤ 140737488355328) := by show _ ≤ _; rw [HL.out]; omega
  have HX3 : Hid (w0.heap.size ≤ (W.alloc (.cells #[.int .u8 i, .int .u8 c] 5)).heap.size) := by show _ ≤ _; have := hW.size; rw [World.size_alloc]; omega
  have HB := Lib.hid hb0
  clear hb0 hW hs0 hd
  go_wp2_with (at_builtin; refine wpList_append_any rfl (.tmp 15) (.tmp 22) 29 rfl w0.heap.size 5 i0 (.int .u8 0) 1 Tryd.underlying29 hi0 hz0 hz1 hz2 rfl .u8 L [i, c] _ rfl (HM.out.1.alloc _) _ 2 2 _ rfl rfl HZ.out HX1.out HX2.out HX3.out ?_)
  intro v4 w4 hown hg
  have hm4 := (HM.out.later (.cells #[.int .u8 i, .int .u8 c] 5)).more (zs := [i, c]) (v' := v4) (by simpa using hown) hg
  rw [HF.out] at hm4
  have HM4 := Lib.hid (MadeK.since hm4 HB.out)
  clear hown hg hm4 HM HZ HX1 HX2 HX3
  go_wp2
  go_ret
  exact ⟨_, rfl, HM4.out⟩
end Go.Proofs.YtbohdmconeebeaaDoor

namespace Go.Proofs.YtbohdmconeebeaaDoor
open Go.RowKit
set_option maxRecDepth 100000

/-- the bytes of a head that may be are parsed as it was -/
theorem prs_hd {v k s i c : Int} (h : chk v k i c = 0) : prs (hdB v k s i c) = ((v, k, s, i, c), 0) := by
  have hle : le [s % 256, s / 256 % 256, s / 65536 % 256, s / 16777216] = s := by simp only [le]; omega
  unfold hdB
  rw [prs_8, if_pos h, hle]
theorem hd_bytes {v k s i c : Int} (h : chk v k i c = 0) (hs : 0 ≤ s ∧ s ≤ 4294967295) : Bytes (hdB v k s i c) := by
  have := chk_zero h
  intro z hz
  simp only [hdB, List.mem_cons, List.not_mem_nil, or_false] at hz
  omega

end Go.Proofs.YtbohdmconeebeaaDoor

namespace Go.Proofs.YtbohdmconeebeaaDoor
open Go.RowKit Go.Shelf
set_option maxRecDepth 100000

def frD' (f : Fr) : Hd × List Int := ((f.v, f.k, f.s, f.i, f.c), f.zs)
theorem unB_blk {v k s i c : Int} {zs : List Int} (h : chk v k i c = 0) (hn : 1 ≤ zs.length) : unB (fblk v k s i c zs) = (((v, k, s, i, c), zs), 0) := by
  have hl := fblk_len v k s i c zs
  have h8 : (hdB v k s i c).length = 8 := rfl
  have hp := prs_hd (s := s) h
  unfold fblk sld at hl ⊢
  generalize hdB v k s i c = b at *
  have hbl : (b ++ zs).length = zs.length + 8 := by rw [List.length_append]; omega
  have ht : (b ++ zs ++ Cr.le4 (Cr.sum (b ++ zs))).length - 4 = (b ++ zs).length := by omega
  unfold unB
  rw [if_neg (by omega), ht, List.take_left' rfl, List.drop_left' rfl, if_pos rfl]
  have h3 : (b ++ zs ++ Cr.le4 (Cr.sum (b ++ zs))).take 8 = b := by
    rw [List.append_assoc, List.take_left' h8]
  rw [h3, hp, if_pos rfl, List.drop_left' h8]
theorem unS_seg {f : Fr} (h : f.chk = 0) : unS f.seg = (frD' f, 0) := by
  have hk := fchk_zero h
  have hl := Fr.seg_len h
  unfold unS
  rw [if_neg (by omega)]
  have hd : Cb.dec false f.seg = some f.blk := Cb.dec_enc f.blk false (by simp)
  rw [hd]
  exact unB_blk hk.1 hk.2.1
theorem seg_nz (f : Fr) : Cb.NZ f.seg := Cb.enc_nz _
theorem seg_ne (f : Fr) : f.seg ≠ [] := Cb.enc_ne _
theorem segs_packed (fs : List Fr) : Fc.segs (Fc.wrap (fs.map Fr.seg)) = fs.map Fr.seg := by
  rw [Fc.segs_wrap (fun b hb => by obtain ⟨f, _, rfl⟩ := List.mem_map.1 hb; exact seg_nz f)]
  rw [List.filter_eq_self]
  intro b hb
  obtain ⟨f, _, rfl⟩ := List.mem_map.1 hb
  simpa using seg_ne f
theorem scan_packed {fs : List Fr} {j p : Nat} {b : List Int} (h : (Fc.scan 0 [] (Fc.wrap (fs.map Fr.seg)))[j]? = some (p, b)) : ∃ f, fs[j]? = some f ∧ b = f.seg := by
  have h1 := segs_packed fs
  unfold Fc.segs at h1
  have h2 := congrArg (·[j]?) h1
  simp only [List.getElem?_map, h, Option.map_some] at h2
  cases hf : fs[j]? with
  | none => rw [hf] at h2; cases h2
  | some f => rw [hf] at h2; injection h2 with h2; exact ⟨f, rfl, h2⟩
theorem scan_packed_len (fs : List Fr) : (Fc.scan 0 [] (Fc.wrap (fs.map Fr.seg))).length = fs.length := by
  have h1 := congrArg List.length (segs_packed fs)
  unfold Fc.segs at h1
  rwa [List.length_map, List.length_map] at h1
theorem wrap_bytes {ls : List (List Int)} (h : ∀ b ∈ ls, Bytes b) : Bytes (Fc.wrap ls) := by
  induction ls with
  | nil => intro z hz; simp [Fc.wrap] at hz
  | cons b r ih =>
    rw [Fc.wrap_cons]
    intro z hz
    simp only [List.mem_cons, List.mem_append] at hz
    rcases hz with rfl | hz | rfl | hz
    · omega
    · exact h b (by simp) z hz
    · omega
    · exact ih (fun c hc => h c (by simp [hc])) z hz
theorem seg_bytes {f : Fr} (h : f.chk = 0) (hs : 0 ≤ f.s ∧ f.s ≤ 4294967295) (hz : Bytes f.zs) : Bytes f.seg :=
  Cb.enc_bytes (fblk_bytes (fchk_zero h).1 hs hz)
end Go.Proofs.YtbohdmconeebeaaDoor

namespace Go.Proofs.YtbohdmconeebeaaDoor
open Go.RowKit
set_option maxRecDepth 100000

/-- a word's bits -/
def bitsV (n : Nat) : List Value := (List.range 32).map fun i => Value.bool (n.testBit i)
theorem bitsV_len (n : Nat) : (bitsV n).length = 32 := by simp [bitsV]
theorem bitsV_at (n i : Nat) (h : i < 32) : (bitsV n)[i]? = some (.bool (n.testBit i)) := by
  simp [bitsV, h]

theorem bitsV_one (n : Nat) : ((bitsV n).toArray).all (·.oneCell') = true := by
  rw [Array.all_eq_true_iff_forall_mem]
  intro v hv
  have hv : v ∈ bitsV n := by simpa using hv
  obtain ⟨i, _, rfl⟩ := List.mem_map.1 hv
  rfl
theorem wSize : (Tryd.prog.info? 109).map (·.size) = some 32 := by kernel_rfl
/-- bits that are told so far -/
def BitsTo (cs : Array Value) (p : Nat → Bool) : Prop := cs.size = 32 ∧ ∀ j, j < 32 → cs[j]? = some (.bool (p j))
theorem BitsTo.eq {cs : Array Value} {n : Nat} (h : BitsTo cs (fun j => n.testBit j)) : cs = (bitsV n).toArray := by
  apply Array.ext_getElem?
  intro j
  by_cases hj : j < 32
  · rw [h.2 j hj, List.getElem?_toArray, bitsV_at n j hj]
  · rw [Array.getElem?_eq_none (by rw [h.1]; omega), List.getElem?_toArray, List.getElem?_eq_none (by rw [bitsV_len]; omega)]
theorem BitsTo.set {cs : Array Value} {p q : Nat → Bool} (h : BitsTo cs p) (i : Nat) (x : Bool) (hq : ∀ j, j < 32 → q j = if i = j then x else p j) : BitsTo (cs.setIfInBounds i (.bool x)) q := by
  refine ⟨by simp [h.1], fun j hj => ?_⟩
  rw [Array.getElem?_setIfInBounds, hq j hj]
  by_cases hij : i = j
  · subst hij
    rw [if_pos rfl, if_pos rfl, if_pos (by rw [h.1]; omega)]
  · rw [if_neg hij, if_neg hij]
    exact h.2 j hj
theorem BitsTo.of (n : Nat) : BitsTo (bitsV n).toArray (fun j => n.testBit j) := ⟨by simp [bitsV_len], fun j hj => by rw [List.getElem?_toArray, bitsV_at n j hj]⟩

theorem testBit_div (n i : Nat) : (n / 2 ^ i % 2 == 1) = n.testBit i := by
  rw [Nat.testBit_eq_decide_div_mod_eq]
  by_cases h : n / 2 ^ i % 2 = 1 <;> simp [h]

set_option maxHeartbeats 1000000 in
theorem of_any (n : Nat) (w : World) (h : n < 4294967296) :
    Calls Tryd.prog 65 #[.int .u32 n] w fun e w' => e = .returned (.agg (bitsV n).toArray) ∧ Below w.heap.size w w' := by
  go_enter Tryd.func65, Tryd.ntmps65
  go_wp2
  generalize hA0 : (Obj.cells _ 109 : Obj) = A0
  obtain ⟨cs0, h0, rfl⟩ : ∃ cs0 : Array Value, cs0 = Array.replicate 32 (.bool false) ∧ A0 = .cells cs0 109 := ⟨_, rfl, hA0.symm⟩
  have H0 := Lib.hid h0
  clear hA0 h0
  go_loopw [0, 4] (fun x i wr => ∃ (k p : Nat) (cs : Array Value), k ≤ 32 ∧ i = .int .i64 k ∧ x = .int .u32 p ∧ p < 4294967296 ∧ Hid (p = n / 2 ^ k) ∧ Hid (BitsTo cs (fun j => decide (j < k) && n.testBit j)) ∧ wr = (w.alloc (.cells cs0 109)).alloc (.cells cs 109)) (fun _ i _ => 32 - (intOf i).toNat)
  case atStart =>
    refine ⟨0, n, Array.replicate 32 (Value.bool false), by omega, rfl, rfl, h, by show n = n / 1; omega, ⟨by simp, fun j hj => by simp [hj]⟩, by rw [H0.out]⟩
  case round =>
    obtain ⟨k, p, cs, hk, rfl, rfl, hp, HP, HB, rfl⟩ := hrel
    by_cases hlt : k < 32
    · have hlt' : (k : Int) < 32 := by omega
      have hcs := HB.out.1
      have hx : ((p : Int) % 2 == 1) = n.testBit k := by
        rw [← testBit_div, ← HP.out]
        rcases Nat.mod_two_eq_zero_or_one p with h | h <;> (rw [h]; simp; omega)
      have HX := Lib.hid hx
      have HB' : Hid (BitsTo (cs.setIfInBounds k (.bool (n.testBit k))) (fun j => decide (j < k + 1) && n.testBit j)) := HB.out.set k _ fun j hj => by
        by_cases hjk : k = j
        · subst hjk; simp
        · have : decide (j < k + 1) = decide (j < k) := by simp; omega
          rw [if_neg hjk, this]
      go_wp2
      go_roundw
      case rel => exact ⟨k + 1, p / 2, _, by omega, by go_num, by go_num, by omega, by show _ = _; rw [HP.out, Nat.pow_succ, Nat.div_div_eq_div_mul], HB', rfl⟩
      case measure => simp [intOf]; omega
    · obtain rfl : k = 32 := by omega
      have hC : cs = (bitsV n).toArray := BitsTo.eq ⟨HB.out.1, fun j hj => by rw [HB.out.2 j hj]; simp [hj]⟩
      have h1 := bitsV_one n
      have hsz : (bitsV n).toArray.size = 32 := by simp [bitsV_len]
      rw [hC]
      clear hC HB
      generalize hCe : (bitsV n).toArray = C at *
      have HCe := Lib.hid hCe
      clear hCe
      rename ∀ (a : Act) (w : World), Code.wp _ _ _ a w → _ => hK
      have HK := Lib.hid hK
      clear hK
      have hlt' : ¬ ((32 : Nat) : Int) < 32 := by omega
      have HR := Lib.hid (show ((w.alloc (.cells cs0 109)).alloc (.cells C 109)).heap[w.heap.size]? = some (.cells cs0 109) from heap_alloc2_old w _ _)
      have HR2 := Lib.hid (show ((w.alloc (.cells cs0 109)).alloc (.cells C 109)).heap[w.heap.size + 1]? = some (.cells C 109) from heap_alloc2_new w _ _)
      have hb : Below w.heap.size w ((w.alloc (.cells cs0 109)).alloc (.cells C 109)) := ((Below.refl _ w).alloc (Nat.le_refl _) _).alloc (by simp) _
      generalize (w.alloc (.cells cs0 109)).alloc (.cells C 109) = W at *
      have hsi : (Tryd.prog.info? 109).map (·.size) = some C.size := by rw [hsz]; exact wSize
      go_wp2
      refine HK.out _ _ ?_
      go_step
      go_step
      refine wpList_load_row (by rfl) _ _ (by rfl) (w.heap.size + 1) (by rfl) 109 C (0, 0) _ HR2.out Tryd.underlying109 (by rfl) hsi ?_
      refine wpList_store_row (by rfl) _ _ _ (by rfl) w.heap.size C (by rfl) (by rfl) 109 cs0 HR.out hsi (by rw [H0.out, hsz]; rfl) h1 ?_
      have HF := setRow_heap W w.heap.size cs0 C 109 (0, 0) HR.out
      have hb2 : Below w.heap.size w (W.setRow w.heap.size C) := ⟨hb.os, hb.tape, hb.output, by simp [hb.size], fun k hk => (setRow_other _ _ _ _ (by omega)).trans (hb.block k hk)⟩
      generalize W.setRow w.heap.size C = W2 at *
      have HFH := Lib.hid HF
      clear HF HR HR2
      go_wp2
      refine bodyPost_ret (results_cell_row (P := Tryd.prog) (fn := Tryd.f65) rfl _ _ w.heap.size 109 C (0, 0) _ (by rfl) HFH.out Tryd.underlying109 (by rfl) hsi) rfl ⟨by rw [HCe.out], hb2⟩
end Go.Proofs.YtbohdmconeebeaaDoor

namespace Go.Proofs.YtbohdmconeebeaaDoor
open Go.RowKit
set_option maxRecDepth 100000

theorem div_bit (N j : Nat) : N / 2 ^ j = 2 * (N / 2 ^ (j + 1)) + (if N.testBit j then 1 else 0) := by
  rw [← testBit_div, Nat.pow_succ, ← Nat.div_div_eq_div_mul]
  rcases Nat.mod_two_eq_zero_or_one (N / 2 ^ j) with h | h <;> (rw [h]; simp; omega)

theorem bword_any (N : Nat) (w : World) (h : N < 4294967296) :
    Calls Tryd.prog 68 #[.agg (bitsV N).toArray] w fun e w' => e = .returned (.int .u32 N) ∧ Below w.heap.size w w' := by
  have hB := Lib.hid (BitsTo.of N)
  generalize (bitsV N).toArray = C at *
  go_enter Tryd.func68, Tryd.ntmps68
  go_wp2
  go_loopw [3, 4] (fun x i wr => ∃ (k m : Nat), k ≤ 32 ∧ i = .int .i64 ((k : Int) - 1) ∧ x = .int .u32 m ∧ m < 4294967296 ∧ Hid (m = N / 2 ^ k) ∧ wr = w.alloc (.cells C 109)) (fun _ i _ => (intOf i + 1).toNat)
  case atStart => exact ⟨32, 0, by omega, rfl, rfl, by omega, (Nat.div_eq_of_lt (by omega)).symm, rfl⟩
  case round =>
    obtain ⟨k, m, hk, rfl, rfl, hm, HM, rfl⟩ := hrel
    by_cases hlt : k = 0
    · subst hlt
      obtain rfl : m = N := by rw [HM.out]; show N / 1 = N; omega
      go_wp2
      go_ret
      exact ⟨rfl, (Below.refl _ w).alloc (Nat.le_refl _) _⟩
    · obtain ⟨j, rfl⟩ : ∃ j, k = j + 1 := ⟨k - 1, by omega⟩
      rw [show ((j + 1 : Nat) : Int) - 1 = (j : Int) by omega]
      have hj := hB.out.2 j (by omega)
      have hjs : j < C.size := by rw [hB.out.1]; omega
      have hcell : (w.alloc (.cells C 109)).cell? ⟨w.heap.size, j, none⟩ = some (.bool (N.testBit j)) := by
        rw [World.cell?_alloc_at _ _ _ _ rfl]
        exact hj
      have hD := div_bit N j
      rw [← HM.out] at hD
      have hlt2 : N / 2 ^ j ≤ N := Nat.div_le_self _ _
      have HD := Lib.hid hD
      have hj31 : (j : Int) < 32 := by omega
      have hj0 : (0 : Int) ≤ (j : Int) := by omega
      clear hj
      generalize hbb : N.testBit j = bb at *
      cases bb
      · have hm2 : 2 * m < 4294967296 := by simp at hD; omega
        have HD2 : Hid (2 * m = N / 2 ^ j) := by simp at hD; exact hD.symm
        clear hD hbb HD
        go_wp2
        go_roundw
        case rel => exact ⟨j, 2 * m, by omega, by go_num, by go_num, hm2, HD2, trivial⟩
        case measure => simp [intOf]; try omega
      · have hm2 : 2 * m + 1 < 4294967296 := by simp at hD; omega
        have HD2 : Hid (2 * m + 1 = N / 2 ^ j) := by simp at hD; exact hD.symm
        clear hD hbb HD
        go_wp2
        go_roundw
        case rel => exact ⟨j, 2 * m + 1, by omega, by go_num, by go_num, hm2, HD2, trivial⟩
        case measure => simp [intOf]; try omega

/-- three rows: the one that is turned, another one, the result's -/
structure X3 (w wr : World) (cs C2 R : Array Value) : Prop where
  h0 : wr.heap[w.heap.size]? = some (.cells cs 109 (0, 0))
  h1 : wr.heap[w.heap.size + 1]? = some (.cells C2 109 (0, 0))
  h2 : wr.heap[w.heap.size + 2]? = some (.cells R 109 (0, 0))
  b : Below w.heap.size w wr
theorem X3.drewN {w wr : World} {cs C2 R : Array Value} (h : X3 w wr cs C2 R) (n : Nat) : X3 w (wr.drewN n) cs C2 R := ⟨h.h0, h.h1, h.h2, below_drewN h.b n⟩
theorem X3.set {w wr : World} {cs C2 R : Array Value} (h : X3 w wr cs C2 R) (j : Nat) (v : Value) : X3 w (wr.setCell ⟨w.heap.size, j, none⟩ v) (cs.setIfInBounds j v) C2 R :=
  ⟨setCell_at h.h0, (heap_setCell_other _ _ _ _ (by simp)).trans h.h1, (heap_setCell_other _ _ _ _ (by simp)).trans h.h2, h.b.setCell (Nat.le_refl _) _⟩
theorem X3.start (w : World) (C1 C2 R : Array Value) : X3 w (((w.alloc (.cells C1 109)).alloc (.cells C2 109)).alloc (.cells R 109)) C1 C2 R := by
  refine ⟨?_, ?_, ?_, (((Below.refl _ w).alloc (Nat.le_refl _) _).alloc (by simp) _).alloc (by simp; omega) _⟩
  · rw [heap_alloc_old _ _ (by simp; omega), heap_alloc2_old]
  · rw [heap_alloc_old _ _ (by simp), heap_alloc2_new]
  · have := heap_alloc_new ((w.alloc (.cells C1 109)).alloc (.cells C2 109)) (.cells R 109)
    simpa using this
theorem bool_ne (a b : Bool) : (a != b) = (a ^^ b) := by cases a <;> cases b <;> rfl

set_option maxHeartbeats 1000000 in
theorem xor_any (a b : Nat) (w : World) :
    Calls Tryd.prog 67 #[.agg (bitsV a).toArray, .agg (bitsV b).toArray] w fun e w' => e = .returned (.agg (bitsV (a ^^^ b)).toArray) ∧ Below w.heap.size w w' := by
  have hB1 := BitsTo.of a
  have HB2 := Lib.hid (BitsTo.of b)
  have H1 : Hid (BitsTo (bitsV a).toArray (fun j => if j < 0 then (a ^^^ b).testBit j else a.testBit j)) := ⟨hB1.1, fun j hj => by rw [hB1.2 j hj]; simp⟩
  clear hB1
  generalize (bitsV a).toArray = C1 at *
  generalize (bitsV b).toArray = C2 at *
  go_enter Tryd.func67, Tryd.ntmps67
  go_wp2
  generalize hA0 : (Obj.cells (Array.mk (Value.bool false :: _)) 109 : Obj) = A0
  obtain ⟨cs0, h0, rfl⟩ : ∃ cs0 : Array Value, cs0 = Array.replicate 32 (.bool false) ∧ A0 = .cells cs0 109 := ⟨_, rfl, hA0.symm⟩
  have H0 := Lib.hid (show cs0.size = 32 by rw [h0]; rfl)
  clear hA0 h0
  have HX := Lib.hid (X3.start w C1 C2 cs0)
  generalize World.alloc _ _ = W at *
  go_loopw [5] (fun i wr => ∃ (k : Nat) (cs : Array Value), k ≤ 32 ∧ i = .int .i64 k ∧ Hid (X3 w wr cs C2 cs0) ∧ Hid (BitsTo cs (fun j => if j < k then (a ^^^ b).testBit j else a.testBit j))) (fun i _ => 32 - (intOf i).toNat)
  case atStart => exact ⟨0, C1, by omega, rfl, HX, H1⟩
  case round =>
    obtain ⟨k, cs, hk, rfl, HR, HB⟩ := hrel
    by_cases hlt : k < 32
    · have hlt' : (k : Int) < 32 := by omega
      have c1 : wr.cell? ⟨w.heap.size, k, none⟩ = some (.bool (a.testBit k)) := by
        rw [cell_of_row _ _ _ _ _ _ HR.out.h0, HB.out.2 k hlt]
        simp
      have c2 : wr.cell? ⟨w.heap.size + 1, k, none⟩ = some (.bool (b.testBit k)) := by
        rw [cell_of_row _ _ _ _ _ _ HR.out.h1, HB2.out.2 k hlt]
      have c3 : wr.frozen? ⟨w.heap.size, k, none⟩ = false := frozen_of_row _ _ _ _ _ HR.out.h0
      have HB' : Hid (BitsTo (cs.setIfInBounds k (.bool (a.testBit k != b.testBit k))) (fun j => if j < k + 1 then (a ^^^ b).testBit j else a.testBit j)) := HB.out.set k _ fun j hj => by
        by_cases hjk : k = j
        · subst hjk; simp [Nat.testBit_xor, bool_ne]
        · rw [if_neg hjk]
          by_cases h2 : j < k
          · rw [if_pos h2, if_pos (by omega)]
          · rw [if_neg h2, if_neg (by omega)]
      generalize a.testBit k = x at *
      generalize b.testBit k = y at *
      go_wp2
      refine wp_region_lex2 (C := fun w' => ∃ n, w' = wr.drewN n) (by kernel_rfl) (by kernel_rfl) ⟨1, rfl⟩ ?_
      repeat (first
        | (refine wpQ2_pure rfl ?_; go_big_quiet_step (fail); refine wpQuiet_nil ?_)
        | (refine wpQ2_look rfl ?_; go_big_quiet_step (fail); refine wpQuiet_nil ?_))
      refine wpQ2_store (fun w' => ∃ n, w' = (wr.setCell ⟨w.heap.size, k, none⟩ (.bool (x != y))).drewN n) rfl rfl rfl ⟨w.heap.size, k, none⟩ (.bool (x != y)) rfl rfl ?_ ?_
      · rintro w5 ⟨n5, rfl⟩
        refine ⟨(wr.drewN n5).setCell ⟨w.heap.size, k, none⟩ (.bool (x != y)), ?_, n5, rfl⟩
        simp [Instr.storeAt, go_sem, *]
      rintro w5 ⟨n5, rfl⟩
      have HN : Hid (X3 w ((wr.setCell ⟨w.heap.size, k, none⟩ (.bool (x != y))).drewN n5) (cs.setIfInBounds k (.bool (x != y))) C2 cs0) := (HR.out.set k _).drewN n5
      generalize World.drewN _ n5 = w6 at *
      go_wp2
      go_roundw
      case rel => exact ⟨k + 1, _, by omega, by go_num, HN, HB'⟩
      case measure => simp [intOf]; omega
    · obtain rfl : k = 32 := by omega
      have hC : cs = (bitsV (a ^^^ b)).toArray := BitsTo.eq ⟨HB.out.1, fun j hj => by rw [HB.out.2 j hj]; simp [hj]⟩
      have h1 := bitsV_one (a ^^^ b)
      have hsz : (bitsV (a ^^^ b)).toArray.size = 32 := by simp [bitsV_len]
      rw [hC] at HR
      clear hC HB
      generalize hCe : (bitsV (a ^^^ b)).toArray = C at *
      have HCe := Lib.hid hCe
      clear hCe
      rename ∀ (a : Act) (w : World), Code.wp _ _ _ a w → _ => hK
      have HK := Lib.hid hK
      clear hK
      have hlt' : ¬ ((32 : Nat) : Int) < 32 := by omega
      have hsi : (Tryd.prog.info? 109).map (·.size) = some C.size := by rw [hsz]; exact wSize
      go_wp2
      refine HK.out _ _ ?_
      go_step
      go_step
      refine wpList_load_row (by rfl) _ _ (by rfl) w.heap.size (by rfl) 109 C (0, 0) _ HR.out.h0 Tryd.underlying109 (by rfl) hsi ?_
      refine wpList_store_row (by rfl) _ _ _ (by rfl) (w.heap.size + 2) C (by rfl) (by rfl) 109 cs0 HR.out.h2 hsi (by rw [H0.out, hsz]) h1 ?_
      have HF := setRow_heap wr (w.heap.size + 2) cs0 C 109 (0, 0) HR.out.h2
      have hb := HR.out.b
      have hb2 : Below w.heap.size w (wr.setRow (w.heap.size + 2) C) := ⟨hb.os, hb.tape, hb.output, by simp [hb.size], fun k hk => (setRow_other _ _ _ _ (by omega)).trans (hb.block k hk)⟩
      generalize wr.setRow (w.heap.size + 2) C = W2 at *
      have HFH := Lib.hid HF
      clear HF HR
      go_wp2
      refine bodyPost_ret (results_cell_row (P := Tryd.prog) (fn := Tryd.f67) rfl _ _ (w.heap.size + 2) 109 C (0, 0) _ (by rfl) HFH.out Tryd.underlying109 (by rfl) hsi) rfl ⟨by rw [HCe.out], hb2⟩
end Go.Proofs.YtbohdmconeebeaaDoor

namespace Go.Proofs.YtbohdmconeebeaaDoor
open Go.RowKit
set_option maxRecDepth 100000

/-- three rows: the word, the result's, the polynomial's (block q) -/
structure S3 (w wr : World) (q : Nat) (cs R P : Array Value) : Prop where
  h0 : wr.heap[w.heap.size]? = some (.cells cs 109 (0, 0))
  h1 : wr.heap[w.heap.size + 1]? = some (.cells R 109 (0, 0))
  h2 : wr.heap[q]? = some (.cells P 109 (0, 0))
  hq : w.heap.size + 2 ≤ q
  b : Below w.heap.size w wr
theorem S3.set {w wr : World} {q : Nat} {cs R P : Array Value} (h : S3 w wr q cs R P) (j : Nat) (v : Value) : S3 w (wr.setCell ⟨w.heap.size, j, none⟩ v) q (cs.setIfInBounds j v) R P := by
  have := h.hq
  exact ⟨setCell_at h.h0, (heap_setCell_other _ _ _ _ (by simp)).trans h.h1, (heap_setCell_other _ _ _ _ (by simp; omega)).trans h.h2, h.hq, h.b.setCell (Nat.le_refl _) _⟩
theorem S3.row {w wr : World} {q : Nat} {cs R P : Array Value} (h : S3 w wr q cs R P) (C : Array Value) : S3 w (wr.setRow w.heap.size C) q C R P := by
  have := h.hq
  exact ⟨setRow_heap _ _ _ _ _ _ h.h0, (setRow_other _ _ _ _ (by omega)).trans h.h1, (setRow_other _ _ _ _ (by omega)).trans h.h2, h.hq, ⟨h.b.os, h.b.tape, h.b.output, by simp [h.b.size], fun k hk => (setRow_other _ _ _ _ (by omega)).trans (h.b.block k hk)⟩⟩
theorem S3.later {w wr w2 : World} {q : Nat} {cs R P : Array Value} (h : S3 w wr q cs R P) (hb : Below wr.heap.size wr w2) : S3 w w2 q cs R P :=
  ⟨(hb.block _ (Array.getElem?_eq_some_iff.1 h.h0).1).trans h.h0, (hb.block _ (Array.getElem?_eq_some_iff.1 h.h1).1).trans h.h1, (hb.block _ (Array.getElem?_eq_some_iff.1 h.h2).1).trans h.h2, h.hq, h.b.trans (hb.mono h.b.size)⟩

set_option maxHeartbeats 1000000 in
theorem shift_any (n : Nat) (w : World) (h : n < 4294967296) :
    Calls Tryd.prog 66 #[.agg (bitsV n).toArray] w fun e w' => e = .returned (.agg (bitsV (Cr.shn 8 n)).toArray) ∧ Below w.heap.size w w' := by
  obtain ⟨hz, hzs⟩ := zero_of_info (P := Tryd.prog) (t := 109) (v := .agg (Array.replicate 32 (.bool false))) (n := 32) (by kernel_rfl)
  have HC := Lib.hid (show (bitsV n).toArray.size = 32 by simp [bitsV_len])
  generalize hC0 : (bitsV n).toArray = C0 at *
  have HC0 := Lib.hid hC0
  clear hC0
  go_enter Tryd.func66, Tryd.ntmps66
  go_wp2_with fail
  refine (of_any 3988292384 _ (by omega)).mono ?_
  rintro e w1 ⟨rfl, hb1⟩
  have HP1 := Lib.hid (bitsV_one 3988292384)
  have HPs := Lib.hid (show (bitsV 3988292384).toArray.size = 32 by simp [bitsV_len])
  generalize hPe : (bitsV 3988292384).toArray = P at *
  have HPe := Lib.hid hPe
  clear hPe
  generalize hR0 : Array.replicate 32 (Value.bool false) = R at *
  have HRs := Lib.hid (show R.size = 32 by rw [← hR0]; simp)
  clear hR0
  have hlt1 : w.heap.size + 2 ≤ w1.heap.size := by have := hb1.size; simp at this; omega
  have hwb : Below w.heap.size w w1 := (((Below.refl _ w).alloc (Nat.le_refl _) _).alloc (by simp) _).trans (hb1.mono (by simp; omega))
  have hr0 : w1.heap[w.heap.size]? = some (.cells C0 109 (0, 0)) := (hb1.block _ (by simp; omega)).trans (heap_alloc2_old _ _ _)
  have hr1 : w1.heap[w.heap.size + 1]? = some (.cells R 109 (0, 0)) := (hb1.block _ (by simp)).trans (heap_alloc2_new _ _ _)
  simp only []
  rename ∀ (a : Act) (w : World), wpList _ _ _ _ a w → _ => hK
  refine hK _ _ ?_
  clear hK
  have HS : Hid (S3 w ((w1.alloc (.cells R 109)).setRow w1.heap.size P) w1.heap.size C0 R P) :=
    ⟨(setRow_other _ _ _ _ (by omega)).trans ((heap_alloc_old _ _ (by omega)).trans hr0), (setRow_other _ _ _ _ (by omega)).trans ((heap_alloc_old _ _ (by omega)).trans hr1), setRow_heap _ _ _ _ _ _ (heap_alloc_new _ _), hlt1,
      ⟨hwb.os, hwb.tape, hwb.output, by have := hwb.size; simp; omega, fun k hk => (setRow_other _ _ _ _ (by have := hwb.size; omega)).trans ((heap_alloc_old _ _ (by have := hwb.size; omega)).trans (hwb.block k hk))⟩⟩
  have hsi : (Tryd.prog.info? 109).map (·.size) = some P.size := by rw [HPs.out]; exact wSize
  go_step
  go_step
  go_step
  refine wpList_store_row (by rfl) _ _ _ (by rfl) w1.heap.size P (by rfl) (by rfl) 109 R (heap_alloc_new _ _) hsi (by rw [HRs.out, HPs.out]) HP1.out ?_
  generalize World.setRow _ w1.heap.size P = W at *
  generalize w1.heap.size = q at *
  clear hb1 hwb hr0 hr1 hlt1 hz hzs
  have HS' : Hid (S3 w W q (bitsV n).toArray R P) := by rw [HC0.out]; exact HS.out
  clear HS hsi HP1 HC HC0
  go_wp2
  go_loopw [4] (fun i wr => ∃ (k x : Nat), k ≤ 8 ∧ i = .int .i64 k ∧ x < 4294967296 ∧ Hid (Cr.shn (8 - k) x = Cr.shn 8 n) ∧ Hid (S3 w wr q (bitsV x).toArray R P)) (fun i _ => 8 - (intOf i).toNat)
  case atStart => exact ⟨0, n, by omega, rfl, h, rfl, HS'⟩
  case round =>
    obtain ⟨k, x, hk, rfl, hx, HE, HR⟩ := hrel
    by_cases hlt : k < 8
    · have hlt' : (k : Int) < 8 := by omega
      have HE' : Hid (Cr.shn (8 - (k + 1)) (Cr.sh1 x) = Cr.shn 8 n) := by
        have := HE.out
        rw [show 8 - k = (8 - (k + 1)) + 1 by omega] at this
        exact this
      have hs1 := Cr.sh1_lt (n := x) (by omega)
      have HB0 := Lib.hid (BitsTo.of x)
      have c0 : wr.cell? ⟨w.heap.size, 0, none⟩ = some (.bool (x.testBit 0)) := by
        rw [cell_of_row _ _ _ _ _ _ HR.out.h0, HB0.out.2 0 (by omega)]
      clear HS'
      generalize hout : x.testBit 0 = out at *
      have HOut := Lib.hid hout
      clear hout
      go_wp2
      go_loopw [6] (fun i wx => ∃ (j : Nat) (cs : Array Value), j ≤ 31 ∧ i = .int .i64 j ∧ Hid (S3 w wx q cs R P) ∧ Hid (BitsTo cs (fun t => if t < j then x.testBit (t + 1) else x.testBit t))) (fun i _ => 31 - (intOf i).toNat)
      case atStart => exact ⟨0, _, by omega, rfl, HR, HB0.out.1, fun t ht => by rw [HB0.out.2 t ht]; simp⟩
      case round =>
        obtain ⟨j, cs, hj, rfl, HR2, HB⟩ := hrel
        by_cases hj31 : j < 31
        · have hj31' : (j : Int) < 31 := by omega
          have c1 : wr.cell? ⟨w.heap.size, j + 1, none⟩ = some (.bool (x.testBit (j + 1))) := by
            rw [cell_of_row _ _ _ _ _ _ HR2.out.h0, HB.out.2 (j + 1) (by omega)]
            show some (Value.bool (if j + 1 < j then _ else _)) = _
            rw [if_neg (by omega)]
          have c2 : wr.cell? ⟨w.heap.size, j, none⟩ = some (.bool (x.testBit j)) := by
            rw [cell_of_row _ _ _ _ _ _ HR2.out.h0, HB.out.2 j (by omega)]
            simp
          have c3 : wr.frozen? ⟨w.heap.size, j, none⟩ = false := frozen_of_row _ _ _ _ _ HR2.out.h0
          have HN := Lib.hid (HR2.out.set j (.bool (x.testBit (j + 1))))
          have HB' : Hid (BitsTo (cs.setIfInBounds j (.bool (x.testBit (j + 1)))) (fun t => if t < j + 1 then x.testBit (t + 1) else x.testBit t)) := HB.out.set j _ fun t ht => by
            by_cases hjt : j = t
            · subst hjt; simp
            · rw [if_neg hjt]
              by_cases h2 : t < j
              · rw [if_pos h2, if_pos (by omega)]
              · rw [if_neg h2, if_neg (by omega)]
          have hj0 : (0 : Int) ≤ (j : Int) + 1 := by omega
          have hj32 : (j : Int) + 1 < 32 := by omega
          have hj32' : (j : Int) < 32 := by omega
          generalize x.testBit (j + 1) = v1 at *
          generalize x.testBit j = v2 at *
          go_wp2
          go_roundw
          case rel => exact ⟨j + 1, _, by omega, by go_num, HN, HB'⟩
          case measure => simp [intOf]; omega
        · obtain rfl : j = 31 := by omega
          have hC : cs.setIfInBounds 31 (.bool false) = (bitsV (x / 2)).toArray := BitsTo.eq (HB.out.set 31 false fun t ht => by
            by_cases h31 : 31 = t
            · subst h31
              rw [if_pos rfl]
              exact Nat.testBit_lt_two_pow (by omega)
            · rw [if_neg h31, if_pos (by omega), Nat.testBit_succ])
          have HN0 := HR2.out.set 31 (.bool false)
          rw [hC] at HN0
          have HN := Lib.hid HN0
          have c2 : wr.cell? ⟨w.heap.size, 31, none⟩ = some (.bool (x.testBit 31)) := by
            rw [cell_of_row _ _ _ _ _ _ HR2.out.h0, HB.out.2 31 (by omega)]
            show some (Value.bool (if 31 < 31 then _ else _)) = _
            rw [if_neg (by omega)]
          have c3 : wr.frozen? ⟨w.heap.size, 31, none⟩ = false := frozen_of_row _ _ _ _ _ HR2.out.h0
          clear hC HN0 HB HR2 HB0
          generalize x.testBit 31 = v31 at *
          have hj31' : ¬ ((31 : Nat) : Int) < 31 := by omega
          rename ∀ (a : Act) (w : World), Code.wp _ _ _ a w → _ => hK
          have HK := Lib.hid hK
          clear hK
          go_wp2
          refine HK.out _ _ ?_
          cases out
          · have hsx : x / 2 = Cr.sh1 x := sh1_even x (by have := HOut.out; rw [Nat.testBit_zero] at this; simp at this; omega)
            rw [hsx] at HN
            have HNN := Lib.hid HN.out
            clear HN hsx
            go_wp2
            go_roundw
            case rel => exact ⟨k + 1, Cr.sh1 x, by omega, by go_num, by omega, HE', HNN⟩
            case measure => simp [intOf]; omega
          · have hsx : x / 2 ^^^ 3988292384 = Cr.sh1 x := by
              have h1 : x % 2 = 1 := by have := HOut.out; rw [Nat.testBit_zero] at this; simpa using this
              rw [Cr.sh1, if_pos h1]
              rfl
            have X := xor_any (x / 2) 3988292384 (wr.setCell ⟨w.heap.size, 31, none⟩ (.bool false))
            rw [HPe.out, hsx] at X
            have HY := Lib.hid (show (bitsV (x / 2)).toArray.size = 32 by simp [bitsV_len])
            have HZ := Lib.hid (show (bitsV (Cr.sh1 x)).toArray.size = 32 by simp [bitsV_len])
            have HZ1 := Lib.hid (bitsV_one (Cr.sh1 x))
            clear hsx
            generalize hZe : (bitsV (Cr.sh1 x)).toArray = Z at *
            have HZe := Lib.hid hZe
            clear hZe
            generalize (bitsV (x / 2)).toArray = Y at *
            have hsiY : (Tryd.prog.info? 109).map (·.size) = some Y.size := by rw [HY.out]; exact wSize
            have hsiP : (Tryd.prog.info? 109).map (·.size) = some P.size := by rw [HPs.out]; exact wSize
            have hsiZ : (Tryd.prog.info? 109).map (·.size) = some Z.size := by rw [HZ.out]; exact wSize
            go_step
            rename ∀ (a : Act) (w : World), Code.wp _ _ _ a w → _ => hK2
            have HK2 := Lib.hid hK2
            clear hK2
            go_wp2
            refine HK2.out _ _ ?_
            clear c2 c3
            generalize World.setCell _ _ _ = W3 at *
            go_step
            rename ∀ (a : Act) (w : World), Code.wp _ _ _ a w → _ => hK3
            have HK3 := Lib.hid hK3
            clear hK3
            go_wp2
            refine HK3.out _ _ ?_
            go_step
            go_step
            refine wpList_load_row (by rfl) _ _ (by rfl) w.heap.size (by rfl) 109 Y (0, 0) _ HN.out.h0 Tryd.underlying109 (by rfl) hsiY ?_
            refine wpList_load_row (by rfl) _ _ (by rfl) q (by rfl) 109 P (0, 0) _ HN.out.h2 Tryd.underlying109 (by rfl) hsiP ?_
            go_wp2_with fail
            refine X.mono ?_
            rintro e w4 ⟨rfl, hb4⟩
            clear X
            simp only []
            rename ∀ (a : Act) (w : World), wpList _ _ _ _ a w → _ => hK4
            refine hK4 _ _ ?_
            clear hK4
            have HL := HN.out.later hb4
            refine wpList_store_row (by rfl) _ _ _ (by rfl) w.heap.size Z (by rfl) (by rfl) 109 Y HL.h0 hsiZ (by rw [HY.out, HZ.out]) HZ1.out ?_
            have HF := Lib.hid (HL.row Z)
            generalize World.setRow _ _ Z = W5 at *
            rw [← HZe.out] at HF
            clear HL hb4 HN
            have HFF := Lib.hid HF.out
            clear HF
            go_wp2
            go_roundw
            case rel => exact ⟨k + 1, Cr.sh1 x, by omega, by go_num, by omega, HE', HFF⟩
            case measure => simp [intOf]; omega
    · obtain rfl : k = 8 := by omega
      have hxe : x = Cr.shn 8 n := HE.out
      have h1 := bitsV_one x
      have hsz : (bitsV x).toArray.size = 32 := by simp [bitsV_len]
      generalize hCe : (bitsV x).toArray = C at *
      rw [hxe] at hCe
      have HCe := Lib.hid hCe
      clear hCe hxe HE
      rename ∀ (a : Act) (w : World), Code.wp _ _ _ a w → _ => hK
      have HK := Lib.hid hK
      clear hK
      have hlt' : ¬ ((8 : Nat) : Int) < 8 := by omega
      have hsi : (Tryd.prog.info? 109).map (·.size) = some C.size := by rw [hsz]; exact wSize
      go_wp2
      refine HK.out _ _ ?_
      go_step
      go_step
      refine wpList_load_row (by rfl) _ _ (by rfl) w.heap.size (by rfl) 109 C (0, 0) _ HR.out.h0 Tryd.underlying109 (by rfl) hsi ?_
      refine wpList_store_row (by rfl) _ _ _ (by rfl) (w.heap.size + 1) C (by rfl) (by rfl) 109 R HR.out.h1 hsi (by rw [HRs.out, hsz]) h1 ?_
      have HF := setRow_heap wr (w.heap.size + 1) R C 109 (0, 0) HR.out.h1
      have hb := HR.out.b
      have hb2 : Below w.heap.size w (wr.setRow (w.heap.size + 1) C) := ⟨hb.os, hb.tape, hb.output, by simp [hb.size], fun k hk => (setRow_other _ _ _ _ (by omega)).trans (hb.block k hk)⟩
      generalize wr.setRow (w.heap.size + 1) C = W2 at *
      have HFH := Lib.hid HF
      clear HF HR
      go_wp2
      refine bodyPost_ret (results_cell_row (P := Tryd.prog) (fn := Tryd.f66) rfl _ _ (w.heap.size + 1) 109 C (0, 0) _ (by rfl) HFH.out Tryd.underlying109 (by rfl) hsi) rfl ⟨by rw [HCe.out], hb2⟩
end Go.Proofs.YtbohdmconeebeaaDoor

namespace Go.Proofs.YtbohdmconeebeaaDoor
open Go.RowKit
set_option maxRecDepth 100000

section
variable {P : Program} {ops : Array Oper}
/-- a load, by what every world of the class holds there -/
theorem wpQ2_load {Q : (World → Prop) → Act → Prop} {o : Oper} {rest : List Oper} {C : World → Prop} {a : Act} {t : TypeId} {x : Operand} {ad : Addr} (v : Value) (hop : o.op = .load t x) (hg : o.guard = none) (hx : a.eval x = .pointer (some ad))
    (hrun : ∀ w, C w → (Instr.loadAt t (.pointer (some ad))).run P w = .ok v w) (h : wpQ2 P ops Q rest C (a.put o.dst v)) : wpQ2 P ops Q (o :: rest) C a := by
  refine ⟨v, C, .inr (.inl ⟨by simp [kindOf, pureOp, hop], rfl, .inl ⟨by simp [Region.wanted, hg], fun w hC => ?_⟩⟩), h⟩
  unfold Oper.quietAt execOp
  simp only [hop, hx]
  rw [Sem.run_bind, hrun w hC]
  exact ⟨rfl, rfl⟩
end

/-- a row that the call made, in block q -/
structure R1 (w wr : World) (q : Nat) (C : Array Value) : Prop where
  h0 : wr.heap[q]? = some (.cells C 109 (0, 0))
  hq : w.heap.size ≤ q
  b : Below w.heap.size w wr
theorem R1.later {w wr w2 : World} {q : Nat} {C : Array Value} (h : R1 w wr q C) (hb : Below wr.heap.size wr w2) : R1 w w2 q C :=
  ⟨(hb.block _ (Array.getElem?_eq_some_iff.1 h.h0).1).trans h.h0, h.hq, h.b.trans (hb.mono h.b.size)⟩
theorem R1.row {w wr : World} {q : Nat} {C : Array Value} (h : R1 w wr q C) (Z : Array Value) : R1 w (wr.setRow q Z) q Z :=
  ⟨setRow_heap _ _ _ _ _ _ h.h0, h.hq, ⟨h.b.os, h.b.tape, h.b.output, by simp [h.b.size], fun k hk => (setRow_other _ _ _ _ (by have := h.hq; omega)).trans (h.b.block k hk)⟩⟩

set_option maxHeartbeats 1000000 in
theorem rsum_any (B : Nat) (a : Option Addr) (n c : Nat) (zs : List Int) (w : World) (hn : zs.length = n) (hl : n ≤ 1000000) (hz : Bytes zs) (hB : B ≤ w.heap.size) (h1 : Nums .u8 w B a zs) :
    Calls Tryd.prog 52 #[.slice a n c] w fun e w' => e = .returned (.int .u32 ((Cr.sum zs : Nat) : Int)) ∧ Below w.heap.size w w' := by
  have HZ := Lib.hid hz
  have HN := Lib.hid hn
  have H1 := Lib.hid (h1.mono hB)
  clear hz hn h1
  obtain ⟨hz, hzs⟩ := zero_of_info (P := Tryd.prog) (t := 109) (v := .agg (Array.replicate 32 (.bool false))) (n := 32) (by kernel_rfl)
  go_enter Tryd.func52, Tryd.ntmps52
  go_wp2_with fail
  refine (of_any 4294967295 _ (by omega)).mono ?_
  rintro e w1 ⟨rfl, hb1⟩
  have HP1 := Lib.hid (bitsV_one 4294967295)
  have HPs := Lib.hid (show (bitsV 4294967295).toArray.size = 32 by simp [bitsV_len])
  generalize hPe : (bitsV 4294967295).toArray = P at *
  have HPe := Lib.hid hPe
  clear hPe
  simp only []
  rename ∀ (a : Act) (w : World), wpList _ _ _ _ a w → _ => hK
  refine hK _ _ ?_
  clear hK
  have HS0 : R1 w (w1.alloc (.cells (Array.replicate 32 (.bool false)) 109)) w1.heap.size (Array.replicate 32 (.bool false)) := ⟨heap_alloc_new _ _, hb1.size, hb1.alloc hb1.size _⟩
  have HS := Lib.hid (HS0.row P)
  have hsi : (Tryd.prog.info? 109).map (·.size) = some P.size := by rw [HPs.out]; exact wSize
  go_step
  go_step
  go_step
  refine wpList_store_row (by rfl) _ _ _ (by rfl) w1.heap.size P (by rfl) (by rfl) 109 (Array.replicate 32 (.bool false)) HS0.h0 hsi (by rw [HPs.out]; rfl) HP1.out ?_
  clear HS0
  generalize World.setRow _ w1.heap.size P = W at *
  generalize w1.heap.size = q at *
  rw [← HPe.out] at HS
  have HS2 := Lib.hid HS.out
  clear hb1 hz hzs HS hsi HP1 HPs
  go_wp2
  go_loopw [4] (fun i wr => ∃ (k m : Nat), k ≤ n ∧ i = .int .i64 k ∧ m < 4294967296 ∧ Hid (m = Cr.crc Cr.ones (zs.take k)) ∧ Hid (R1 w wr q (bitsV m).toArray)) (fun i _ => n - (intOf i).toNat)
  case atStart => exact ⟨0, 4294967295, by omega, rfl, by omega, rfl, HS2.out⟩
  case round =>
    obtain ⟨k, m, hk, rfl, hm, HM, HR⟩ := hrel
    by_cases hlt : k < n
    · obtain ⟨z, hc⟩ : ∃ z, zs[k]? = some z := ⟨_, List.getElem?_eq_getElem (by rw [HN.out]; exact hlt)⟩
      have hzb := HZ.out z (List.mem_of_getElem? hc)
      have HMM := Lib.hid (crc_more Cr.ones hc)
      obtain ⟨b1, o1, rfl, hb1, hc1⟩ := (H1.out.below HR.out.b).open hc
      clear hc H1
      obtain ⟨y, rfl⟩ := Int.eq_ofNat_of_zero_le hzb.1
      have hy : y < 256 := by omega
      rw [Int.toNat_natCast, ← HM.out] at HMM
      have hlt' : (k : Int) < (n : Int) := by omega
      have hx := Cr.byte_xor_lt (s := m) (b := y) (by omega) hy
      have hs := Cr.shn_lt 8 hx
      clear hzb
      have hO := fun W => of_any y W (by omega)
      have hX := fun W => xor_any m y W
      have hS := fun W => shift_any (m ^^^ y) W (by simpa using hx)
      have HYs := Lib.hid (show (bitsV m).toArray.size = 32 by simp [bitsV_len])
      have HZs := Lib.hid (show (bitsV (Cr.shn 8 (m ^^^ y))).toArray.size = 32 by simp [bitsV_len])
      have HZ1 := Lib.hid (bitsV_one (Cr.shn 8 (m ^^^ y)))
      generalize hZe : (bitsV (Cr.shn 8 (m ^^^ y))).toArray = Z at *
      have HZe := Lib.hid hZe
      clear hZe
      generalize (bitsV (m ^^^ y)).toArray = XY at *
      generalize (bitsV y).toArray = Yb at *
      generalize (bitsV m).toArray = Mb at *
      have hsiY : (Tryd.prog.info? 109).map (·.size) = some Mb.size := by rw [HYs.out]; exact wSize
      have hsiZ : (Tryd.prog.info? 109).map (·.size) = some Z.size := by rw [HZs.out]; exact wSize
      have hcB : b1 < wr.heap.size := Nat.lt_of_lt_of_le hb1 HR.out.b.size
      go_wp2
      refine wp_region_lex2 (C := fun W => Below wr.heap.size wr W) (by kernel_rfl) (by kernel_rfl) (Below.refl _ _).drew ?_
      refine wpQ2_load (.agg Mb) rfl rfl (by rfl) (fun W hW => ?_) ?_
      · exact run_loadVar_row W q 109 109 Mb (0, 0) _ (HR.out.later hW).h0 Tryd.underlying109 (by rfl) hsiY
      simp only [Act.put, List.setIfInBounds_toArray, List.set_cons_succ, List.set_cons_zero]
      repeat (refine wpQ2_pure rfl ?_; go_big_quiet_step (fail); refine wpQuiet_nil ?_)
      refine wpQ2_load (ad := ⟨b1, o1 + k, none⟩) (.int .u8 (y : Int)) rfl rfl (by rfl) (fun W hW => ?_) ?_
      · have := (hW.cell (p := ⟨b1, o1 + k, none⟩) hcB).trans hc1
        simp [Instr.loadAt, go_sem, this]
      simp only [Act.put, List.setIfInBounds_toArray, List.set_cons_succ, List.set_cons_zero]
      repeat (refine wpQ2_pure rfl ?_; go_big_quiet_step (fail); refine wpQuiet_nil ?_)
      refine wpQ2_look rfl ?_
      go_big_quiet_step ((intro hC; first | rfl | (go_at_call 65; exact calls_below hC hC.size (hO _))))
      refine wpQuiet_nil ?_
      refine wpQ2_look rfl ?_
      go_big_quiet_step ((intro hC; first | rfl | (go_at_call 67; exact calls_below hC hC.size (hX _))))
      refine wpQuiet_nil ?_
      refine wpQ2_look rfl ?_
      go_big_quiet_step ((intro hC; first | rfl | (go_at_call 66; exact calls_below hC hC.size (hS _))))
      refine wpQuiet_nil ?_
      refine wpQ2_store (fun W => R1 w W q Z) rfl rfl rfl ⟨q, 0, none⟩ (.agg Z) (by rfl) (by rfl) (fun W hW => ?_) ?_
      · exact ⟨W.setRow q Z, run_storeVar_row W q 109 109 Mb Z (HR.out.later hW).h0 hsiZ (by rw [HYs.out, HZs.out]) HZ1.out, (HR.out.later hW).row Z⟩
      intro W2 hW2
      have HW2 := Lib.hid hW2
      clear hW2
      rw [← HZe.out] at HW2
      have HW3 := Lib.hid HW2.out
      clear HW2 hO hX hS
      go_wp2
      go_roundw
      case rel => exact ⟨k + 1, Cr.shn 8 (m ^^^ y), by omega, by go_num, by omega, HMM.out.symm, HW3.out⟩
      case measure => simp [intOf]; omega
    · have hkn : k = n := by omega
      have HK0 := Lib.hid hkn
      clear hkn
      have hsz : (bitsV m).toArray.size = 32 := by simp [bitsV_len]
      have X := fun W => bword_any m W hm
      generalize (bitsV m).toArray = C at *
      rename ∀ (a : Act) (w : World), Code.wp _ _ _ a w → _ => hK
      have HK := Lib.hid hK
      clear hK
      have hlt' : ¬ (k : Int) < (n : Int) := by omega
      have hsi : (Tryd.prog.info? 109).map (·.size) = some C.size := by rw [hsz]; exact wSize
      go_wp2
      refine HK.out _ _ ?_
      go_step
      go_step
      refine wpList_load_row (by rfl) _ _ (by rfl) q (by rfl) 109 C (0, 0) _ HR.out.h0 Tryd.underlying109 (by rfl) hsi ?_
      have hm' : (m : Int) < 4294967296 := by omega
      go_wp2_with fail
      refine (X _).mono ?_
      rintro e w5 ⟨rfl, hb5⟩
      have hb6 := HR.out.b.trans (hb5.mono HR.out.b.size)
      go_wp2
      go_ret
      refine ⟨ret_int ?_, hb6⟩
      rw [show Cr.sum zs = Cr.ones - m by rw [HM.out, HK0.out, ← HN.out, List.take_length]; rfl]
      simp only [Cr.ones]
      omega
end Go.Proofs.YtbohdmconeebeaaDoor

namespace Go.Proofs.YtbohdmconeebeaaDoor
open Go.RowKit
set_option maxRecDepth 100000

theorem rbytes_any (n : Nat) (w : World) (h : n < 4294967296) : Calls Tryd.prog 51 #[.int .u32 n] w fun e w' => e = .returned (.slice (some ⟨w.heap.size, 0, none⟩) 4 4) ∧ Nums .u8 w' w'.heap.size (some ⟨w.heap.size, 0, none⟩) (Cr.le4 n) ∧ Below w.heap.size w w' := by
  have HL := Lib.hid (le4_is n h)
  have hn := Nums.new .u8 w 5 [(n : Int) % 256, (n : Int) / 256 % 256, (n : Int) / 65536 % 256, (n : Int) / 16777216] _ rfl
  simp only [List.map_cons, List.map_nil] at hn
  have HN := Lib.hid hn
  clear hn
  go_enter Tryd.func51, Tryd.ntmps51
  go_wp2
  go_ret
  refine ⟨rfl, ?_, (Below.refl _ w).alloc (Nat.le_refl _) _⟩
  rw [HL.out, World.size_alloc]
  exact HN.out

theorem le4_get (S k : Nat) (h : k < 4) : ∃ c, (Cr.le4 S)[k]? = some c := ⟨_, List.getElem?_eq_getElem (by rw [Cr.le4_len]; exact h)⟩

/-- sealed bytes are opened -/
theorem openOf_sealed (zs : List Int) : openOf (zs ++ Cr.le4 (Cr.sum zs)) = (0, zs) := by
  have h1 : (zs ++ Cr.le4 (Cr.sum zs)).length = zs.length + 4 := by rw [List.length_append, Cr.le4_len]
  unfold openOf
  rw [h1, if_neg (by omega), show zs.length + 4 - 4 = zs.length by omega, List.take_left, if_pos rfl]
end Go.Proofs.YtbohdmconeebeaaDoor

namespace Go.Proofs.YtbohdmconeebeaaDoor
open Go.RowKit
section
variable {P : Program} {l : List Oper} {vs : List Value} {fs : List Tmp} {FS : Tmp → Value → World → Prop} {I : World → Prop} {a0 : Act}
theorem lex_take : ∀ (l : List Oper) (vs us : List Value) (a : Act) (n j : Nat), j ≤ n → vs.length = (l.take n).length → lex (l.take n) vs a j = lex l (vs ++ us) a j
  | _, _, _, _, _, 0, _, _ => by rw [lex_zero, lex_zero]
  | [], vs, us, a, n, j + 1, _, _ => by simp [lex]
  | o :: r, [], us, a, n + 1, j + 1, _, h2 => by simp at h2
  | o :: r, v :: vs, us, a, n + 1, j + 1, h1, h2 => by
    rw [List.take_succ_cons, List.cons_append, lex, lex]
    exact lex_take r vs us _ n j (by omega) (by simpa using h2)
theorem count_take {L : Array Bool} {n i : Nat} (hi : i < n) (h : L.getD i true = false) : ((L.setIfInBounds i true).toList.take n).count false + 1 = (L.toList.take n).count false := by
  have hL : (L.setIfInBounds i true).toList.take n = (((L.toList.take n).toArray).setIfInBounds i true).toList := by
    simp [List.take_set]
  rw [hL]
  refine count_set (L := (L.toList.take n).toArray) ?_
  rw [Array.getD_eq_getD_getElem?] at h ⊢
  simpa [List.getElem?_take, hi] using h
theorem count_take_zero {L : Array Bool} {n : Nat} (h : (L.toList.take n).count false = 0) (j : Nat) (hj : j < n) : L.getD j true = true := by
  have := count_zero (L := (L.toList.take n).toArray) (by simpa using h) j
  rw [Array.getD_eq_getD_getElem?] at this ⊢
  simpa [List.getElem?_take, hj] using this
theorem count_take_pos {L : Array Bool} {n f : Nat} (h : (L.toList.take n).count false = f + 1) : ∃ i, i < n ∧ L.getD i true = false := by
  have : 0 < (L.toList.take n).count false := by omega
  rw [List.count_pos_iff] at this
  obtain ⟨i, hi, hv⟩ := List.getElem_of_mem this
  rw [List.length_take] at hi
  refine ⟨i, by omega, ?_⟩
  rw [Array.getD_eq_getD_getElem?]
  have h2 : i < L.size := by have : L.toList.length = L.size := by simp
                             omega
  rw [List.getElem_take] at hv
  simp [h2]
  simpa using hv

theorem any_of_FT {N n : Nat} {Q' : Exit → Act → World → Prop} (hR : RG .any l.toArray N) (hN : N ≤ a0.tmps.size) (hlen : vs.length = l.length) (hI : Closed I) (hF : ∀ s x w w', FS s x w → Below w.heap.size w w' → FS s x w')
    (hob : ∀ (j : Nat) o v, j < n → l[j]? = some o → vs[j]? = some v → Ob P l.toArray I fs FS o v (lex l vs a0 j)) (hn : n < l.length) (hs : Region.sinkB .any l.toArray n = true) (hc : Region.chainB .any l.toArray n = true)
    (hQ : ∀ (listed : Array Bool) b w, (∀ j, j < n → listed.getD j true = true) → (∀ t, n ≤ t → t < l.length → listed.getD t true = false) → Inv l vs fs FS I a0 listed b w → wpAny P .any l.toArray Q' (l.length - n) listed b w) :
    ∀ (f : Nat) (listed : Array Bool) (b : Act) (w : World), (listed.toList.take n).count false = f → HeadInv .any l.toArray n listed → Inv l vs fs FS I a0 listed b w → wpAny P .any l.toArray Q' (f + (l.length - n)) listed b w
  | 0, listed, b, w, hcn, hh, h => by
    rw [Nat.zero_add]
    exact hQ listed b w (fun j hj => count_take_zero hcn j hj) (fun t h1 h2 => hh.tail t h1 (by simpa using h2)) h
  | f + 1, listed, b, w, hcn, hh, h => by
    obtain ⟨i0, hi0, hu0⟩ := count_take_pos hcn
    rw [show f + 1 + (l.length - n) = (f + (l.length - n)) + 1 by omega]
    refine ⟨fun h0 => ?_, fun i hi => ?_⟩
    · have hall := ready_all hR h.lsize h0
      rw [hall i0] at hu0
      cases hu0
    have hin : i < n := by
      rcases Nat.lt_or_ge i n with h1 | h1
      · exact h1
      · exact absurd hi (tail_waits hs hc (by simpa using hn) hh _ i0 rfl hi0 hu0 i h1)
    obtain ⟨hun, o, ho, hall⟩ := mem_ready.1 hi
    have ho2 : l[i]? = some o := by simpa using ho
    have hp : ∀ e ∈ o.after, Region.binds .any e = true → listed.getD e.on true = true := fun e he hb => by
      have h1 := hall e he hb
      rw [Array.getD_eq_getD_getElem?] at h1 ⊢
      cases hx : listed[e.on]? with
      | none => rfl
      | some y => rw [hx] at h1; simpa using h1
    obtain ⟨v, hv⟩ : ∃ v, vs[i]? = some v := ⟨_, List.getElem?_eq_getElem (by rw [hlen]; exact (List.getElem?_eq_some_iff.1 ho2).1)⟩
    have hcnt := count_take hin hun
    exact op_of_F hR hN hlen h ho2 hun hp hv (hob i o v hin ho2 hv) fun u w' hb hu =>
      any_of_FT hR hN hlen hI hF hob hn hs hc hQ f _ _ w' (by omega) (hh.set hi hin) (h.next hR hN hI hF ho2 hp hb hu)

/-- ONE WALK IN THE TEXT's ORDER SERVES EVERY ORDER; the tail, behind place n, as it stands -/
theorem wp_region_FT {id : Nat} {Q : Exit → Act → World → Prop} {a : Act} {w : World} {l : List Oper} (N n : Nat) (fs : List Tmp) (FS : Tmp → Value → World → Prop) (I : World → Prop) (hm : P.follows .mixedOrders = true) (hB : rgB .any l.toArray N = true)
    (hn : decide (n < l.length) = true) (hs : Region.sinkB .any l.toArray n = true) (hc : Region.chainB .any l.toArray n = true)
    (hq : Region.seqB .any l.toArray (l.length - n) n (List.replicate n true ++ List.replicate (l.length - n) false).toArray = true)
    (hfs : (fs.all fun s => (l.take n).any fun o => o.dst == some s) = true) (hN : N ≤ a.tmps.size) (hI : Closed I) (hF : ∀ s x w w', FS s x w → Below w.heap.size w w' → FS s x w') (hC : I w.drew)
    (h : wpF P l.toArray I fs FS (fun a' => ∀ xs w', I w' → (∀ s ∈ fs, FS s (xs s) w') → wpList P l.toArray Q (l.drop n) (fill fs xs a') w') (l.take n) a) : (Code.region id l.toArray true).wp P Q a w := by
  have hR := rgB_spec hB
  have hn' : n < l.length := by simpa using hn
  obtain ⟨vs0, hlen0, hob0, hE0⟩ := wpF_vals (l.take n) a h
  have htl : (l.take n).length = n := by rw [List.length_take]; omega
  rw [htl] at hlen0 hE0
  obtain ⟨vs, hvs⟩ : ∃ vs, vs0 ++ List.replicate (l.length - n) undef = vs := ⟨_, rfl⟩
  have hlen : vs.length = l.length := by rw [← hvs, List.length_append, List.length_replicate]; omega
  have hlex : ∀ j, j ≤ n → lex (l.take n) vs0 a j = lex l vs a j := fun j hj => by rw [← hvs]; exact lex_take l vs0 _ a n j hj (by rw [hlen0, htl])
  have hob : ∀ (j : Nat) o v, j < n → l[j]? = some o → vs[j]? = some v → Ob P l.toArray I fs FS o v (lex l vs a j) := fun j o v hj ho hv => by
    rw [← hlex j (by omega)]
    refine hob0 j o v (by rw [List.getElem?_take, if_pos hj]; exact ho) ?_
    rw [← hvs, List.getElem?_append_left (by omega)] at hv
    exact hv
  rw [hlex n (Nat.le_refl _)] at hE0
  have inv0 : HeadInv .any l.toArray n (Array.replicate l.toArray.size false) :=
    ⟨by simp, fun j oj _ hl => (by rw [getD_replicate_false] at hl; cases hl), fun t _ ht => getD_in (by simpa using ht) (getD_replicate_false _ _)⟩
  refine wp_region_any hm ?_
  have key := any_of_FT (Q' := Q) (l := l) (vs := vs) (fs := fs) (FS := FS) (I := I) (a0 := a) (n := n) hR hN hlen hI hF hob hn' hs hc ?_ n (Array.replicate l.toArray.size false) a w.drew (by
      simp only [List.size_toArray, Array.toList_replicate, List.take_replicate, List.count_replicate_self]; omega) inv0 ?_
  · rw [show n + (l.length - n) = l.toArray.size by simp; omega] at key
    exact key
  · intro listed b W hall hno hinv
    have hw : ∀ s ∈ fs, ∃ x, b.tmps[s]? = some x ∧ FS s x W := fun s hs => by
      rw [List.all_eq_true] at hfs
      have h1 := hfs s hs
      rw [List.any_eq_true] at h1
      obtain ⟨o, ho, hd⟩ := h1
      obtain ⟨j, hj, rfl⟩ := List.getElem_of_mem ho
      have hj1 : j < n := by rw [List.length_take] at hj; omega
      have hj2 : j < l.length := by omega
      have hd' : (l[j]).dst = some s := by simpa using hd
      obtain ⟨v, hv⟩ : ∃ v, vs[j]? = some v := ⟨_, List.getElem?_eq_getElem (by rw [hlen]; exact hj2)⟩
      exact (hinv.ins j l[j] s v (List.getElem?_eq_getElem hj2) (hall j hj1) hd' hv).1 hs
    have hb : b = fill fs (fun s => b.tmps.getD s undef) (lex l vs a n) := by
      have ht : b.tmps = (fill fs (fun s => b.tmps.getD s undef) (lex l vs a n)).tmps := by
        apply Array.ext_getElem?
        intro d
        by_cases hd : d ∈ fs
        · obtain ⟨x, hx, _⟩ := hw d hd
          have hlt : d < (lex l vs a n).tmps.size := by
            rw [(lex_size l vs a n).1, ← hinv.size]
            exact (Array.getElem?_eq_some_iff.1 hx).1
          rw [fill_in fs _ _ d hd hlt, hx]
          simp [hx]
        · rw [fill_out fs _ _ d hd]
          by_cases hwr : ∃ (j : Nat) (oj : Oper), j < n ∧ l[j]? = some oj ∧ oj.dst = some d
          · obtain ⟨j, oj, hjn, hj, hdj⟩ := hwr
            obtain ⟨v, hv⟩ : ∃ v, vs[j]? = some v := ⟨_, List.getElem?_eq_getElem (by rw [hlen]; exact (List.getElem?_eq_some_iff.1 hj).1)⟩
            have hj' : l.toArray[j]? = some oj := by simpa using hj
            rw [(hinv.ins j oj d v hj (hall j hjn) hdj hv).2 hd]
            exact (lex_in l vs a n j oj d v hj hjn hv hdj (Nat.lt_of_lt_of_le (hR.small _ _ _ hj' hdj) hN) fun i oi hi _ hne => hR.once i j oi oj d (by simpa using hi) hj' hdj hne).symm
          · rw [lex_out l vs a n d fun i oi hi hin hdi => hwr ⟨i, oi, hin, hi, hdi⟩]
            refine hinv.out d fun i oi hi hli hdi => hwr ⟨i, oi, ?_, hi, hdi⟩
            rcases Nat.lt_or_ge i n with h1 | h1
            · exact h1
            · rw [hno i h1 (List.getElem?_eq_some_iff.1 hi).1] at hli; cases hli
      have hd : b.defers = (fill fs (fun s => b.tmps.getD s undef) (lex l vs a n)).defers := by
        rw [(fill_size ..).2, (lex_size ..).2]
        exact hinv.defers
      cases b
      simp only at ht hd
      rw [Act.mk.injEq]
      exact ⟨ht, hd⟩
    have hL : listed = (List.replicate n true ++ List.replicate (l.length - n) false).toArray := by
      apply Array.ext
      · simp [hinv.lsize]; omega
      · intro j h1 h2
        have hj : j < l.length := by rw [← hinv.lsize]; exact h1
        by_cases hjn : j < n
        · have h3 := hall j hjn
          rw [Array.getD_eq_getD_getElem?, Array.getElem?_eq_getElem h1] at h3
          simp only [List.getElem_toArray]
          rw [List.getElem_append_left (by simpa using hjn)]
          simpa using h3
        · have h3 := hno j (by omega) hj
          rw [Array.getD_eq_getD_getElem?, Array.getElem?_eq_getElem h1] at h3
          simp only [List.getElem_toArray]
          rw [List.getElem_append_right (by simpa using Nat.le_of_not_lt hjn)]
          simpa using h3
    have hE := hE0 (fun s => b.tmps.getD s undef) W hinv.cls fun s hs => by
      obtain ⟨x, hx, hf⟩ := hw s hs
      simpa [hx] using hf
    rw [← hb] at hE
    have := wpAny_of_seq (md := .any) (Q' := Q) (l.drop n) n listed b W (fun j => by simp [List.getElem?_drop]) (by rw [List.length_drop, hL]; exact hq) hE
    rwa [List.length_drop] at this
  · refine ⟨hC, rfl, rfl, fun _ _ => rfl, fun j o d v hj hlj => ?_, fun j o hj hlj => ?_, by simp⟩
    all_goals
      have hlt := (List.getElem?_eq_some_iff.1 hj).1
      rw [Array.getD_eq_getD_getElem?] at hlj
      simp [hlt] at hlj
end
end Go.Proofs.YtbohdmconeebeaaDoor

namespace Go.Proofs.YtbohdmconeebeaaDoor
open Go.RowKit Go.Shelf
set_option maxRecDepth 100000
attribute [local go_sem] Oper.semAt_some

theorem made_then {e : TypeId} {k : IntKind} {w w1 w2 : World} {L : List Int} {v : Value} (h : MadeK e k w w1 L v) (hb : Below w1.heap.size w1 w2) : MadeK e k w w2 L v := by
  refine ⟨⟨h.1.1, ?_⟩, h.2.trans (hb.mono h.2.size)⟩
  rcases h.1.2 with h1 | ⟨g, cap, cur, hv, hg, hh, rest⟩
  · exact .inl h1
  · exact .inr ⟨g, cap, cur, hv, hg, by rw [hb.block g (Array.getElem?_eq_some_iff.1 hh).1]; exact hh, rest⟩
/-- what the head's bytes are good for -/
def FRh (B : Nat) (h : List Int) (_q : Tmp) (x : Value) (W : World) : Prop := W.ownsRow B 5 1 x 8 (h.map (Value.int .u8))

set_option maxHeartbeats 4000000 in
theorem rfsegment_any (v k s i c : Int) (A : Option Addr) (n cp : Nat) (zs : List Int) (hs : 0 ≤ s ∧ s ≤ 4294967295) (w : World) (h0 : fchk v k i c n = 0) (hn : zs.length = n) (hz : Bytes zs) (h1 : Nums .u8 w w.heap.size A zs) :
    Calls Tryd.prog 34 #[frV v k s i c (.slice A n cp)] w fun e w' => ∃ x, e = .returned x ∧ MadeK 5 .u8 w w' (Cb.enc (fblk v k s i c zs)) x := by
  obtain ⟨hk0, hn1, hn2⟩ := fchk_zero h0
  obtain ⟨i0, hi0, hz0, hz1, hz2⟩ := info_parts byteInfo
  have hkb := chk_zero hk0
  obtain ⟨w0, hw0⟩ : ∃ w0, w.alloc (.cells #[.int .i64 v, .int .i64 k, .int .u32 s, .int .i64 i, .int .i64 c, .slice A n cp] 35) = w0 := ⟨_, rfl⟩
  have hs0 : w0.heap.size = w.heap.size + 1 := by rw [← hw0]; simp
  have hb0 : Below w.heap.size w w0 := by rw [← hw0]; exact (Below.refl _ w).alloc (Nat.le_refl _) _
  have hd : ∀ W, Below w0.heap.size w0 W → W.cell? ⟨w.heap.size, 0, none⟩ = some (.int .i64 v) ∧ W.cell? ⟨w.heap.size, 1, none⟩ = some (.int .i64 k) ∧ W.cell? ⟨w.heap.size, 2, none⟩ = some (.int .u32 s) ∧ W.cell? ⟨w.heap.size, 3, none⟩ = some (.int .i64 i) ∧ W.cell? ⟨w.heap.size, 4, none⟩ = some (.int .i64 c) ∧ W.cell? ⟨w.heap.size, 5, none⟩ = some (.slice A n cp) := fun W hW => by
    rw [← hw0] at hW; exact fr_block (fr_cells (p := .slice A n cp) hW)
  have hzw : ∀ W, Below w0.heap.size w0 W → Nums .u8 W W.heap.size A zs := fun W hW => by
    have hbW := hb0.trans (hW.mono (by omega))
    exact (h1.below hbW).mono hbW.size
  have HC := fun W => rhbytes_any v k s i c (by omega) (by omega) (by omega) (by omega) hs W
  unfold hdV at HC
  have hbh := hdB_bytes hk0 hs
  have hh8 : (hdB v k s i c).length = 8 := rfl
  have HBL : Hid (fblk v k s i c zs = sld (hdB v k s i c ++ zs)) := rfl
  have hseg := fblk_bytes hk0 hs hz
  have hsgl := fblk_len v k s i c zs
  rw [HBL.out] at hseg hsgl ⊢
  generalize hdB v k s i c = h at *
  clear h0 hk0 h1 HBL
  have HW := Lib.hid hw0
  have HN := Lib.hid hn
  have HZW := Lib.hid hzw
  have HB0 := Lib.hid hb0
  have hhz : Bytes (h ++ zs) := hbh.append hz
  have hhl : (h ++ zs).length = n + 8 := by rw [List.length_append, hh8, hn]; omega
  unfold sld at hseg hsgl ⊢
  rw [hn] at hsgl
  have HHZ := Lib.hid hhz
  have HHL := Lib.hid hhl
  have HSL := Lib.hid hsgl
  have HH8 := Lib.hid hh8
  clear hw0 hn hzw hb0 hz hhz hhl hbh hseg hsgl hh8
  unfold frV frC
  go_enter Tryd.func34, Tryd.ntmps34
  go_wp2_with fail
  rw [HW.out]
  refine wp_region_FT 18 5 [6] (FRh w0.heap.size h) (fun W => Below w0.heap.size w0 W) (by kernel_rfl) (by kernel_rfl) (by rfl) (by kernel_rfl) (by kernel_rfl) (by kernel_rfl) (by rfl) (by simp) (fun W W' h hb => h.trans (hb.mono h.size)) (fun q x W W' h hb => owns_below h hb) (Below.refl _ _).drew ?_
  simp only [List.take_succ_cons, List.take_zero, List.drop_succ_cons, List.drop_zero]
  refine wpF_pure rfl rfl ?_; go_big_quiet_step (fail); refine wpQuiet_nil ?_
  refine wpF_load (.agg #[.int .i64 v, .int .i64 k, .int .u32 s, .int .i64 i, .int .i64 c]) rfl (by rfl) (by rfl) (by rfl) (fun W hW => by obtain ⟨d0, d1, d2, d3, d4, d5⟩ := hd W hW; simp [Instr.loadAt, go_sem, d0, d1, d2, d3, d4]) ?_
  simp only [Act.put, List.setIfInBounds_toArray, List.set_cons_succ, List.set_cons_zero]
  refine wpF_callsrc 6 (f := 49) (args := #[.agg #[.int .i64 v, .int .i64 k, .int .u32 s, .int .i64 i, .int .i64 c]]) (by simp) rfl rfl rfl (fun x => by first | rfl | (simp [go_sem]; done)) (fun W hW => (HC W).mono fun e W' ⟨x, he, hm⟩ => ?_) ?_
  · refine ⟨_, he, ?_, hm.2⟩
    have h1 := hm.1
    rw [HH8.out] at h1
    exact ⟨h1.1, h1.2.imp id fun ⟨g, cap, cur, hv, hg, r⟩ => ⟨g, cap, cur, hv, Nat.le_trans hW.size hg, r⟩⟩
  simp only [Act.put, List.setIfInBounds_toArray, List.set_cons_succ, List.set_cons_zero]
  refine wpF_pure rfl rfl ?_; go_big_quiet_step (fail); refine wpQuiet_nil ?_
  refine wpF_load (.slice A n cp) rfl (by rfl) (by rfl) (by rfl) (fun W hW => by obtain ⟨d0, d1, d2, d3, d4, d5⟩ := hd W hW; simp [Instr.loadAt, go_sem, d5]) ?_
  simp only [Act.put, List.setIfInBounds_toArray, List.set_cons_succ, List.set_cons_zero]
  intro xs W hW hx
  have h6 := hx 6 (by simp)
  have HM0 := Lib.hid (show MadeK 5 .u8 w0 W h (xs 6) from ⟨by unfold FRh at h6; rw [HH8.out]; exact h6, hW⟩)
  have hnw := HZW.out W hW
  simp only [fill, Act.put, List.setIfInBounds_toArray, List.set_cons_succ, List.set_cons_zero]
  generalize xs 6 = x6 at *
  have HNW := Lib.hid hnw
  have hc1 : h.length + n ≤ maxLen := by unfold maxLen; have := HH8.out; omega
  have hc2 : (h.length + n) * 1 ≤ 140737488355328 := by have := HH8.out; omega
  clear h6 hx hnw HC hd
  refine wpList_append_any rfl (.tmp 6) (.tmp 8) 29 rfl w0.heap.size 5 i0 (.int .u8 0) 1 Tryd.underlying29 hi0 hz0 hz1 hz2 rfl .u8 h zs _ rfl HM0.out.1 A n cp _ rfl HN.out HNW.out hc1 hc2 HM0.out.2.size ?_
  intro v1 w1 hown hg
  have HM1 := Lib.hid (HM0.out.more (zs := zs) (v' := v1) hown hg)
  have HS1 := Lib.hid HM1.out.slice
  clear hown hg
  obtain ⟨A1, c1, rfl, hcc1, hn1⟩ := HS1.out
  rw [HHL.out] at hcc1 ⊢
  have HLit := Lib.hid (MadeK.lit 5 .u8 (Below.refl w1.heap.size w1))
  have HN1 := Lib.hid (hn1.below ((Below.refl _ w1).alloc (Nat.le_refl _) (.cells #[] 5)))
  have HNO := Lib.hid hn1
  clear hn1 HS1
  go_wp2_with (at_builtin; refine wpList_append_any rfl (.tmp 10) (.tmp 11) 29 rfl w1.heap.size 5 i0 (.int .u8 0) 1 Tryd.underlying29 hi0 hz0 hz1 hz2 rfl .u8 [] (h ++ zs) _ rfl HLit.out.1 A1 (n + 8) c1 _ rfl HHL.out HN1.out ?c1 ?c2 HLit.out.2.size ?_)
  case c1 => unfold maxLen; simp only [List.length_nil]; omega
  case c2 => simp only [List.length_nil]; omega
  intro v2 w2 hown hg
  have HM2 := Lib.hid (HLit.out.more (zs := h ++ zs) (v' := v2) (by simpa using hown) hg)
  rw [List.nil_append] at HM2
  clear hown hg
  have hb2 := HM2.out.2
  have KS := Lib.hid (rsum_any w2.heap.size A1 (n + 8) c1 (h ++ zs) w2 HHL.out (by omega) HHZ.out (Nat.le_refl _) ((HNO.out.below hb2).mono hb2.size))
  have hsl := Cr.sum_lt (h ++ zs)
  clear hb2
  go_wp2_with (go_at_call 52; refine KS.out.mono ?_; rintro e w4 ⟨rfl, hb4⟩; have HB4 := Lib.hid hb4; clear hb4)
  refine (rbytes_any (Cr.sum (h ++ zs)) _ (by omega)).mono ?_
  rintro e w5 ⟨rfl, hn5, hb5⟩
  have HM5 := Lib.hid (made_then (made_then HM2.out HB4.out) hb5)
  have HN5 := Lib.hid hn5
  have H4 := Lib.hid (Cr.le4_len (Cr.sum (h ++ zs)))
  clear hn5
  go_wp2_with (at_builtin; refine wpList_append_any rfl (.tmp 12) (.tmp 15) 29 rfl w1.heap.size 5 i0 (.int .u8 0) 1 Tryd.underlying29 hi0 hz0 hz1 hz2 rfl .u8 (h ++ zs) (Cr.le4 (Cr.sum (h ++ zs))) _ rfl HM5.out.1 _ 4 4 _ rfl H4.out HN5.out ?d1 ?d2 HM5.out.2.size ?_)
  case d1 => unfold maxLen; have := HHL.out; omega
  case d2 => have := HHL.out; omega
  intro v2 w6 hown hg
  have hm6 := HM5.out.more (zs := Cr.le4 (Cr.sum (h ++ zs))) (v' := v2) (by simpa using hown) hg
  clear hown hg
  have HM6 := Lib.hid hm6
  obtain ⟨A6, c6, rfl, hc6, hn6⟩ := hm6.slice
  rw [HSL.out] at hc6 ⊢
  have hl6 : n + 12 ≤ 1000000 := by omega
  have KE := Lib.hid (rencode_any A6 (n + 12) c6 (h ++ zs ++ Cr.le4 (Cr.sum (h ++ zs))) w6 HSL.out hl6 hn6)
  clear hn6 hm6
  go_wp2_with (go_at_call 50; refine KE.out.mono ?_; rintro e w7 ⟨x7, rfl, hm7⟩; have HM7 := Lib.hid hm7; clear hm7)
  go_ret
  have hb1 := HB0.out.trans (HM1.out.2.mono HB0.out.size)
  exact ⟨x7, rfl, HM7.out.since (hb1.trans (HM6.out.2.mono hb1.size))⟩
end Go.Proofs.YtbohdmconeebeaaDoor

namespace Go.Proofs.YtbohdmconeebeaaDoor
open Go.RowKit Go.Shelf
set_option maxRecDepth 100000
attribute [local go_sem] Oper.semAt_some

/-- the first k frames on the wire -/
def wk (fs : List Fr) (k : Nat) : List Int := Fc.wrap ((fs.take k).map Fr.seg)
theorem wk_succ {fs : List Fr} {k : Nat} {f : Fr} (h : fs[k]? = some f) : wk fs (k + 1) = wk fs k ++ [0] ++ f.seg ++ [0] := by
  unfold wk
  rw [List.take_add_one, h, List.map_append, Fc.wrap_append]
  simp only [Option.toList_some, List.map_cons, List.map_nil, Fc.wrap_one, List.append_assoc]
theorem wrap_room : ∀ l : List Fr, (∀ f ∈ l, f.chk = 0) → (Fc.wrap (l.map Fr.seg)).length ≤ l.length * 300
  | [], _ => by simp [Fc.wrap]
  | f :: r, h => by
    have h1 := wrap_room r fun g hg => h g (by simp [hg])
    have h2 := Fr.seg_len (h f (by simp))
    have h3 := (fchk_zero (h f (by simp))).2.2
    rw [List.map_cons, Fc.wrap_cons]
    simp only [List.length_cons, List.length_append]
    omega
theorem wk_len {fs : List Fr} {n : Nat} (h : ∀ f ∈ fs, f.chk = 0) (hn : fs.length = n) (k : Nat) : (wk fs k).length ≤ n * 300 := by
  have h1 := wrap_room (fs.take k) fun f hf => h f (List.mem_of_mem_take hf)
  have h2 : (fs.take k).length ≤ n := by rw [List.length_take]; omega
  unfold wk
  omega

set_option maxHeartbeats 8000000 in
theorem rfwire_any (A : Option Addr) (n cp : Nat) (fs : List Fr) (w : World) (hn : fs.length = n) (hcp : n ≤ cp) (hl : n ≤ 1000) (h0 : ∀ f ∈ fs, f.chk = 0) (h1 : FrsAt w w.heap.size A fs) :
    Calls Tryd.prog 17 #[.slice A n cp] w fun e w' => ∃ x, e = .returned x ∧ MadeK 5 .u8 w w' (Fc.wrap (fs.map Fr.seg)) x := by
  obtain ⟨i0, hi, hz0, hz1, hz2⟩ := info_parts byteInfo
  have HN := Lib.hid hn
  have H0 := Lib.hid h0
  have H1 := Lib.hid h1
  have HWL := Lib.hid (wk_len h0 hn)
  have HLA : Hid (wk fs n = Fc.wrap (fs.map Fr.seg)) := by show _ = _; unfold wk; rw [List.take_of_length_le (by omega)]
  rw [← HLA.out]
  have HZ0 := fun (W : World) => Lib.hid (Nums.new .u8 W 5 [0] #[.int .u8 0] rfl)
  clear hn h0 h1 HLA
  have hnc : (n : Int) ≤ (cp : Int) := by omega
  go_enter Tryd.func17, Tryd.ntmps17
  go_wp2
  go_loopw [3, 4] (fun v iv wr => ∃ k : Nat, k ≤ n ∧ iv = .int .i64 k ∧ Hid (MadeK 5 .u8 w wr (wk fs k) v)) (fun _ iv _ => n - (intOf iv).toNat)
  case atStart => exact ⟨0, by omega, rfl, MadeK.nil _ _ (Below.refl _ _)⟩
  case round =>
    obtain ⟨k, hk, rfl, HM⟩ := hrel
    by_cases hlt : k < n
    · obtain ⟨f, hf⟩ : ∃ f, fs[k]? = some f := ⟨_, List.getElem?_eq_getElem (by rw [HN.out]; exact hlt)⟩
      have HF := Lib.hid hf
      have HCK := Lib.hid (H0.out f (List.mem_of_getElem? hf))
      have HSU := Lib.hid (wk_succ hf)
      have hat := (H1.out.below HM.out.2).1 f (List.mem_of_getElem? hf)
      have HA := Lib.hid hat
      have hlt' : (k : Int) < (n : Int) := by omega
      have hwl := HWL.out k
      have hsl := Fr.seg_len HCK.out
      have hf242 := (fchk_zero HCK.out).2.2
      have HLL := Lib.hid (And.intro hwl (And.intro hsl hf242))
      generalize wk fs k = L at *
      clear hat hf hwl hsl hf242
      go_wp2_with (at_builtin; refine wpList_append_any rfl (.tmp 11) (.tmp 12) 29 rfl w.heap.size 5 i0 (.int .u8 0) 1 Tryd.underlying29 hi hz0 hz1 hz2 rfl .u8 L [0] _ rfl (HM.out.1.alloc _) _ 1 1 _ rfl rfl (HZ0 wr).out ?c1 ?c2 ?c3 ?_)
      case c1 => unfold maxLen; have := HLL.out; omega
      case c2 => have := HLL.out; omega
      case c3 => rw [World.size_alloc]; have := HM.out.2.size; omega
      intro v2 w2 hown hg
      have HM2 := Lib.hid (HM.out.later (.cells #[.int .u8 0] 5) |>.more (zs := [0]) (v' := v2) (by simpa using hown) hg)
      clear hown hg
      obtain ⟨g, off, rfl, hg, c0, c1, c2, c3, c4, c5⟩ := (H1.out.below HM2.out.2).six HF.out
      have hat := (H1.out.below HM2.out.2).1 f (List.mem_of_getElem? HF.out)
      have KS := Lib.hid (rfsegment_any f.v f.k f.s f.i f.c f.a f.zs.length f.cp f.zs ⟨hat.s0, hat.s1⟩ w2 HCK.out rfl hat.byte (hat.nums.mono HM2.out.2.size))
      clear hat
      unfold frV frC at KS
      go_wp2_with fail
      refine KS.out.mono ?_
      rintro e w3 ⟨x3, rfl, (hm3 : MadeK 5 .u8 w2 w3 f.seg x3)⟩
      obtain ⟨A3, cc3, rfl, hc3, hn3⟩ := hm3.slice
      have HM3 := Lib.hid (made_then HM2.out hm3.2)
      have HN3 := Lib.hid hn3
      clear hm3 hn3 KS c0 c1 c2 c3 c4 c5
      generalize f.seg = S at *
      go_wp2_with (at_builtin; refine wpList_append_any rfl (.tmp 14) (.tmp 19) 29 rfl w.heap.size 5 i0 (.int .u8 0) 1 Tryd.underlying29 hi hz0 hz1 hz2 rfl .u8 (L ++ [0]) S _ rfl HM3.out.1 _ _ _ _ rfl rfl HN3.out ?c1 ?c2 HM3.out.2.size ?_)
      case c1 => rw [List.length_append]; unfold maxLen; have := HLL.out; simp only [List.length_singleton]; omega
      case c2 => rw [List.length_append]; have := HLL.out; simp only [List.length_singleton]; omega
      intro v4 w4 hown hg
      have HM4 := Lib.hid (HM3.out.more (zs := S) (v' := v4) (by simpa using hown) hg)
      clear hown hg
      go_wp2_with (at_builtin; refine wpList_append_any rfl (.tmp 21) (.tmp 22) 29 rfl w.heap.size 5 i0 (.int .u8 0) 1 Tryd.underlying29 hi hz0 hz1 hz2 rfl .u8 (L ++ [0] ++ S) [0] _ rfl (HM4.out.1.alloc _) _ 1 1 _ rfl rfl (HZ0 w4).out ?d1 ?d2 ?d3 ?_)
      case d1 => simp only [List.length_append, List.length_singleton]; unfold maxLen; have := HLL.out; omega
      case d2 => simp only [List.length_append, List.length_singleton]; have := HLL.out; omega
      case d3 => rw [World.size_alloc]; have := HM4.out.2.size; omega
      intro v5 w5 hown hg
      have HM5 := Lib.hid (HM4.out.later (.cells #[.int .u8 0] 5) |>.more (zs := [0]) (v' := v5) (by simpa using hown) hg)
      rw [← HSU.out] at HM5
      clear hown hg
      go_wp2
      go_roundw
      case rel => exact ⟨k + 1, by omega, by go_num, HM5⟩
      case measure => simp [intOf]; omega
    · have hkn : k = n := by omega
      subst hkn
      go_wp2
      go_ret
      exact ⟨_, rfl, HM.out⟩
end Go.Proofs.YtbohdmconeebeaaDoor

namespace Go.Proofs.YtbohdmconeebeaaDoor
open Go.RowKit Go.Shelf
set_option maxRecDepth 100000
attribute [local go_sem] Oper.semAt_some

theorem rfcheck_any (v k s i c : Int) (A : Option Addr) (n cp : Nat) (w : World) :
    Calls Tryd.prog 7 #[frV v k s i c (.slice A n cp)] w fun e w' => e = .returned (.int .i64 (fchk v k i c n)) ∧ Below w.heap.size w w' := by
  have HC := Lib.hid (rcheck_any v k s i c)
  unfold hdV at HC
  have hb0 := Lib.hid ((Below.refl w.heap.size w).alloc (Nat.le_refl _) (.cells (frC v k s i c (.slice A n cp)) 35))
  unfold frV
  have HF : Hid (frC v k s i c (.slice A n cp) = #[.int .i64 v, .int .i64 k, .int .u32 s, .int .i64 i, .int .i64 c, .slice A n cp]) := rfl
  rw [HF.out] at hb0 ⊢
  by_cases h0 : chk v k i c = 0
  · have hk : fchk v k i c n = if n = 0 then 13 else if 242 < n then 2 else 0 := by unfold fchk; rw [if_neg (by simpa using h0)]
    rw [hk]
    rw [h0] at HC
    clear h0 hk
    by_cases h1 : n = 0
    · subst h1
      rw [if_pos rfl]
      go_enter Tryd.func7, Tryd.ntmps7
      go_wp2_with (go_at_call 19; refine (HC.out _).mono ?_; rintro e w1 ⟨rfl, hb1⟩; obtain ⟨d0, d1, d2, d3, d4, d5⟩ := fr_block (fr_cells hb1); have HB := Lib.hid hb1; clear hb1)
      go_ret
      exact ⟨rfl, hb0.out.trans (HB.out.mono (by simp))⟩
    · rw [if_neg h1]
      have h2 : ¬ ((n : Int) = 0) := by omega
      by_cases h3 : 242 < n
      · rw [if_pos h3]
        have h4 : 242 < (n : Int) := by omega
        go_enter Tryd.func7, Tryd.ntmps7
        go_wp2_with (go_at_call 19; refine (HC.out _).mono ?_; rintro e w1 ⟨rfl, hb1⟩; obtain ⟨d0, d1, d2, d3, d4, d5⟩ := fr_block (fr_cells hb1); have HB := Lib.hid hb1; clear hb1)
        go_ret
        exact ⟨rfl, hb0.out.trans (HB.out.mono (by simp))⟩
      · rw [if_neg h3]
        have h4 : ¬ (242 < (n : Int)) := by omega
        go_enter Tryd.func7, Tryd.ntmps7
        go_wp2_with (go_at_call 19; refine (HC.out _).mono ?_; rintro e w1 ⟨rfl, hb1⟩; obtain ⟨d0, d1, d2, d3, d4, d5⟩ := fr_block (fr_cells hb1); have HB := Lib.hid hb1; clear hb1)
        go_ret
        exact ⟨rfl, hb0.out.trans (HB.out.mono (by simp))⟩
  · have hk : fchk v k i c n = chk v k i c := by unfold fchk; rw [if_pos h0]
    rw [hk]
    have h1 : (chk v k i c != 0) = true := by simpa using h0
    have H0 := Lib.hid h0
    clear h0 hk
    go_enter Tryd.func7, Tryd.ntmps7
    go_wp2_with (go_at_call 19; refine (HC.out _).mono ?_; rintro e w1 ⟨rfl, hb1⟩; obtain ⟨d0, d1, d2, d3, d4, d5⟩ := fr_block (fr_cells hb1); have HB := Lib.hid hb1; clear hb1)
    go_wp2_with (go_at_call 19; refine (HC.out _).mono ?_; rintro e w2 ⟨rfl, hb2⟩; have HB2 := Lib.hid hb2; clear hb2)
    go_ret
    exact ⟨rfl, (hb0.out.trans (HB.out.mono (by simp))).trans (HB2.out.mono (by have := HB.out.size; simp at this; omega))⟩

/-- the text of a frame -/
def flineZ (v k s i c : Int) (n : Nat) : ByteArray := (lineZ v k s i c ++ ⟨#[32]⟩) ++ ⟨(Lib.itoa n).toArray⟩

theorem line_len (v k s i c : Int) (hv : -9223372036854775808 ≤ v ∧ v ≤ 9223372036854775807) (hk : -9223372036854775808 ≤ k ∧ k ≤ 9223372036854775807) (hi : -9223372036854775808 ≤ i ∧ i ≤ 9223372036854775807) (hc : -9223372036854775808 ≤ c ∧ c ≤ 9223372036854775807)
    (hs : 0 ≤ s ∧ s ≤ 4294967295) : (lineZ v k s i c).size ≤ 1000 := by
  have lv := itoa_len hv
  have lk := itoa_len hk
  have ls := itoa_len (n := s) (by omega)
  have li := itoa_len hi
  have lc := itoa_len hc
  unfold lineZ lineB
  simp only [ByteArray.size_append]
  have h1 : ∀ x : UInt8, (⟨#[x]⟩ : ByteArray).size = 1 := fun _ => rfl
  have h2 : ∀ x y : UInt8, (⟨#[x, y]⟩ : ByteArray).size = 2 := fun _ _ => rfl
  have h3 : ∀ x y z : UInt8, (⟨#[x, y, z]⟩ : ByteArray).size = 3 := fun _ _ _ => rfl
  simp only [h1, h2, h3]
  omega

set_option maxHeartbeats 4000000 in
theorem fline_any (v k s i c : Int) (hv : -9223372036854775808 ≤ v ∧ v ≤ 9223372036854775807) (hk : -9223372036854775808 ≤ k ∧ k ≤ 9223372036854775807) (hi : -9223372036854775808 ≤ i ∧ i ≤ 9223372036854775807) (hc : -9223372036854775808 ≤ c ∧ c ≤ 9223372036854775807)
    (hs : 0 ≤ s ∧ s ≤ 4294967295) (A : Option Addr) (n cp : Nat) (hn : n ≤ 1000000) (B : Nat) (w : World) (ht : Tens w B) (hB : B ≤ w.heap.size) :
    Calls Tryd.prog 10 #[frV v k s i c (.slice A n cp)] w fun e w' => e = .returned (.string (flineZ v k s i c n)) ∧ Below w.heap.size w w' := by
  unfold frV frC
  obtain ⟨w0, hw0⟩ : ∃ w0, w.alloc (.cells #[.int .i64 v, .int .i64 k, .int .u32 s, .int .i64 i, .int .i64 c, .slice A n cp] 31) = w0 := ⟨_, rfl⟩
  have hs0 : w0.heap.size = w.heap.size + 1 := by rw [← hw0]; simp
  have hb0 : Below w.heap.size w w0 := by rw [← hw0]; exact (Below.refl _ w).alloc (Nat.le_refl _) _
  have hd : ∀ W, Below w0.heap.size w0 W → W.cell? ⟨w.heap.size, 0, none⟩ = some (.int .i64 v) ∧ W.cell? ⟨w.heap.size, 1, none⟩ = some (.int .i64 k) ∧ W.cell? ⟨w.heap.size, 2, none⟩ = some (.int .u32 s) ∧ W.cell? ⟨w.heap.size, 3, none⟩ = some (.int .i64 i) ∧ W.cell? ⟨w.heap.size, 4, none⟩ = some (.int .i64 c) ∧ W.cell? ⟨w.heap.size, 5, none⟩ = some (.slice A n cp) := fun W hW => by
    rw [← hw0] at hW; exact fr_block (fr_cells (p := .slice A n cp) hW)
  have hT : ∀ W, Below w0.heap.size w0 W → Tens W B := fun W hW => (ht.below (hb0.mono hB)).below (hW.mono (by omega))
  have hTB : ∀ W, Below w0.heap.size w0 W → B ≤ W.heap.size := fun W hW => by have := hW.size; omega
  have HW := Lib.hid hw0
  have c1 := fun W hW => hline_any v k s i c hv hk hi hc hs B W (hT W hW) (hTB W hW)
  have c2 := fun W hW => itoa_any (n : Int) (by omega) (by omega) B W (hT W hW)
  unfold hdV at c1
  have l1 : (lineZ v k s i c).size ≤ 1000 := line_len v k s i c hv hk hi hc hs
  have l2 := itoa_len (n := (n : Int)) (by omega)
  clear hw0
  unfold flineZ
  generalize lineZ v k s i c = tv at *
  generalize (⟨(Lib.itoa n).toArray⟩ : ByteArray) = tn at *
  go_enter Tryd.func10, Tryd.ntmps10
  go_wp2_with fail
  rw [HW.out]
  refine wp_region_F 12 [] (fun _ _ _ => False) (fun W => Below w0.heap.size w0 W) (by kernel_rfl) (by kernel_rfl) (by rfl) (by simp) (fun W W' h hb => h.trans (hb.mono h.size)) (fun s v W W' h hb => h) (Below.refl _ _).drew ?_
  refine wpF_pure rfl rfl ?_; go_big_quiet_step (fail); refine wpQuiet_nil ?_
  refine wpF_load (.agg #[.int .i64 v, .int .i64 k, .int .u32 s, .int .i64 i, .int .i64 c]) rfl (by rfl) (by rfl) (by rfl) (fun W hW => by obtain ⟨d0, d1, d2, d3, d4, d5⟩ := hd W hW; simp [Instr.loadAt, go_sem, d0, d1, d2, d3, d4]) ?_
  simp only [Act.put, List.setIfInBounds_toArray, List.set_cons_succ, List.set_cons_zero]
  refine wpF_call (f := 22) (args := #[.agg #[.int .i64 v, .int .i64 k, .int .u32 s, .int .i64 i, .int .i64 c]]) (.string tv) rfl rfl (fun x => by first | rfl | (simp [go_sem]; done)) (fun W hW => c1 W hW) ?_
  simp only [Act.put, List.setIfInBounds_toArray, List.set_cons_succ, List.set_cons_zero]
  refine wpF_pure rfl rfl ?_; go_big_quiet_step (fail); refine wpQuiet_nil ?_
  refine wpF_pure rfl rfl ?_; go_big_quiet_step (fail); refine wpQuiet_nil ?_
  refine wpF_load (.slice A n cp) rfl (by rfl) (by rfl) (by rfl) (fun W hW => by obtain ⟨d0, d1, d2, d3, d4, d5⟩ := hd W hW; simp [Instr.loadAt, go_sem, d5]) ?_
  simp only [Act.put, List.setIfInBounds_toArray, List.set_cons_succ, List.set_cons_zero]
  refine wpF_pure rfl rfl ?_; go_big_quiet_step (fail); refine wpQuiet_nil ?_
  refine wpF_call (f := 23) (args := #[.int .i64 (n : Int)]) (.string tn) rfl rfl (fun x => by first | rfl | (simp [go_sem]; done)) (fun W hW => c2 W hW) ?_
  simp only [Act.put, List.setIfInBounds_toArray, List.set_cons_succ, List.set_cons_zero]
  refine wpF_pure rfl rfl ?_; go_big_quiet_step (fail); refine wpQuiet_nil ?_
  refine wpF_pure rfl rfl ?_; go_big_quiet_step (fail); refine wpQuiet_nil ?_
  intro xs W hW _
  simp only [fill]
  go_wp2
  go_ret
  exact ⟨rfl, hb0.trans (hW.mono (by omega))⟩

set_option maxHeartbeats 4000000 in
theorem rfline_any (v k s i c : Int) (hv : -9223372036854775808 ≤ v ∧ v ≤ 9223372036854775807) (hk : -9223372036854775808 ≤ k ∧ k ≤ 9223372036854775807) (hi : -9223372036854775808 ≤ i ∧ i ≤ 9223372036854775807) (hc : -9223372036854775808 ≤ c ∧ c ≤ 9223372036854775807)
    (hs : 0 ≤ s ∧ s ≤ 4294967295) (A : Option Addr) (n cp : Nat) (hn : n ≤ 1000000) (w : World) :
    Calls Tryd.prog 11 #[frV v k s i c (.slice A n cp)] w fun e w' => e = .returned (.string (flineZ v k s i c n)) ∧ Below w.heap.size w w' := by
  unfold frV frC
  obtain ⟨w0, hw0⟩ : ∃ w0, w.alloc (.cells #[.int .i64 v, .int .i64 k, .int .u32 s, .int .i64 i, .int .i64 c, .slice A n cp] 35) = w0 := ⟨_, rfl⟩
  have hs0 : w0.heap.size = w.heap.size + 1 := by rw [← hw0]; simp
  have hb0 : Below w.heap.size w w0 := by rw [← hw0]; exact (Below.refl _ w).alloc (Nat.le_refl _) _
  have hd : ∀ W, Below w0.heap.size w0 W → W.cell? ⟨w.heap.size, 0, none⟩ = some (.int .i64 v) ∧ W.cell? ⟨w.heap.size, 1, none⟩ = some (.int .i64 k) ∧ W.cell? ⟨w.heap.size, 2, none⟩ = some (.int .u32 s) ∧ W.cell? ⟨w.heap.size, 3, none⟩ = some (.int .i64 i) ∧ W.cell? ⟨w.heap.size, 4, none⟩ = some (.int .i64 c) ∧ W.cell? ⟨w.heap.size, 5, none⟩ = some (.slice A n cp) := fun W hW => by
    rw [← hw0] at hW; exact fr_block (fr_cells (p := .slice A n cp) hW)
  have HW := Lib.hid hw0
  have c1 := fun (W : World) (_ : Below w0.heap.size w0 W) => rline_any v k s i c hv hk hi hc hs W
  have c2 := fun (W : World) (_ : Below w0.heap.size w0 W) => rdigits_any (n : Int) (by omega) W
  unfold hdV at c1
  have l1 : (lineZ v k s i c).size ≤ 1000 := line_len v k s i c hv hk hi hc hs
  have l2 := itoa_len (n := (n : Int)) (by omega)
  clear hw0
  unfold flineZ
  generalize lineZ v k s i c = tv at *
  generalize (⟨(Lib.itoa n).toArray⟩ : ByteArray) = tn at *
  go_enter Tryd.func11, Tryd.ntmps11
  go_wp2_with fail
  rw [HW.out]
  refine wp_region_F 12 [] (fun _ _ _ => False) (fun W => Below w0.heap.size w0 W) (by kernel_rfl) (by kernel_rfl) (by rfl) (by simp) (fun W W' h hb => h.trans (hb.mono h.size)) (fun s v W W' h hb => h) (Below.refl _ _).drew ?_
  refine wpF_pure rfl rfl ?_; go_big_quiet_step (fail); refine wpQuiet_nil ?_
  refine wpF_load (.agg #[.int .i64 v, .int .i64 k, .int .u32 s, .int .i64 i, .int .i64 c]) rfl (by rfl) (by rfl) (by rfl) (fun W hW => by obtain ⟨d0, d1, d2, d3, d4, d5⟩ := hd W hW; simp [Instr.loadAt, go_sem, d0, d1, d2, d3, d4]) ?_
  simp only [Act.put, List.setIfInBounds_toArray, List.set_cons_succ, List.set_cons_zero]
  refine wpF_call (f := 24) (args := #[.agg #[.int .i64 v, .int .i64 k, .int .u32 s, .int .i64 i, .int .i64 c]]) (.string tv) rfl rfl (fun x => by first | rfl | (simp [go_sem]; done)) (fun W hW => c1 W hW) ?_
  simp only [Act.put, List.setIfInBounds_toArray, List.set_cons_succ, List.set_cons_zero]
  refine wpF_pure rfl rfl ?_; go_big_quiet_step (fail); refine wpQuiet_nil ?_
  refine wpF_pure rfl rfl ?_; go_big_quiet_step (fail); refine wpQuiet_nil ?_
  refine wpF_load (.slice A n cp) rfl (by rfl) (by rfl) (by rfl) (fun W hW => by obtain ⟨d0, d1, d2, d3, d4, d5⟩ := hd W hW; simp [Instr.loadAt, go_sem, d5]) ?_
  simp only [Act.put, List.setIfInBounds_toArray, List.set_cons_succ, List.set_cons_zero]
  refine wpF_pure rfl rfl ?_; go_big_quiet_step (fail); refine wpQuiet_nil ?_
  refine wpF_call (f := 25) (args := #[.int .i64 (n : Int)]) (.string tn) rfl rfl (fun x => by first | rfl | (simp [go_sem]; done)) (fun W hW => c2 W hW) ?_
  simp only [Act.put, List.setIfInBounds_toArray, List.set_cons_succ, List.set_cons_zero]
  refine wpF_pure rfl rfl ?_; go_big_quiet_step (fail); refine wpQuiet_nil ?_
  refine wpF_pure rfl rfl ?_; go_big_quiet_step (fail); refine wpQuiet_nil ?_
  intro xs W hW _
  simp only [fill]
  go_wp2
  go_ret
  exact ⟨rfl, hb0.trans (hW.mono (by omega))⟩

/-- a frame, cut -/
theorem cut_any (v k s i c : Int) (A : Option Addr) (n m cp : Nat) (w : World) (hm : min (n : Int) 250 = (m : Int)) (hmn : m ≤ n) (hn : n ≤ cp) :
    Calls Tryd.prog 5 #[frV v k s i c (.slice A n cp)] w fun e w' => e = .returned (frV v k s i c (.slice A m cp)) ∧ Below w.heap.size w w' := by
  have hmc : (m : Int) ≤ (cp : Int) := by omega
  unfold frV
  have HF : Hid (frC v k s i c (.slice A n cp) = #[.int .i64 v, .int .i64 k, .int .u32 s, .int .i64 i, .int .i64 c, .slice A n cp]) := rfl
  have HG : Hid (frC v k s i c (.slice A m cp) = #[.int .i64 v, .int .i64 k, .int .u32 s, .int .i64 i, .int .i64 c, .slice A m cp]) := rfl
  rw [HF.out, HG.out]
  go_enter Tryd.func5, Tryd.ntmps5
  go_wp2
  refine bodyPost_ret (v := .agg #[.int .i64 v, .int .i64 k, .int .u32 s, .int .i64 i, .int .i64 c, .slice A m cp]) (by simp [results, Tryd.results5, go_sem]) rfl ?_
  exact ⟨rfl, ((Below.refl _ w).alloc (Nat.le_refl _) _).alloc (by simp) _⟩
end Go.Proofs.YtbohdmconeebeaaDoor

namespace Go.Proofs.YtbohdmconeebeaaDoor
open Go.ChangeShapes Go.WideShapes Go.RowKit

theorem ownK : ownKnob Tryd.prog.godebug = none := by kernel_rfl
theorem lOut : laidOutB Tryd.prog = true := by kernel_rfl

/-- the listed variables, in the rows' order -/
def laidL {H : Type} : List (String × DataW H) := [("math/bits.deBruijn32tab", Rows.laid_math_bits_deBruijn32tab), ("math/bits.deBruijn64tab", Rows.laid_math_bits_deBruijn64tab), ("internal/strconv.uint64pow10", Rows.laid_internal_strconv_uint64pow10)]

theorem door_met (os : Os) (args : Array Value) : laidMetH Tryd.prog laidL ((World.doorLaid Tryd.prog 2000 os).forCall (fun _ _ => 0) ⟨#[], args, []⟩).memory :=
  laidMetH_of_parts3 (fuel := 8) (laidMet_of_run' 8 (by kernel_rfl) (by kernel_rfl)) (by kernel_rfl) (by kernel_rfl)

theorem tens_of_laid {W : World} (h : laidMetH Tryd.prog laidL W) : Tens W W.heap.size := by
  rw [MakeChecks.laidMetH_plain _ _ _ (by kernel_rfl)] at h
  have h2 := h.tail.tail
  exact Tens.of (Lib.tabIs_of_head (g := 0) (t := 126) (e := 84) (n := 20) (by kernel_rfl) (by kernel_rfl) Tryd.underlying126 Tryd.underlying84 (by kernel_rfl) (by kernel_rfl) (show laidMet Tryd.prog [("internal/strconv.uint64pow10", Lib.tabData .u64 Lib.pow10Tab)] W from h2))
end Go.Proofs.YtbohdmconeebeaaDoor
