/-
  Contracts of layer 6: Segments, and its closure.
-/
import Derived.Test.YtemafhaeppifoaaFenK
import Derived.Test.YtemafhaeppifoaaClone
namespace Go.Proofs.Ytemafhaeppifoaa
open Go.RowKit Go.Shelf
set_option maxRecDepth 100000
attribute [local go_sem] Oper.semAt_some

/-- what an iterator over a copy of bytes is: a closure over a box with the copy -/
structure BoxSeq (w : World) (zs : List Int) (Bs : Nat) (A : Option Addr) (n c : Nat) (w' : World) : Prop where
  lo : w.heap.size ≤ Bs
  hi : Bs < w'.heap.size
  box : w'.cell? ⟨Bs, 0, none⟩ = some (.slice A n c)
  room : n ≤ c
  nums : NumsS .u8 w' (fun b => w.heap.size ≤ b ∧ b < w'.heap.size) A zs
  below : Below w.heap.size w w'

theorem segments_any (a : Option Addr) (n c : Nat) (zs : List Int) (w : World) (hn : zs.length = n) (hl : n ≤ 1000000) (h1 : Nums .u8 w w.heap.size a zs) :
    Calls Try.prog 9 #[.slice a n c] w fun e w' => ∃ Bs A c', e = .returned (.func (.func 20) #[] #[.pointer (some ⟨Bs, 0, none⟩)]) ∧ BoxSeq w zs Bs A n c' w' := by
  have K := clone_any a n c zs w hn hl h1
  clear h1
  go_enter Try.func9, Try.ntmps9
  go_wp2_with fail
  refine K.mono ?_
  rintro e w1 ⟨v, rfl, hm⟩
  obtain ⟨A, c1, rfl, hc, _⟩ := hm.slice
  have hnu := hm.numsS rfl
  rw [hn] at hc ⊢
  have hb := hm.2.size
  have hb2 := hm.2.alloc hb (.cells #[.slice A n c1] 22)
  have hn2 : NumsS .u8 (w1.alloc (.cells #[.slice A n c1] 22)) (fun b => w.heap.size ≤ b ∧ b < (w1.alloc (.cells #[.slice A n c1] 22)).heap.size) A zs :=
    (hnu.keeps (KeepS.of_below ((Below.refl w1.heap.size w1).alloc (Nat.le_refl _) _) (fun k hk => hk.2))).more (fun k hk => ⟨hk.1, by rw [World.size_alloc]; omega⟩)
  clear hm hnu K
  go_wp2
  go_ret
  exact ⟨w1.heap.size, A, c1, rfl, hb, by simp, by simp, hc, hn2, hb2⟩
theorem seg_not_nil (Bs : Nat) (w : World) : (binOp .eql 30 (.func (.func 20) #[] #[.pointer (some ⟨Bs, 0, none⟩)]) .nilFunc).run Try.prog w = .ok (.bool false) w := by
  kernel_rfl

set_option maxHeartbeats 4000000 in
theorem segments_in (n : Nat) (hn3 : 3 ≤ n) (m' l Bs m c Bi s0 : Nat) (A : Option Addr) (zs : List Int) (hm : zs.length = m) (hl : m ≤ 1000000) (hz : Bytes zs)
    (Dn : Nat → World → Prop) (Bk X : World → Prop) (hBi : Bi < s0) (hls : l < s0 + 2)
    (hDb : ∀ j A B, Dn j A → Below s0 A B → Dn j B)
    (hBk : ∀ A B, Bk A → A.heap.size ≤ B.heap.size → (∀ k, s0 ≤ k → k < s0 + 2 → B.heap[k]? = A.heap[k]?) → Bk B) (hBlt : ∀ A, Bk A → s0 + 2 ≤ A.heap.size)
    (hX : ∀ A l' o o', X A → s0 + 2 ≤ l' → A.heap[l']? = some o → o.isCells = false → X (A.putObj l' o'))
    (hY : ∀ j (x : Nat × Option Addr × List Int) W1, Dn j W1 → (Fc.scan 0 [] zs)[j]? = some (x.1, x.2.2) → Nums .u8 W1 W1.heap.size x.2.1 x.2.2 → Bk W1 →
      YieldAt Fence.wide m' Try.prog l #[Value.int .i64 (x.1 : Int), Value.slice x.2.1 x.2.2.length x.2.2.length] W1 (YPost s0 l (KpC Bi) (fun W2 => Dn (j + 1) W2 ∧ Bk W2) X W1))
    (W : World) (hBs : W.cell? ⟨Bs, 0, none⟩ = some (.slice A m c)) (hBsl : Bs < W.heap.size) (hN : Nums .u8 W W.heap.size A zs) (hD0 : Dn 0 W) (hB0 : Bk W) :
    CallsIn Fence.wide n Try.prog 20 #[.func (.yield l) #[] #[], .pointer (some ⟨Bs, 0, none⟩)] W fun e W' => (∃ v, e = .returned v) ∧ ((Dn (Fc.scan 0 [] zs).length W' ∧ Bk W') ∨ X W') := by
  have hn1 : 1 ≤ n := by omega
  have hsW := hBlt W hB0
  have hcl := clone_any A m c zs (W.alloc (.cells #[.func (.yield l) #[] #[]] 46)) hm hl ((hN.below ((Below.refl _ W).alloc (Nat.le_refl _) _)).mono (by simp))
  refine callsIn_of_wp_marks Try.func20 rfl trivial ?_ rfl
  simp only [Try.ntmps20, List.size_toArray, List.length_cons, List.length_nil, Nat.reduceAdd, Nat.reduceSub, Array.replicate_succ, Array.replicate_zero, List.push_toArray, List.append_toArray, List.nil_append, List.cons_append]
  gi_wp2_with fail
  refine ⟨trivial, ?_⟩
  refine (callsIn_wide.2 hcl).mono ?_
  rintro e W2 ⟨v, rfl, hmk⟩
  clear hcl
  obtain ⟨A2, c2, rfl, hc2, hnu2⟩ := hmk.slice
  rw [hm] at hc2 ⊢
  have hb2 := hmk.2
  rw [World.size_alloc] at hb2
  gi_wp2_with fail
  refine ⟨trivial, ?_⟩
  refine (callsIn_wide.2 (closed_any A2 m c2 W2)).mono ?_
  rintro e W3 ⟨rfl, hW3⟩
  have hs2 : W.heap.size + 1 ≤ W2.heap.size := by have := hb2.size; rw [World.size_alloc] at this; omega
  have hs3 : W3.heap.size = W2.heap.size + 1 := by rw [hW3]; simp
  have hbW3 : Below W.heap.size W W3 := by
    rw [hW3]
    exact (((Below.refl _ W).alloc (Nat.le_refl _) _).trans (hb2.mono (by simp))).alloc (by omega) _
  have hyb : W3.heap[W.heap.size]? = some (.cells #[.func (.yield l) #[] #[]] 46) := by
    rw [hW3]
    exact (Below.heap_alloc W2 _ _ (by omega)).trans ((hb2.block _ (by omega)).trans (heap_alloc_new W _))
  have hpb : W3.heap[W2.heap.size]? = some (.cells #[.slice A2 m c2] 22) := by
    rw [hW3]; exact heap_alloc_new W2 _
  obtain ⟨S, hSd⟩ : ∃ S : Nat → Prop, S = fun k => k = W.heap.size ∨ k = W2.heap.size ∨ (zs ≠ [] ∧ blockOf A2 k) := ⟨_, rfl⟩
  have hSc : ∀ k, S k → s0 ≤ k ∧ k < W3.heap.size ∧ ∃ o, W3.heap[k]? = some o ∧ o.isCells = true := by
    intro k hk
    rw [hSd] at hk
    rcases hk with rfl | rfl | ⟨hz0, hk⟩
    · exact ⟨by omega, by omega, _, hyb, rfl⟩
    · exact ⟨by omega, by omega, _, hpb, rfl⟩
    · obtain ⟨o, sp, rfl⟩ := hk
      obtain ⟨h1, cur, h2⟩ := hmk.own_ge (g := k) rfl
      rw [World.size_alloc] at h1
      have hlt := (Array.getElem?_eq_some_iff.1 h2).1
      exact ⟨by omega, by omega, .cells cur 5 (0, 0), by rw [hW3]; exact (Below.heap_alloc W2 _ _ hlt).trans h2, rfl⟩
  have hSlt : ∀ k, S k → k < W3.heap.size := fun k hk => (hSc k hk).2.1
  have hNS : NumsS .u8 W3 S A2 zs := fun h0 => by
    obtain ⟨b, off, e, hb, hcl⟩ := hnu2 h0
    refine ⟨b, off, e, by rw [hSd]; exact .inr (.inr ⟨h0, _, _, e⟩), fun j z hj => ?_⟩
    rw [hW3]
    exact (World.cell?_alloc_lt W2 _ ⟨b, off + j, none⟩ hb).trans (hcl j z hj)
  have hSy : S W.heap.size := by rw [hSd]; exact .inl rfl
  have hSp : S W2.heap.size := by rw [hSd]; exact .inr (.inl rfl)
  have hsm : ∀ V V', KeepS S W3 V → KpC Bi V V' → KeepS S V V' := fun V V' h1 h2 => ⟨h2.size, fun k hk => by
    obtain ⟨h3, _, o, h4, h5⟩ := hSc k hk
    have h6 := (h1.2 k hk).trans h4
    rw [h6]; exact h2.same k o (by omega) h6 h5⟩
  have hsb : s0 ≤ W.heap.size := by omega
  have hD3 := hDb 0 _ _ hD0 (hbW3.mono hsb)
  have hB3 : Bk W3 := hBk _ _ hB0 hbW3.size (fun k _ h2 => hbW3.block k (by omega))
  have hyc : W3.cell? ⟨W.heap.size, 0, none⟩ = some (.func (.yield l) #[] #[]) := by simp [World.cell?, hyb]
  have hpc : W3.cell? ⟨W2.heap.size, 0, none⟩ = some (.slice A2 m c2) := by simp [World.cell?, hpb]
  have hs03 : s0 ≤ W3.heap.size := by omega
  have hs032 : s0 + 2 ≤ W3.heap.size := by omega
  have hKo : ∀ (V : World) (l' : Nat) (o' : Obj), W3.heap.size ≤ l' → KeepS S V (V.putObj l' o') := fun V l' o' hl' => ⟨by simp [World.putObj], fun k hk => World.putObj_heap_other (by have := hSlt k hk; omega)⟩
  have hBo : ∀ (V : World) (l' : Nat) (o' : Obj), Bk V → W3.heap.size ≤ l' → Bk (V.putObj l' o') := fun V l' o' hb hl' => hBk _ _ hb (by simp [World.putObj]) (fun k _ h2 => World.putObj_heap_other (by omega))
  clear hW3 hSd hmk hb2 hyb hpb hN hBs hnu2
  gi_wp2_with fail
  refine range_stops rfl hn1 (gf := 25) (lb := #[.pointer (some ⟨W2.heap.size, 0, none⟩)]) rfl trivial (enters_of Try.func25 (by kernel_rfl) rfl)
    (fun x : Nat × Option Addr × List Int => #[Value.int .i64 (x.1 : Int), Value.slice x.2.1 x.2.2.length x.2.2.length]) (fun _ => rfl)
    (fun j x V => Dn j V ∧ Bk V ∧ KeepS S W3 V ∧ (Fc.scan 0 [] zs)[j]? = some (x.1, x.2.2) ∧ NumsS .u8 W3 S x.2.1 x.2.2)
    (fun j V => Dn j V ∧ Bk V ∧ KeepS S W3 V) (fun cd V => cd = .ret ∧ X V) (KeepS S) (Fc.scan 0 [] zs).length
    (fun j x V l' o o' h hl' ho hc' => ⟨hDb _ _ _ h.1 (below_put V o' (Nat.le_trans hs03 hl')), hBo V l' o' h.2.1 hl', h.2.2.1.trans (hKo V l' o' hl'), h.2.2.2⟩)
    (fun j V l' o o' h hl' ho hc' => ⟨hDb _ _ _ h.1 (below_put V o' (Nat.le_trans hs03 hl')), hBo V l' o' h.2.1 hl', h.2.2.trans (hKo V l' o' hl')⟩)
    (fun cd V l' o o' h hl' ho hc' => ⟨h.1, hX V l' o o' h.2 (Nat.le_trans hs032 hl') ho hc'⟩)
    (fun _ _ _ h k => h.trans k) (fun V l' o o' hl' ho hc' => hKo V l' o' hl')
    (fun o => ⟨hDb _ _ _ hD3 (((Below.refl s0 W3).alloc hs03 _).alloc (by rw [World.size_alloc]; omega) _), hBk _ _ hB3 (by simp; omega) (fun k _ h2 => (((Below.refl W3.heap.size W3).alloc (Nat.le_refl _) _).alloc (by simp) _).block k (by omega)), KeepS.of_below (((Below.refl W3.heap.size W3).alloc (Nat.le_refl _) _).alloc (by simp) _) hSlt⟩) ?a1 ?assign ?body ?iter ?done ?stop
  case assign =>
    intro l' x V K hK
    gi_wp2
    exact hK
  case body =>
    rintro l' j x V hl' ⟨hDV, hBV, hKV, hxj, hnx⟩ hj
    have hyV : V.cell? ⟨W.heap.size, 0, none⟩ = some (.func (.yield l) #[] #[]) := (hKV.cell (p := ⟨W.heap.size, 0, none⟩) hSy).trans hyc
    have hnV : Nums .u8 V V.heap.size x.2.1 x.2.2 := (hnx.keeps hKV).nums (fun k hk => by have := hSlt k hk; have := hKV.1; omega)
    obtain ⟨fn, tmps, assign, body, hy, hR⟩ := yield_any (n - 1 - 1 - 1) (hY j x V hDV hxj hnV hBV)
    have HR := Lib.hid hR
    have HKV := Lib.hid hKV
    clear hR hD3 hB3 hnV hKV hDV hBV hxj
    gi_wp2_with fail
    refine ⟨fun _ => by omega, ?_⟩
    refine RoundIn.mono (F := Fence.wide.inRound l') HR.out ?_
    rintro e V2 (⟨rfl, ⟨hd, hb⟩, hk, hkb⟩ | ⟨rfl, hx, hkb⟩)
    · have hkS := hsm V V2 HKV.out hk
      have hfin := Lib.hid (show KeepsFrom (W2.heap.size + 1) V V2 ∧ (Dn (j + 1) V2 ∧ Bk V2 ∧ KeepS S W3 V2) ∧ KeepS S V V2 from
        ⟨⟨hk.size, fun k o h1 h2 h3 => hkb.same k o (by omega) (by omega) h2 h3⟩, ⟨hd, hb, HKV.out.trans hkS⟩, hkS⟩)
      clear hd hb hk hkb hkS HKV HR
      gi_wp2
      rw [← hs3] at hfin
      exact hfin.out
    · have hfin := Lib.hid (show KeepsFrom (W2.heap.size + 1) V V2 ∧ X V2 from
        ⟨⟨hkb.size, fun k o h1 h2 h3 => hkb.same k o (by omega) (by omega) h2 h3⟩, hx⟩)
      clear hkb hx HKV HR
      gi_wp2
      rw [← hs3] at hfin
      exact ⟨hfin.out.1, rfl, hfin.out.2⟩
  case iter =>
    intro Bk2 X2 l2 V hBk2 hBlt2 hX2 hl2 hDV hBV hYV
    refine (closed_in (n - 1) (by omega) (n - 1 - 1) l2 W2.heap.size m c2 S W3 hSlt A2 zs hm hl hz hc2 (fun j V => (Dn j V ∧ Bk V ∧ KeepS S W3 V) ∧ Bk2 V) X2 ?_ V hSp hpc hDV.2.2 hNS ⟨hDV, hBV⟩).mono ?_
    · rintro j p A' b V1 ⟨⟨h1, h2, h3⟩, h4⟩ hk hx hnx
      have hj : j < (Fc.scan 0 [] zs).length := by
        rcases Nat.lt_or_ge j (Fc.scan 0 [] zs).length with h | h
        · exact h
        · rw [List.getElem?_eq_none h] at hx; cases hx
      refine (hYV j (p, A', b) V1 ⟨h1, h2, h3, hx, hnx⟩ h4 hj).mono ?_
      rintro e V2 (⟨rfl, hd, hkk, _⟩ | ⟨rfl, hx, _⟩)
      · exact .inl ⟨rfl, hd, hkk⟩
      · exact .inr ⟨rfl, hx⟩
    · rintro e V2 ⟨hv, ⟨h1, _⟩ | h⟩
      · exact ⟨hv, .inl h1⟩
      · exact ⟨hv, .inr h⟩
  case done =>
    rintro D V hD ⟨hDV, hBV, hKV⟩ hK
    have hfin := Lib.hid (And.intro (hDb _ _ _ hDV (below_put V (.deferred none) (Nat.le_trans hs03 hD))) (hBo V D (.deferred none) hBV hD))
    clear hDV hBV hKV hD3 hB3
    gi_wp2
    refine ⟨by simp, .inl ⟨_, _, rfl, run_takeDeferred hK, ?_⟩⟩
    refine ⟨_, results_none rfl _ _ _, ?_⟩
    exact ⟨⟨_, rfl⟩, .inl hfin.out⟩
  case stop =>
    rintro D cd V hD ⟨rfl, hx⟩ hK
    have hfin := Lib.hid (hX V D _ (.deferred none) hx (Nat.le_trans hs032 hD) hK rfl)
    clear hx
    gi_wp2
    refine ⟨by simp, .inl ⟨_, _, rfl, run_takeDeferred hK, ?_⟩⟩
    refine ⟨_, results_none rfl _ _ _, ?_⟩
    exact ⟨⟨_, rfl⟩, .inr hfin.out⟩
end Go.Proofs.Ytemafhaeppifoaa
