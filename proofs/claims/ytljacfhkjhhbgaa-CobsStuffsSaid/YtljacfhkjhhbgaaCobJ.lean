/-
  Contract of the closure that layer 5's Blocks answers, for a loop whose every round goes on.
-/
import Derived.Test.YtljacfhkjhhbgaaCobB
namespace Go.Proofs.Ytljacfhkjhhbgaa
open Go.RowKit Go.Shelf
set_option maxRecDepth 100000
attribute [local go_sem] Oper.semAt_some

/-- whatever is cells, but block b, is as it was -/
structure KpC (b : Nat) (W W' : World) : Prop where
  size : W.heap.size ≤ W'.heap.size
  same : ∀ (k : Nat) (o : Obj), k ≠ b → W.heap[k]? = some o → o.isCells = true → W'.heap[k]? = some o
theorem KpC.trans {b : Nat} {A B C : World} (h : KpC b A B) (k : KpC b B C) : KpC b A C := ⟨Nat.le_trans h.size k.size, fun i o hi ho hc => k.same i o hi (h.same i o hi ho hc) hc⟩
theorem KpC.putObj {b l : Nat} {W : World} {o o' : Obj} (ho : W.heap[l]? = some o) (hc : o.isCells = false) : KpC b W (W.putObj l o') := by
  refine ⟨by simp [World.putObj], fun k p hk hp hpc => (World.putObj_heap_other (fun e => ?_)).trans hp⟩
  subst e
  rw [hp] at ho
  injection ho with ho
  subst ho
  rw [hpc] at hc; cases hc
theorem KpC.of_below {b : Nat} {W W' : World} (h : Below W.heap.size W W') : KpC b W W' := ⟨h.size, fun k _ _ ho _ => (h.block k (Array.getElem?_eq_some_iff.1 ho).1).trans ho⟩
theorem KpC.set {b : Nat} {W W' : World} (h : KpC b W W') (v : Value) : KpC b W (W'.setCell ⟨b, 0, none⟩ v) :=
  ⟨by simpa [World.setCell] using h.size, fun k _ hk ho hc => (Below.heap_setCell W' ⟨b, 0, none⟩ v k (fun e => hk (by simpa using e))).trans (h.same k _ hk ho hc)⟩

theorem below_put {B l : Nat} (W : World) (o' : Obj) (h : B ≤ l) : Below B W (W.putObj l o') := ⟨rfl, rfl, rfl, by simp [World.putObj], fun k hk => World.putObj_heap_other (by omega)⟩
/-- a block is given as a slice of just its bytes -/
abbrev giv (x : Option Addr × List Int) : Array Value := #[.slice x.1 x.2.length x.2.length]

set_option maxHeartbeats 4000000 in
theorem blocks_in (n : Nat) (hn3 : 3 ≤ n) (m' l Bs m c Bi s0 : Nat) (A : Option Addr) (zs : List Int) (hm : zs.length = m) (hl : m ≤ 1000000) (hz : Bytes zs)
    (Dn : Nat → World → Prop) (Bk : World → Prop) (hBi : Bi < s0) (hls : l < s0 + 2)
    (hDb : ∀ j A B, Dn j A → Below s0 A B → Dn j B)
    (hBk : ∀ A B, Bk A → A.heap.size ≤ B.heap.size → (∀ k, s0 ≤ k → k < s0 + 2 → B.heap[k]? = A.heap[k]?) → Bk B) (hBlt : ∀ A, Bk A → s0 + 2 ≤ A.heap.size)
    (hY : ∀ j x W1, Dn j W1 → (Cb.blocks zs)[j]? = some x.2 → Nums .u8 W1 W1.heap.size x.1 x.2 → Bk W1 → YieldAt Fence.wide m' Try.prog l (giv x) W1 fun e W2 => e = .returned (.bool true) ∧ Dn (j + 1) W2 ∧ Bk W2 ∧ KpC Bi W1 W2 ∧ KeepsBut s0 l W1 W2)
    (W : World) (hBs : W.cell? ⟨Bs, 0, none⟩ = some (.slice A m c)) (hBsl : Bs < W.heap.size) (hN : Nums .u8 W W.heap.size A zs) (hD0 : Dn 0 W) (hB0 : Bk W) :
    CallsIn Fence.wide n Try.prog 21 #[.func (.yield l) #[] #[], .pointer (some ⟨Bs, 0, none⟩)] W fun e W' => (∃ v, e = .returned v) ∧ Dn (Cb.blocks zs).length W' ∧ Bk W' := by
  have hn1 : 1 ≤ n := by omega
  have hsW := hBlt W hB0
  have hcl := clone_any A m c zs (W.alloc (.cells #[.func (.yield l) #[] #[]] 29)) hm hl ((hN.below ((Below.refl _ W).alloc (Nat.le_refl _) _)).mono (by simp))
  refine callsIn_of_wp_marks Try.func21 rfl trivial ?_ rfl
  simp only [Try.ntmps21, List.size_toArray, List.length_cons, List.length_nil, Nat.reduceAdd, Nat.reduceSub, Array.replicate_succ, Array.replicate_zero, List.push_toArray, List.append_toArray, List.nil_append, List.cons_append]
  gi_wp2_with fail
  refine ⟨trivial, ?_⟩
  refine (callsIn_wide.2 hcl).mono ?_
  rintro e W2 ⟨v, rfl, hmk⟩
  clear hcl
  obtain ⟨A2, c2, rfl, hc2, hnu2⟩ := hmk.slice
  rw [hm] at hc2 ⊢
  have hb2 := hmk.2
  rw [World.size_alloc] at hb2
  gi_wp2_with fail
  refine ⟨trivial, ?_⟩
  refine (callsIn_wide.2 (parts_any A2 m c2 W2)).mono ?_
  rintro e W3 ⟨rfl, hW3⟩
  have hs2 : W.heap.size + 1 ≤ W2.heap.size := by have := hb2.size; rw [World.size_alloc] at this; omega
  have hs3 : W3.heap.size = W2.heap.size + 1 := by rw [hW3]; simp
  have hbW3 : Below W.heap.size W W3 := by
    rw [hW3]
    exact (((Below.refl _ W).alloc (Nat.le_refl _) _).trans (hb2.mono (by simp))).alloc (by omega) _
  have hyb : W3.heap[W.heap.size]? = some (.cells #[.func (.yield l) #[] #[]] 29) := by
    rw [hW3]
    exact (Below.heap_alloc W2 _ _ (by omega)).trans ((hb2.block _ (by omega)).trans (heap_alloc_new W _))
  have hpb : W3.heap[W2.heap.size]? = some (.cells #[.slice A2 m c2] 22) := by
    rw [hW3]; exact heap_alloc_new W2 _
  obtain ⟨S, hSd⟩ : ∃ S : Nat → Prop, S = fun k => k = W.heap.size ∨ k = W2.heap.size ∨ (zs ≠ [] ∧ blockOf A2 k) := ⟨_, rfl⟩
  have hSc : ∀ k, S k → s0 ≤ k ∧ k < W3.heap.size ∧ ∃ o, W3.heap[k]? = some o ∧ o.isCells = true := by
    intro k hk
    rw [hSd] at hk
    rcases hk with rfl | rfl | ⟨hz0, hk⟩
    · exact ⟨by omega, by omega, _, hyb, rfl⟩
    · exact ⟨by omega, by omega, _, hpb, rfl⟩
    · obtain ⟨o, sp, rfl⟩ := hk
      obtain ⟨h1, cur, h2⟩ := hmk.own_ge (g := k) rfl
      rw [World.size_alloc] at h1
      have hlt := (Array.getElem?_eq_some_iff.1 h2).1
      exact ⟨by omega, by omega, .cells cur 5 (0, 0), by rw [hW3]; exact (Below.heap_alloc W2 _ _ hlt).trans h2, rfl⟩
  have hSlt : ∀ k, S k → k < W3.heap.size := fun k hk => (hSc k hk).2.1
  have hNS : NumsS .u8 W3 S A2 zs := fun h0 => by
    obtain ⟨b, off, e, hb, hcl⟩ := hnu2 h0
    refine ⟨b, off, e, by rw [hSd]; exact .inr (.inr ⟨h0, _, _, e⟩), fun j z hj => ?_⟩
    rw [hW3]
    exact (World.cell?_alloc_lt W2 _ ⟨b, off + j, none⟩ hb).trans (hcl j z hj)
  have hSy : S W.heap.size := by rw [hSd]; exact .inl rfl
  have hSp : S W2.heap.size := by rw [hSd]; exact .inr (.inl rfl)
  have hsm : ∀ V V', KeepS S W3 V → KpC Bi V V' → KeepS S V V' := fun V V' h1 h2 => ⟨h2.size, fun k hk => by
    obtain ⟨h3, _, o, h4, h5⟩ := hSc k hk
    have h6 := (h1.2 k hk).trans h4
    rw [h6]; exact h2.same k o (by omega) h6 h5⟩
  have hsb : s0 ≤ W.heap.size := by omega
  have hD3 := hDb 0 _ _ hD0 (hbW3.mono hsb)
  have hB3 : Bk W3 := hBk _ _ hB0 hbW3.size (fun k _ h2 => hbW3.block k (by omega))
  have hyc : W3.cell? ⟨W.heap.size, 0, none⟩ = some (.func (.yield l) #[] #[]) := by simp [World.cell?, hyb]
  have hpc : W3.cell? ⟨W2.heap.size, 0, none⟩ = some (.slice A2 m c2) := by simp [World.cell?, hpb]
  have hs03 : s0 ≤ W3.heap.size := by omega
  have hKo : ∀ (V : World) (l' : Nat) (o' : Obj), W3.heap.size ≤ l' → KeepS S V (V.putObj l' o') := fun V l' o' hl' => ⟨by simp [World.putObj], fun k hk => World.putObj_heap_other (by have := hSlt k hk; omega)⟩
  have hBo : ∀ (V : World) (l' : Nat) (o' : Obj), Bk V → W3.heap.size ≤ l' → Bk (V.putObj l' o') := fun V l' o' hb hl' => hBk _ _ hb (by simp [World.putObj]) (fun k _ h2 => World.putObj_heap_other (by omega))
  clear hW3 hSd hmk hb2 hyb hpb hN hBs hnu2
  gi_wp2_with fail
  refine range_given rfl hn1 (gf := 22) (lb := #[.pointer (some ⟨W2.heap.size, 0, none⟩)]) rfl trivial (enters_of Try.func22 (by kernel_rfl) rfl)
    (fun x : Blk W3 S => #[Value.slice x.1.1 x.1.2.length x.1.2.length]) (fun _ => rfl)
    (fun j x V => Dn j V ∧ Bk V ∧ KeepS S W3 V ∧ (Cb.blocks zs)[j]? = some x.1.2)
    (fun j V => Dn j V ∧ Bk V ∧ KeepS S W3 V) (KeepS S) (Cb.blocks zs).length
    (fun j x V l' o o' h hl' ho hc' => ⟨hDb _ _ _ h.1 (below_put V o' (Nat.le_trans hs03 hl')), hBo V l' o' h.2.1 hl', h.2.2.1.trans (hKo V l' o' hl'), h.2.2.2⟩)
    (fun j V l' o o' h hl' ho hc' => ⟨hDb _ _ _ h.1 (below_put V o' (Nat.le_trans hs03 hl')), hBo V l' o' h.2.1 hl', h.2.2.trans (hKo V l' o' hl')⟩)
    (fun _ _ _ h k => h.trans k) (fun V l' o o' hl' ho hc' => hKo V l' o' hl')
    (fun o => ⟨hDb _ _ _ hD3 (((Below.refl s0 W3).alloc hs03 _).alloc (by rw [World.size_alloc]; omega) _), hBk _ _ hB3 (by simp; omega) (fun k _ h2 => (((Below.refl W3.heap.size W3).alloc (Nat.le_refl _) _).alloc (by simp) _).block k (by omega)), KeepS.of_below (((Below.refl W3.heap.size W3).alloc (Nat.le_refl _) _).alloc (by simp) _) hSlt⟩) ?a1 ?assign ?body ?iter ?done
  case assign =>
    intro l' x V K hK
    gi_wp2
    exact hK
  case body =>
    rintro l' j x V hl' ⟨hDV, hBV, hKV, hxj⟩ hj
    have hyV : V.cell? ⟨W.heap.size, 0, none⟩ = some (.func (.yield l) #[] #[]) := (hKV.cell (p := ⟨W.heap.size, 0, none⟩) hSy).trans hyc
    have hnV : Nums .u8 V V.heap.size x.1.1 x.1.2 := (x.2.1.keeps hKV).nums (fun k hk => by have := hSlt k hk; have := hKV.1; omega)
    obtain ⟨fn, tmps, assign, body, hy, hR⟩ := yield_any (n - 1 - 1 - 1) (hY j x.1 V hDV hxj hnV hBV)
    simp only [giv] at hy
    have HR := Lib.hid hR
    have HKV := Lib.hid hKV
    clear hR hD3 hB3 hnV hKV hDV hBV hxj
    gi_wp2_with fail
    refine ⟨fun _ => by omega, ?_⟩
    refine RoundIn.mono (F := Fence.wide.inRound l') HR.out ?_
    rintro e V2 ⟨rfl, hd, hb, hk, hkb⟩
    have hkS := hsm V V2 HKV.out hk
    have hfin := Lib.hid (show KeepsFrom (W2.heap.size + 1) V V2 ∧ (Dn (j + 1) V2 ∧ Bk V2 ∧ KeepS S W3 V2) ∧ KeepS S V V2 from
      ⟨⟨hk.size, fun k o h1 h2 h3 => hkb.same k o (by omega) (by omega) h2 h3⟩, ⟨hd, hb, HKV.out.trans hkS⟩, hkS⟩)
    clear hd hb hk hkb hkS HKV HR
    gi_wp2
    exact hfin.out
  case iter =>
    intro Bk2 l2 V hBk2 hBlt2 hl2 hDV hBV hYV
    refine (parts_in (n - 1) (by omega) l2 W2.heap.size c2 S W3 hSlt A2 zs (by omega) hz (by omega) (fun pre V => (Dn pre.length V ∧ Bk V ∧ KeepS S W3 V) ∧ Bk2 V) (fun _ _ => False) ?_ V ?_ hDV.2.2 hNS ⟨by simpa using hDV, hBV⟩).mono ?_
    · rintro pre x V1 ⟨⟨h1, h2, h3⟩, h4⟩ hp
      have hx : (Cb.blocks zs)[pre.length]? = some x.1.2 := by
        obtain ⟨t, ht⟩ := hp
        rw [← ht, bbare_append, List.append_assoc, List.getElem?_append_right (by rw [bbare_length]; exact Nat.le_refl _), bbare_length, Nat.sub_self]
        rfl
      have hj : pre.length < (Cb.blocks zs).length := by
        rcases Nat.lt_or_ge pre.length (Cb.blocks zs).length with h | h
        · exact h
        · rw [List.getElem?_eq_none h] at hx; cases hx
      refine (hYV pre.length x V1 ⟨h1, h2, h3, hx⟩ h4 hj).mono ?_
      rintro e V2 ⟨rfl, hd, hb, hk, _⟩
      exact .inl ⟨rfl, ⟨by rw [List.length_append, List.length_singleton]; exact hd, hb⟩, hk⟩
    · rw [hm]; exact (hDV.2.2.cell (p := ⟨W2.heap.size, 0, none⟩) hSp).trans hpc
    · rintro e V2 ⟨hv, ⟨ys, hys, hd, hb⟩ | ⟨_, _, h⟩⟩
      · refine ⟨hv, ?_, hb⟩
        have : ys.length = (Cb.blocks zs).length := by rw [← hys, bbare_length]
        rw [← this]; exact hd
      · exact h.elim
  case done =>
    rintro D V hD ⟨hDV, hBV, hKV⟩ hK
    have hfin := Lib.hid (And.intro (hDb _ _ _ hDV (below_put V (.deferred none) (Nat.le_trans hs03 hD))) (hBo V D (.deferred none) hBV hD))
    clear hDV hBV hKV hD3 hB3
    gi_wp2
    refine ⟨by simp, .inl ⟨_, _, rfl, run_takeDeferred hK, ?_⟩⟩
    refine ⟨_, results_none rfl _ _ _, ?_⟩
    exact ⟨⟨_, rfl⟩, hfin.out⟩
end Go.Proofs.Ytljacfhkjhhbgaa
