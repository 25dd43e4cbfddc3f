/-
  The walk of the law FenceSplits: it returns true.
-/
import Derived.Test.YtemafhaeppifoaaFenG
import Derived.Test.YtemafhaeppifoaaFenR
import Derived.Test.YtemafhaeppifoaaFenL
import Derived.Test.YtemafhaeppifoaaQ2
namespace Go.Proofs.Ytemafhaeppifoaa
open Go.RowKit Go.Shelf
set_option maxRecDepth 100000
attribute [local go_sem] Oper.semAt_some

section
variable {P : Program} {ops : Array Oper}
/-- a load that is wanted, by what every world of the class holds there -/
theorem wpQ2_loadg {Q : (World → Prop) → Act → Prop} {o : Oper} {rest : List Oper} {C : World → Prop} {a : Act} {t : TypeId} {x : Operand} {ad : Addr} (v : Value) (hop : o.op = .load t x) (hw : Region.wanted o (yielded ops a.tmps) = true) (hx : a.eval x = .pointer (some ad))
    (hrun : ∀ w, C w → (Instr.loadAt t (.pointer (some ad))).run P w = .ok v w) (h : wpQ2 P ops Q rest C (a.put o.dst v)) : wpQ2 P ops Q (o :: rest) C a := by
  refine ⟨v, C, .inr (.inl ⟨by simp [kindOf, pureOp, hop], rfl, .inl ⟨hw, fun w hC => ?_⟩⟩), h⟩
  unfold Oper.quietAt execOp
  simp only [hop, hx]
  rw [Sem.run_bind, hrun w hC]
  exact ⟨rfl, rfl⟩
end
theorem boxed_later {U W : World} {b : Nat} {t : TypeId} {v : Value} (h : Boxed U b t v) (hW : Below U.heap.size U W) : W.cell? ⟨b, 0, none⟩ = some v := (show Boxed W b t v from (hW.block b h.lt).trans h).cell
theorem plc_get {l : List (Nat × List Int)} {j p : Nat} {b : List Int} (h : l[j]? = some (p, b)) : (plc l)[j]? = some (p : Int) := by
  unfold plc; rw [List.getElem?_map, h]; rfl
theorem segs_get {zs : List Int} {j p : Nat} {b : List Int} (h : (Fc.scan 0 [] zs)[j]? = some (p, b)) : (Fc.segs zs)[j]? = some b := by
  unfold Fc.segs; rw [List.getElem?_map, h]; rfl
theorem opn_len (zs : List Int) : (Fc.opn [] zs).length ≤ zs.length := by
  have : ∀ (l now : List Int), (Fc.opn now l).length ≤ now.length + l.length := by
    intro l
    induction l with
    | nil => intro now; simp [Fc.opn]
    | cons z r ih =>
      intro now
      by_cases hz : z = 0
      · subst hz; rw [Fc.opn_zero]; have := ih []; simp at this ⊢; omega
      · rw [Fc.opn_ne hz]; have := ih (now ++ [z]); simp at this ⊢; omega
  have := this zs []
  simpa using this

set_option maxHeartbeats 8000000 in
theorem splits_go (a : Option Addr) (n m c : Nat) (es : List Int) (st : Int) (w : World) (hn : es.length = n) (hc : n ≤ c) (hz : Bytes es) (h1 : Nums .u8 w w.heap.size a es)
    (hm : min (n : Int) 600 = (m : Int)) (hmn : m ≤ n) (hm2 : m ≤ 600) :
    Calls Try.prog 3 #[.slice a n c, .int .i64 st] w fun e w' => e = .returned (.bool true) ∧ Below w.heap.size w w' := by
  have hmc : (m : Int) ≤ (c : Int) := by omega
  have hlen : (es.take m).length = m := by rw [List.length_take]; omega
  have hzb := hz.take m
  have hnum := h1.take m
  generalize es.take m = bs at *
  clear hz h1 hn
  have HZ := Lib.hid hzb
  have HL := Lib.hid hlen
  obtain ⟨w0, hw0⟩ : ∃ w0, (w.alloc (.cells #[.int .i64 st] 3)).alloc (.cells #[.bool false] 4) = w0 := ⟨_, rfl⟩
  have bS0 : Boxed w0 w.heap.size 3 (.int .i64 st) := by rw [← hw0]; exact (Boxed.new w _ _).alloc _
  have bR0 : Boxed w0 (w.heap.size + 1) 4 (.bool false) := by
    rw [← hw0]
    have := Boxed.new (w.alloc (.cells #[.int .i64 st] 3)) 4 (.bool false)
    rwa [World.size_alloc] at this
  have hs0 : w0.heap.size = w.heap.size + 2 := by rw [← hw0]; simp
  have hbw : Below w.heap.size w w0 := by rw [← hw0]; exact ((Below.refl _ w).alloc (Nat.le_refl _) _).alloc (by simp) _
  have hnum0 : Nums .u8 w0 w0.heap.size a bs := (hnum.below hbw).mono hbw.size
  have K1 := split_any a m c bs w0 hlen (by omega) hzb hnum0
  obtain ⟨N, hN⟩ : ∃ N, (Fc.segs bs).length = N := ⟨_, rfl⟩
  obtain ⟨OL, hOL⟩ : ∃ OL, (Fc.opn [] bs).length = OL := ⟨_, rfl⟩
  have hNl : N ≤ 600 := by have := Fc.segs_len bs; omega
  have hOLl : OL ≤ 600 := by have := opn_len bs; omega
  have hscn : (Fc.scan 0 [] bs).length = N := by rw [← hN]; unfold Fc.segs; rw [List.length_map]
  have HN := Lib.hid hN
  have HOL := Lib.hid hOL
  have HSC := Lib.hid hscn
  have HMB := Lib.hid (show ∀ b ∈ Fc.segs bs, b.length ≤ 600 from fun b hb => by have := (Fc.segs_mem hb).2.2; omega)
  clear hN hOL hscn hnum hzb
  refine (callsIn_wide (n := 9)).1 ?_
  refine callsIn_of_wp_marks Try.func3 rfl trivial ?_ rfl
  simp only [Try.ntmps3, List.size_toArray, List.length_cons, List.length_nil, Nat.reduceAdd, Nat.reduceSub, Array.replicate_succ, Array.replicate_zero, List.push_toArray, List.append_toArray, List.nil_append, List.cons_append]
  gi_wp2_with fail
  refine ⟨trivial, ?_⟩
  refine (callsIn_wide.2 (K1)).mono ?_
  rintro e w1 ⟨A1, c1, A2, c2, rfl, hc1, hc2, hL1, hN2, hb1⟩
  clear K1 hw0
  rw [HN.out] at hc1 ⊢
  rw [HOL.out] at hc2 ⊢
  have HL1 := Lib.hid hL1
  have HN2 := Lib.hid hN2
  clear hL1 hN2
  gi_wp2_with fail
  refine ⟨trivial, ?_⟩
  refine (callsIn_wide.2 (rsplit_any a m c bs w1 hlen (by omega) ((hnum0.below hb1).mono hb1.size))).mono ?_
  rintro e w2 ⟨A3, c3, A4, c4, A5, c5, rfl, hc3, hc4, hc5, hL3, hN4, hN5, hb2⟩
  rw [HN.out] at hc3 hc4 ⊢
  rw [HOL.out] at hc5 ⊢
  have hb02 := hb1.trans (hb2.mono hb1.size)
  have hs2 := hb02.size
  have HL3 := Lib.hid hL3
  have HN4 := Lib.hid hN4
  have HN5 := Lib.hid hN5
  have HL1 := Lib.hid ((HL1.out.below hb2).mono hb2.size)
  have HN2 := Lib.hid ((HN2.out.below hb2).mono hb2.size)
  clear hL3 hN4 hN5 hb1 hb2
  gi_wp2_with fail
  refine ⟨trivial, ?_⟩
  obtain ⟨w3, hw3⟩ : ∃ w3, ((w2.alloc (.cells #[.slice A3 N c3] 23)).alloc (.cells #[.slice A4 N c4] 26)).alloc (.cells #[.int .i64 0] 3) = w3 := ⟨_, rfl⟩
  have hs3 : w3.heap.size = w2.heap.size + 3 := by rw [← hw3]; simp
  have bW3 : Boxed w3 w2.heap.size 23 (.slice A3 N c3) := by rw [← hw3]; exact ((Boxed.new w2 _ _).alloc _).alloc _
  have bP3 : Boxed w3 (w2.heap.size + 1) 26 (.slice A4 N c4) := by
    rw [← hw3]
    have := (Boxed.new (w2.alloc (.cells #[.slice A3 N c3] 23)) 26 (.slice A4 N c4)).alloc (.cells #[.int .i64 0] 3)
    rwa [World.size_alloc] at this
  have bI3 : Boxed w3 (w2.heap.size + 2) 3 (.int .i64 ((0 : Nat) : Int)) := by
    rw [← hw3]
    have := Boxed.new ((w2.alloc (.cells #[.slice A3 N c3] 23)).alloc (.cells #[.slice A4 N c4] 26)) 3 (.int .i64 0)
    rwa [World.size_alloc, World.size_alloc] at this
  have hb23 : Below w2.heap.size w2 w3 := by rw [← hw3]; exact (((Below.refl _ w2).alloc (Nat.le_refl _) _).alloc (by simp) _).alloc (by simp; omega) _
  have hb03 := hb02.trans (hb23.mono hs2)
  rw [hw3]
  refine (callsIn_wide.2 (segments_any a m c bs w3 hlen (by omega) ((hnum0.below hb03).mono hb03.size))).mono ?_
  rintro e w4 ⟨Bs, AB, cB, rfl, hseq⟩
  have hfn := seg_not_nil Bs
  have hb34 := hseq.below
  have hs34 := hb34.size
  have bW : Boxed w4 w2.heap.size 23 (.slice A3 N c3) := (hb34.block _ (by omega)).trans bW3
  have bP : Boxed w4 (w2.heap.size + 1) 26 (.slice A4 N c4) := (hb34.block _ (by omega)).trans bP3
  have bI : Boxed w4 (w2.heap.size + 2) 3 (.int .i64 ((0 : Nat) : Int)) := (hb34.block _ (by omega)).trans bI3
  have hb24 := hb23.trans (hb34.mono (by omega))
  have hb04 := hb03.trans (hb34.mono (by omega))
  have bS : Boxed w4 w.heap.size 3 (.int .i64 st) := (hb04.block _ (by omega)).trans bS0
  have bR : Boxed w4 (w.heap.size + 1) 4 (.bool false) := (hb04.block _ (by omega)).trans bR0
  clear hw3 bW3 bP3 bI3 hb23 hb03 hb02 bS0 bR0
  have hOff : ∀ V, Off (fun k => k = w2.heap.size + 2) w4 V → Below w2.heap.size w2 V := fun V hV => hb24.trans (hV.below (fun k hk => by omega) (by omega))
  have hBi : w2.heap.size + 2 < w4.heap.size := by omega
  gi_wp2_with fail
  refine range_stops rfl (by omega) (gf := 20) (lb := #[.pointer (some ⟨Bs, 0, none⟩)]) rfl trivial (enters_of Try.func20 (by kernel_rfl) rfl)
    (fun x : Nat × Option Addr × List Int => #[Value.int .i64 (x.1 : Int), Value.slice x.2.1 x.2.2.length x.2.2.length]) (fun _ => rfl)
    (fun j x V => Ld w4 (w2.heap.size + 2) 3 j V ∧ (Fc.scan 0 [] bs)[j]? = some (x.1, x.2.2) ∧ Nums .u8 V V.heap.size x.2.1 x.2.2)
    (fun j V => Ld w4 (w2.heap.size + 2) 3 j V) (fun _ _ => False) (KpC (w2.heap.size + 2)) (Fc.scan 0 [] bs).length
    (fun j x V l o o' h hl ho hc' => ⟨h.1.below hBi (below_put V o' hl), h.2.1, by rw [show (V.putObj l o').heap.size = V.heap.size by simp [World.putObj]]; exact h.2.2.putObj ho hc' o'⟩)
    (fun j V l o o' h hl _ _ => h.below hBi (below_put V o' hl))
    (fun _ _ _ _ _ h _ _ _ => h)
    (fun _ _ _ h k => h.trans k) (fun V l o o' _ ho hc' => KpC.putObj ho hc')
    (fun o => Ld.below ⟨bI, Off.refl _ _⟩ hBi (((Below.refl w4.heap.size w4).alloc (Nat.le_refl _) _).alloc (by simp) _)) ?a1 ?assign ?body ?iter ?done ?stop
  case assign =>
    intro l x V K hK
    gi_wp2
    exact hK
  case body =>
    rintro l j x V hl ⟨hLd, hx, hnx⟩ hj
    have hVs := hLd.2.size
    have kI := hLd.1.cell
    have fI := hLd.1.frozen
    have kW := (show Boxed V w2.heap.size 23 (.slice A3 N c3) from (hLd.2.block w2.heap.size (by omega) (by omega)).trans bW).cell
    have kP := (show Boxed V (w2.heap.size + 1) 26 (.slice A4 N c4) from (hLd.2.block (w2.heap.size + 1) (by omega) (by omega)).trans bP).cell
    have hbV := hOff V hLd.2
    obtain ⟨g, Ai, ci, rfl, hg, hcell, hbl, hnb⟩ := (HL3.out.below hbV) j x.2.2 (segs_get hx)
    obtain ⟨gp, op, rfl, hgp, hcp⟩ := (HN4.out.below hbV).open (plc_get hx)
    have hb6 := HMB.out x.2.2 (List.mem_of_getElem? (segs_get hx))
    have E := same_any V.heap.size x.2.1 Ai x.2.2.length x.2.2.length x.2.2.length ci x.2.2 x.2.2 V rfl rfl (by omega) hnx (hnb.mono (by have := hbV.size; omega))
    rw [decide_eq_true rfl] at E
    rw [HSC.out] at hj
    have hjN : (j : Int) < (N : Int) := by omega
    have hjN2 : ¬ (N : Int) ≤ (j : Int) := by omega
    have hNc3 : (N : Int) ≤ (c3 : Int) := by omega
    have hNc4 : (N : Int) ≤ (c4 : Int) := by omega
    have hj2 : (j : Int) ≤ 1000 := by omega
    have hfin : Hid (∀ (V1 : World), Below V.heap.size V V1 → KeepsFrom w4.heap.size V (V1.setCell ⟨w2.heap.size + 2, 0, none⟩ (.int .i64 ((j : Int) + 1))) ∧ Ld w4 (w2.heap.size + 2) 3 (j + 1) (V1.setCell ⟨w2.heap.size + 2, 0, none⟩ (.int .i64 ((j : Int) + 1))) ∧ KpC (w2.heap.size + 2) V (V1.setCell ⟨w2.heap.size + 2, 0, none⟩ (.int .i64 ((j : Int) + 1)))) := fun V1 hb =>
      ⟨(⟨hb.size, fun k o _ ho _ => (hb.block k (Array.getElem?_eq_some_iff.1 ho).1).trans ho⟩ : KeepsFrom w4.heap.size V V1).trans ((KeepsOthers.setCell _ _ _).from _),
        ⟨by rw [Int.natCast_succ]; exact Boxed.set _ ((hb.block _ (by omega)).trans hLd.1 : Boxed V1 (w2.heap.size + 2) 3 _), (off_below hLd.2 (hb.mono hVs)).setCell (p := ⟨w2.heap.size + 2, 0, none⟩) rfl _⟩, (KpC.of_below hb).set _⟩
    have hpp : ((x.1 : Int) != (x.1 : Int)) = false := by simp
    clear hLd hx hnx hnb hbV
    gi_wp2_with fail
    refine ⟨trivial, ?_⟩
    refine (CallsIn.inRound l (callsIn_wide.2 E)).mono ?_
    rintro e V1 ⟨rfl, d, hV1⟩
    have hb1 : Below V.heap.size V V1 := by rw [hV1]; exact below_drewN (Below.refl _ _) d
    clear E hV1
    have kI1 : V1.cell? ⟨w2.heap.size + 2, 0, none⟩ = some (.int .i64 (j : Int)) := (hb1.cell (p := ⟨w2.heap.size + 2, 0, none⟩) (by simp only; omega)).trans kI
    have fI1 : V1.frozen? ⟨w2.heap.size + 2, 0, none⟩ = false := (World.frozen?_of_block (hb1.block _ (by simp only; omega))).trans fI
    gi_wp2
    exact hfin.out V1 hb1
  case iter =>
    intro Bk X l V hBk hBlt hX hl hD hB hY
    have hbox : V.cell? ⟨Bs, 0, none⟩ = some (.slice AB m cB) := hD.2.cell hseq.box (by have := hseq.lo; simp only; omega)
    have hnu : Nums .u8 V V.heap.size AB bs := fun h0 => by
      obtain ⟨b, off, e, hb, hcl⟩ := hseq.nums h0
      exact ⟨b, off, e, by have := hD.2.size; omega, fun q z hq => hD.2.cell (hcl q z hq) (by simp only; omega)⟩
    exact segments_in 8 (by omega) 7 l Bs m cB (w2.heap.size + 2) w4.heap.size AB bs hlen (by omega) HZ.out (fun j V => Ld w4 (w2.heap.size + 2) 3 j V) Bk X hBi hl (fun j A B h hb => h.below hBi hb) hBk hBlt hX
      (fun j x W1 h1 h2 h3 h4 => hY j x W1 ⟨h1, h2, h3⟩ h4 (by
        rcases Nat.lt_or_ge j (Fc.scan 0 [] bs).length with h | h
        · exact h
        · rw [List.getElem?_eq_none h] at h2; cases h2)) V hbox (by have := hseq.hi; have := hD.2.size; omega) hnu hD hB
  case done =>
    rintro D V hD ⟨hI, hO⟩ hK
    rw [HSC.out] at hI
    have hVs := hO.size
    have bWV : Boxed V w2.heap.size 23 (.slice A3 N c3) := (hO.block w2.heap.size (by omega) (by omega)).trans bW
    have bRV : Boxed V (w.heap.size + 1) 4 (.bool false) := (hO.block (w.heap.size + 1) (by omega) (by omega)).trans bR
    have bSV : Boxed V w.heap.size 3 (.int .i64 st) := (hO.block w.heap.size (by omega) (by omega)).trans bS
    have hb0V : Below w0.heap.size w0 V := hb04.trans (hO.below (fun k hk => by omega) (by omega))
    have hb2V := hOff V hO
    clear bW bP bI bS bR hseq hOff hfn
    gi_wp2_with fail
    refine ⟨trivial, ?_⟩
    obtain ⟨w6, hw6⟩ : ∃ w6, V.alloc (.cells #[.int .i64 0] 3) = w6 := ⟨_, rfl⟩
    have hs6 : w6.heap.size = V.heap.size + 1 := by rw [← hw6]; simp
    have bK6 : Boxed w6 V.heap.size 3 (.int .i64 ((0 : Nat) : Int)) := by rw [← hw6]; exact Boxed.new V _ _
    have hb56 : Below V.heap.size V w6 := by rw [← hw6]; exact (Below.refl _ V).alloc (Nat.le_refl _) _
    have hb06 := hb0V.trans (hb56.mono hb0V.size)
    rw [hw6]
    refine (callsIn_wide.2 (segments_any a m c bs w6 hlen (by omega) ((hnum0.below hb06).mono hb06.size))).mono ?_
    rintro e w7 ⟨Bt, AC, cC, rfl, hseq⟩
    have hfn := seg_not_nil Bt
    have hb67 := hseq.below
    have hs67 := hb67.size
    have hb57 := hb56.trans (hb67.mono (by omega))
    have bK7 : Boxed w7 V.heap.size 3 (.int .i64 ((0 : Nat) : Int)) := (hb67.block _ (by omega)).trans bK6
    have bI7 : Boxed w7 (w2.heap.size + 2) 3 (.int .i64 (N : Int)) := (hb57.block _ (by omega)).trans hI
    have bW7 : Boxed w7 w2.heap.size 23 (.slice A3 N c3) := (hb57.block _ (by omega)).trans bWV
    have bR7 : Boxed w7 (w.heap.size + 1) 4 (.bool false) := (hb57.block _ (by omega)).trans bRV
    have bS7 : Boxed w7 w.heap.size 3 (.int .i64 st) := (hb57.block _ (by omega)).trans bSV
    have hDV : D < V.heap.size := (Array.getElem?_eq_some_iff.1 hK).1
    have hK7 : w7.heap[D]? = some (.deferred (some [])) := (hb57.block _ hDV).trans hK
    have hb07 := hb0V.trans (hb57.mono hb0V.size)
    have hb27 := hb2V.trans (hb57.mono hb2V.size)
    clear hw6 bK6 hb56 hb06 hb67 bWV bRV bSV hI hO hK hb0V hb2V
    have hBk7 : V.heap.size < w7.heap.size := by omega
    gi_wp2_with fail
    refine range_stops rfl (by omega) (gf := 20) (lb := #[.pointer (some ⟨Bt, 0, none⟩)]) rfl trivial (enters_of Try.func20 (by kernel_rfl) rfl)
      (fun x : Nat × Option Addr × List Int => #[Value.int .i64 (x.1 : Int), Value.slice x.2.1 x.2.2.length x.2.2.length]) (fun _ => rfl)
      (fun j x U => Ld w7 V.heap.size 3 j U ∧ ∀ q : Nat, q < j → (q : Int) ≠ st)
      (fun j U => Ld w7 V.heap.size 3 j U ∧ ∀ q : Nat, q < j → (q : Int) ≠ st)
      (fun cd U => cd = .exit 2 ∧ ∃ j : Nat, j < N ∧ (j : Int) = st ∧ Ld w7 V.heap.size 3 (j + 1) U) (KpC V.heap.size) (Fc.scan 0 [] bs).length
      (fun j x U l o o' h hl ho hc' => ⟨h.1.below hBk7 (below_put U o' hl), h.2⟩)
      (fun j U l o o' h hl _ _ => ⟨h.1.below hBk7 (below_put U o' hl), h.2⟩)
      (fun cd U l o o' h hl _ _ => ⟨h.1, by obtain ⟨q, h1, h2, h3⟩ := h.2; exact ⟨q, h1, h2, h3.below hBk7 (below_put U o' hl)⟩⟩)
      (fun _ _ _ h k => h.trans k) (fun U l o o' _ ho hc' => KpC.putObj ho hc')
      (fun o => ⟨Ld.below ⟨bK7, Off.refl _ _⟩ hBk7 (((Below.refl w7.heap.size w7).alloc (Nat.le_refl _) _).alloc (by simp) _), fun q hq => by omega⟩) ?a2 ?assign2 ?body2 ?iter2 ?done2 ?stop2
    case assign2 =>
      intro l x U K hK
      gi_wp2
      exact hK
    case body2 =>
      rintro l j x U hl ⟨hLd, hne⟩ hj
      rw [HSC.out] at hj
      have hVs := hLd.2.size
      have kK := hLd.1.cell
      have fK := hLd.1.frozen
      have kS := (show Boxed U w.heap.size 3 (.int .i64 st) from (hLd.2.block w.heap.size (by omega) (by omega)).trans bS7).cell
      have kS2 : (U.setCell ⟨V.heap.size, 0, none⟩ (.int .i64 ((j : Int) + 1))).cell? ⟨w.heap.size, 0, none⟩ = some (.int .i64 st) :=
        (World.cell?_of_block (Below.heap_setCell U ⟨V.heap.size, 0, none⟩ _ _ (by simp only; omega))).trans kS
      have kK2 : (U.setCell ⟨V.heap.size, 0, none⟩ (.int .i64 ((j : Int) + 1))).cell? ⟨V.heap.size, 0, none⟩ = some (.int .i64 ((j : Int) + 1)) := (hLd.1.set _).cell
      have hj2 : (j : Int) ≤ 1000 := by omega
      have hkf : KeepsFrom w7.heap.size U (U.setCell ⟨V.heap.size, 0, none⟩ (.int .i64 ((j : Int) + 1))) := (KeepsOthers.setCell _ _ _).from _
      have hld2 := hLd.next hBk7 (Below.refl _ U)
      have hkp := (KpC.of_below (b := V.heap.size) (Below.refl _ U)).set (.int .i64 ((j : Int) + 1))
      by_cases hjs : (j : Int) = st
      · have hfin := Lib.hid (And.intro hkf (And.intro hj hld2))
        subst hjs
        clear hLd hkf hld2 hkp hj
        gi_wp2
        exact ⟨hfin.out.1, rfl, j, hfin.out.2.1, rfl, hfin.out.2.2⟩
      · have hfin := Lib.hid (And.intro hkf (And.intro (show Ld w7 V.heap.size 3 (j + 1) _ ∧ ∀ q : Nat, q < j + 1 → (q : Int) ≠ st from ⟨hld2, fun q hq => by
          rcases Nat.lt_or_ge q j with h | h
          · exact hne q h
          · rw [show q = j by omega]; exact hjs⟩) hkp))
        have hjs2 : ((j : Int) == st) = false := by rw [beq_eq_false_iff_ne]; exact hjs
        clear hLd hkf hld2 hkp hj
        gi_wp2
        exact hfin.out
    case iter2 =>
      intro Bk X l U hBk hBlt hX hl hD hB hY
      have hbox : U.cell? ⟨Bt, 0, none⟩ = some (.slice AC m cC) := hD.1.2.cell hseq.box (by have := hseq.lo; simp only; omega)
      have hnu : Nums .u8 U U.heap.size AC bs := fun h0 => by
        obtain ⟨b, off, e, hb, hcl⟩ := hseq.nums h0
        exact ⟨b, off, e, by have := hD.1.2.size; omega, fun q z hq => hD.1.2.cell (hcl q z hq) (by simp only; omega)⟩
      exact segments_in 8 (by omega) 7 l Bt m cC V.heap.size w7.heap.size AC bs hlen (by omega) HZ.out (fun j U => Ld w7 V.heap.size 3 j U ∧ ∀ q : Nat, q < j → (q : Int) ≠ st) Bk X hBk7 hl (fun j A B h hb => ⟨h.1.below hBk7 hb, h.2⟩) hBk hBlt hX
        (fun j x W1 h1 h2 h3 h4 => hY j x W1 h1 h4 (by
          rcases Nat.lt_or_ge j (Fc.scan 0 [] bs).length with h | h
          · exact h
          · rw [List.getElem?_eq_none h] at h2; cases h2)) U hbox (by have := hseq.hi; have := hD.1.2.size; omega) hnu hD hB
    case' done2 =>
      rintro D2 U hD2 ⟨hLd, hne⟩ hK2
      rw [HSC.out] at hLd hne
      have hst : st < 0 ∨ (0 ≤ st ∧ ¬ st < 0 ∧ (N : Int) ≤ st ∧ ¬ st < (N : Int)) := by
        rcases Int.lt_or_le st 0 with h | h
        · exact .inl h
        · rcases Int.lt_or_le st (N : Int) with h3 | h3
          · exact absurd (show ((st.toNat : Nat) : Int) = st by omega) (hne st.toNat (by omega))
          · exact .inr ⟨h, by omega, h3, by omega⟩
      have hkf := hLd.1
      have hO := hLd.2
      clear hLd hne
    case' stop2 =>
      rintro D2 cd U hD2 ⟨rfl, j, hj, hjs, hLd⟩ hK2
      have hkf := hLd.1
      rw [Int.natCast_succ] at hkf
      have hO := hLd.2
      subst hjs
      have hst : (0 : Int) ≤ (j : Int) ∧ (j : Int) < (N : Int) ∧ (j : Int) ≤ 1000 := by omega
      clear hLd hj
    all_goals (
      have hUs := hO.size
      have bIU : Boxed U (w2.heap.size + 2) 3 (.int .i64 (N : Int)) := (hO.block _ (by omega) (by omega)).trans bI7
      have bWU : Boxed U w2.heap.size 23 (.slice A3 N c3) := (hO.block _ (by omega) (by omega)).trans bW7
      have bRU : Boxed U (w.heap.size + 1) 4 (.bool false) := (hO.block _ (by omega) (by omega)).trans bR7
      have bSU := (show Boxed U w.heap.size 3 _ from (hO.block _ (by omega) (by omega)).trans bS7)
      have hKD : U.heap[D]? = some (.deferred (some [])) := (hO.block _ (by omega) (by omega)).trans hK7
      have hb0U := hb07.trans (hO.below (fun k hk => by omega) (by omega))
      have hb2U := hb27.trans (hO.below (fun k hk => by omega) (by omega))
      have kS := bSU.cell
      have kW := bWU.cell
      clear bI7 bW7 bR7 bS7 hK7 hb07 hb27 hO hseq bK7 hfn)
    case' done2 =>
      rcases hst with hs1 | ⟨hs1, hs1', hs2, hs2'⟩
    all_goals (
      have hLi : ∀ W, Below U.heap.size U W → Calls Try.prog 12 #[.slice A1 N c1, .slice A3 N c3] W fun e w' => e = .returned (.bool true) ∧ Below W.heap.size W w' := fun W hW =>
        (lists_eq w2.heap.size A1 A3 N c1 c3 (Fc.segs bs) W HN.out (by omega) (fun b hb => by have := HMB.out b hb; omega) hc1 hc3 (HL1.out.below (hb2U.trans (hW.mono hb2U.size))) (HL3.out.below (hb2U.trans (hW.mono hb2U.size)))).mono fun e w' ⟨h, d, hd⟩ => ⟨h, by rw [hd]; exact below_drewN (Below.refl _ _) d⟩
      have hSm : ∀ W, Below U.heap.size U W → Calls Try.prog 10 #[.slice A2 OL c2, .slice A5 OL c5] W fun e w' => e = .returned (.bool true) ∧ Below W.heap.size W w' := fun W hW =>
        (same_len w2.heap.size A2 A5 OL OL c2 c5 (Fc.opn [] bs) (Fc.opn [] bs) W rfl HOL.out HOL.out (by omega) (HN2.out.below (hb2U.trans (hW.mono hb2U.size))) (HN5.out.below (hb2U.trans (hW.mono hb2U.size)))).mono fun e w' ⟨h, d, hd⟩ => ⟨h, by rw [hd]; exact below_drewN (Below.refl _ _) d⟩
      have hCt : ∀ W, Below U.heap.size U W → Calls Try.prog 13 #[.slice a m c] W fun e w' => e = .returned (.int .i64 (N : Int)) ∧ Below W.heap.size W w' := fun W hW => by
        have hb0W := hb0U.trans (hW.mono hb0U.size)
        have := count_any a m c bs W hlen (by omega) (by omega) HZ.out ((hnum0.below hb0W).mono hb0W.size)
        rw [HSC.out] at this
        exact this
      gi_wp2_with fail
      refine wpIn_wide.2 ?_
      refine wp_region_lex2 (C := fun W => Below U.heap.size U W) (by kernel_rfl) (by kernel_rfl) (Below.refl _ _).drew ?_
      refine wpQ2_look rfl ?_
      go_big_quiet_step ((intro hC; first | rfl | (go_at_call 11; exact calls_below hC hC.size (known_any _))))
      refine wpQuiet_nil ?_
      repeat (refine wpQ2_pure rfl ?_; go_big_quiet_step (fail); refine wpQuiet_nil ?_)
      refine wpQ2_loadg (.int .i64 (N : Int)) rfl (by rfl) (by rfl) (fun W hW => ?_) ?_
      · have := boxed_later bIU hW
        simp [Instr.loadAt, go_sem, this]
      simp only [Act.put, List.setIfInBounds_toArray, List.set_cons_succ, List.set_cons_zero]
      refine wpQ2_loadg (.slice A3 N c3) rfl (by rfl) (by rfl) (fun W hW => ?_) ?_
      · have := boxed_later bWU hW
        simp [Instr.loadAt, go_sem, this]
      simp only [Act.put, List.setIfInBounds_toArray, List.set_cons_succ, List.set_cons_zero]
      repeat (refine wpQ2_pure rfl ?_; go_big_quiet_step (fail); refine wpQuiet_nil ?_)
      first
        | (refine wpQ2_loadg (.int .i64 ((j : Int) + 1)) rfl (by rfl) (by rfl) (fun W hW => by have := boxed_later hkf hW; simp [Instr.loadAt, go_sem, this]) ?_)
        | (refine wpQ2_loadg (.int .i64 (N : Int)) rfl (by rfl) (by rfl) (fun W hW => by have := boxed_later hkf hW; simp [Instr.loadAt, go_sem, this]) ?_)
      simp only [Act.put, List.setIfInBounds_toArray, List.set_cons_succ, List.set_cons_zero]
      repeat (refine wpQ2_pure rfl ?_; go_big_quiet_step (fail); refine wpQuiet_nil ?_)
      refine wpQ2_loadg (.slice A3 N c3) rfl (by rfl) (by rfl) (fun W hW => ?_) ?_
      · have := boxed_later bWU hW
        simp [Instr.loadAt, go_sem, this]
      simp only [Act.put, List.setIfInBounds_toArray, List.set_cons_succ, List.set_cons_zero]
      repeat (refine wpQ2_pure rfl ?_; go_big_quiet_step (fail); refine wpQuiet_nil ?_)
      refine wpQ2_look rfl ?_
      go_big_quiet_step ((intro hC; first | rfl | (go_at_call 12; exact calls_below hC hC.size (hLi _ hC))))
      refine wpQuiet_nil ?_
      repeat (refine wpQ2_pure rfl ?_; go_big_quiet_step (fail); refine wpQuiet_nil ?_)
      refine wpQ2_look rfl ?_
      go_big_quiet_step ((intro hC; first | rfl | (go_at_call 10; exact calls_below hC hC.size (hSm _ hC))))
      refine wpQuiet_nil ?_
      repeat (refine wpQ2_pure rfl ?_; go_big_quiet_step (fail); refine wpQuiet_nil ?_)
      refine wpQ2_look rfl ?_
      go_big_quiet_step ((intro hC; first | rfl | (go_at_call 13; exact calls_below hC hC.size (hCt _ hC))))
      refine wpQuiet_nil ?_
      refine wpQ2_loadg (.slice A3 N c3) rfl (by rfl) (by rfl) (fun W hW => ?_) ?_
      · have := boxed_later bWU hW
        simp [Instr.loadAt, go_sem, this]
      simp only [Act.put, List.setIfInBounds_toArray, List.set_cons_succ, List.set_cons_zero]
      repeat (refine wpQ2_pure rfl ?_; go_big_quiet_step (fail); refine wpQuiet_nil ?_)
      refine wpQ2_store (fun W => ∃ W0, Below U.heap.size U W0 ∧ W = W0.setCell ⟨w.heap.size + 1, 0, none⟩ (.bool true)) rfl rfl rfl ⟨w.heap.size + 1, 0, none⟩ (.bool true) (by rfl) (by rfl) (fun W hW => ?_) ?_
      · have h1 := boxed_later bRU hW
        have h2 := (show Boxed W (w.heap.size + 1) 4 (.bool false) from (hW.block _ bRU.lt).trans bRU).frozen
        refine ⟨_, ?_, W, hW, rfl⟩
        simp [Instr.storeAt, go_sem, h1, h2]
      rintro W9 ⟨W0, hW0, rfl⟩
      have bR9 := (show Boxed W0 (w.heap.size + 1) 4 (.bool false) from (hW0.block _ bRU.lt).trans bRU).set (.bool true)
      have hD2U : D2 < U.heap.size := (Array.getElem?_eq_some_iff.1 hK2).1
      have hDU : D < U.heap.size := (Array.getElem?_eq_some_iff.1 hKD).1
      have hK29 : (W0.setCell ⟨w.heap.size + 1, 0, none⟩ (.bool true)).heap[D2]? = some (.deferred (some [])) := (Below.heap_setCell W0 _ _ _ (by simp only; omega)).trans ((hW0.block _ hD2U).trans hK2)
      have hKD9 : (W0.setCell ⟨w.heap.size + 1, 0, none⟩ (.bool true)).heap[D]? = some (.deferred (some [])) := (Below.heap_setCell W0 _ _ _ (by simp only; omega)).trans ((hW0.block _ hDU).trans hKD)
      have hb9 := ((hbw.trans (hb0U.mono hbw.size)).trans (hW0.mono (by have := hbw.size; have := hb0U.size; omega))).setCell (p := ⟨w.heap.size + 1, 0, none⟩) (by simp only; omega) (.bool true)
      generalize W0.setCell ⟨w.heap.size + 1, 0, none⟩ (.bool true) = Wf at *
      have hKDf : (Wf.putObj D2 (.deferred none)).heap[D]? = some (.deferred (some [])) := (World.putObj_heap_other (by omega)).trans hKD9
      have bRh : Boxed ((Wf.putObj D2 (.deferred none)).putObj D (.deferred none)) (w.heap.size + 1) 4 (.bool true) := (World.putObj_heap_other (by omega)).trans ((World.putObj_heap_other (by omega)).trans bR9)
      have hbh := (hb9.trans (below_put (B := w.heap.size) Wf (.deferred none) (by omega : w.heap.size ≤ D2))).trans (below_put (B := w.heap.size) (Wf.putObj D2 (.deferred none)) (.deferred none) (by omega : w.heap.size ≤ D))
      have kRh := bRh.cell
      have HF := Lib.hid (And.intro hK29 (And.intro hKDf hbh))
      clear hK29 hKD9 hb9 hKDf hbh hLi hSm hCt hW0 bR9 bRh
      gi_wp2
      refine ⟨by simp, .inl ⟨_, _, rfl, run_takeDeferred HF.out.1, ?_⟩⟩
      refine ⟨by simp, .inl ⟨_, _, rfl, run_takeDeferred HF.out.2.1, ?_⟩⟩
      refine ⟨.bool true, ?_, rfl, HF.out.2.2⟩
      simp [results, Try.f3, go_sem, kRh])
  case stop =>
    rintro D cd W' _ h _
    exact h.elim

theorem walk_splits (a0 : Option Addr) (len0 cap0 : Nat) (z0 : List Int) (a1 : Int) (w : World) (w0 : IsRow .u8 w a0 len0 cap0 z0) (_w1 : (Lit.int .i64 a1).wf = true) :
    Calls Try.prog 3 #[.slice a0 len0 cap0, .int .i64 a1] w fun e w' => e = .returned (.bool true) ∧ Below w.heap.size w w' := by
  obtain ⟨e0, l0, q0, m0, k0, r0⟩ := w0.elems
  exact splits_go a0 len0 (min len0 600) cap0 e0 a1 w l0 q0 (bytes_of r0) k0 (by omega) (by omega) (by omega)
end Go.Proofs.Ytemafhaeppifoaa
