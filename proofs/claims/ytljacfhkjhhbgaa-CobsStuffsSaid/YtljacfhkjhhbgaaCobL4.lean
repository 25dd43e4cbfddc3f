/-
  The walk of the law CobsStuffs: it returns true.
-/
import Derived.Test.YtljacfhkjhhbgaaCobJ
import Derived.Test.YtljacfhkjhhbgaaRbD
import Derived.OpenShut
namespace Go.Proofs.Ytljacfhkjhhbgaa
open Go.RowKit Go.Shelf
set_option maxRecDepth 100000
attribute [local go_sem] Oper.semAt_some

theorem cells_of_cell {W : World} {p : Addr} {v : Value} (h : W.cell? p = some v) : ∃ o : Obj, W.heap[p.block]? = some o ∧ o.isCells = true := by
  unfold World.cell? at h
  cases ho : W.heap[p.block]? with
  | none => simp [ho] at h
  | some o => exact ⟨o, rfl, by cases o <;> simp_all [Obj.isCells]⟩
theorem Nums.putObj {k : IntKind} {V : World} {B l : Nat} {a : Option Addr} {zs : List Int} {o : Obj} (h : Nums k V B a zs) (ho : V.heap[l]? = some o) (hc : o.isCells = false) (o' : Obj) : Nums k (V.putObj l o') B a zs := fun hn => by
  obtain ⟨b, off, e, hb, hcl⟩ := h hn
  refine ⟨b, off, e, hb, fun j c hj => ?_⟩
  have h1 := hcl j c hj
  obtain ⟨o2, h2, h3⟩ := cells_of_cell h1
  refine (World.cell?_of_block (World.putObj_heap_other (fun e => ?_))).trans h1
  simp only at h2 e
  subst e
  rw [ho] at h2
  injection h2 with h2
  subst h2
  rw [hc] at h3; cases h3
theorem off_below {S : Nat → Prop} {w V V' : World} (h : Off S w V) (hb : Below w.heap.size V V') : Off S w V' :=
  ⟨hb.os.trans h.os, hb.tape.trans h.tape, hb.output.trans h.output, Nat.le_trans h.size hb.size, fun k hk hn => (hb.block k hk).trans (h.block k hk hn)⟩
/-- behind j rounds of the law's loop: the box b holds j, all else is as it was -/
def Ld (w : World) (b : Nat) (t : TypeId) (j : Nat) (V : World) : Prop := Boxed V b t (.int .i64 ((j : Nat) : Int)) ∧ Off (fun k => k = b) w V
theorem Ld.below {w V V' : World} {b : Nat} {t : TypeId} {j : Nat} (h : Ld w b t j V) (hb : b < w.heap.size) (hB : Below w.heap.size V V') : Ld w b t j V' :=
  ⟨(hB.block b hb).trans h.1, off_below h.2 hB⟩

set_option maxHeartbeats 8000000 in
theorem stuffs_go (a : Option Addr) (n m c : Nat) (es : List Int) (w : World) (hn : es.length = n) (hc : n ≤ c) (_hl : n ≤ 9223372036854775807) (hz : Bytes es) (h1 : Nums .u8 w w.heap.size a es)
    (hm : min (n : Int) 1000 = (m : Int)) (hmn : m ≤ n) (hm2 : m ≤ 1000) :
    Calls Try.prog 3 #[.slice a n c] w fun e w' => e = .returned (.bool true) ∧ Below w.heap.size w w' := by
  have hmc : (m : Int) ≤ (c : Int) := by omega
  have hlen : (es.take m).length = m := by rw [List.length_take]; omega
  have hzb := hz.take m
  have hnum := h1.take m
  generalize es.take m = bs at *
  clear hz h1 hn
  have HZ := Lib.hid hzb
  have HL := Lib.hid hlen
  obtain ⟨w0, hw0⟩ : ∃ w0, w.alloc (.cells #[.bool false] 4) = w0 := ⟨_, rfl⟩
  have bR0 : Boxed w0 w.heap.size 4 (.bool false) := by rw [← hw0]; exact Boxed.new w _ _
  have hs0 : w0.heap.size = w.heap.size + 1 := by rw [← hw0]; simp
  have hbw : Below w.heap.size w w0 := by rw [← hw0]; exact (Below.refl _ w).alloc (Nat.le_refl _) _
  have hnum0 : Nums .u8 w0 w0.heap.size a bs := (hnum.below hbw).mono hbw.size
  have K1 := encode_any a m c bs w0 hlen (by omega) (by omega) hzb hnum0
  obtain ⟨P, hP⟩ : ∃ P, (Cb.enc bs).length = P := ⟨_, rfl⟩
  have hPl := (Cb.enc_len bs).2.1
  rw [hP, hlen] at hPl
  have HP := Lib.hid hP
  have hP5 : P ≤ 5000 := by omega
  have HEB := Lib.hid (Cb.enc_bytes hzb)
  clear hP hPl hnum
  refine (callsIn_wide (n := 9)).1 ?_
  refine callsIn_of_wp_marks Try.func3 rfl trivial ?_ rfl
  simp only [Try.ntmps3, List.size_toArray, List.length_cons, List.length_nil, Nat.reduceAdd, Nat.reduceSub, Array.replicate_succ, Array.replicate_zero, List.push_toArray, List.append_toArray, List.nil_append, List.cons_append]
  gi_wp2_with fail
  refine ⟨trivial, ?_⟩
  refine (callsIn_wide.2 (K1)).mono ?_
  rintro e w1 ⟨v1, rfl, hm1⟩
  clear K1
  obtain ⟨A1, c1, rfl, hc1, hn1⟩ := hm1.slice
  have hb1 := hm1.2
  rw [HP.out] at hc1 ⊢
  have HN1 := Lib.hid hn1
  clear hm1 hn1
  gi_wp2_with fail
  refine ⟨trivial, ?_⟩
  refine (callsIn_wide.2 (rencode_any a m c bs w1 hlen (by omega) ((hnum0.below hb1).mono hb1.size))).mono ?_
  rintro e w2 ⟨v2, rfl, hm2'⟩
  obtain ⟨A2, c2, rfl, hc2, hn2⟩ := hm2'.slice
  have hb2 := hm2'.2
  rw [HP.out] at hc2 ⊢
  have HN2 := Lib.hid hn2
  clear hm2' hn2
  have hb02 := hb1.trans (hb2.mono hb1.size)
  have D := decode_any A1 P c1 (Cb.enc bs) w2 HP.out hc1 (by omega) HEB.out ((HN1.out.below hb2).mono hb2.size)
  rw [Cb.dec_enc bs false (by simp)] at D
  gi_wp2_with fail
  refine ⟨trivial, ?_⟩
  refine (callsIn_wide.2 (D)).mono ?_
  rintro e w3 ⟨v3, rfl, hm3⟩
  clear D
  obtain ⟨A3, c3, rfl, hc3, hn3⟩ := hm3.slice
  have hb3 := hm3.2
  rw [HL.out] at hc3 ⊢
  have HN3 := Lib.hid hn3
  clear hm3 hn3
  have hb03 := hb02.trans (hb3.mono hb02.size)
  have hb13 := hb2.trans (hb3.mono hb2.size)
  clear hb02
  have E4 := same_any w3.heap.size A1 A2 P P c1 c2 (Cb.enc bs) (Cb.enc bs) w3 HP.out HP.out (by omega) ((HN1.out.below hb13).mono hb13.size) ((HN2.out.below hb3).mono hb3.size)
  rw [decide_eq_true rfl] at E4
  gi_wp2_with fail
  refine ⟨trivial, ?_⟩
  refine (callsIn_wide.2 (E4)).mono ?_
  rintro e w4 ⟨rfl, d4, hw4⟩
  have hb34 : Below w3.heap.size w3 w4 := by rw [hw4]; exact below_drewN (Below.refl _ _) d4
  have hb04 := hb03.trans (hb34.mono hb03.size)
  have hb14 := hb13.trans (hb34.mono hb13.size)
  clear hw4 E4 hb03 hb13 hb2 hb3
  have Z5 := size_any a m c bs w4 hlen (by omega) (by omega) HZ.out ((hnum0.below hb04).mono hb04.size)
  rw [HP.out] at Z5
  gi_wp2_with fail
  refine ⟨trivial, ?_⟩
  refine (callsIn_wide.2 (Z5)).mono ?_
  rintro e w5 ⟨rfl, hb5⟩
  clear Z5
  have hb05 := hb04.trans (hb5.mono hb04.size)
  have hb15 := hb14.trans (hb5.mono hb14.size)
  have hb35 := hb34.trans (hb5.mono hb34.size)
  clear hb04 hb14 hb34 hb5
  have E6 := same_any w5.heap.size A3 a m m c3 c bs bs w5 hlen hlen (by omega) ((HN3.out.below hb35).mono hb35.size) ((hnum0.below hb05).mono hb05.size)
  rw [decide_eq_true rfl] at E6
  gi_wp2_with fail
  refine ⟨trivial, ?_⟩
  refine (callsIn_wide.2 (E6)).mono ?_
  rintro e w6 ⟨rfl, d6, hw6⟩
  have hb56 : Below w5.heap.size w5 w6 := by rw [hw6]; exact below_drewN (Below.refl _ _) d6
  have hb06 := hb05.trans (hb56.mono hb05.size)
  have hb16 := hb15.trans (hb56.mono hb15.size)
  clear hw6 E6 hb05 hb15 hb35 hb56 HN3
  have T7 := stuffed_any A1 P c1 (Cb.enc bs) w6 HP.out hc1 (by omega) HEB.out ((HN1.out.below hb16).mono hb16.size)
  rw [Cb.dec_enc bs false (by simp)] at T7
  gi_wp2_with fail
  refine ⟨trivial, ?_⟩
  refine (callsIn_wide.2 (T7)).mono ?_
  rintro e w7 ⟨rfl, hb7⟩
  clear T7
  have hb07 := hb06.trans (hb7.mono hb06.size)
  have hb17 := hb16.trans (hb7.mono hb16.size)
  clear hb06 hb16 hb7 HN2
  have HNs := Lib.hid (HN1.out.below hb17)
  gi_wp2
  gi_loopw [7] (fun iv wr => ∃ k : Nat, k ≤ P ∧ iv = .int .i64 k ∧ wr = w7) (fun iv _ => P - (intOf iv).toNat)
  case atStart => exact ⟨0, by omega, rfl, rfl⟩
  case round =>
    obtain ⟨k, hk, rfl, rfl⟩ := hrel
    by_cases hlt : k < P
    · obtain ⟨z, hzk⟩ : ∃ z, (Cb.enc bs)[k]? = some z := ⟨_, List.getElem?_eq_getElem (by rw [HP.out]; exact hlt)⟩
      obtain ⟨b1, o1, rfl, hbb, hcl⟩ := HNs.out.open hzk
      have hznz : (z == 0) = false := by rw [beq_eq_false_iff_ne]; exact Cb.enc_nz bs z (List.mem_of_getElem? hzk)
      have hlt' : (k : Int) < (P : Int) := by omega
      clear hzk
      gi_wp2
      go_roundw
      case rel => exact ⟨k + 1, by omega, by go_num, trivial⟩
      case measure => simp [intOf]; omega
    · have hkP : ¬ (k : Int) < (P : Int) := by omega
      have RB := rblocks_any a m c bs wr hlen (by omega) ((hnum0.below hb07).mono hb07.size)
      clear HNs HN1 hb17
      gi_wp2_with fail
      refine ⟨trivial, ?_⟩
      refine (callsIn_wide.2 RB).mono ?_
      rintro e w8 ⟨AL, cL, rfl, hcL, hLA, hb8⟩
      clear RB
      obtain ⟨M, hM⟩ : ∃ M, (Cb.blocks bs).length = M := ⟨_, rfl⟩
      have hM2 := blocks_many bs
      rw [hM] at hcL hM2 ⊢
      have hM3 : M ≤ 10000 := by omega
      have HM := Lib.hid hM
      clear hM2
      have hb08 := hb07.trans (hb8.mono hb07.size)
      clear hb07 hb8
      have hs8 := hb08.size
      gi_wp2_with fail
      refine ⟨trivial, ?_⟩
      obtain ⟨w10, hw10⟩ : ∃ w10, (w8.alloc (.cells #[.slice AL M cL] 30)).alloc (.cells #[.int .i64 0] 3) = w10 := ⟨_, rfl⟩
      have hs10 : w10.heap.size = w8.heap.size + 2 := by rw [← hw10]; simp
      have bL10 : Boxed w10 w8.heap.size 30 (.slice AL M cL) := by rw [← hw10]; exact (Boxed.new w8 _ _).alloc _
      have bI10 : Boxed w10 (w8.heap.size + 1) 3 (.int .i64 ((0 : Nat) : Int)) := by
        rw [← hw10]
        have := Boxed.new (w8.alloc (.cells #[.slice AL M cL] 30)) 3 (.int .i64 0)
        rwa [World.size_alloc] at this
      have hb810 : Below w8.heap.size w8 w10 := by rw [← hw10]; exact ((Below.refl _ w8).alloc (Nat.le_refl _) _).alloc (by simp) _
      have hb010 := hb08.trans (hb810.mono hs8)
      have BK := blocks_any a m c bs w10 hlen (by omega) ((hnum0.below hb010).mono hb010.size)
      rw [hw10]
      refine (callsIn_wide.2 BK).mono ?_
      rintro e w11 ⟨Bs, AB, cB, rfl, hseq⟩
      clear BK hw10
      have hfn := func_not_nil Bs
      have hb11 := hseq.below
      have hs11 := hb11.size
      have bL : Boxed w11 w8.heap.size 30 (.slice AL M cL) := (hb11.block _ (by omega)).trans bL10
      have bI : Boxed w11 (w8.heap.size + 1) 3 (.int .i64 ((0 : Nat) : Int)) := (hb11.block _ (by omega)).trans bI10
      have hb811 := hb810.trans (hb11.mono (by omega))
      have hb011 := hb010.trans (hb11.mono (by omega))
      have bR : Boxed w11 w.heap.size 4 (.bool false) := (hb011.block _ (by omega)).trans bR0
      clear bL10 bI10 hb810 hb010 hb11
      have hOff : ∀ V, Off (fun k => k = w8.heap.size + 1) w11 V → Below w8.heap.size w8 V := fun V hV => hb811.trans (hV.below (fun k hk => by omega) (by omega))
      have hBi : w8.heap.size + 1 < w11.heap.size := by omega
      gi_wp2_with fail
      refine range_given rfl (by omega) (gf := 21) (lb := #[.pointer (some ⟨Bs, 0, none⟩)]) rfl trivial (enters_of Try.func21 (by kernel_rfl) rfl)
        (fun x : Option Addr × List Int => #[Value.slice x.1 x.2.length x.2.length]) (fun _ => rfl)
        (fun j x V => Ld w11 (w8.heap.size + 1) 3 j V ∧ (Cb.blocks bs)[j]? = some x.2 ∧ Nums .u8 V V.heap.size x.1 x.2)
        (fun j V => Ld w11 (w8.heap.size + 1) 3 j V) (KpC (w8.heap.size + 1)) (Cb.blocks bs).length
        (fun j x V l o o' h hl ho hc' => ⟨h.1.below hBi (below_put V o' hl), h.2.1, by rw [show (V.putObj l o').heap.size = V.heap.size by simp [World.putObj]]; exact h.2.2.putObj ho hc' o'⟩)
        (fun j V l o o' h hl _ _ => h.below hBi (below_put V o' hl))
        (fun _ _ _ h k => h.trans k) (fun V l o o' _ ho hc' => KpC.putObj ho hc')
        (fun o => Ld.below ⟨bI, Off.refl _ _⟩ hBi (((Below.refl w11.heap.size w11).alloc (Nat.le_refl _) _).alloc (by simp) _)) ?a1 ?assign ?body ?iter ?done
      case assign =>
        intro l x V K hK
        gi_wp2
        exact hK
      case body =>
        rintro l j x V hl ⟨hLd, hx, hnx⟩ hj
        have hVs := hLd.2.size
        have kI := hLd.1.cell
        have fI := hLd.1.frozen
        have bLV : Boxed V w8.heap.size 30 (.slice AL M cL) := (hLd.2.block w8.heap.size (by omega) (by omega)).trans bL
        have kL := bLV.cell
        obtain ⟨g, Ai, ci, rfl, hg, hcell, hbl, hnb⟩ := (hLA.below (hOff V hLd.2)) j x.2 hx
        have hb4 := blocks_254 bs x.2 (List.mem_of_getElem? hx)
        have E := same_any V.heap.size x.1 Ai x.2.length x.2.length x.2.length ci x.2 x.2 V rfl rfl (by omega) hnx (hnb.mono (by omega))
        rw [decide_eq_true rfl] at E
        rw [HM.out] at hj
        have hjM : (j : Int) < (M : Int) := by omega
        have hjM2 : ¬ (M : Int) ≤ (j : Int) := by omega
        have hMc : (M : Int) ≤ (cL : Int) := by omega
        have hfin : ∀ (V1 : World) (v : Value), Below V.heap.size V V1 → Hid (KeepsFrom w11.heap.size V (V1.setCell ⟨w8.heap.size + 1, 0, none⟩ v) ∧ (Boxed (V1.setCell ⟨w8.heap.size + 1, 0, none⟩ v) (w8.heap.size + 1) 3 v ∧ Off (fun k => k = w8.heap.size + 1) w11 (V1.setCell ⟨w8.heap.size + 1, 0, none⟩ v)) ∧ KpC (w8.heap.size + 1) V (V1.setCell ⟨w8.heap.size + 1, 0, none⟩ v)) := fun V1 v hb =>
          ⟨(⟨hb.size, fun k o _ ho _ => (hb.block k (Array.getElem?_eq_some_iff.1 ho).1).trans ho⟩ : KeepsFrom w11.heap.size V V1).trans ((KeepsOthers.setCell _ _ _).from _),
            ⟨Boxed.set v ((hb.block _ (by omega)).trans hLd.1 : Boxed V1 (w8.heap.size + 1) 3 _), (off_below hLd.2 (hb.mono hVs)).setCell (p := ⟨w8.heap.size + 1, 0, none⟩) rfl v⟩, (KpC.of_below hb).set v⟩
        clear hLd hx hnx hnb hLA
        gi_wp2_with fail
        refine ⟨trivial, ?_⟩
        refine (CallsIn.inRound l (callsIn_wide.2 E)).mono ?_
        rintro e V1 ⟨rfl, d, hV1⟩
        have hb1 : Below V.heap.size V V1 := by rw [hV1]; exact below_drewN (Below.refl _ _) d
        clear E hV1
        have bI1 : V1.cell? ⟨w8.heap.size + 1, 0, none⟩ = some (.int .i64 (j : Int)) := (hb1.cell (p := ⟨w8.heap.size + 1, 0, none⟩) (by simp only; omega)).trans kI
        have fI1 : V1.frozen? ⟨w8.heap.size + 1, 0, none⟩ = false := (World.frozen?_of_block (hb1.block _ (by simp only; omega))).trans fI
        gi_wp2
        exact (hfin V1 (.int .i64 ((j : Int) + 1)) hb1).out
      case iter =>
        intro Bk l V hBk hBlt hl hD hB hY
        have hbox : V.cell? ⟨Bs, 0, none⟩ = some (.slice AB m cB) := hD.2.cell hseq.box (by have := hseq.lo; simp only; omega)
        have hnu : Nums .u8 V V.heap.size AB bs := fun h0 => by
          obtain ⟨b, off, e, hb, hcl⟩ := hseq.nums h0
          exact ⟨b, off, e, by have := hD.2.size; omega, fun q z hq => hD.2.cell (hcl q z hq) (by simp only; omega)⟩
        exact blocks_in 8 (by omega) 7 l Bs m cB (w8.heap.size + 1) w11.heap.size AB bs hlen (by omega) HZ.out (fun j V => Ld w11 (w8.heap.size + 1) 3 j V) Bk hBi hl (fun j A B h hb => h.below hBi hb) hBk hBlt
          (fun j x W1 h1 h2 h3 h4 => hY j x W1 ⟨h1, h2, h3⟩ h4 (by
            rcases Nat.lt_or_ge j (Cb.blocks bs).length with h | h
            · exact h
            · rw [List.getElem?_eq_none h] at h2; cases h2)) V hbox (by have := hseq.hi; have := hD.2.size; omega) hnu hD hB
      case done =>
        rintro D V hD ⟨hI, hO⟩ hK
        rw [HM.out] at hI
        have hVs := hO.size
        have bLV : Boxed V w8.heap.size 30 (.slice AL M cL) := (hO.block w8.heap.size (by omega) (by omega)).trans bL
        have bRV : Boxed V w.heap.size 4 (.bool false) := (hO.block w.heap.size (by omega) (by omega)).trans bR
        have hbV : Below w.heap.size w V := (hbw.trans (hb011.mono (by omega))).trans (hO.below (fun k hk => by omega) (by omega))
        clear bL bR hseq hOff hLA
        gi_wp2_with fail
        refine ⟨trivial, ?_⟩
        refine (callsIn_wide.2 (known_any V)).mono ?_
        rintro e V9 ⟨rfl, hb9⟩
        have kI9 := (show Boxed V9 (w8.heap.size + 1) 3 _ from (hb9.block _ hI.lt).trans hI).cell
        have kL9 := (show Boxed V9 w8.heap.size 30 _ from (hb9.block _ bLV.lt).trans bLV).cell
        have bR9 : Boxed V9 w.heap.size 4 (.bool false) := (hb9.block _ bRV.lt).trans bRV
        have kR9 := bR9.cell
        have fR9 := bR9.frozen
        have hK9 := (hb9.block D (Array.getElem?_eq_some_iff.1 hK).1).trans hK
        have hbV9 := hbV.trans (hb9.mono hbV.size)
        have hDR : w.heap.size ≠ D := by omega
        clear hI hO bLV bRV hbV hb9 hK
        gi_wp2
        have hbf := hbV9.setCell (p := ⟨w.heap.size, 0, none⟩) (Nat.le_refl _) (.bool true)
        have bRf := bR9.set (.bool true)
        have hKf : (V9.setCell ⟨w.heap.size, 0, none⟩ (.bool true)).heap[D]? = some (.deferred (some [])) := (Below.heap_setCell V9 _ _ _ (Ne.symm hDR)).trans hK9
        generalize V9.setCell ⟨w.heap.size, 0, none⟩ (.bool true) = Wf at *
        refine ⟨by simp, .inl ⟨_, _, rfl, run_takeDeferred hKf, ?_⟩⟩
        have hbh := hbf.trans (below_put (B := w.heap.size) Wf (.deferred none) (by omega : w.heap.size ≤ D))
        have bRh : Boxed (Wf.putObj D (.deferred none)) w.heap.size 4 (.bool true) := (World.putObj_heap_other hDR).trans bRf
        have kRh := bRh.cell
        refine ⟨.bool true, ?_, rfl, hbh⟩
        simp [results, Try.f3, go_sem, kRh]

theorem walk_stuffs (a0 : Option Addr) (len0 cap0 : Nat) (z0 : List Int) (w : World) (w0 : IsRow .u8 w a0 len0 cap0 z0) :
    Calls Try.prog 3 #[.slice a0 len0 cap0] w fun e w' => e = .returned (.bool true) ∧ Below w.heap.size w w' := by
  obtain ⟨e0, l0, q0, m0, k0, r0⟩ := w0.elems
  exact stuffs_go a0 len0 (min len0 1000) cap0 e0 w l0 q0 (Nat.le_trans q0 m0) (bytes_of r0) k0 (by omega) (by omega) (by omega)
end Go.Proofs.Ytljacfhkjhhbgaa
