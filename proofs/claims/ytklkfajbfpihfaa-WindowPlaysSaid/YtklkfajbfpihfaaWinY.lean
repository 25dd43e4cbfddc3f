/-
  Contract of the law's Alike: of a window and of the document's with the same top and bits.
-/
import Derived.Test.YtklkfajbfpihfaaWinX
import Derived.Test.YtklkfajbfpihfaaWinS
namespace Go.Proofs.Ytklkfajbfpihfaa
open Go.RowKit Go.Shelf
set_option maxRecDepth 100000
attribute [local go_sem] Oper.semAt_some

/-- the law's two variables that the loops' bodies turn: how far it is, in box bi; whether all is right, in box bi + 1 -/
structure LkA (w4 : World) (bi : Nat) (i : Nat) (V : World) : Prop where
  at' : Boxed V bi 3 (.int .i64 (i : Int))
  ok : Boxed V (bi + 1) 4 (.bool true)
  off : Off (fun k => k = bi ∨ k = bi + 1) w4 V
section
variable {w4 V V' : World} {bi i : Nat}
theorem LkA.below (h : LkA w4 bi i V) (hb : bi + 1 < w4.heap.size) (hB : Below w4.heap.size V V') : LkA w4 bi i V' :=
  ⟨(hB.block bi (by omega)).trans h.at', (hB.block (bi + 1) hb).trans h.ok, off_below h.off hB⟩
theorem LkA.drewN (h : LkA w4 bi i V) (d : Nat) : LkA w4 bi i (V.drewN d) := ⟨h.at', h.ok, ⟨h.off.os, h.off.tape, h.off.output, h.off.size, h.off.block⟩⟩
theorem LkA.next (h : LkA w4 bi i V) : LkA w4 bi (i + 1) (V.setCell ⟨bi, 0, none⟩ (.int .i64 ((i : Int) + 1))) :=
  ⟨by have := Boxed.set (.int .i64 ((i : Int) + 1)) h.at'; rw [Int.natCast_succ]; exact this, h.ok.other (by omega) _, h.off.setCell (p := ⟨bi, 0, none⟩) (.inl rfl) _⟩
theorem LkA.right (h : LkA w4 bi i V) : LkA w4 bi i (V.setCell ⟨bi + 1, 0, none⟩ (.bool true)) :=
  ⟨h.at'.other (by omega) _, h.ok.set _, h.off.setCell (p := ⟨bi + 1, 0, none⟩) (.inr rfl) _⟩
end
theorem box_not_num {W : World} {b j : Nat} {t : TypeId} {v : Bool} {k : IntKind} {z : Int} (h : Boxed W b t (.bool v)) (hc : W.cell? ⟨b, j, none⟩ = some (.int k z)) : False := by
  rw [cell_of_row W b j _ _ _ h] at hc
  cases j <;> simp at hc
/-- the number in box b -/
def inBox (b : Nat) (W : World) : Nat := (intOf ((W.cell? ⟨b, 0, none⟩).getD undef)).toNat
theorem LkA.num {w4 V : World} {bi i : Nat} (h : LkA w4 bi i V) : inBox bi V = i := by
  unfold inBox
  rw [h.at'.cell]
  simp [intOf]
set_option maxHeartbeats 8000000 in
theorem alike_any {w : World} {b : Nat} {t : Int} {q : Nat} (h : WinAt w b t q) (ht : 0 ≤ t ∧ t < 4294967296) (hq : q < 18446744073709551616) :
    Calls Try.prog 9 #[.pointer (some ⟨b, 0, none⟩), refV t q] w fun e w' => e = .returned (.bool true) ∧ Below w.heap.size w w' := by
  have KT := Lib.hid (fun (V : World) (hV : WinAt V b t q) => wtop_any hV)
  have KB := Lib.hid (fun (V : World) (hV : WinAt V b t q) => wbits_any hV)
  have KR := Lib.hid (fun V => rbits_any t q hq V)
  have KC := Lib.hid (fun (V : World) (hV : WinAt V b t q) => wcome_any hV)
  have KM := Lib.hid (fun (V : World) (hV : WinAt V b t q) => wmissing_any hV ht hq)
  have h0 := wC_top t q.testBit
  have hat := wC_at t q.testBit
  have hCs := wC_size t q.testBit
  unfold refV at KR ⊢
  generalize wC t q.testBit = C at *
  have HI : Hid ((Try.prog.info? 28).map (·.size) = some C.size) := by show _ = _; rw [hCs]; exact wInfo
  obtain ⟨m0, hm0⟩ : ∃ m0, w.heap.size = m0 := ⟨_, rfl⟩
  obtain ⟨w1, hw1⟩ : ∃ w1, w.alloc (.cells C 28) = w1 := ⟨_, rfl⟩
  have hbC : w1.heap[m0]? = some (.cells C 28 (0, 0)) := by rw [← hw1, ← hm0]; exact heap_alloc_new _ _
  have hB1 : Below w.heap.size w w1 := by rw [← hw1]; exact (Below.refl _ w).alloc (Nat.le_refl _) _
  have hwin1 := h.below hB1
  have hs1 : w1.heap.size = m0 + 1 := by rw [← hw1]; simp [hm0]
  have hbm : b < m0 := by have := h.size; omega
  have HCB := Lib.hid hbC
  have HB1 := Lib.hid hB1
  have HW1 := Lib.hid hwin1
  have HAT := Lib.hid hat
  have HM0 := Lib.hid hm0
  have H0 := Lib.hid h0
  clear hbC hB1 hwin1 h h0 hat hCs
  refine (callsIn_wide (n := 3)).1 ?_
  refine callsIn_of_wp_marks Try.func9 rfl trivial ?_ rfl
  simp only [Try.ntmps9, List.size_toArray, List.length_cons, List.length_nil, Nat.reduceAdd, Nat.reduceSub, Array.replicate_succ, Array.replicate_zero, List.push_toArray, List.append_toArray, List.nil_append, List.cons_append]
  gi_wp2_with fail
  refine wpIn_wide.2 ?_
  have hI : ∀ W, Below w1.heap.size w1 W → W.cell? ⟨m0, 0, none⟩ = some (.int .u32 t) ∧ W.heap[m0]? = some (.cells C 28 (0, 0)) ∧ WinAt W b t q := fun W hW => by
    have hc : W.heap[m0]? = some (.cells C 28 (0, 0)) := (hW.block m0 (by omega)).trans HCB.out
    exact ⟨by rw [cell_of_row W m0 0 _ _ _ hc]; exact H0.out, hc, HW1.out.below hW⟩
  have HII := Lib.hid hI
  refine wp_region_order4 (0 :: 2 :: 3 :: 1 :: 4 :: 5 :: 6 :: 8 :: 7 :: 9 :: 10 :: 11 :: []) (fun W => Below w1.heap.size w1 W) (C := fun W => Below w1.heap.size w1 W) (by kernel_rfl) (by kernel_rfl) (Below.refl _ _).drew (fun _ hW => hW) ?_
  repeat (refine wpO4_pure rfl rfl ?_; go_big_quiet_step (fail); refine wpQuiet_nil ?_)
  refine wpO4_load (ad := ⟨m0, 0, none⟩) (.int .u32 t) rfl rfl rfl (by rfl) (fun W hW => by simp [Instr.loadAt, go_sem, (HII.out W hW).1]) ?_
  simp only [Act.put, List.setIfInBounds_toArray, List.set_cons_succ, List.set_cons_zero]
  refine wpO4_call (fun v => v = .int .u32 t) (fun _ W => Below w1.heap.size w1 W) (f := 16) (args := #[.pointer (some ⟨b, 0, none⟩)]) rfl rfl rfl (fun _ W hW => hW) (fun x => by first | rfl | (simp [go_sem]; done)) (fun W hW => (KT.out W (HII.out W hW).2.2).mono fun e W' ⟨he, hw⟩ => ⟨_, he, rfl, by rw [hw]; exact hW⟩) ?_
  rintro v rfl
  simp only [Act.put, List.setIfInBounds_toArray, List.set_cons_succ, List.set_cons_zero]
  repeat (refine wpO4_pure rfl rfl ?_; go_big_quiet_step (fail); refine wpQuiet_nil ?_)
  refine wpO4_load (ad := ⟨m0, 0, none⟩) (.agg C) rfl rfl rfl (by rfl) (fun W hW => ?_) ?_
  · exact run_loadVar_row W m0 28 28 C (0, 0) _ (HII.out W hW).2.1 Try.underlying28 (by rfl) HI.out
  simp only [Act.put, List.setIfInBounds_toArray, List.set_cons_succ, List.set_cons_zero]
  refine wpO4_call (fun v => v = .int .u64 (q : Int)) (fun _ W => Below w1.heap.size w1 W) (f := 17) (args := #[.pointer (some ⟨b, 0, none⟩)]) rfl rfl rfl (fun _ W hW => hW) (fun x => by first | rfl | (simp [go_sem]; done)) (fun W hW => (KB.out W (HII.out W hW).2.2).mono fun e W' ⟨he, hw⟩ => ⟨_, he, rfl, by rw [hw]; exact hW⟩) ?_
  rintro v rfl
  simp only [Act.put, List.setIfInBounds_toArray, List.set_cons_succ, List.set_cons_zero]
  refine wpO4_call (fun v => v = .int .u64 (q : Int)) (fun _ W => Below w1.heap.size w1 W) (f := 22) (args := #[.agg C]) rfl rfl rfl (fun _ W hW => hW) (fun x => by first | rfl | (simp [go_sem]; done)) (fun W hW => (KR.out W).mono fun e W' ⟨he, hw⟩ => ⟨_, he, rfl, hW.trans (hw.mono hW.size)⟩) ?_
  rintro v rfl
  simp only [Act.put, List.setIfInBounds_toArray, List.set_cons_succ, List.set_cons_zero]
  repeat (refine wpO4_pure rfl rfl ?_; go_big_quiet_step (fail); refine wpQuiet_nil ?_)
  intro w2 hb2
  have hwin2 := HW1.out.below hb2
  have hC2 := (HII.out w2 hb2).2.1
  have hs2 := hb2.size
  have HB2 := Lib.hid (HB1.out.trans (hb2.mono (by omega)))
  clear HII hI hb2 hw1
  gi_wp2_with fail
  obtain ⟨bi, hbi⟩ : ∃ bi, w2.heap.size = bi := ⟨_, rfl⟩
  obtain ⟨w3, hw3⟩ : ∃ w3, (w2.alloc (.cells #[Value.int .i64 0] 3)).alloc (.cells #[Value.bool true] 4) = w3 := ⟨_, rfl⟩
  have hs3 : w3.heap.size = bi + 2 := by rw [← hw3]; simp [hbi]
  have hb23 : Below w2.heap.size w2 w3 := by rw [← hw3]; exact ((Below.refl _ w2).alloc (Nat.le_refl _) _).alloc (by simp) _
  have bI3 : Boxed w3 bi 3 (.int .i64 0) := by rw [← hw3, ← hbi]; exact (Boxed.new w2 _ _).alloc _
  have bO3 : Boxed w3 (bi + 1) 4 (.bool true) := by
    rw [← hw3, ← hbi]
    have := Boxed.new (w2.alloc (.cells #[Value.int .i64 0] 3)) 4 (.bool true)
    rwa [World.size_alloc] at this
  have hwin3 := hwin2.below hb23
  have K := KC.out w3 hwin3
  rw [hw3, hbi]
  rw [hs3] at K
  refine ⟨trivial, ?_⟩
  refine (callsIn_wide.2 K).mono ?_
  rintro e w4 ⟨rfl, hw4⟩
  clear K KC
  have hs4 : w4.heap.size = bi + 4 := by rw [hw4]; simp [hs3]
  have hb34 : Below w3.heap.size w3 w4 := by rw [hw4]; exact ((Below.refl _ w3).alloc (Nat.le_refl _) _).alloc (by simp) _
  have hrow4 : w4.heap[bi + 2]? = some (.cells #[.int .u32 t, .int .u64 (q : Int)] 54 (0, 0)) := by
    rw [hw4, ← hs3]; exact (Below.heap_alloc _ _ _ (by simp)).trans (World.alloc_heap_new _ _)
  have hside4 : Boxed w4 (bi + 2 + 1) 4 (.bool true) := by
    rw [hw4, ← hs3]
    have := Boxed.new (w3.alloc (.cells #[.int .u32 t, .int .u64 (q : Int)] 54)) 4 (.bool true)
    rwa [World.size_alloc] at this
  have hL4 : LkA w4 bi 0 w4 := ⟨(hb34.block bi (by omega)).trans bI3, (hb34.block (bi + 1) (by omega)).trans bO3, Off.refl _ _⟩
  have hwin4 := hwin3.below hb34
  have hC4 : w4.heap[m0]? = some (.cells C 28 (0, 0)) := (hb34.block m0 (by omega)).trans ((hb23.block m0 (by omega)).trans hC2)
  have HB4 := Lib.hid (HB2.out.trans ((hb23.mono HB2.out.size).trans (hb34.mono (by have := HB2.out.size; omega))))
  have hmb : m0 < bi := by omega
  have hnil := numbers_not_nil (bi + 2) (bi + 2 + 1) w4
  clear hb23 hb34 hw3 hw4 bI3 bO3 hwin3 hwin2 hC2 hs3 hs2 HB2 HCB HB1 HW1 hs1 hbi
  gi_wp2_with fail
  have hHV : ∀ V, Off (fun k => k = bi ∨ k = bi + 1) w4 V → V.cell? ⟨m0, 0, none⟩ = some (.int .u32 t) ∧ (∀ k, k < 64 → V.cell? ⟨m0, 1 + k, none⟩ = some (.bool (q.testBit k))) ∧ WinAt V b t q := fun V hV => by
    have hc : V.heap[m0]? = some (.cells C 28 (0, 0)) := (hV.block m0 (by omega) (by omega)).trans hC4
    exact ⟨by rw [cell_of_row V m0 0 _ _ _ hc]; exact H0.out, fun k hk => by rw [cell_of_row V m0 (1 + k) _ _ _ hc]; exact HAT.out k hk, hwin4.off hV (by omega)⟩
  have HHV := Lib.hid hHV
  have HL4 := Lib.hid hL4
  have HROW := Lib.hid hrow4
  have HSIDE := Lib.hid hside4
  have hbiw : bi + 1 < w4.heap.size := by omega
  clear hHV hL4 hrow4 hside4 hC4 hwin4
  refine range_stops rfl (by omega) (gf := 31) (lb := #[.pointer (some ⟨bi + 2, 0, none⟩), .pointer (some ⟨bi + 2 + 1, 0, none⟩)]) rfl trivial (enters_of Try.func31 (by kernel_rfl) rfl)
    (fun x : Int => #[Value.int .u32 x]) (fun _ => rfl)
    (fun j x V => (∃ i, i ≤ 64 ∧ Wn.cnt q true i = j ∧ LkA w4 bi i V) ∧ ∃ k : Nat, k < 64 ∧ q.testBit k = true ∧ Wn.cnt q true k = j ∧ x = Sr.add t (-(k : Int)))
    (fun j V => ∃ i, i ≤ 64 ∧ Wn.cnt q true i = j ∧ LkA w4 bi i V)
    (fun _ _ => False) (fun _ _ => True) (Wn.cnt q true 64)
    (fun j x V l o o' h hl ho hc' => by
      obtain ⟨⟨i, h1, h2, h3⟩, h4⟩ := h
      exact ⟨⟨i, h1, h2, h3.below hbiw (below_put V o' hl)⟩, h4⟩)
    (fun j V l o o' h hl ho hc' => by
      obtain ⟨i, h1, h2, h3⟩ := h
      exact ⟨i, h1, h2, h3.below hbiw (below_put V o' hl)⟩)
    (fun _ _ _ _ _ h _ _ _ => h)
    (fun _ _ _ _ _ => trivial) (fun _ _ _ _ _ _ _ => trivial)
    (fun o => ⟨0, by omega, rfl, HL4.out.below hbiw (((Below.refl w4.heap.size w4).alloc (Nat.le_refl _) _).alloc (by simp) _)⟩) ?a1 ?assign ?body ?iter ?done ?stop
  case assign =>
    intro l x V K hK
    gi_wp2
    exact hK
  case body =>
    rintro l j x V hl ⟨⟨i, hi64, hci, hLk⟩, k, hk64, hbk, hck, hx⟩ hj
    have hik : i ≤ k := Wn.cnt_past (hci.trans hck.symm) hbk
    have hno : ∀ d, i ≤ d → d < k → q.testBit d = false := fun d h1 h2 => by
      have := Wn.cnt_none (hci.trans hck.symm) h1 h2
      simpa using this
    have HNO := Lib.hid hno
    have HCK := Lib.hid (And.intro hbk hck)
    have HLK := Lib.hid hLk
    have HX := Lib.hid hx
    clear hno hbk hck hci hLk hx
    gi_wp2_with fail
    gi_loopw [] (fun wr => ∃ d : Nat, i ≤ d ∧ d ≤ k ∧ LkA w4 bi d wr ∧ KeepsOthers V wr) (fun wr => 64 - inBox bi wr)
    case atStart => exact ⟨i, Nat.le_refl _, hik, HLK.out, KeepsOthers.refl _⟩
    case round =>
      obtain ⟨d, hid, hdk, hLd, hko⟩ := hrel
      have kI := hLd.at'.cell
      have fI := hLd.at'.frozen
      have kO := hLd.ok.cell
      have fO := hLd.ok.frozen
      obtain ⟨c0, cAT, _⟩ := HHV.out wr hLd.off
      have hd64 : (d : Int) < 64 := by omega
      have cd := cAT d (by omega)
      have HLD := Lib.hid hLd
      have HKO := Lib.hid hko
      rcases Nat.lt_or_ge d k with h4 | h4
      · rw [HNO.out d hid h4] at cd
        have hnx := hLd.next
        have hinb := hLd.num
        have hnum := hnx.num
        have HNX := Lib.hid (And.intro hnx (And.intro hnum hinb))
        clear hLd hko cAT kO fO c0 hnx hinb hnum
        gi_wp2
        go_roundw
        case rel => exact ⟨d + 1, by omega, by omega, HNX.out.1, HKO.out.trans (KeepsOthers.setCell _ _ _)⟩
        case measure => rw [HNX.out.2.1, HNX.out.2.2]; omega
      · obtain rfl : d = k := by omega
        rw [HCK.out.1] at cd
        have K := sradd_any t (-(d : Int)) wr ht (by omega)
        rw [← HX.out] at K
        have hfin : LkA w4 bi (d + 1) ((wr.setCell ⟨bi + 1, 0, none⟩ (.bool true)).setCell ⟨bi, 0, none⟩ (.int .i64 ((d : Int) + 1))) := hLd.right.next
        have kI2 := hLd.right.at'.cell
        have fI2 := hLd.right.at'.frozen
        have HFIN := Lib.hid hfin
        clear hLd hko cAT hfin
        gi_wp2_with fail
        refine ⟨trivial, ?_⟩
        refine (callsIn_wide.2 K).mono ?_
        rintro e V1 ⟨rfl, hV⟩
        rw [hV]
        clear hV K
        gi_wp2
        exact ⟨((HKO.out.trans (KeepsOthers.setCell _ _ _)).trans (KeepsOthers.setCell _ _ _)).from _, ⟨d + 1, by omega, by rw [Wn.cnt_step HCK.out.1, HCK.out.2], HFIN.out⟩, trivial⟩
  case iter =>
    intro Bk X l V hBk hBlt hX hlw hD hB hY
    refine (numbers_in 2 (by omega) 1 l (bi + 2) (bi + 2 + 1) t q true ht hq (fun k V => (∃ i, i ≤ 64 ∧ Wn.cnt q true i = Wn.cnt q true k ∧ LkA w4 bi i V) ∧ Bk V) X ?_ ?_ ?_ ?_ V ⟨hD, hB⟩).mono ?_
    · rintro k W ⟨⟨i, _, _, h1⟩, _⟩
      have h2 : W.heap[bi + 2]? = _ := (h1.off.block (bi + 2) (by omega) (by omega)).trans HROW.out
      have h3 : Boxed W (bi + 2 + 1) 4 (.bool true) := (h1.off.block (bi + 2 + 1) (by omega) (by omega)).trans HSIDE.out
      exact ⟨by simp [World.cell?, h2], by simp [World.cell?, h2], h3.cell⟩
    · rintro k W d ⟨⟨i, h1, h2, h3⟩, h4⟩
      exact ⟨⟨i, h1, h2, h3.drewN d⟩, hBk W _ h4 (Nat.le_refl _) (fun _ _ _ => rfl)⟩
    · rintro k W ⟨h1, h2⟩ hk hb
      rw [Wn.cnt_stay hb]
      exact ⟨h1, h2⟩
    · rintro k W ⟨h1, h2⟩ hk hb
      refine (hY _ _ W ⟨h1, k, hk, hb, rfl, rfl⟩ h2 (by have := Wn.cnt_mono q true (show k + 1 ≤ 64 by omega); rw [Wn.cnt_step hb] at this; omega)).mono ?_
      rw [Wn.cnt_step hb]
      rintro e V2 (⟨rfl, hd, _, _⟩ | ⟨rfl, hx, _⟩)
      · exact .inl ⟨rfl, hd⟩
      · exact .inr ⟨rfl, hx⟩
    · exact fun _ _ h => h
  case done =>
    rintro D V hD ⟨i, hi64, hci, hLk⟩ hK
    have hno : ∀ d, i ≤ d → d < 64 → q.testBit d = false := fun d h1 h2 => by
      have := Wn.cnt_none hci h1 h2
      simpa using this
    have HNO := Lib.hid hno
    have HLK := Lib.hid hLk
    have HKD := Lib.hid hK
    clear hno hci hLk hK hnil
    gi_wp2_with fail
    gi_loopw [] (fun wr => ∃ d : Nat, i ≤ d ∧ d ≤ 64 ∧ LkA w4 bi d wr ∧ wr.heap[D]? = some (.deferred (some []))) (fun wr => 64 - inBox bi wr)
    case atStart => exact ⟨i, Nat.le_refl _, hi64, HLK.out, HKD.out⟩
    case round =>
      obtain ⟨d, hid, hd, hLd, hKd⟩ := hrel
      have kI := hLd.at'.cell
      have fI := hLd.at'.frozen
      have kO := hLd.ok.cell
      have fO := hLd.ok.frozen
      obtain ⟨c0, cAT, hwd⟩ := HHV.out wr hLd.off
      rcases Nat.lt_or_ge d 64 with h4 | h4
      · have hd64 : (d : Int) < 64 := by omega
        have cd := cAT d (by omega)
        rw [HNO.out d hid h4] at cd
        have hnx := hLd.right.next
        have hnum := hnx.num
        have hinb := hLd.num
        have kI2 := hLd.right.at'.cell
        have fI2 := hLd.right.at'.frozen
        have hKn : ((wr.setCell ⟨bi + 1, 0, none⟩ (.bool true)).setCell ⟨bi, 0, none⟩ (.int .i64 ((d : Int) + 1))).heap[D]? = some (.deferred (some [])) := (Below.heap_setCell _ ⟨bi, 0, none⟩ _ D (by simp; omega)).trans ((Below.heap_setCell wr ⟨bi + 1, 0, none⟩ _ D (by simp; omega)).trans hKd)
        have HNX := Lib.hid (And.intro hnx (And.intro hnum (And.intro hinb hKn)))
        clear hLd hKd cAT c0 hwd hnx hnum hinb hKn
        gi_wp2
        go_roundw
        case rel => exact ⟨d + 1, by omega, by omega, HNX.out.1, HNX.out.2.2.2⟩
        case measure => rw [HNX.out.2.1, HNX.out.2.2.1]; omega
      · obtain rfl : 64 = d := by omega
        have hd64 : ¬ ((64 : Nat) : Int) < 64 := by omega
        have K := KM.out wr hwd
        have HLD := Lib.hid hLd
        have HKD2 := Lib.hid hKd
        have hsz := hLd.off.size
        have hDlt := (Array.getElem?_eq_some_iff.1 hKd).1
        clear hLd hKd cAT c0 hwd kO fO KM
        rename World => wr
        gi_wp2_with fail
        refine ⟨trivial, ?_⟩
        refine (callsIn_wide.2 K).mono ?_
        rintro e w5 ⟨A5, c5, rfl, hc5, hn5, hb5⟩
        have hbi5 : bi + 1 < wr.heap.size := by omega
        have hO5 : Boxed w5 (bi + 1) 4 (.bool true) := (hb5.block _ hbi5).trans HLD.out.ok
        have hoff5 := off_below HLD.out.off (hb5.mono hsz)
        have hK5 := (hb5.block D hDlt).trans HKD2.out
        have hs5 := hb5.size
        have hB5 := HB4.out.trans (hoff5.below (fun k hk => by have := HM0.out; omega) HB4.out.size)
        obtain ⟨N0, hN0⟩ : ∃ N0, (Wn.gv t q false 64).length = N0 := ⟨_, rfl⟩
        have hcN : Wn.cnt q false 64 = N0 := by rw [← hN0, Wn.gv_len]
        have hN64 : N0 ≤ 64 := by rw [← hcN]; exact Wn.cnt_le q false 64
        have hrev : ∀ y kk : Nat, y < 64 → q.testBit y = false → kk + Wn.cnt q false (y + 1) = N0 → (Wn.gv t q false 64).reverse[kk]? = some (Sr.add t (-(y : Int))) := fun y kk hy hb he => by
          rw [Wn.cnt_step hb] at he
          rw [List.getElem?_reverse (by omega), hN0, show N0 - 1 - kk = Wn.cnt q false y by omega]
          exact Wn.gv_at t hb hy
        have HREV := Lib.hid hrev
        have HN5 := Lib.hid hn5
        have HCN := Lib.hid hcN
        have HO5 := Lib.hid hO5
        have HF5 := Lib.hid hoff5
        have HB5 := Lib.hid hB5
        have HK5 := Lib.hid hK5
        rw [hN0] at hc5 ⊢
        clear hrev hn5 hcN hO5 hoff5 hB5 hK5 hN0 hb5 K HLD HKD2 HKD HLK HNO HL4 HROW HSIDE KT KB KR
        gi_wp2_with fail
        gi_loopw [10, 11] (fun kv xv W => ∃ y kk : Nat, y ≤ 64 ∧ xv = .int .i64 ((y : Int) - 1) ∧ kv = .int .i64 (kk : Int) ∧ kk + Wn.cnt q false y = N0 ∧ Boxed W (bi + 1) 4 (.bool true) ∧ Off (fun k => k = bi + 1) w5 W) (fun _ xv _ => (intOf xv + 1).toNat)
        case atStart => exact ⟨64, 0, Nat.le_refl _, rfl, rfl, by rw [HCN.out]; omega, HO5.out, Off.refl _ _⟩
        case round =>
          obtain ⟨y, kk, hy, rfl, rfl, hkk, hOW, hoW⟩ := hrel
          have hoff := HF5.out.trans hoW (fun j _ hj => .inr hj)
          obtain ⟨c0, cAT, _⟩ := HHV.out _ hoff
          cases y with
          | succ j =>
            have h2 : ((j + 1 : Nat) : Int) - 1 = (j : Int) := by omega
            have h2' : (j : Int) < 64 := by omega
            have cj := cAT j (by omega)
            rw [h2]
            cases hb : q.testBit j with
            | true =>
              rw [hb] at cj
              have hkk2 : kk + Wn.cnt q false j = N0 := by rw [← hkk, Wn.cnt_stay (by rw [hb]; decide)]
              have HKK := Lib.hid hkk2
              have HOW := Lib.hid hOW
              have HoW := Lib.hid hoW
              clear hb hkk hkk2 hOW hoW hoff cAT c0 h2
              gi_wp2
              go_roundw
              case rel => exact ⟨j, kk, by omega, rfl, rfl, HKK.out, HOW.out, HoW.out⟩
              case measure => simp [intOf]
            | false =>
              rw [hb] at cj
              have hel := HREV.out j kk (by omega) hb hkk
              have hkk2 : (kk + 1) + Wn.cnt q false j = N0 := by rw [Wn.cnt_step hb] at hkk; omega
              have hkN : (kk : Int) < (N0 : Int) := by omega
              obtain ⟨g, o, rfl, hg, hcg⟩ := HN5.out.open hel
              have hgn : ¬ g = bi + 1 := fun e => by subst e; exact box_not_num HO5.out hcg
              have hkc : (kk : Int) < (c5 : Int) := by omega
              have HKK := Lib.hid hkk2
              have HOW := Lib.hid hOW
              have HoW := Lib.hid hoW
              have KA := Lib.hid (fun W => sradd_any t (-(j : Int)) W ht (by omega))
              clear hb hkk hkk2 hOW hoW hoff cAT hel h2
              generalize Sr.add t (-(j : Int)) = X at *
              have hI : ∀ W, (Boxed W (bi + 1) 4 (.bool true) ∧ Off (fun k => k = bi + 1) w5 W) → W.cell? ⟨bi + 1, 0, none⟩ = some (.bool true) ∧ W.frozen? ⟨bi + 1, 0, none⟩ = false ∧ W.cell? ⟨m0, 0, none⟩ = some (.int .u32 t) ∧ W.cell? ⟨g, o + kk, none⟩ = some (.int .u32 X) := fun W hW =>
                ⟨hW.1.cell, hW.1.frozen, (HHV.out W (HF5.out.trans hW.2 (fun j _ hj => .inr hj))).1, hW.2.cell hcg hgn⟩
              have HII := Lib.hid hI
              have hI0 : (Boxed wr.drew (bi + 1) 4 (.bool true) ∧ Off (fun k => k = bi + 1) w5 wr.drew) := ⟨HOW.out, ⟨HoW.out.os, HoW.out.tape, HoW.out.output, HoW.out.size, HoW.out.block⟩⟩
              clear hI
              gi_wp2
              refine wpIn_wide.2 ?_
              refine wp_region_order4 (0 :: 1 :: 2 :: 3 :: 4 :: 5 :: 6 :: 7 :: 8 :: 9 :: 10 :: 11 :: 12 :: 13 :: 14 :: 15 :: 16 :: 17 :: 18 :: 19 :: []) (fun W => Boxed W (bi + 1) 4 (.bool true) ∧ Off (fun k => k = bi + 1) w5 W) (C := fun W => Boxed W (bi + 1) 4 (.bool true) ∧ Off (fun k => k = bi + 1) w5 W) (by kernel_rfl) (by kernel_rfl) hI0 (fun _ hW => hW) ?_
              refine wpO4_load (ad := ⟨bi + 1, 0, none⟩) (.bool true) rfl rfl rfl (by rfl) (fun W hW => by simp [Instr.loadAt, go_sem, (HII.out W hW).1]) ?_
              simp only [Act.put, List.setIfInBounds_toArray, List.set_cons_succ, List.set_cons_zero]
              repeat (refine wpO4_pure rfl rfl ?_; go_big_quiet_step (fail); refine wpQuiet_nil ?_)
              refine wpO4_load (ad := ⟨g, o + kk, none⟩) (.int .u32 X) rfl rfl rfl (by rfl) (fun W hW => by simp [Instr.loadAt, go_sem, (HII.out W hW).2.2.2]) ?_
              simp only [Act.put, List.setIfInBounds_toArray, List.set_cons_succ, List.set_cons_zero]
              repeat (refine wpO4_pure rfl rfl ?_; go_big_quiet_step (fail); refine wpQuiet_nil ?_)
              refine wpO4_load (ad := ⟨m0, 0, none⟩) (.int .u32 t) rfl rfl rfl (by rfl) (fun W hW => by simp [Instr.loadAt, go_sem, (HII.out W hW).2.2.1]) ?_
              simp only [Act.put, List.setIfInBounds_toArray, List.set_cons_succ, List.set_cons_zero]
              repeat (refine wpO4_pure rfl rfl ?_; go_big_quiet_step (fail); refine wpQuiet_nil ?_)
              refine wpO4_call (fun v => v = .int .u32 X) (fun _ W => Boxed W (bi + 1) 4 (.bool true) ∧ Off (fun k => k = bi + 1) w5 W) (f := 21) (args := #[.int .u32 t, .int .i64 (-(j : Int))]) rfl rfl rfl (fun _ W hW => hW) (fun x => by first | rfl | (simp [go_sem]; done)) (fun W hW => (KA.out W).mono fun e W' ⟨he, hw⟩ => ⟨_, he, rfl, by rw [hw]; exact hW⟩) ?_
              rintro v rfl
              simp only [Act.put, List.setIfInBounds_toArray, List.set_cons_succ, List.set_cons_zero]
              repeat (refine wpO4_pure rfl rfl ?_; go_big_quiet_step (fail); refine wpQuiet_nil ?_)
              refine wpO4_store (fun W => Boxed W (bi + 1) 4 (.bool true) ∧ Off (fun k => k = bi + 1) w5 W) rfl rfl rfl rfl ⟨bi + 1, 0, none⟩ (.bool true) (by rfl) (by rfl) (fun W hW => hW) (fun W hW => ?_) ?_
              · obtain ⟨k0, k1, _⟩ := HII.out W hW
                exact ⟨W.setCell ⟨bi + 1, 0, none⟩ (.bool true), by simp [Instr.storeAt, go_sem, k0, k1], hW.1.set _, hW.2.setCell (p := ⟨bi + 1, 0, none⟩) rfl _⟩
              intro w6 hw6
              have HW6 := Lib.hid hw6
              clear HOW HoW HII hI0 hw6 c0 cj KA
              gi_wp2
              go_roundw
              case rel => exact ⟨j, kk + 1, by omega, rfl, by go_num, HKK.out, HW6.out.1, HW6.out.2⟩
              case measure => simp [intOf]
          | zero =>
            have h2 : ((0 : Nat) : Int) - 1 = -1 := by omega
            have hkN : kk = N0 := hkk
            subst hkN
            have kO := hOW.cell
            have hKf := (hoW.block D (Array.getElem?_eq_some_iff.1 HK5.out).1 (by omega)).trans HK5.out
            have hBf : Below w.heap.size w _ := HB5.out.trans (hoW.below (fun k hk => by rw [hk]; have := HM0.out; omega) HB5.out.size)
            have HBf := Lib.hid hBf
            have hwD : w.heap.size ≤ D := by have := HM0.out; omega
            rw [h2]
            clear hOW hoW hoff cAT c0 h2 hBf
            gi_wp2
            refine ⟨by simp, .inl ⟨_, _, rfl, run_takeDeferred hKf, ?_⟩⟩
            refine ⟨_, results_tmp rfl _ _ _, rfl, ?_⟩
            exact HBf.out.trans (below_put (B := w.heap.size) _ (.deferred none) hwD)
  case stop =>
    rintro D cd W' _ h _
    exact h.elim
end Go.Proofs.Ytklkfajbfpihfaa
