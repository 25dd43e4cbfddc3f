/-
  A part of the texts of one proof, put together: TabP, TabJ, TabOw, TabH, TabG, JoiM, TabSh, Q19, JoiT, JdT, StopN, JoiW, TabW, TabX, Q17.
-/
import Derived.RangeFuncNested
import Derived.Test.YtfdbcfkjablnkaaGreatMPPlaysProof6
namespace Go.Proofs.YtfdbcfkjablnkaaGreat
open Go.RowKit Go.Shelf
set_option maxRecDepth 100000

/-- a frame and an answer in new blocks -/
theorem put_boxes {w w0 : World} {f : Fr} (hw : (w.alloc (.cells f.cs 42)).alloc (.cells (outC none 0 0 false false 0) 54) = w0) :
    Below w.heap.size w w0 ∧ w.heap.size + 2 ≤ w0.heap.size ∧ w0.heap[w.heap.size]? = some (.cells f.cs 42 (0, 0)) ∧ w0.heap[w.heap.size + 1]? = some (.cells (outC none 0 0 false false 0) 54 (0, 0)) := by
  subst hw
  refine ⟨((Below.refl _ w).alloc (Nat.le_refl _) _).alloc (by simp) _, by simp, (Below.heap_alloc _ _ _ (by simp)).trans (World.alloc_heap_new _ _), ?_⟩
  have := World.alloc_heap_new (w.alloc (.cells f.cs 42)) (.cells (outC none 0 0 false false 0) 54)
  rw [World.size_alloc] at this
  exact this
section
variable {w w' : World} {S S' : Nat → Prop} {b r m n cp : Nat} {A : Option Addr} {X : List Sx}
set_option maxHeartbeats 8000000 in
theorem tput_any (h : TblAt w S b r m A n cp X) (f : Fr) (hf : f.At w w.heap.size) :
    Calls Tryz.prog 25 #[.pointer (some ⟨b, 0, none⟩), frV f.v f.k f.s f.i f.c (.slice f.a f.zs.length f.cp)] w (TPutR w S b r (X.map Sx.ms) f) := by
  obtain ⟨w0, hw0⟩ : ∃ w0, (w.alloc (.cells f.cs 42)).alloc (.cells (outC none 0 0 false false 0) 54) = w0 := ⟨_, rfl⟩
  obtain ⟨hb0, hs0, hF0, hR0⟩ := put_boxes hw0
  obtain ⟨d0, d1, d2, d3, d4, d5⟩ := fr_block (v := f.v) (k := f.k) (s := f.s) (i := f.i) (c := f.c) hF0
  have KN := snew_any13 f.v f.k f.s f.i f.c ⟨hf.s0, hf.s1⟩ w0
  have HB0 := Lib.hid hb0
  have HF0 := Lib.hid hF0
  have HR0 := Lib.hid hR0
  have HS0 := Lib.hid hs0
  have HKN := Lib.hid KN
  have HT := Lib.hid h
  have HF := Lib.hid hf
  clear KN h hb0 hF0 hR0 hf hs0
  generalize hG : TPutR w S b r (X.map Sx.ms) f = G
  have HG := Lib.hid hG
  clear hG
  subst hw0
  unfold frV
  simp only [outC, Fr.cs, frC, hdV] at HKN d0 d1 d2 d3 d4 d5 ⊢
  go_enter Tryz.func25, Tryz.ntmps25
  go_wp2_with fail
  refine HKN.out.mono ?_
  rintro e W1 hor
  have hb01 : Below w.heap.size w W1 := by
    rcases hor with ⟨_, _, hb1⟩ | ⟨_, yb, ym, _, _, hb1, _⟩
    · exact HB0.out.trans (hb1.mono HB0.out.size)
    · exact HB0.out.trans (hb1.mono HB0.out.size)
  have hb1' : Below ((w.alloc (.cells f.cs 42)).alloc (.cells (outC none 0 0 false false 0) 54)).heap.size ((w.alloc (.cells f.cs 42)).alloc (.cells (outC none 0 0 false false 0) 54)) W1 := by
    rcases hor with ⟨_, _, hb1⟩ | ⟨_, yb, ym, _, _, hb1, _⟩
    · exact hb1
    · exact hb1
  have hR1 : W1.heap[w.heap.size + 1]? = some (.cells (outC none 0 0 false false 0) 54 (0, 0)) := (hb1'.block _ (by have := HS0.out; omega)).trans HR0.out
  have hF1 : W1.heap[w.heap.size]? = some (.cells f.cs 42 (0, 0)) := (hb1'.block _ (by have := HS0.out; omega)).trans HF0.out
  have hs1 : w.heap.size + 2 ≤ W1.heap.size := Nat.le_trans HS0.out hb1'.size
  have hT1 := HT.out.small.below hb01
  have HB01 := Lib.hid hb01
  have HR1 := Lib.hid hR1
  have HF1 := Lib.hid hF1
  have HT1 := Lib.hid hT1
  clear hb01 hb1' hR1 hF1 hT1 HB0 HR0 HF0 HKN d0 d1 d2 d3 d4 d5
  rcases hor with ⟨hne, rfl, _⟩ | ⟨hok, yb, ym, rfl, hy, hby, hyb, hym, hybm⟩
  · have HFIN : Hid (G (.returned (.tuple #[.agg (outC none 0 0 false false 0), .int .i64 (chk f.v f.k f.i f.c)])) (W1.setRow (w.heap.size + 1) (outC none 0 0 false false 0))) := by
      rw [← HG.out]
      exact TPutR.no ((HT1.out.mono fun _ h => h.1).other HR1.out ⟨by decide, by decide, by decide, by decide⟩ ((Off.refl (fun p => p = w.heap.size + 1) W1).setRow rfl _)) (tset_new (TOff.of_below HB01.out) (by omega) _) (Tb.put_head hne)
    generalize chk f.v f.k f.i f.c = er at *
    clear HT1
    go_wp2_with (refine wpList_store_row rfl 54 (.tmp 4) (.tmp 23) rfl (w.heap.size + 1) (outC none 0 0 false false 0) rfl rfl 54 _ HR1.out outInfo rfl (out_one ..) ?_)
    refine bodyPost_ret (results_row_tmp (P := Tryz.prog) (fn := Tryz.f25) rfl _ _ (w.heap.size + 1) 54 (outC none 0 0 false false 0) _ (by rfl) (setRow_heap _ _ _ _ _ _ HR1.out) Tryz.underlying54 (by rfl) outInfo) rfl ?_
    exact HFIN.out
  · have hym2 : w.heap.size + 2 ≤ ym := Nat.le_trans HS0.out hym
    have hymlt := (SlotAt.map hy).lt
    have HY := Lib.hid hy
    have HOK := Lib.hid hok
    clear hy hok hby hyb hym hybm
    obtain ⟨d0, d1, d2, d3, d4, d5⟩ := fr_block (v := f.v) (k := f.k) (s := f.s) (i := f.i) (c := f.c) HF1.out
    by_cases hz : f.zs = []
    · have hl : (f.zs.length : Int) = 0 := by rw [hz]; rfl
      have HFIN : Hid (G (.returned (.tuple #[.agg (outC none 0 0 false false 0), .int .i64 (13)])) (W1.setRow (w.heap.size + 1) (outC none 0 0 false false 0))) := by
        rw [← HG.out]
        exact TPutR.no ((HT1.out.mono fun _ h => h.1).other HR1.out ⟨by decide, by decide, by decide, by decide⟩ ((Off.refl (fun p => p = w.heap.size + 1) W1).setRow rfl _)) (tset_new (TOff.of_below HB01.out) (by omega) _) (Tb.put_short HOK.out hz)
      clear HT1 hz
      generalize f.zs.length = q at *
      go_wp2_with (refine wpList_store_row rfl 54 (.tmp 4) (.tmp 30) rfl (w.heap.size + 1) (outC none 0 0 false false 0) rfl rfl 54 _ HR1.out outInfo rfl (out_one ..) ?_)
      refine bodyPost_ret (results_row_tmp (P := Tryz.prog) (fn := Tryz.f25) rfl _ _ (w.heap.size + 1) 54 (outC none 0 0 false false 0) _ (by rfl) (setRow_heap _ _ _ _ _ _ HR1.out) Tryz.underlying54 (by rfl) outInfo) rfl ?_
      exact HFIN.out
    · have hl : (1 : Int) ≤ (f.zs.length : Int) := by have := List.length_pos_iff.2 hz; omega
      obtain ⟨W2, hW2⟩ : ∃ W2, W1.alloc (.cells (outC none 0 0 false false 0) 54) = W2 := ⟨_, rfl⟩
      have hb2 : Below W1.heap.size W1 W2 := by rw [← hW2]; exact (Below.refl _ W1).alloc (Nat.le_refl _) _
      have hs2 : W1.heap.size < W2.heap.size := by rw [← hW2]; simp
      have hO2 : W2.heap[W1.heap.size]? = some (.cells (outC none 0 0 false false 0) 54 (0, 0)) := by rw [← hW2]; exact World.alloc_heap_new _ _
      have hT2 := HT1.out.below hb2
      have hlook : ∀ d, (Instr.lookup 94 (.map (some m)) (.int .u32 f.s) true).run Tryz.prog (W2.drewN d) = .ok (teVal (teAt (X.map Sx.key) f.s) true) (W2.drewN d) := fun d => (hT2.below (below_drewN (Below.refl _ _) d)).look true ⟨HF.out.s0, HF.out.s1⟩
      obtain ⟨c0, c1, c2⟩ := hT2.cells
      have hR2 := (hb2.block _ (by omega)).trans HR1.out
      have hF2 := (hb2.block _ (by omega)).trans HF1.out
      have hy2 := SlotAt.below HY.out hb2
      have hb02 := HB01.out.trans (hb2.mono (by omega))
      obtain ⟨e0, e1, e2, e3, e4, e5⟩ := fr_block (v := f.v) (k := f.k) (s := f.s) (i := f.i) (c := f.c) hF2
      have HT2 := Lib.hid hT2
      have HO2 := Lib.hid hO2
      have HR2 := Lib.hid hR2
      have HF2 := Lib.hid hF2
      have HY2 := Lib.hid hy2
      have HB02 := Lib.hid hb02
      have HZ := Lib.hid hz
      clear hT2 hO2 hR2 hF2 hy2 hb02 hb2 HT1 HR1 HF1 HY HB01 hz
      subst hW2
      simp only [outC] at hlook c0 c1 c2 e0 e1 e2 e3 e4 e5
      by_cases hin : ∃ x ∈ X, x.s = f.s
      · obtain ⟨x, hx, hxs⟩ := hin
        have hte := te_of HT.out hx
        rw [hxs] at hte
        rw [hte] at hlook
        simp only [teVal, if_true] at hlook
        go_wp2_with fail
        go_quiet ((fail))
        have hbd : Below (W1.alloc (.cells (outC none 0 0 false false 0) 54)).heap.size (W1.alloc (.cells (outC none 0 0 false false 0) 54)) ((W1.alloc (.cells #[.slice none 0 0, .bool false, .bool false, .int .u32 0] 54)).drewN nq) := below_drewN (Below.refl _ _) nq
        have hT3 : TblAt ((W1.alloc (.cells #[.slice none 0 0, .bool false, .bool false, .int .u32 0] 54)).drewN nq) (fun q => S q ∧ q < w.heap.size) b r m A n cp X := HT2.out.below hbd
        have hO3 : ((W1.alloc (.cells #[.slice none 0 0, .bool false, .bool false, .int .u32 0] 54)).drewN nq).heap[W1.heap.size]? = some (.cells (outC none 0 0 false false 0) 54 (0, 0)) := HO2.out
        have hR3 : ((W1.alloc (.cells #[.slice none 0 0, .bool false, .bool false, .int .u32 0] 54)).drewN nq).heap[w.heap.size + 1]? = some (.cells (outC none 0 0 false false 0) 54 (0, 0)) := HR2.out
        have hF3 : ((W1.alloc (.cells #[.slice none 0 0, .bool false, .bool false, .int .u32 0] 54)).drewN nq).heap[w.heap.size]? = some (.cells f.cs 42 (0, 0)) := HF2.out
        have hy3 : SlotAt ((W1.alloc (.cells #[.slice none 0 0, .bool false, .bool false, .int .u32 0] 54)).drewN nq) yb ym f.v f.k f.s f.c [] := SlotAt.below HY2.out hbd
        have hb03 : Below w.heap.size w ((W1.alloc (.cells #[.slice none 0 0, .bool false, .bool false, .int .u32 0] 54)).drewN nq) := below_drewN HB02.out nq
        have hs3 : W1.heap.size < ((W1.alloc (.cells #[.slice none 0 0, .bool false, .bool false, .int .u32 0] 54)).drewN nq).heap.size := hs2
        clear hbd hlook c0 c1 c2 d0 d1 d2 d3 d4 d5 e0 e1 e2 e3 e4 e5 HT2 HO2 HR2 HF2 HY2 HB02 hs2
        generalize ((W1.alloc (.cells #[.slice none 0 0, .bool false, .bool false, .int .u32 0] 54)).drewN nq) = W3 at hT3 hO3 hR3 hF3 hy3 hb03 hs3 ⊢
        obtain ⟨e0, e1, e2, e3, e4, e5⟩ := fr_block (v := f.v) (k := f.k) (s := f.s) (i := f.i) (c := f.c) hF3
        have hf3 : f.At W3 W3.heap.size := (HF.out.below hb03).mono hb03.size
        have hxm : ∀ x ∈ X, x.m < w.heap.size := fun x hx => (SlotAt.map (HT.out.slots x hx)).lt
        have hmlt : m < w.heap.size := HT.out.map.lt
        have hxmx := hxm x hx
        have KP := sput_any (hT3.slots x hx) f.v f.k f.s f.i f.c f.a f.zs.length f.cp f.zs rfl hf3.byte hf3.nums
        have hfind : Tb.find (X.map Sx.ms) f.s = some x.ms := by rw [← hxs]; exact HT.out.find hx
        obtain ⟨er, hEr⟩ : ∃ er, x.ms.err f = er := ⟨_, rfl⟩
        have hEr' : sErr x.v x.k x.s x.c f.v f.k f.s f.i f.c (x.E.map Pl.ct) f.zs = er := hEr
        rw [hEr'] at KP
        unfold frV frC at KP
        have HKP := Lib.hid KP
        have HT3 := Lib.hid hT3
        have HO3 := Lib.hid hO3
        have HR3 := Lib.hid hR3
        have HF3 := Lib.hid hF3
        have HB03 := Lib.hid hb03
        have HX := Lib.hid hx
        have HXS := Lib.hid hxs
        have HFIND := Lib.hid hfind
        have HER := Lib.hid hEr
        have hs3' : w.heap.size + 2 < W3.heap.size := by omega
        clear KP hT3 hO3 hR3 hF3 hb03 hx hxs hfind hEr hEr' hy3 hf3 hte hxm
        by_cases er0 : er = 0
        · subst er0
          go_wp2_with fail
          refine HKP.out.mono ?_
          rintro e W4 ⟨rfl, ho4, hor4⟩
          obtain ⟨_, p, hpi, hpz, hsl4⟩ := hor4.resolve_left fun h => h.1 rfl
          obtain ⟨x', hx'⟩ : ∃ x' : Sx, x' = ⟨x.b, x.m, x.v, x.k, x.s, x.c, x.E ++ [p]⟩ := ⟨_, rfl⟩
          have hat' : x'.At W4 := by rw [hx']; exact hsl4
          have hxs' : x'.s = x.s := by rw [hx']
          have hms : x'.ms = x.ms.push f := by rw [hx']; simp [Sx.ms, Tb.Ms.push, Pl.ct, Fr.ct, hpi, hpz]
          obtain ⟨hto4, hT4⟩ := HT3.out.put1 HX.out (x' := x') (by rw [hx']; exact ⟨rfl, rfl, rfl⟩) hat' ho4
          have hx4 : x' ∈ X.map fun y => if y.s = x.s then x' else y := List.mem_map.2 ⟨x, HX.out, if_pos rfl⟩
          have hmx := ms_put1 HT.out.keys.1 HX.out HXS.out hms
          have hR4 := (ho4.block (w.heap.size + 1) (by omega) (by omega)).trans HR3.out
          have hO4 := (ho4.block W1.heap.size hs3 (by omega)).trans HO3.out
          have hF4 := (ho4.block w.heap.size (by omega) (by omega)).trans HF3.out
          obtain ⟨X4, hX4⟩ : ∃ X4, (X.map fun y => if y.s = x.s then x' else y) = X4 := ⟨_, rfl⟩
          rw [hX4] at hT4 hx4 hmx
          have KC := tcame_any hT4 hx4 false 0
          rw [hxs', HXS.out] at KC
          have hput : Tb.put r (X.map Sx.ms) f = .ok (Tb.came (X4.map Sx.ms) x'.s false 0) := by
            rw [Tb.put_there HOK.out HZ.out HFIND.out, if_neg (by rw [HER.out]; simp), hmx, hxs', HXS.out]
          have h04 : TOff S w W4 := (TOff.of_below HB03.out).trans hto4 fun q _ h => h.1
          have hend := fun (e : Ending) (W9 : World) hc => tput_end (w := w) (S := S) (e := e) (W5 := W9) hput hT4 hx4 h04 (fun q h => .inl h.1) hR4 (by omega) (fun h => by have := h.2; omega) hc
          obtain ⟨g0, g1, g2, g3, g4, g5⟩ := fr_block (v := f.v) (k := f.k) (s := f.s) (i := f.i) (c := f.c) hF4
          have HKC := Lib.hid KC
          have HEND := Lib.hid hend
          have HO4 := Lib.hid hO4
          clear KC hend hO4 hF4 hR4 hput h04 hT4 hto4 hx4 hmx hms hat' hsl4 hor4 ho4 e0 e1 e2 e3 e4 e5
          clear hX4
          unfold outV at HKC
          go_wp2_with (refine wpList_load_row rfl 54 (.tmp 8) rfl W1.heap.size rfl 54 (outC none 0 0 false false 0) (0, 0) _ HO4.out Tryz.underlying54 rfl outInfo ?_)
          refine HKC.out.mono ?_
          rintro e W9 hcame
          obtain ⟨A2, q, cp2, wh, rfl, hR9, hfin⟩ := HEND.out _ _ hcame
          rw [HG.out] at hfin
          have HFIN := Lib.hid hfin
          have HR9 := Lib.hid hR9
          clear hcame hR9 hfin HKC HEND
          go_wp2_with (refine wpList_store_row rfl 54 (.tmp 4) (.tmp 72) rfl (w.heap.size + 1) (outC A2 q cp2 wh false 0) rfl rfl 54 _ HR9.out outInfo rfl (out_one ..) ?_)
          refine bodyPost_ret (results_row_tmp (P := Tryz.prog) (fn := Tryz.f25) rfl _ _ (w.heap.size + 1) 54 (outC A2 q cp2 wh false 0) _ (by rfl) (setRow_heap _ _ _ _ _ _ HR9.out) Tryz.underlying54 (by rfl) outInfo) rfl ?_
          exact HFIN.out
        · go_wp2_with fail
          refine HKP.out.mono ?_
          rintro e W4 ⟨rfl, ho4, hor4⟩
          obtain ⟨hto4, hT4⟩ := HT3.out.kept1 HX.out (hor4.resolve_right fun h => er0 h.1).2 ho4
          have HR4 := Lib.hid ((ho4.block (w.heap.size + 1) (by omega) (by omega)).trans HR3.out)
          have HFIN : Hid (G (.returned (.tuple #[.agg (outC none 0 0 false false 0), .int .i64 (er)])) (W4.setRow (w.heap.size + 1) (outC none 0 0 false false 0))) := by
            rw [← HG.out]
            exact TPutR.no ((hT4.mono fun _ h => h.1).other HR4.out ⟨by decide, by decide, by decide, by decide⟩ ((Off.refl (fun p => p = w.heap.size + 1) W4).setRow rfl _)) (tset_new ((TOff.of_below HB03.out).trans hto4 fun q _ h => h.1) (by omega) _) (by rw [Tb.put_there HOK.out HZ.out HFIND.out, if_pos (by rw [HER.out]; exact er0), HER.out])
          clear hto4 hT4 ho4 hor4 HT3 HKP e0 e1 e2 e3 e4 e5
          go_wp2_with (refine wpList_store_row rfl 54 (.tmp 4) (.tmp 65) rfl (w.heap.size + 1) (outC none 0 0 false false 0) rfl rfl 54 _ HR4.out outInfo rfl (out_one ..) ?_)
          refine bodyPost_ret (results_row_tmp (P := Tryz.prog) (fn := Tryz.f25) rfl _ _ (w.heap.size + 1) 54 (outC none 0 0 false false 0) _ (by rfl) (setRow_heap _ _ _ _ _ _ HR4.out) Tryz.underlying54 (by rfl) outInfo) rfl ?_
          exact HFIN.out
      · have hno : ∀ x ∈ X, x.s ≠ f.s := fun x hx e => hin ⟨x, hx, e⟩
        rw [te_none hno] at hlook
        simp only [teVal, if_true] at hlook
        clear hin
        go_wp2_with fail
        go_quiet ((fail))
        have hbd : Below (W1.alloc (.cells (outC none 0 0 false false 0) 54)).heap.size (W1.alloc (.cells (outC none 0 0 false false 0) 54)) ((W1.alloc (.cells #[.slice none 0 0, .bool false, .bool false, .int .u32 0] 54)).drewN nq) := below_drewN (Below.refl _ _) nq
        have hT3 : TblAt ((W1.alloc (.cells #[.slice none 0 0, .bool false, .bool false, .int .u32 0] 54)).drewN nq) (fun q => S q ∧ q < w.heap.size) b r m A n cp X := HT2.out.below hbd
        have hO3 : ((W1.alloc (.cells #[.slice none 0 0, .bool false, .bool false, .int .u32 0] 54)).drewN nq).heap[W1.heap.size]? = some (.cells (outC none 0 0 false false 0) 54 (0, 0)) := HO2.out
        have hR3 : ((W1.alloc (.cells #[.slice none 0 0, .bool false, .bool false, .int .u32 0] 54)).drewN nq).heap[w.heap.size + 1]? = some (.cells (outC none 0 0 false false 0) 54 (0, 0)) := HR2.out
        have hF3 : ((W1.alloc (.cells #[.slice none 0 0, .bool false, .bool false, .int .u32 0] 54)).drewN nq).heap[w.heap.size]? = some (.cells f.cs 42 (0, 0)) := HF2.out
        have hy3 : SlotAt ((W1.alloc (.cells #[.slice none 0 0, .bool false, .bool false, .int .u32 0] 54)).drewN nq) yb ym f.v f.k f.s f.c [] := SlotAt.below HY2.out hbd
        have hb03 : Below w.heap.size w ((W1.alloc (.cells #[.slice none 0 0, .bool false, .bool false, .int .u32 0] 54)).drewN nq) := below_drewN HB02.out nq
        have hs3 : W1.heap.size < ((W1.alloc (.cells #[.slice none 0 0, .bool false, .bool false, .int .u32 0] 54)).drewN nq).heap.size := hs2
        clear hbd hlook c0 c1 c2 d0 d1 d2 d3 d4 d5 e0 e1 e2 e3 e4 e5 HT2 HO2 HR2 HF2 HY2 HB02 hs2
        generalize ((W1.alloc (.cells #[.slice none 0 0, .bool false, .bool false, .int .u32 0] 54)).drewN nq) = W3 at hT3 hO3 hR3 hF3 hy3 hb03 hs3 ⊢
        obtain ⟨e0, e1, e2, e3, e4, e5⟩ := fr_block (v := f.v) (k := f.k) (s := f.s) (i := f.i) (c := f.c) hF3
        have hf3 : f.At W3 W3.heap.size := (HF.out.below hb03).mono hb03.size
        have hxm : ∀ x ∈ X, x.m < w.heap.size := fun x hx => (SlotAt.map (HT.out.slots x hx)).lt
        have hmlt : m < w.heap.size := HT.out.map.lt
        have KP := sput_any hy3 f.v f.k f.s f.i f.c f.a f.zs.length f.cp f.zs rfl hf3.byte hf3.nums
        have hfind : Tb.find (X.map Sx.ms) f.s = none := find_none_ms.2 hno
        obtain ⟨er, hEr⟩ : ∃ er, (Tb.Ms.new f).err f = er := ⟨_, rfl⟩
        have hEr' : sErr f.v f.k f.s f.c f.v f.k f.s f.i f.c (([] : List Pl).map Pl.ct) f.zs = er := hEr
        rw [hEr'] at KP
        unfold frV frC at KP
        have HKP := Lib.hid KP
        have HT3 := Lib.hid hT3
        have HO3 := Lib.hid hO3
        have HR3 := Lib.hid hR3
        have HF3 := Lib.hid hF3
        have HB03 := Lib.hid hb03
        have HY3 := Lib.hid hy3
        have HNO := Lib.hid hno
        have HXM := Lib.hid hxm
        have HFIND := Lib.hid hfind
        have HER := Lib.hid hEr
        have hs3' : w.heap.size + 2 < W3.heap.size := by omega
        clear KP hT3 hO3 hR3 hF3 hb03 hno hfind hEr hEr' hy3 hf3 hxm
        by_cases er0 : er = 0
        · subst er0
          go_wp2_with fail
          refine HKP.out.mono ?_
          rintro e W4 ⟨rfl, ho4, hor4⟩
          obtain ⟨_, p, hpi, hpz, hsl4⟩ := hor4.resolve_left fun h => h.1 rfl
          obtain ⟨y, hy'⟩ : ∃ y : Sx, y = ⟨yb, ym, f.v, f.k, f.s, f.c, [] ++ [p]⟩ := ⟨_, rfl⟩
          have hat' : y.At W4 := by rw [hy']; exact hsl4
          have hys : y.s = f.s := by rw [hy']
          have hyb : y.b = yb := by rw [hy']
          have hymy : y.m = ym := by rw [hy']
          have hms : y.ms = (Tb.Ms.new f).push f := by rw [hy']; simp [Sx.ms, Tb.Ms.push, Tb.Ms.new, Pl.ct, Fr.ct, hpi, hpz]
          have hT4 := (HT3.out.strange (q := ym) (fun cs t x => (SlotAt.map HY3.out).not_cells cs t x) (by omega) (fun x hx => by have := HXM.out x hx; omega) ho4)
          have hT4' := hT4.mono (S' := fun q => (S q ∧ q < w.heap.size) ∨ q = ym) fun _ h => .inl h
          have h04 : TOff S w W4 := Off.trans (Off.of_below HB03.out) ho4 fun j hj e => by omega
          have KA := tadd_any hT4' hat' (fun x hx => by rw [hys]; exact HNO.out x hx) (.inr hymy) (by rw [hymy]; omega) (fun x hx => by have := HXM.out x hx; omega)
          rw [hys, hyb] at KA
          have hR4 := (ho4.block (w.heap.size + 1) (by omega) (by omega)).trans HR3.out
          have hO4 := (ho4.block W1.heap.size hs3 (by omega)).trans HO3.out
          have hF4 := (ho4.block w.heap.size (by omega) (by omega)).trans HF3.out
          have hs4 := ho4.size
          obtain ⟨g0, g1, g2, g3, g4, g5⟩ := fr_block (v := f.v) (k := f.k) (s := f.s) (i := f.i) (c := f.c) hF4
          have HKA := Lib.hid KA
          have HT4 := Lib.hid hT4
          have H04 := Lib.hid h04
          have HR4 := Lib.hid hR4
          have HO4 := Lib.hid hO4
          have HF4 := Lib.hid hF4
          have HMS := Lib.hid hms
          have HYS := Lib.hid hys
          clear KA hT4 hT4' h04 hR4 hO4 hF4 hms hys hyb hsl4 hor4 ho4 hat' HKP HT3 e0 e1 e2 e3 e4 e5
          go_wp2_with fail
          refine HKA.out.mono ?_
          rintro e W5 (⟨hlr, haf, rfl, hb5⟩ | ⟨X5, ev, old, hcase, rfl, hto5, A5, cp5, hT5⟩)
          · have hR5 := (hb5.block (w.heap.size + 1) (by omega)).trans HR4.out
            have hO5 := (hb5.block W1.heap.size (by omega)).trans HO4.out
            obtain ⟨W6, hW6⟩ : ∃ W6, W5.setRow W1.heap.size (outC none 0 0 false false 0) = W6 := ⟨_, rfl⟩
            have hof6 : Off (fun p => p = W1.heap.size) W5 W6 := by rw [← hW6]; exact (Off.refl (fun p => p = W1.heap.size) W5).setRow rfl _
            have hT6 := (HT4.out.below hb5).other hO5 ⟨by decide, by decide, by decide, by decide⟩ hof6
            have h06 : TOff S w W6 := by rw [← hW6]; exact tset_new (TOff.trans (S' := S) H04.out (TOff.of_below hb5) fun _ _ h => h) (by omega) _
            have HO5 := Lib.hid hO5
            have HR6 := Lib.hid ((hof6.block _ (Array.getElem?_eq_some_iff.1 hR5).1 (by omega)).trans hR5)
            have hput : Tb.put r (X.map Sx.ms) f = ⟨18, X.map Sx.ms, .no⟩ := by
              rw [Tb.put_new HOK.out HZ.out HFIND.out, if_neg (by rw [HER.out]; simp), if_pos (by rw [List.length_map]; exact hlr)]
              unfold Tb.old
              rw [nums_ms, ← HYS.out, haf]
              rfl
            have HFIN : Hid (G (.returned (.tuple #[.agg (outC none 0 0 false false 0), .int .i64 (18)])) (W6.setRow (w.heap.size + 1) (outC none 0 0 false false 0))) := by
              rw [← HG.out]
              exact TPutR.no ((hT6.mono fun _ h => h.1).other HR6.out ⟨by decide, by decide, by decide, by decide⟩ ((Off.refl (fun p => p = w.heap.size + 1) W6).setRow rfl _)) (tset_new (h06) (by omega) _) (hput)
            clear hput h06 hT6 hof6 hR5 hO5 hb5 haf hlr HKA
            subst hW6
            unfold outV
            go_wp2_with (first | (refine wpList_store_row rfl 54 (.tmp 8) (.tmp 61) rfl W1.heap.size (outC none 0 0 false false 0) rfl rfl 54 _ HO5.out outInfo rfl (out_one ..) ?_) | (refine wpList_store_row rfl 54 (.tmp 4) (.tmp 65) rfl (w.heap.size + 1) (outC none 0 0 false false 0) rfl rfl 54 _ HR6.out outInfo rfl (out_one ..) ?_))
            refine bodyPost_ret (results_row_tmp (P := Tryz.prog) (fn := Tryz.f25) rfl _ _ (w.heap.size + 1) 54 (outC none 0 0 false false 0) _ (by rfl) (setRow_heap _ _ _ _ _ _ HR6.out) Tryz.underlying54 (by rfl) outInfo) rfl ?_
            exact HFIN.out
          · have hR5 := (TOff.keep hto5 (q := w.heap.size + 1) (by omega) (fun h => by rcases h with h | h <;> omega)).trans HR4.out
            have hO5 := (TOff.keep hto5 (q := W1.heap.size) (by omega) (fun h => by rcases h with h | h <;> omega)).trans HO4.out
            have hF5 := (TOff.keep hto5 (q := w.heap.size) (by omega) (fun h => by rcases h with h | h <;> omega)).trans HF4.out
            have hs5 := TOff.size hto5
            obtain ⟨W6, hW6⟩ : ∃ W6, W5.setRow W1.heap.size (outC none 0 0 false ev old) = W6 := ⟨_, rfl⟩
            have hof6 : Off (fun p => p = W1.heap.size) W5 W6 := by rw [← hW6]; exact (Off.refl (fun p => p = W1.heap.size) W5).setRow rfl _
            have hT6 := hT5.other hO5 ⟨by decide, by decide, by decide, by decide⟩ hof6
            have h05 : TOff S w W5 := TOff.trans H04.out hto5 fun q hq h => by
              rcases h with h | h
              · exact h.1
              · omega
            have h06 : TOff S w W6 := by rw [← hW6]; exact tset_new h05 (by omega) _
            have hR6 := (hof6.block _ (Array.getElem?_eq_some_iff.1 hR5).1 (by omega)).trans hR5
            have hF6 := (hof6.block _ (Array.getElem?_eq_some_iff.1 hF5).1 (by omega)).trans hF5
            have hO6 : W6.heap[W1.heap.size]? = some (.cells (outC none 0 0 false ev old) 54 (0, 0)) := by rw [← hW6]; exact setRow_heap _ _ _ _ _ _ hO5
            have hyX : y ∈ X5 := by
              rcases hcase with ⟨_, _, _, h⟩ | ⟨_, _, _, _, h⟩ <;> rw [h] <;> simp
            have hput : Tb.put r (X.map Sx.ms) f = .ok (Tb.came (X5.map Sx.ms) y.s ev old) := by
              rw [Tb.put_new HOK.out HZ.out HFIND.out, if_neg (by rw [HER.out]; simp), List.length_map]
              rcases hcase with ⟨h1, h2, h3, h4⟩ | ⟨h1, h2, h3, h4, h5⟩
              · rw [if_neg h1, h2, h3, h4, List.map_append, List.map_singleton, HMS.out, HYS.out]
              · have hold : Tb.old (X.map Sx.ms) = old := by unfold Tb.old; rw [nums_ms, h4]
                rw [if_pos h1, hold, ← HYS.out]
                rw [← h4] at h2 h5
                rw [if_pos h2, h3, h5, List.map_append, List.map_singleton, HMS.out, filter_ms]
            have KC := tcame_any hT6 hyX ev old
            rw [HYS.out] at KC
            have hend := fun (e : Ending) (W9 : World) hc => tput_end (w := w) (S := S) (e := e) (W5 := W9) hput hT6 hyX h06 (fun q h => by
              rcases h with (h | h) | h
              · exact .inl h.1
              · exact .inr (by omega)
              · exact .inr (by omega)) hR6 (by omega) (fun h => by rcases h with (h | h) | h <;> omega) hc
            obtain ⟨k0, k1, k2, k3, k4, k5⟩ := fr_block (v := f.v) (k := f.k) (s := f.s) (i := f.i) (c := f.c) hF6
            have HKC := Lib.hid KC
            have HEND := Lib.hid hend
            have HO5 := Lib.hid hO5
            have HO6 := Lib.hid hO6
            clear KC hend hO5 hO6 hF5 hF6 hR5 hR6 hput h05 h06 hT5 hT6 hof6 hto5 hyX hcase HKA g0 g1 g2 g3 g4 g5
            subst hW6
            unfold outV at HKC ⊢
            go_wp2_with (first | (refine wpList_store_row rfl 54 (.tmp 8) (.tmp 61) rfl W1.heap.size (outC none 0 0 false ev old) rfl rfl 54 _ HO5.out outInfo rfl (out_one ..) ?_) | (refine wpList_load_row rfl 54 (.tmp 8) rfl W1.heap.size rfl 54 (outC none 0 0 false ev old) (0, 0) _ HO6.out Tryz.underlying54 rfl outInfo ?_))
            refine HKC.out.mono ?_
            rintro e W9 hcame
            obtain ⟨A2, q, cp2, wh, rfl, hR9, hfin⟩ := HEND.out _ _ hcame
            rw [HG.out] at hfin
            have HFIN := Lib.hid hfin
            have HR9 := Lib.hid hR9
            clear hcame hR9 hfin HKC HEND
            go_wp2_with (refine wpList_store_row rfl 54 (.tmp 4) (.tmp 72) rfl (w.heap.size + 1) (outC A2 q cp2 wh ev old) rfl rfl 54 _ HR9.out outInfo rfl (out_one ..) ?_)
            refine bodyPost_ret (results_row_tmp (P := Tryz.prog) (fn := Tryz.f25) rfl _ _ (w.heap.size + 1) 54 (outC A2 q cp2 wh ev old) _ (by rfl) (setRow_heap _ _ _ _ _ _ HR9.out) Tryz.underlying54 (by rfl) outInfo) rfl ?_
            exact HFIN.out
        · go_wp2_with fail
          refine HKP.out.mono ?_
          rintro e W4 ⟨rfl, ho4, hor4⟩
          have hT4 := (HT3.out.strange (q := ym) (fun cs t x => (SlotAt.map HY3.out).not_cells cs t x) (by omega) (fun x hx => by have := HXM.out x hx; omega) ho4)
          have h04 : TOff S w W4 := Off.trans (Off.of_below HB03.out) ho4 fun j hj e => by omega
          have HR4 := Lib.hid ((ho4.block (w.heap.size + 1) (by omega) (by omega)).trans HR3.out)
          have hs4 := ho4.size
          have HFIN : Hid (G (.returned (.tuple #[.agg (outC none 0 0 false false 0), .int .i64 (er)])) (W4.setRow (w.heap.size + 1) (outC none 0 0 false false 0))) := by
            rw [← HG.out]
            exact TPutR.no ((hT4.mono fun _ h => h.1).other HR4.out ⟨by decide, by decide, by decide, by decide⟩ ((Off.refl (fun p => p = w.heap.size + 1) W4).setRow rfl _)) (tset_new (h04) (by omega) _) (by rw [Tb.put_new HOK.out HZ.out HFIND.out, if_pos (by rw [HER.out]; exact er0), HER.out])
          clear h04 hT4 ho4 hor4 HT3 HKP e0 e1 e2 e3 e4 e5
          go_wp2_with (refine wpList_store_row rfl 54 (.tmp 4) (.tmp 65) rfl (w.heap.size + 1) (outC none 0 0 false false 0) rfl rfl 54 _ HR4.out outInfo rfl (out_one ..) ?_)
          refine bodyPost_ret (results_row_tmp (P := Tryz.prog) (fn := Tryz.f25) rfl _ _ (w.heap.size + 1) 54 (outC none 0 0 false false 0) _ (by rfl) (setRow_heap _ _ _ _ _ _ HR4.out) Tryz.underlying54 (by rfl) outInfo) rfl ?_
          exact HFIN.out
end
end Go.Proofs.YtfdbcfkjablnkaaGreat

namespace Go.Proofs.YtfdbcfkjablnkaaGreat
open Go.RowKit Go.Shelf
set_option maxRecDepth 100000

section
variable {w w' : World} {S : Nat → Prop} {b r : Nat} {T : List Tb.Ms} {f : Fr} {e : Ending}
theorem TPutR.of {R : Tb.Res} (h : TPutR w S b r T f e w') (hp : Tb.put r T f = R) : ∃ A2 c2, e = .returned (.tuple #[outV A2 R.o.zs.length c2 R.o.wh R.o.ev R.o.old, .int .i64 R.e]) ∧ R.o.zs.length ≤ c2 ∧ NumsS .u8 w' (fun g => w.heap.size ≤ g ∧ g < w'.heap.size) A2 R.o.zs ∧ TOff S w w' ∧ TblOf w' (fun q => S q ∨ w.heap.size ≤ q) b r R.T := by
  subst hp
  exact h
theorem TPutR.nothing {er : Int} {T' : List Tb.Ms} {ev : Bool} {old : Int} (h : TPutR w S b r T f e w') (hp : Tb.put r T f = ⟨er, T', ⟨[], false, ev, old⟩⟩) : ∃ A2 c2, e = .returned (.tuple #[outV A2 0 c2 false ev old, .int .i64 er]) ∧ TOff S w w' ∧ TblOf w' (fun q => (S q ∨ w.heap.size ≤ q) ∧ q < w'.heap.size) b r T' := by
  obtain ⟨A2, c2, h1, _, _, h2, m, A, n, cp, X, h3, h4⟩ := h.of hp
  exact ⟨A2, c2, h1, h2, m, A, n, cp, X, h3.small, h4⟩
theorem TblOf.small (h : TblOf w S b r T) : TblOf w (fun q => S q ∧ q < w.heap.size) b r T := by
  obtain ⟨m, A, n, cp, X, h1, h2⟩ := h
  exact ⟨m, A, n, cp, X, h1.small, h2⟩
theorem TblOf.below (h : TblOf w S b r T) (hb : Below w.heap.size w w') : TblOf w' S b r T := by
  obtain ⟨m, A, n, cp, X, h1, h2⟩ := h
  exact ⟨m, A, n, cp, X, h1.below hb, h2⟩
theorem TblOf.mono {S' : Nat → Prop} (h : TblOf w S b r T) (hS : ∀ q, S q → S' q) : TblOf w S' b r T := by
  obtain ⟨m, A, n, cp, X, h1, h2⟩ := h
  exact ⟨m, A, n, cp, X, h1.mono hS, h2⟩
theorem tput_of (h : TblOf w S b r T) (f : Fr) (hf : f.At w w.heap.size) :
    Calls Tryz.prog 25 #[.pointer (some ⟨b, 0, none⟩), frV f.v f.k f.s f.i f.c (.slice f.a f.zs.length f.cp)] w (TPutR w S b r T f) := by
  obtain ⟨m, A, n, cp, X, h1, rfl⟩ := h
  exact tput_any h1 f hf
end
/-- the two frames of the example -/
def knF (p : Nat) (s : Int) : Fr := ⟨1, 1, s, 0, 2, some ⟨p, 0, none⟩, 1, [1]⟩
theorem row_stays {w w' : World} {q : Nat} {o : Obj} (h : w.heap[q]? = some o) (hb : Below w.heap.size w w') : w'.heap[q]? = some o := (hb.block q (Array.getElem?_eq_some_iff.1 h).1).trans h
/-- the example's memory: a payload, and the frames' boxes behind it -/
structure KnAt (p : Nat) (V : World) : Prop where
  pay : V.heap[p]? = some (.cells #[.int .u8 1] 5 (0, 0))
  f : V.heap[p + 1]? = some (.cells (knF p 5).cs 42 (0, 0))
  g : V.heap[p + 1 + 1]? = some (.cells (knF p 6).cs 42 (0, 0))
section
variable {p : Nat} {V V' : World}
theorem KnAt.lt (h : KnAt p V) : p + 2 < V.heap.size := (Array.getElem?_eq_some_iff.1 h.g).1
theorem KnAt.toff {S : Nat → Prop} (h : KnAt p V) (ho : TOff S V V') (hS : ∀ q, p ≤ q → q ≤ p + 2 → ¬ S q) : KnAt p V' := by
  have := h.lt
  exact ⟨(TOff.keep ho (by omega) (hS _ (by omega) (by omega))).trans h.pay, (TOff.keep ho (by omega) (hS _ (by omega) (by omega))).trans h.f, (TOff.keep ho (by omega) (hS _ (by omega) (by omega))).trans h.g⟩
theorem KnAt.below (h : KnAt p V) (hb : Below V.heap.size V V') : KnAt p V' := ⟨row_stays h.pay hb, row_stays h.f hb, row_stays h.g hb⟩
theorem KnAt.at (h : KnAt p V) (s : Int) (hs : 0 ≤ s ∧ s ≤ 4294967295) : (knF p s).At V V.heap.size :=
  ⟨hs.1, hs.2, Nat.le_refl _, by simp [knF], fun z hz => by simp [knF] at hz; omega, fun _ => ⟨p, 0, rfl, by have := h.lt; omega, fun j c hj => by
    cases j with
    | zero => simp [knF] at hj; subst hj; simp [World.cell?, h.pay]
    | succ j => simp [knF] at hj⟩⟩
end
end Go.Proofs.YtfdbcfkjablnkaaGreat

namespace Go.Proofs.YtfdbcfkjablnkaaGreat
open Go.RowKit
set_option maxRecDepth 100000

/-- the blocks that a table owns -/
def Own (b m : Nat) (A : Option Addr) (n cp : Nat) (X : List Sx) (q : Nat) : Prop := q = b ∨ q = m ∨ (Value.slice A n cp).ownBlock = some q ∨ ∃ x ∈ X, q = x.m
/-- blocks with cells are a table's box or a row of numbers -/
def Tys (w : World) (S : Nat → Prop) : Prop := ∀ g cs t fz, w.heap[g]? = some (.cells cs t fz) → S g → fz = (0, 0) → t = 97 ∨ t = 22
section
variable {w w' : World} {S : Nat → Prop} {b r m n cp : Nat} {A : Option Addr} {X : List Sx}
theorem TblAt.exact (h : TblAt w S b r m A n cp X) : TblAt w (Own b m A n cp X) b r m A n cp X :=
  ⟨h.row, h.len, h.ord, h.map, h.slots, h.maps, h.room, h.few, .inl rfl, .inr (.inl rfl), fun _ hg => .inr (.inr (.inl hg)), fun x hx => .inr (.inr (.inr ⟨x, hx, rfl⟩))⟩
theorem TblAt.own_sub (h : TblAt w S b r m A n cp X) : ∀ q, Own b m A n cp X q → S q := by
  rintro q (rfl | rfl | hq | ⟨x, hx, rfl⟩)
  · exact h.inS.1
  · exact h.inS.2.1
  · exact h.inS.2.2.1 q hq
  · exact h.inS.2.2.2 x hx
theorem TblAt.own_lt (h : TblAt w S b r m A n cp X) : ∀ q, Own b m A n cp X q → q < w.heap.size := by
  rintro q (rfl | rfl | hq | ⟨x, hx, rfl⟩)
  · exact h.lt
  · exact h.map.lt
  · exact (h.ord.lt q hq).2
  · exact (SlotAt.map (h.slots x hx)).lt
theorem TblAt.tys (h : TblAt w S b r m A n cp X) : Tys w (Own b m A n cp X) := by
  rintro g cs t fz hg (rfl | rfl | hq | ⟨x, hx, rfl⟩) rfl
  · have := hg.symm.trans h.row
    injection this with this
    injection this with _ this _
    exact .inl this
  · exact absurd hg (h.map.not_cells _ _ _)
  · obtain ⟨cs', h1⟩ := tord_row h.ord hq
    have := hg.symm.trans h1
    injection this with this
    injection this with _ this _
    exact .inr this
  · exact absurd hg ((SlotAt.map (h.slots x hx)).not_cells _ _ _)
theorem Tys.not {q : Nat} {cs : Array Value} {t : TypeId} (h : Tys w S) (hq : w.heap[q]? = some (.cells cs t (0, 0))) (h1 : t ≠ 97) (h2 : t ≠ 22) : ¬ S q := fun hs => (h q cs t _ hq hs rfl).elim h1 h2
theorem TblOf.exact {T : List Tb.Ms} (h : TblOf w S b r T) : ∃ m A n cp X, TblAt w (Own b m A n cp X) b r m A n cp X ∧ X.map Sx.ms = T ∧ ∀ q, Own b m A n cp X q → S q := by
  obtain ⟨m, A, n, cp, X, h, e⟩ := h
  exact ⟨m, A, n, cp, X, h.exact, e, h.own_sub⟩
end
theorem tys_below {w w' : World} {S : Nat → Prop} (h : Tys w S) (hb : Below w.heap.size w w') (hl : ∀ q, S q → q < w.heap.size) : Tys w' S := fun g cs t fz hg hq hf => h g cs t fz ((hb.block g (hl g hq)).symm.trans hg) hq hf
end Go.Proofs.YtfdbcfkjablnkaaGreat

namespace Go.Proofs.YtfdbcfkjablnkaaGreat
open Go.RowKit Go.Shelf
set_option maxRecDepth 100000
attribute [local go_sem] Oper.semAt_some

/-- how many bytes slots have -/
def tots (X : List Sx) : Nat := (X.map fun x => Sl.tot (x.E.map Pl.ct)).sum
theorem tots_held (X : List Sx) : tots X = Tb.held (X.map Sx.ms) := by
  unfold tots Tb.held
  rw [List.map_map]
  rfl
theorem tots_next {X : List Sx} {j : Nat} {x : Sx} (hx : X[j]? = some x) : tots (X.take (j + 1)) = tots (X.take j) + Sl.tot (x.E.map Pl.ct) := by
  unfold tots
  rw [List.take_add_one, hx, List.map_append, List.sum_append]
  simp
theorem tots_le {w : World} : ∀ {X : List Sx}, (∀ x ∈ X, x.At w) → tots X ≤ 192 * X.length
  | [], _ => by simp [tots]
  | x :: r, h => by
    have h1 := tots_le (X := r) fun y hy => h y (List.mem_cons_of_mem _ hy)
    have h2 := SlotAt.most (h x (List.mem_cons_self ..))
    unfold tots at *
    simp only [List.map_cons, List.sum_cons, List.length_cons]
    omega
structure HeS (w : World) (v : Option Addr) (X : List Sx) (j : Nat) (V : World) : Prop where
  num : Boxed V w.heap.size 3 (.int .i64 (tots (X.take j) : Int))
  box : Boxed V (w.heap.size + 1) 66 (.pointer v)
  below : Below w.heap.size w V
theorem HeS.put {w V : World} {v : Option Addr} {X : List Sx} {j : Nat} (h : HeS w v X j V) {l : Nat} {o : Obj} (hl : w.heap.size + 2 ≤ l) (_ho : V.heap[l]? = some o) (_hc : o.isCells = false) (o' : Obj) : HeS w v X j (V.putObj l o') :=
  ⟨(World.putObj_heap_other (by omega)).trans h.num, (World.putObj_heap_other (by omega)).trans h.box, h.below.trans (below_put V o' (by omega))⟩
set_option maxHeartbeats 4000000 in
theorem theld_go (v : Option Addr) (X : List Sx) (hl : X.length ≤ 16) (w : World) (hsl : ∀ x ∈ X, x.At w)
    (hI : ∀ (l Bs : Nat) (J : Nat → World → Prop) (Jx : World → Prop), (∀ j W, J j W → W.cell? ⟨Bs, 0, none⟩ = some (.pointer v) ∧ Below w.heap.size w W) →
      (∀ (j : Nat) (x : Sx) (W : World), J j W → X[j]? = some x → YieldAt Fence.wide 1 Tryz.prog l #[.int .u32 x.s, .pointer (some ⟨x.b, 0, none⟩)] W fun e W' => (e = .returned (.bool true) ∧ J (j + 1) W') ∨ (e = .returned (.bool false) ∧ Jx W')) →
      ∀ W, J 0 W → CallsIn Fence.wide 2 Tryz.prog 104 #[.func (.yield l) #[] #[], .pointer (some ⟨Bs, 0, none⟩)] W fun e W' => (∃ v, e = .returned v) ∧ (J X.length W' ∨ Jx W')) :
    Calls Tryz.prog 65 #[.pointer v] w fun e w' => e = .returned (.int .i64 (tots X : Int)) ∧ Below w.heap.size w w' := by
  have HI := Lib.hid hI
  clear hI
  have htl := tots_le hsl
  refine (callsIn_wide (n := 3)).1 ?_
  refine callsIn_of_wp_marks Tryz.func65 rfl trivial ?_ rfl
  simp only [Tryz.ntmps65, List.size_toArray, List.length_cons, List.length_nil, Nat.reduceAdd, Nat.reduceSub, Array.replicate_succ, Array.replicate_zero, List.push_toArray, List.append_toArray, List.nil_append, List.cons_append]
  obtain ⟨w1, hw1⟩ : ∃ w1, w.alloc (Obj.cells #[Value.int .i64 0] 3) = w1 := ⟨_, rfl⟩
  have hs1 : w1.heap.size = w.heap.size + 1 := by rw [← hw1]; simp
  have hb1 : Below w.heap.size w w1 := by rw [← hw1]; exact (Below.refl _ w).alloc (Nat.le_refl _) _
  have bL1 : Boxed w1 w.heap.size 3 (.int .i64 0) := by rw [← hw1]; exact Boxed.new w _ _
  have K := teach_any v w1
  have HW1 := Lib.hid hw1
  clear hw1
  gi_wp2_with fail
  refine ⟨trivial, ?_⟩
  rw [HW1.out]
  refine (callsIn_wide.2 K).mono ?_
  rintro e w2 ⟨rfl, hw2⟩
  clear K
  have hs2 : w2.heap.size = w.heap.size + 2 := by rw [hw2]; simp [hs1]
  have bC2 : Boxed w2 (w.heap.size + 1) 66 (.pointer v) := by rw [hw2, ← hs1]; exact Boxed.new w1 _ _
  have bL2 : Boxed w2 w.heap.size 3 (.int .i64 0) := by rw [hw2]; exact bL1.alloc _
  have hb2 : Below w.heap.size w w2 := by rw [hw2]; exact hb1.alloc (by omega) _
  clear hw2 HW1
  rw [hs1]
  have hH0 : HeS w v X 0 w2 := ⟨bL2, bC2, hb2⟩
  clear bL1 bL2 bC2 hb1 hb2 hs1
  gi_wp2_with fail
  refine range_stops rfl (by omega) (gf := 104) (lb := #[.pointer (some ⟨w.heap.size + 1, 0, none⟩)]) rfl trivial (enters_of Tryz.func104 (by kernel_rfl) rfl)
    (fun x : Sx => #[Value.int .u32 x.s, .pointer (some ⟨x.b, 0, none⟩)]) (fun _ => rfl)
    (fun j x V => HeS w v X j V ∧ X[j]? = some x)
    (fun j V => HeS w v X j V)
    (fun _ _ => False) (fun _ _ => True) X.length
    (fun j x V l o o' h hl ho hc' => ⟨h.1.put (by omega) ho hc' o', h.2⟩)
    (fun j V l o o' h hl ho hc' => h.put (by omega) ho hc' o')
    (fun _ _ _ _ _ h _ _ _ => h)
    (fun _ _ _ _ _ => trivial) (fun _ _ _ _ _ _ _ => trivial)
    (fun o => ⟨(hH0.num.alloc _).alloc _, (hH0.box.alloc _).alloc _, (hH0.below.alloc hH0.below.size _).alloc (by have := hH0.below.size; simp; omega) _⟩) ?a1 ?assign ?body ?iter ?done ?stop
  case assign =>
    intro l x V K hK
    gi_wp2
    exact hK
  case body =>
    rintro l j x V hl ⟨hM, hx⟩ hj
    have hxm : x ∈ X := List.mem_of_getElem? hx
    have hsx := (hsl x hxm).below hM.below
    have hnx := tots_next hx
    have hle : tots (X.take j) ≤ 192 * 16 := by
      have h1 := tots_le (X := X.take j) (w := w) fun y hy => hsl y (List.mem_of_mem_take hy)
      rw [List.length_take] at h1
      omega
    have hto := SlotAt.most hsx
    have hnum := hM.num
    generalize tots (X.take j) = a at *
    generalize hq : Sl.tot (x.E.map Pl.ct) = q at *
    have L1 : ∀ W, Below V.heap.size V W → (Instr.loadAt 3 (.pointer (some ⟨w.heap.size, 0, none⟩))).run Tryz.prog W = .ok (.int .i64 (a : Int)) W := fun W hW => by
      have := (show Boxed W w.heap.size 3 _ from (hW.block _ hnum.lt).trans hnum).cell
      simp [Instr.loadAt, go_sem, this]
    have KS : ∀ W, Below V.heap.size V W → Calls Tryz.prog 90 #[.pointer (some ⟨x.b, 0, none⟩)] W fun e w' => e = .returned (.int .i64 (q : Int)) ∧ Below W.heap.size W w' := fun W hW => by
      have := ssize_any (SlotAt.below hsx hW)
      rw [hq] at this
      exact this
    have HB := Lib.hid hM.below
    have HC := Lib.hid hM.box
    have HNM := Lib.hid hnum
    have HNX := Lib.hid hnx
    have hbs := hM.below.size
    clear hM hH0 hnum hnx hsx hx hxm HI
    gi_wp2_with fail
    refine wpIn_region_FS 15 4 5 [] (fun _ _ _ => True) (fun W => Below V.heap.size V W) (fun _ W W' => W' = W.setCell ⟨w.heap.size, 0, none⟩ (.int .i64 ((a : Int) + (q : Int)))) (by kernel_rfl) (fun ⟨_, _, h⟩ => h) (by kernel_rfl) (by rfl) (by kernel_rfl) (by rfl) (by simp) (fun W W' h hb => h.trans (hb.mono h.size)) (fun _ _ _ _ _ _ => trivial) (Below.refl _ _).drew (by rfl) ?_
    refine wpFS_step (wpF_load (.int .i64 (a : Int)) rfl (by rfl) (by rfl) (by rfl) L1 ?_)
    simp only [wpF, Act.put, List.setIfInBounds_toArray, List.set_cons_succ, List.set_cons_zero]
    repeat (refine wpFS_step (wpF_pure rfl rfl ?_); go_big_quiet_step (fail); refine wpQuiet_nil ?_; simp only [wpF])
    refine wpFS_step (wpF_call (f := 90) (args := #[.pointer (some ⟨x.b, 0, none⟩)]) (.int .i64 (q : Int)) rfl rfl (fun W => by first | rfl | (simp [go_sem]; done)) KS ?_)
    simp only [wpF, Act.put, List.setIfInBounds_toArray, List.set_cons_succ, List.set_cons_zero]
    repeat (refine wpFS_step (wpF_pure rfl rfl ?_); go_big_quiet_step (fail); refine wpQuiet_nil ?_; simp only [wpF])
    refine wpFS_store rfl rfl rfl ⟨w.heap.size, 0, none⟩ (fun _ => .int .i64 ((a : Int) + (q : Int))) (fun _ => rfl) (fun _ => rfl) (fun xs W hW _ => ?_) ?_
    · have hb := (show Boxed W w.heap.size 3 _ from (hW.block _ HNM.out.lt).trans HNM.out)
      have k1 := hb.cell
      have k2 := hb.frozen
      exact ⟨_, by simp [Instr.storeAt, go_sem, k1, k2], rfl⟩
    simp only [wpFS]
    rintro xs W W' hW _ rfl
    have hko := keeps_below hW
    have hbW := HNM.out
    have hnW : Boxed W w.heap.size 3 (.int .i64 (a : Int)) := (hW.block _ hbW.lt).trans hbW
    refine (show KeepsFrom w2.heap.size V (W.setCell ⟨w.heap.size, 0, none⟩ (.int .i64 ((a : Int) + (q : Int)))) ∧ HeS w v X (j + 1) (W.setCell ⟨w.heap.size, 0, none⟩ (.int .i64 ((a : Int) + (q : Int)))) ∧ True from ⟨(hko.trans (KeepsOthers.setCell _ _ _)).from _, ⟨?_, ?_, ?_⟩, trivial⟩)
    · rw [HNX.out, Int.natCast_add]
      exact hnW.set _
    · exact Boxed.other (show Boxed W (w.heap.size + 1) 66 (.pointer v) from (hW.block _ HC.out.lt).trans HC.out) (by omega) _
    · exact (HB.out.trans (hW.mono hbs)).setCell (p := ⟨w.heap.size, 0, none⟩) (Nat.le_refl _) _
  case iter =>
    intro Bk Xp l V hBk hBlt hX hlw hD hB hY
    refine (HI.out l (w.heap.size + 1) (fun k V => HeS w v X k V ∧ Bk V) Xp ?_ ?_ V ⟨hD, hB⟩).mono ?_
    · rintro k W ⟨h1, _⟩
      exact ⟨h1.box.cell, h1.below⟩
    · rintro k x W ⟨h1, h2⟩ hx
      refine (hY _ _ W ⟨h1, hx⟩ h2 (List.getElem?_eq_some_iff.1 hx).1).mono ?_
      rintro e V2 (⟨rfl, hd, _, _⟩ | ⟨rfl, hx, _⟩)
      · exact .inl ⟨rfl, hd⟩
      · exact .inr ⟨rfl, hx⟩
    · exact fun _ _ h => h
  case done =>
    rintro D V hD hM hK
    have kN := hM.num.cell
    rw [List.take_length] at kN
    have hwD : w.heap.size ≤ D := by omega
    have HFIN := Lib.hid (hM.below.trans (below_put (B := w.heap.size) V (.deferred none) hwD))
    clear hM hH0
    gi_wp2
    refine ⟨by simp, .inl ⟨_, _, rfl, run_takeDeferred hK, ?_⟩⟩
    refine ⟨_, results_tmp rfl _ _ _, ?_⟩
    exact ⟨rfl, HFIN.out⟩
  case stop =>
    rintro D cd W' _ h _
    exact h.elim
theorem theld_any {w : World} {S : Nat → Prop} {b r m n cp : Nat} {A : Option Addr} {X : List Sx} (h : TblAt w S b r m A n cp X) :
    Calls Tryz.prog 65 #[.pointer (some ⟨b, 0, none⟩)] w fun e w' => e = .returned (.int .i64 (Tb.held (X.map Sx.ms) : Int)) ∧ Below w.heap.size w w' := by
  rw [← tots_held]
  have hlen := h.len
  refine theld_go (some ⟨b, 0, none⟩) X (by have := h.few; have := h.room; omega) w h.slots fun l Bs J Jx hJ hY W h0 => ?_
  rw [hlen]
  exact teach_in 2 (by omega) 1 l Bs b r m A n cp X J Jx (fun j W hj => ⟨(hJ j W hj).1, S, h.below (hJ j W hj).2⟩) hY W h0
end Go.Proofs.YtfdbcfkjablnkaaGreat

namespace Go.Proofs.YtfdbcfkjablnkaaGreat
open Go.RowKit Go.Shelf
set_option maxRecDepth 100000
attribute [local go_sem] Oper.semAt_some

theorem tall_func (p : Nat) (w : World) : (Instr.makeFunc (.func 91) #[] #[.pointer (some ⟨p, 0, none⟩)]).run Tryz.prog w = .ok (.func (.func 91) #[] #[.pointer (some ⟨p, 0, none⟩)]) w := by kernel_rfl
theorem tall_not_nil (p : Nat) (w : World) : (binOp .eql 134 (.func (.func 91) #[] #[.pointer (some ⟨p, 0, none⟩)]) .nilFunc).run Tryz.prog w = .ok (.bool false) w := by kernel_rfl
theorem tall_any {w : World} {S : Nat → Prop} {b r m n cp : Nat} {A : Option Addr} {X : List Sx} (h : TblAt w S b r m A n cp X) :
    Calls Tryz.prog 68 #[.pointer (some ⟨b, 0, none⟩)] w fun e w' => ∃ p c m' A' cp' X', e = .returned (.func (.func 91) #[] #[.pointer (some ⟨p, 0, none⟩)]) ∧ Boxed w' p 66 (.pointer (some ⟨c, 0, none⟩)) ∧ w.heap.size ≤ p ∧
      TblAt w' (fun q => w.heap.size ≤ q) c r m' A' n cp' X' ∧ Tb.Likes (X.map Sx.ms) (X'.map Sx.ms) ∧ Below w.heap.size w w' := by
  have HK := Lib.hid (tcopy_any h)
  have hmf := tall_func
  clear h
  go_enter Tryz.func68, Tryz.ntmps68
  go_wp2_with fail
  refine HK.out.mono ?_
  rintro e w1 ⟨c, m', A', cp', X', rfl, hT, hL, hb⟩
  have HT := Lib.hid hT
  have HL := Lib.hid hL
  have HB := Lib.hid hb
  clear HK hT hL hb
  go_wp2
  go_ret
  have hal := (Below.refl w1.heap.size w1).alloc (Nat.le_refl _) (.cells #[.pointer (some ⟨c, 0, none⟩)] 66)
  exact ⟨w1.heap.size, c, m', A', cp', X', rfl, Boxed.new w1 _ _, HB.out.size, HT.out.below hal, HL.out, HB.out.trans (hal.mono HB.out.size)⟩
/-- one in the stead of another one -/
theorem Tb.Likes.at : ∀ {T T' : List Tb.Ms} {j : Nat} {x : Tb.Ms}, Tb.Likes T T' → T[j]? = some x → ∃ y, T'[j]? = some y ∧ Tb.Like x y
  | [], _, _, _, _, h => by simp at h
  | _ :: _, [], _, _, h, _ => h.elim
  | x :: r, y :: s, 0, z, h, h2 => by
    simp only [List.getElem?_cons_zero, Option.some.injEq] at h2
    subst h2
    exact ⟨y, rfl, h.1⟩
  | x :: r, y :: s, j + 1, z, h, h2 => by
    rw [List.getElem?_cons_succ] at h2
    obtain ⟨y', h3, h4⟩ := Tb.Likes.at h.2 h2
    exact ⟨y', by rw [List.getElem?_cons_succ]; exact h3, h4⟩
set_option maxHeartbeats 8000000 in
/-- the iterator: v is what the table's box holds, X its slots -/
theorem tall_in (n : Nat) (hn5 : 5 ≤ n) (m' l Bs s0 : Nat) (v : Option Addr) (X : List Sx) (Dn : Nat → World → Prop) (Bk Xp : World → Prop) (Kp : World → World → Prop) (hls : l < s0 + 2)
    (hDb : ∀ j A B, Dn j A → Below s0 A B → Dn j B) (hDx : ∀ j V, Dn j V → ∀ x ∈ X, x.At V)
    (hBk : ∀ A B, Bk A → A.heap.size ≤ B.heap.size → (∀ k, s0 ≤ k → k < s0 + 2 → B.heap[k]? = A.heap[k]?) → Bk B) (hBlt : ∀ A, Bk A → s0 + 2 ≤ A.heap.size)
    (hX : ∀ A l' o o', Xp A → s0 + 2 ≤ l' → A.heap[l']? = some o → o.isCells = false → Xp (A.putObj l' o'))
    (hKp : ∀ V V' k cs t, Kp V V' → s0 + 2 ≤ k → V.heap[k]? = some (.cells cs t (0, 0)) → V'.heap[k]? = some (.cells cs t (0, 0)))
    (hI : ∀ (l2 Bs2 : Nat) (J : Nat → World → Prop) (Jx : World → Prop), (∀ j V, J j V → V.cell? ⟨Bs2, 0, none⟩ = some (.pointer v) ∧ ∃ k, Dn k V) →
      (∀ (j : Nat) (x : Sx) (V : World), J j V → X[j]? = some x → YieldAt Fence.wide (n - 1 - 1) Tryz.prog l2 #[.int .u32 x.s, .pointer (some ⟨x.b, 0, none⟩)] V fun e W' => (e = .returned (.bool true) ∧ J (j + 1) W') ∨ (e = .returned (.bool false) ∧ Jx W')) →
      ∀ V, J 0 V → CallsIn Fence.wide (n - 1) Tryz.prog 104 #[.func (.yield l2) #[] #[], .pointer (some ⟨Bs2, 0, none⟩)] V fun e W' => (∃ v, e = .returned v) ∧ (J X.length W' ∨ Jx W'))
    (hY : ∀ (j : Nat) (x y : Sx) (V : World), Dn j V → X[j]? = some x → y.At V → Tb.Like x.ms y.ms → Bk V →
      YieldAt Fence.wide m' Tryz.prog l #[.int .u32 x.s, .pointer (some ⟨y.b, 0, none⟩)] V (YPost s0 l Kp (fun W2 => Dn (j + 1) W2 ∧ Bk W2) Xp V))
    (W : World) (hBs : W.cell? ⟨Bs, 0, none⟩ = some (.pointer v)) (hD0 : Dn 0 W) (hB0 : Bk W) :
    CallsIn Fence.wide n Tryz.prog 91 #[.func (.yield l) #[] #[], .pointer (some ⟨Bs, 0, none⟩)] W fun e W' => (∃ v, e = .returned v) ∧ ((Dn X.length W' ∧ Bk W') ∨ Xp W') := by
  have hn1 : 1 ≤ n := by omega
  have hsW := hBlt W hB0
  have hBsl := block_of_cell hBs
  simp only at hBsl
  refine callsIn_of_wp_marks Tryz.func91 rfl trivial ?_ rfl
  simp only [Tryz.ntmps91, List.size_toArray, List.length_cons, List.length_nil, Nat.reduceAdd, Nat.reduceSub, Array.replicate_succ, Array.replicate_zero, List.push_toArray, List.append_toArray, List.nil_append, List.cons_append]
  have hBs1 : (W.alloc (.cells #[.func (.yield l) #[] #[]] 157)).cell? ⟨Bs, 0, none⟩ = some (.pointer v) := (((Below.refl W.heap.size W).alloc (Nat.le_refl _) (.cells #[.func (.yield l) #[] #[]] 157)).cell (p := ⟨Bs, 0, none⟩) hBsl).trans hBs
  have K := teach_any v (W.alloc (.cells #[.func (.yield l) #[] #[]] 157))
  gi_wp2_with fail
  refine ⟨trivial, ?_⟩
  refine (callsIn_wide.2 K).mono ?_
  rintro e W2 ⟨rfl, hW2⟩
  clear K
  have hb1 := (Below.refl W.heap.size W).alloc (Nat.le_refl _) (.cells #[.func (.yield l) #[] #[]] 157)
  have hyb1 : Boxed (W.alloc (.cells #[.func (.yield l) #[] #[]] 157)) W.heap.size 157 (.func (.yield l) #[] #[]) := Boxed.new W _ _
  have hb12 : Below W.heap.size W W2 := by rw [hW2]; exact hb1.alloc (by simp) _
  have hyb2 : Boxed W2 W.heap.size 157 (.func (.yield l) #[] #[]) := by rw [hW2]; exact hyb1.alloc _
  have htb2 : Boxed W2 (W.heap.size + 1) 66 (.pointer v) := by
    have := Boxed.new (W.alloc (.cells #[.func (.yield l) #[] #[]] 157)) 66 (.pointer v)
    rw [World.size_alloc] at this
    rw [hW2]; exact this
  have hs2 : W2.heap.size = W.heap.size + 2 := by rw [hW2]; simp
  simp only [World.size_alloc]
  clear hW2 hb1 hyb1
  have hD2 := hDb 0 _ _ hD0 (hb12.mono (by omega : s0 ≤ W.heap.size))
  have hB2 : Bk W2 := hBk _ _ hB0 hb12.size (fun k _ h2 => hb12.block k (by omega))
  obtain ⟨BX, hBX⟩ : ∃ BX : World → Prop, BX = fun V => W2.heap.size ≤ V.heap.size ∧ Boxed V W.heap.size 157 (.func (.yield l) #[] #[]) ∧ Boxed V (W.heap.size + 1) 66 (.pointer v) := ⟨_, rfl⟩
  have hBX0 : ∀ V, BX V → W2.heap.size ≤ V.heap.size ∧ V.cell? ⟨W.heap.size, 0, none⟩ = some (.func (.yield l) #[] #[]) ∧ V.cell? ⟨W.heap.size + 1, 0, none⟩ = some (.pointer v) := fun V hV => by
    rw [hBX] at hV
    exact ⟨hV.1, hV.2.1.cell, hV.2.2.cell⟩
  have hBXb : ∀ V V', BX V → Below W2.heap.size V V' → BX V' := fun V V' h hb => by
    rw [hBX] at h ⊢
    exact ⟨Nat.le_trans h.1 hb.size, (hb.block _ (by omega)).trans h.2.1, (hb.block _ (by omega)).trans h.2.2⟩
  have hBXk : ∀ V V', BX V → Kp V V' → V.heap.size ≤ V'.heap.size → BX V' := fun V V' h hk hsz => by
    rw [hBX] at h ⊢
    exact ⟨Nat.le_trans h.1 hsz, hKp _ _ _ _ _ hk (by omega) h.2.1, hKp _ _ _ _ _ hk (by omega) h.2.2⟩
  have hBX2 : BX W2 := by rw [hBX]; exact ⟨Nat.le_refl _, hyb2, htb2⟩
  have hW1b : ∀ j V, Dn j V ∧ Bk V ∧ BX V → ∀ V', Below W2.heap.size V V' → Dn j V' ∧ Bk V' ∧ BX V' := fun j V h V' hb =>
    ⟨hDb _ _ _ h.1 (hb.mono (by omega)), hBk _ _ h.2.1 hb.size (fun k _ h2 => hb.block k (by omega)), hBXb _ _ h.2.2 hb⟩
  clear hyb2 htb2 hBX hb12 hBs hBs1 hD0 hB0
  gi_wp2_with fail
  refine range_stops rfl hn1 (gf := 104) (lb := #[.pointer (some ⟨W.heap.size + 1, 0, none⟩)]) rfl trivial (enters_of Tryz.func104 (by kernel_rfl) rfl)
    (fun x : Sx => #[Value.int .u32 x.s, .pointer (some ⟨x.b, 0, none⟩)]) (fun _ => rfl)
    (fun j x V => (Dn j V ∧ Bk V ∧ BX V) ∧ X[j]? = some x)
    (fun j V => Dn j V ∧ Bk V ∧ BX V) (fun cd V => cd = .ret ∧ Xp V) (fun _ _ => True) X.length
    (fun j x V l' o o' h hl' ho hc' => ⟨hW1b j V h.1 _ (below_put V o' hl'), h.2⟩)
    (fun j V l' o o' h hl' ho hc' => hW1b j V h _ (below_put V o' hl'))
    (fun cd V l' o o' h hl' ho hc' => ⟨h.1, hX V l' o o' h.2 (by omega) ho hc'⟩)
    (fun _ _ _ _ _ => trivial) (fun _ _ _ _ _ _ _ => trivial)
    (fun o => hW1b 0 W2 ⟨hD2, hB2, hBX2⟩ _ (((Below.refl W2.heap.size W2).alloc (Nat.le_refl _) _).alloc (by simp) _)) ?a1 ?assign ?body ?iter ?done ?stop
  case assign =>
    intro l' x V K hK
    gi_wp2
    exact hK
  case body =>
    rintro l' j x V hl' ⟨hV, hxj⟩ hj
    have hxat := hDx j V hV.1 x (List.mem_of_getElem? hxj)
    obtain ⟨hsV, kY, _⟩ := hBX0 V hV.2.2
    have L1 : ∀ V', Below V.heap.size V V' → (Instr.loadAt 157 (.pointer (some ⟨W.heap.size, 0, none⟩))).run Tryz.prog V' = .ok (.func (.yield l) #[] #[]) V' := fun V' hb => by
      have k1 := (hBX0 V' (hBXb V V' hV.2.2 (hb.mono hsV))).2.1
      simp [Instr.loadAt, go_sem, k1]
    have KY : ∀ V', Below V.heap.size V V' → Calls Tryz.prog 86 #[.pointer (some ⟨x.b, 0, none⟩)] V' (CopyR V' x.v x.k x.s x.c x.E) := fun V' hb => scopy_any (SlotAt.below hxat hb)
    have HV := Lib.hid hV
    have HXJ := Lib.hid hxj
    clear hV hxj hxat kY hD2 hB2 hBX2
    gi_wp2_with fail
    refine wpIn_region_FT 15 4 [12] (fun _ z V' => ∃ y : Sx, z = .pointer (some ⟨y.b, 0, none⟩) ∧ y.At V' ∧ Tb.Like x.ms y.ms) (fun V' => Below V.heap.size V V') (by kernel_rfl) (by kernel_rfl) (by rfl) (by kernel_rfl) (by kernel_rfl) (by kernel_rfl) (by rfl) (by simp) (fun W W' h hb => h.trans (hb.mono h.size)) (fun q z W W' h hb => by
      obtain ⟨y, h1, h2, h3⟩ := h
      exact ⟨y, h1, h2.below hb, h3⟩) (Below.refl _ _).drew (by rfl) ?_
    simp only [List.take_succ_cons, List.take_zero, List.drop_succ_cons, List.drop_zero]
    refine wpF_load _ rfl (by rfl) (by rfl) (by rfl) L1 ?_
    simp only [Act.put, List.setIfInBounds_toArray, List.set_cons_succ, List.set_cons_zero]
    repeat (refine wpF_pure rfl rfl ?_; go_big_quiet_step (fail); refine wpQuiet_nil ?_)
    refine wpF_callsrc 12 (f := 86) (args := #[.pointer (some ⟨x.b, 0, none⟩)]) (by simp) rfl rfl rfl (fun x => by first | rfl | (simp [go_sem]; done)) (fun V' hb => (KY V' hb).mono fun e W' ⟨yb, ym, E', he, hat, hp, hb, _, hym⟩ => ⟨_, he, ⟨⟨yb, ym, x.v, x.k, x.s, x.c, E'⟩, rfl, hat, ⟨rfl, rfl, rfl, rfl, hp.symm⟩⟩, hb⟩) ?_
    simp only [Act.put, List.setIfInBounds_toArray, List.set_cons_succ, List.set_cons_zero]
    intro xs V2 hb2 hx
    obtain ⟨y, e12, hy, hlike⟩ := hx 12 (by simp)
    simp only [fill, Act.put, List.setIfInBounds_toArray, List.set_cons_succ, List.set_cons_zero]
    rw [e12]
    obtain ⟨hDV2, hBV2, hXV2⟩ := hW1b j V HV.out V2 (hb2.mono hsV)
    have hyld := hY j x y V2 hDV2 HXJ.out hy hlike hBV2
    obtain ⟨fn, tmps, assign, body, hyr, hR⟩ := yield_any (n - 1 - 1 - 1) hyld
    have HR := Lib.hid hR
    have HB2 := Lib.hid hb2
    have HX2 := Lib.hid hXV2
    clear hR hyld hDV2 hBV2 hXV2 hx e12 hy hlike hb2 L1 KY
    gi_wp2_with fail
    refine ⟨fun _ => by omega, ?_⟩
    refine RoundIn.mono (F := Fence.wide.inRound l') HR.out ?_
    rintro e V3 (⟨rfl, ⟨hd, hb⟩, hk, hkb⟩ | ⟨rfl, hx, hkb⟩)
    · have hX3 := hBXk _ _ HX2.out hk hkb.size
      have hfin := Lib.hid (show KeepsFrom W2.heap.size V V3 ∧ (Dn (j + 1) V3 ∧ Bk V3 ∧ BX V3) ∧ True from
        ⟨⟨Nat.le_trans HB2.out.size hkb.size, fun q o h1 h2 h3 => hkb.same q o (by omega) (by omega) ((HB2.out.block q (Array.getElem?_eq_some_iff.1 h2).1).trans h2) h3⟩, ⟨hd, hb, hX3⟩, trivial⟩)
      clear hd hb hk hkb hX3 HR
      gi_wp2
      exact hfin.out
    · have hfin := Lib.hid (show KeepsFrom W2.heap.size V V3 ∧ Xp V3 from
        ⟨⟨Nat.le_trans HB2.out.size hkb.size, fun q o h1 h2 h3 => hkb.same q o (by omega) (by omega) ((HB2.out.block q (Array.getElem?_eq_some_iff.1 h2).1).trans h2) h3⟩, hx⟩)
      clear hx hkb HR
      gi_wp2
      exact ⟨hfin.out.1, rfl, hfin.out.2⟩
  case iter =>
    intro Bk2 X2 l2 V hBk2 hBlt2 hX2 hl2 hDV hBV hYV
    refine (hI l2 (W.heap.size + 1) (fun k V => (Dn k V ∧ Bk V ∧ BX V) ∧ Bk2 V) X2 ?_ ?_ V ⟨hDV, hBV⟩).mono ?_
    · rintro k V ⟨⟨h1, h2, h3⟩, _⟩
      exact ⟨(hBX0 V h3).2.2, k, h1⟩
    · rintro k x V ⟨h1, h2⟩ hx
      refine (hYV _ _ V ⟨h1, hx⟩ h2 (List.getElem?_eq_some_iff.1 hx).1).mono ?_
      rintro e V2 (⟨rfl, hd, _, _⟩ | ⟨rfl, hx, _⟩)
      · exact .inl ⟨rfl, hd⟩
      · exact .inr ⟨rfl, hx⟩
    · exact fun _ _ h => h
  case done =>
    rintro D V hD ⟨hDV, hBV, _⟩ hK
    have hfin := Lib.hid (And.intro (hDb _ _ _ hDV (below_put V (.deferred none) (by omega : s0 ≤ D))) (hBk _ _ hBV (by simp [World.putObj]) (fun k _ h2 => World.putObj_heap_other (by omega)) : Bk (V.putObj D (.deferred none))))
    clear hDV hBV hD2 hB2
    gi_wp2
    refine ⟨by simp, .inl ⟨_, _, rfl, run_takeDeferred hK, ?_⟩⟩
    refine ⟨_, results_none rfl _ _ _, ?_⟩
    exact ⟨⟨_, rfl⟩, .inl hfin.out⟩
  case stop =>
    rintro D cd V hD ⟨rfl, hx⟩ hK
    have hfin := Lib.hid (hX V D _ (.deferred none) hx (by omega) hK rfl)
    clear hx
    gi_wp2
    refine ⟨by simp, .inl ⟨_, _, rfl, run_takeDeferred hK, ?_⟩⟩
    refine ⟨_, results_none rfl _ _ _, ?_⟩
    exact ⟨⟨_, rfl⟩, .inr hfin.out⟩
end Go.Proofs.YtfdbcfkjablnkaaGreat

namespace Go.Proofs.YtfdbcfkjablnkaaGreat
open Go.RowKit Go.Shelf
set_option maxRecDepth 100000

/-- block bj is a joiner: its window in block bw, its table in block b; what its table's calls may turn lies in S -/
structure JAt (w : World) (S : Nat → Prop) (bj bw b r : Nat) (t : Int) (q : Nat) (T : List Tb.Ms) : Prop where
  row : w.heap[bj]? = some (.cells #[.pointer (some ⟨bw, 0, none⟩), .pointer (some ⟨b, 0, none⟩)] 72 (0, 0))
  win : WinAt w bw t q
  top : 0 ≤ t ∧ t < 4294967296
  bits : q < 18446744073709551616
  tbl : TblOf w S b r T
  tys : Tys w S
  lt : ∀ p, S p → p < w.heap.size
section
variable {w w' : World} {S S' : Nat → Prop} {bj bw b r : Nat} {t : Int} {q : Nat} {T : List Tb.Ms}
theorem JAt.size (h : JAt w S bj bw b r t q T) : bj < w.heap.size := (Array.getElem?_eq_some_iff.1 h.row).1
theorem JAt.nj (h : JAt w S bj bw b r t q T) : ¬ S bj := h.tys.not h.row (by decide) (by decide)
theorem JAt.nw (h : JAt w S bj bw b r t q T) : ¬ S bw := h.tys.not (show w.heap[bw]? = _ from h.win) (by decide) (by decide)
theorem JAt.ne (h : JAt w S bj bw b r t q T) : bw ≠ bj := fun e => by
  have h1 : w.heap[bw]? = _ := h.win
  rw [e, h.row] at h1
  injection h1 with h1
  injection h1 with _ h1 _
  exact absurd h1 (by decide)
theorem JAt.cells (h : JAt w S bj bw b r t q T) : w.cell? ⟨bj, 0, none⟩ = some (.pointer (some ⟨bw, 0, none⟩)) ∧ w.cell? ⟨bj, 1, none⟩ = some (.pointer (some ⟨b, 0, none⟩)) := by
  constructor <;> simp [World.cell?, h.row]
theorem JAt.below (h : JAt w S bj bw b r t q T) (hb : Below w.heap.size w w') : JAt w' S bj bw b r t q T :=
  ⟨(hb.block bj h.size).trans h.row, h.win.below hb, h.top, h.bits, h.tbl.below hb, tys_below h.tys hb h.lt, fun p hp => by have := h.lt p hp; have := hb.size; omega⟩
/-- beside what another table's calls turn -/
theorem JAt.toff (h : JAt w S bj bw b r t q T) (ho : TOff S' w w') (hS : ∀ p, S p → ¬ S' p) (h1 : ¬ S' bj) (h2 : ¬ S' bw) : JAt w' S bj bw b r t q T := by
  obtain ⟨m, A, n, cp, X, hT, e⟩ := h.tbl
  refine ⟨(TOff.keep ho h.size h1).trans h.row, (TOff.keep ho h.win.size h2).trans h.win, h.top, h.bits, ⟨m, A, n, cp, X, hT.toff ho hS, e⟩, fun g cs tt fz hg hs hf => h.tys g cs tt fz ((TOff.keep ho (h.lt g hs) (hS g hs)).symm.trans hg) hs hf, fun p hp => by have := h.lt p hp; have := ho.size; omega⟩
/-- beside a row of another type that is turned -/
theorem JAt.other {p : Nat} {cs : Array Value} {tt : TypeId} (h : JAt w S bj bw b r t q T) (hp : w.heap[p]? = some (.cells cs tt (0, 0))) (ht : tt ≠ 97 ∧ tt ≠ 22 ∧ tt ≠ 5 ∧ tt ≠ 147) (ht2 : tt ≠ 72 ∧ tt ≠ 103) (hf : Off (fun k => k = p) w w') : JAt w' S bj bw b r t q T := by
  have key : ∀ (g : Nat) (cs' : Array Value) (t' : TypeId), w.heap[g]? = some (.cells cs' t' (0, 0)) → tt ≠ t' → ¬ g = p := fun g cs' t' h1 h2 e => by
    rw [e, hp] at h1
    injection h1 with h1
    injection h1 with _ h1
    exact h2 h1
  have hn := h.tys.not hp ht.1 ht.2.1
  obtain ⟨m, A, n, cp, X, hT, e⟩ := h.tbl
  exact ⟨(hf.block bj h.size (key _ _ _ h.row ht2.1)).trans h.row, h.win.off hf (key _ _ _ (show w.heap[bw]? = _ from h.win) ht2.2), h.top, h.bits, ⟨m, A, n, cp, X, hT.other hp ht hf, e⟩,
    fun g cs' tt' fz hg hs hfz => h.tys g cs' tt' fz ((hf.block g (h.lt g hs) fun e => hn (by rw [← e]; exact hs)).symm.trans hg) hs hfz, fun g hg => Nat.lt_of_lt_of_le (h.lt g hg) hf.size⟩
/-- its table behind a call of it -/
theorem JAt.table (h : JAt w S bj bw b r t q T) {S2 : Nat → Prop} {T' : List Tb.Ms} (ho : TOff S w w') (ht : TblOf w' S2 b r T') : ∃ S', JAt w' S' bj bw b r t q T' ∧ ∀ p, S' p → S2 p := by
  obtain ⟨m, A, n, cp, X, hT, e, hs⟩ := ht.exact
  exact ⟨_, ⟨(TOff.keep ho h.size h.nj).trans h.row, (TOff.keep ho h.win.size h.nw).trans h.win, h.top, h.bits, ⟨m, A, n, cp, X, hT, e⟩, hT.tys, hT.own_lt⟩, hs⟩
end
/-- what New answers -/
def JNewR (w : World) (s z : Int) (e : Ending) (w' : World) : Prop :=
  (¬ (1 ≤ z ∧ z ≤ 16) ∧ e = .returned (.tuple #[.pointer none, .int .i64 5]) ∧ w' = w) ∨
  (∃ r : Nat, z = (r : Int) ∧ ∃ S bj bw b, e = .returned (.tuple #[.pointer (some ⟨bj, 0, none⟩), .int .i64 0]) ∧ JAt w' S bj bw b r (Sr.add s (-1)) 18446744073709551615 [] ∧ (∀ p, S p → w.heap.size ≤ p) ∧ w.heap.size ≤ bw ∧ w.heap.size ≤ bj ∧ Below w.heap.size w w')
theorem jnew_any (s z : Int) (hs : 0 ≤ s ∧ s < 4294967296) (w : World) : Calls Tryz.prog 4 #[.int .u32 s, .int .i64 z] w (JNewR w s z) := by
  have HT := Lib.hid (tnew_any z w)
  have HW := Lib.hid (fun W => wnew_any s hs W)
  generalize hG : JNewR w s z = G
  have HG := Lib.hid hG
  have HS := Lib.hid hs
  clear hG hs
  go_enter Tryz.func4, Tryz.ntmps4
  go_wp2_with fail
  refine HT.out.mono ?_
  rintro e w1 (⟨hx, rfl, rfl⟩ | ⟨r, rfl, b, m, rfl, hT, hb1⟩)
  · have HFIN : Hid (G (.returned (.tuple #[.pointer none, .int .i64 5])) w1) := by
      rw [← HG.out]
      exact Lib.hid (.inl ⟨hx, rfl, rfl⟩)
    clear HT HW HG hx
    go_wp2
    exact HFIN.out
  · have HT1 := Lib.hid hT
    have HB1 := Lib.hid hb1
    clear HT hT hb1
    go_wp2_with fail
    refine (HW.out w1).mono ?_
    rintro e w2 ⟨rfl, hw2, hb2, hs2⟩
    have hal := (Below.refl w2.heap.size w2).alloc (Nat.le_refl _) (.cells #[.pointer (some ⟨w1.heap.size, 0, none⟩), .pointer (some ⟨b, 0, none⟩)] 72)
    have hx := World.alloc_heap_new w2 (.cells #[.pointer (some ⟨w1.heap.size, 0, none⟩), .pointer (some ⟨b, 0, none⟩)] 72)
    have hT2 := (HT1.out.exact.below hb2).below hal
    have HFIN : Hid (G (.returned (.tuple #[.pointer (some ⟨w2.heap.size, 0, none⟩), .int .i64 0])) (w2.alloc (.cells #[.pointer (some ⟨w1.heap.size, 0, none⟩), .pointer (some ⟨b, 0, none⟩)] 72))) := by
      rw [← HG.out]
      exact Lib.hid (.inr ⟨r, rfl, _, _, _, _, rfl, ⟨hx, hw2.below hal, Sr.add_lt _ _, by omega, ⟨_, _, _, _, _, hT2, rfl⟩, hT2.tys, hT2.own_lt⟩, HT1.out.own_sub, HB1.out.size, Nat.le_trans HB1.out.size hb2.size, HB1.out.trans ((hb2.trans (hal.mono hb2.size)).mono HB1.out.size)⟩)
    clear HW HG HT1 HB1 hw2 hb2 hs2 hal hx hT2
    go_wp2
    exact HFIN.out
section
variable {w w' : World} {S S' : Nat → Prop} {bj bw b r : Nat} {t : Int} {q : Nat} {T : List Tb.Ms}
theorem jdrop_any (h : JAt w S bj bw b r t q T) {z : Int} (hz : 0 ≤ z ∧ z ≤ 4294967295) : Calls Tryz.prog 15 #[.pointer (some ⟨bj, 0, none⟩), .int .u32 z] w fun e w' => e = .returned (.bool (Tb.find T z).isSome) ∧ TOff S w w' ∧ ∃ S', JAt w' S' bj bw b r t q (Tb.drop T z) ∧ ∀ p, S' p → S p := by
  have K : Calls Tryz.prog 29 #[.pointer (some ⟨b, 0, none⟩), .int .u32 z] w fun e w' => e = .returned (.bool (Tb.find T z).isSome) ∧ TOff S w w' ∧ ∃ S', JAt w' S' bj bw b r t q (Tb.drop T z) ∧ ∀ p, S' p → S p := by
    obtain ⟨m, A, n, cp, X, hT, hX⟩ := h.tbl
    subst hX
    refine (tdrop_any hT hz).mono ?_
    rintro e w' (⟨hno, rfl, rfl⟩ | ⟨⟨x, hx, hxz⟩, rfl, hto, ht'⟩)
    · have hf : Tb.find (X.map Sx.ms) z = none := find_none_ms.2 hno
      rw [hf, Tb.drop_none hf]
      exact ⟨rfl, TOff.refl _ _, S, h, fun _ h => h⟩
    · have hf : (Tb.find (X.map Sx.ms) z).isSome = true := by
        rw [← hxz, hT.find hx]
        rfl
      have hto' : TOff S w w' := hto.mono fun p _ hp => by
        rcases hp with rfl | rfl | hp
        · exact hT.inS.1
        · exact hT.inS.2.1
        · exact hT.inS.2.2.1 p hp
      rw [hf]
      exact ⟨rfl, hto', h.table hto' ⟨_, _, _, _, _, ht', (filter_ms X z).symm⟩⟩
  obtain ⟨c0, c1⟩ := h.cells
  obtain ⟨v, hv⟩ : ∃ v, (Tb.find T z).isSome = v := ⟨_, rfl⟩
  rw [hv] at K ⊢
  clear h
  go_enter Tryz.func15, Tryz.ntmps15
  go_wp2_with fail
  refine K.mono ?_
  rintro e w1 ⟨rfl, h2⟩
  go_wp2
  go_ret
  exact ⟨rfl, h2⟩
theorem jwindow_any (h : JAt w S bj bw b r t q T) : Calls Tryz.prog 30 #[.pointer (some ⟨bj, 0, none⟩)] w fun e w' => e = .returned (.pointer (some ⟨w.heap.size, 0, none⟩)) ∧ WinAt w' w.heap.size t q ∧ Below w.heap.size w w' := by
  have K := wcopy_any h.win
  obtain ⟨c0, c1⟩ := h.cells
  clear h
  go_enter Tryz.func30, Tryz.ntmps30
  go_wp2_with fail
  refine K.mono ?_
  rintro e w1 ⟨rfl, h2, h3, _⟩
  go_wp2
  go_ret
  exact ⟨rfl, h2, h3⟩
theorem jtable_any (h : JAt w S bj bw b r t q T) : Calls Tryz.prog 31 #[.pointer (some ⟨bj, 0, none⟩)] w fun e w' => ∃ c m A n cp X, e = .returned (.pointer (some ⟨c, 0, none⟩)) ∧ TblAt w' (fun q => w.heap.size ≤ q) c r m A n cp X ∧ Tb.Likes T (X.map Sx.ms) ∧ Below w.heap.size w w' := by
  obtain ⟨m, A, n, cp, X, hT, hX⟩ := h.tbl
  subst hX
  have K := tcopy_any hT
  obtain ⟨c0, c1⟩ := h.cells
  clear h hT
  go_enter Tryz.func31, Tryz.ntmps31
  go_wp2_with fail
  refine K.mono ?_
  rintro e w1 ⟨c, m', A', cp', X', rfl, h2, h3, h4⟩
  have H2 := Lib.hid h2
  have H3 := Lib.hid h3
  clear h2 h3 K
  go_wp2
  go_ret
  exact ⟨c, m', A', n, cp', X', rfl, H2.out, H3.out, h4⟩
theorem jheld_any (h : JAt w S bj bw b r t q T) : Calls Tryz.prog 34 #[.pointer (some ⟨bj, 0, none⟩)] w fun e w' => e = .returned (.int .i64 (Tb.held T : Int)) ∧ Below w.heap.size w w' := by
  obtain ⟨m, A, n, cp, X, hT, hX⟩ := h.tbl
  subst hX
  have K := theld_any hT
  obtain ⟨c0, c1⟩ := h.cells
  clear h hT
  go_enter Tryz.func34, Tryz.ntmps34
  go_wp2_with fail
  refine K.mono ?_
  rintro e w1 ⟨rfl, h2⟩
  go_wp2
  go_ret
  exact ⟨rfl, h2⟩
theorem jcopy_any (h : JAt w S bj bw b r t q T) : Calls Tryz.prog 16 #[.pointer (some ⟨bj, 0, none⟩)] w fun e w' => ∃ S' bj' bw' b' T', e = .returned (.pointer (some ⟨bj', 0, none⟩)) ∧ JAt w' S' bj' bw' b' r t q T' ∧ Tb.Likes T T' ∧ (∀ p, S' p → w.heap.size ≤ p) ∧ w.heap.size ≤ bw' ∧ w.heap.size ≤ bj' ∧ Below w.heap.size w w' := by
  have K1 := jwindow_any h
  have HJ := Lib.hid h
  clear h
  go_enter Tryz.func16, Tryz.ntmps16
  go_wp2_with fail
  refine K1.mono ?_
  rintro e w1 ⟨rfl, hw, hb1⟩
  have K2 := jtable_any (HJ.out.below hb1)
  have HW := Lib.hid hw
  have HB1 := Lib.hid hb1
  clear hw hb1 K1
  go_wp2_with fail
  refine K2.mono ?_
  rintro e w2 ⟨c, m, A, n, cp, X, rfl, hT, hl, hb2⟩
  have hal := (Below.refl w2.heap.size w2).alloc (Nat.le_refl _) (.cells #[.pointer (some ⟨w.heap.size, 0, none⟩), .pointer (some ⟨c, 0, none⟩)] 72)
  have hx := World.alloc_heap_new w2 (.cells #[.pointer (some ⟨w.heap.size, 0, none⟩), .pointer (some ⟨c, 0, none⟩)] 72)
  have hT2 := hT.exact.below hal
  have HX := Lib.hid hx
  have HT2 := Lib.hid hT2
  have HL := Lib.hid hl
  have HSUB := Lib.hid hT.own_sub
  have HB12 := Lib.hid (HB1.out.trans (hb2.mono HB1.out.size))
  have HB3 := Lib.hid (HB1.out.trans ((hb2.trans (hal.mono hb2.size)).mono HB1.out.size))
  have HW2 := Lib.hid ((HW.out.below hb2).below hal)
  have hs := Nat.le_trans HB1.out.size hb2.size
  have hs1 := HB1.out.size
  clear hT hl hb2 hal hx hT2 K2 HW
  go_wp2
  go_ret
  exact ⟨_, _, _, _, _, rfl, ⟨HX.out, HW2.out, HJ.out.top, HJ.out.bits, ⟨_, _, _, _, _, HT2.out, rfl⟩, HT2.out.tys, HT2.out.own_lt⟩, HL.out, fun p hp => Nat.le_trans hs1 (HSUB.out p hp), Nat.le_refl _, hs, HB3.out⟩
end
end Go.Proofs.YtfdbcfkjablnkaaGreat

namespace Go.Proofs.YtfdbcfkjablnkaaGreat
open Go.RowKit Go.Shelf
set_option maxRecDepth 100000

set_option maxHeartbeats 8000000 in
theorem tput_short (b : Nat) (f : Fr) (hf : 0 ≤ f.s ∧ f.s ≤ 4294967295) (hz : f.zs = []) (w : World) :
    Calls Tryz.prog 25 #[.pointer (some ⟨b, 0, none⟩), frV f.v f.k f.s f.i f.c (.slice f.a f.zs.length f.cp)] w fun e w' => e = .returned (.tuple #[outV none 0 0 false false 0, .int .i64 (if chk f.v f.k f.i f.c ≠ 0 then chk f.v f.k f.i f.c else 13)]) ∧ Below w.heap.size w w' := by
  obtain ⟨w0, hw0⟩ : ∃ w0, (w.alloc (.cells f.cs 42)).alloc (.cells (outC none 0 0 false false 0) 54) = w0 := ⟨_, rfl⟩
  obtain ⟨hb0, hs0, hF0, hR0⟩ := put_boxes hw0
  obtain ⟨d0, d1, d2, d3, d4, d5⟩ := fr_block (v := f.v) (k := f.k) (s := f.s) (i := f.i) (c := f.c) hF0
  have KN := snew_any13 f.v f.k f.s f.i f.c hf w0
  have HB0 := Lib.hid hb0
  have HF0 := Lib.hid hF0
  have HR0 := Lib.hid hR0
  have HS0 := Lib.hid hs0
  have HKN := Lib.hid KN
  have HZ := Lib.hid hz
  clear KN hb0 hF0 hR0 hf hs0 hz
  obtain ⟨E, hE⟩ : ∃ E, (if chk f.v f.k f.i f.c ≠ 0 then chk f.v f.k f.i f.c else 13) = E := ⟨_, rfl⟩
  rw [hE]
  have HE := Lib.hid hE
  clear hE
  subst hw0
  unfold frV outV
  simp only [outC, Fr.cs, frC, hdV] at HKN d0 d1 d2 d3 d4 d5 ⊢
  go_enter Tryz.func25, Tryz.ntmps25
  go_wp2_with fail
  refine HKN.out.mono ?_
  rintro e W1 hor
  have hb1' : Below ((w.alloc (.cells f.cs 42)).alloc (.cells (outC none 0 0 false false 0) 54)).heap.size ((w.alloc (.cells f.cs 42)).alloc (.cells (outC none 0 0 false false 0) 54)) W1 := by
    rcases hor with ⟨_, _, hb1⟩ | ⟨_, yb, ym, _, _, hb1, _⟩
    · exact hb1
    · exact hb1
  have hb01 : Below w.heap.size w W1 := HB0.out.trans (hb1'.mono HB0.out.size)
  have hR1 : W1.heap[w.heap.size + 1]? = some (.cells (outC none 0 0 false false 0) 54 (0, 0)) := (hb1'.block _ (by have := HS0.out; omega)).trans HR0.out
  have hF1 : W1.heap[w.heap.size]? = some (.cells f.cs 42 (0, 0)) := (hb1'.block _ (by have := HS0.out; omega)).trans HF0.out
  have HR1 := Lib.hid hR1
  have HF1 := Lib.hid hF1
  have HFIN : Hid (Below w.heap.size w (W1.setRow (w.heap.size + 1) (outC none 0 0 false false 0))) := Lib.hid (setRow_new hb01 (by omega) _)
  clear hb01 hb1' hR1 hF1 HB0 HR0 HF0 HKN d0 d1 d2 d3 d4 d5
  rcases hor with ⟨hne, rfl, _⟩ | ⟨hok, yb, ym, rfl, _⟩
  · have he : chk f.v f.k f.i f.c = E := by rw [← HE.out, if_pos hne]
    clear HE
    rw [he] at hne ⊢
    clear he
    go_wp2_with (refine wpList_store_row rfl 54 (.tmp 4) (.tmp 23) rfl (w.heap.size + 1) (outC none 0 0 false false 0) rfl rfl 54 _ HR1.out outInfo rfl (out_one ..) ?_)
    refine bodyPost_ret (results_row_tmp (P := Tryz.prog) (fn := Tryz.f25) rfl _ _ (w.heap.size + 1) 54 (outC none 0 0 false false 0) _ (by rfl) (setRow_heap _ _ _ _ _ _ HR1.out) Tryz.underlying54 (by rfl) outInfo) rfl ?_
    exact ⟨rfl, HFIN.out⟩
  · have hE : E = 13 := by rw [← HE.out, if_neg (by simp [hok])]
    subst hE
    clear HE hok
    obtain ⟨d0, d1, d2, d3, d4, d5⟩ := fr_block (v := f.v) (k := f.k) (s := f.s) (i := f.i) (c := f.c) HF1.out
    have hl : (f.zs.length : Int) = 0 := by rw [HZ.out]; rfl
    clear HZ
    generalize f.zs.length = q at *
    go_wp2_with (refine wpList_store_row rfl 54 (.tmp 4) (.tmp 30) rfl (w.heap.size + 1) (outC none 0 0 false false 0) rfl rfl 54 _ HR1.out outInfo rfl (out_one ..) ?_)
    refine bodyPost_ret (results_row_tmp (P := Tryz.prog) (fn := Tryz.f25) rfl _ _ (w.heap.size + 1) 54 (outC none 0 0 false false 0) _ (by rfl) (setRow_heap _ _ _ _ _ _ HR1.out) Tryz.underlying54 (by rfl) outInfo) rfl ?_
    exact ⟨rfl, HFIN.out⟩
end Go.Proofs.YtfdbcfkjablnkaaGreat

namespace Go.Proofs.YtfdbcfkjablnkaaGreat
section
variable {P : Program} {I : World → Prop} {l : List Oper} {Q : (World → Prop) → Act → Prop} {o : Oper} {k : Nat} {r : List Nat} {C : World → Prop} {a : Act}
/-- an operation that yields a value and leaves the world -/
theorem wpO4_val (v : Value) (ho : l[k]? = some o) (hk : kind3 o = 3) (hw : Region.wanted o (yielded l.toArray a.tmps) = true) (hsub : ∀ w, C w → I w)
    (hrun : ∀ w, (execOp a.eval o).run P w = .ok (.value v) w) (h : wpO4 P l.toArray I Q r C (a.put o.dst v)) : wpO4 P l.toArray I Q (k :: r) C a :=
  ⟨o, at_list ho, .inr (.inr (.inr ⟨hk, .inr ⟨hw, fun u => u = v, fun _ w => C w, fun _ w h => hsub w h, fun w hC => by rw [hrun w]; exact ⟨rfl, hC⟩, fun u hu => by subst hu; exact h⟩⟩))⟩
theorem wpO4_nil {x : Operand} {ad : Addr} (ho : l[k]? = some o) (hop : o.op = .nilCheck x) (hw : Region.wanted o (yielded l.toArray a.tmps) = true) (hx : a.eval x = .pointer (some ad)) (hsub : ∀ w, C w → I w)
    (h : wpO4 P l.toArray I Q r C (a.put o.dst (.pointer (some ad)))) : wpO4 P l.toArray I Q (k :: r) C a :=
  wpO4_val _ ho (by simp [kind3, pureOp, hop]) hw hsub (fun w => by simp only [execOp, hop, hx]; rfl) h
end
end Go.Proofs.YtfdbcfkjablnkaaGreat

namespace Go.Proofs.YtfdbcfkjablnkaaGreat
open Go.RowKit Go.Shelf
set_option maxRecDepth 100000

theorem out_store (W : World) (g : Nat) (old cs : Array Value) (h : W.heap[g]? = some (.cells old 54 (0, 0))) (ho : old.size = 4) (hc : cs.size = 4) (h1 : cs.all (·.oneCell') = true) :
    (Instr.storeAt 54 (.pointer (some ⟨g, 0, none⟩)) (.agg cs)).run Tryz.prog W = .ok () (W.setRow g cs) := by
  simp only [Instr.storeAt, Instr.sureAddr, Sem.run_bind, Sem.run_pure, Result.andThen]
  exact run_storeVar_row W g 54 54 old cs h (by rw [hc]; exact outInfo) (by omega) h1
/-- why a frame isn't for the table -/
def jwhy (t : Int) (q : Nat) (f : Fr) : Int := if chk f.v f.k f.i f.c ≠ 0 then chk f.v f.k f.i f.c else Wn.look t q f.s
/-- what a joiner's Take does -/
def jtake (r : Nat) (t : Int) (q : Nat) (T : List Tb.Ms) (f : Fr) : Tb.Res := if jwhy t q f ≠ 0 then ⟨jwhy t q f, T, .no⟩ else Tb.put r T f
/-- a new variable's box -/
def FOut (H : Nat) (p : Tmp) (x : Value) (W : World) : Prop := p = 5 ∧ ∃ g, x = .pointer (some ⟨g, 0, none⟩) ∧ H ≤ g ∧ W.heap[g]? = some (.cells (outC none 0 0 false false 0) 54 (0, 0))
theorem FOut.later {H : Nat} {p : Tmp} {x : Value} {W W' : World} (h : FOut H p x W) (hb : Below W.heap.size W W') : FOut H p x W' := by
  obtain ⟨h, g, e, hg, hc⟩ := h
  exact ⟨h, g, e, hg, (hb.block g (Array.getElem?_eq_some_iff.1 hc).1).trans hc⟩
section
variable {w w' : World} {S S' : Nat → Prop} {bj bw b r : Nat} {t : Int} {q : Nat} {T : List Tb.Ms}
set_option maxHeartbeats 8000000 in
theorem jcheck_any (h : JAt w S bj bw b r t q T) (f : Fr) (hf : 0 ≤ f.s ∧ f.s ≤ 4294967295) :
    Calls Tryz.prog 24 #[.pointer (some ⟨bj, 0, none⟩), frV f.v f.k f.s f.i f.c (.slice f.a f.zs.length f.cp)] w fun e w' => e = .returned (.int .i64 (jwhy t q f)) ∧ Below w.heap.size w w' := by
  obtain ⟨w1, hw1⟩ : ∃ w1, w.alloc (.cells (frC f.v f.k f.s f.i f.c (.slice none 0 0)) 42) = w1 := ⟨_, rfl⟩
  have hb1 : Below w.heap.size w w1 := by rw [← hw1]; exact (Below.refl _ w).alloc (Nat.le_refl _) _
  have hx1 : w1.heap[w.heap.size]? = some (.cells (frC f.v f.k f.s f.i f.c (.slice none 0 0)) 42 (0, 0)) := by rw [← hw1]; exact World.alloc_heap_new _ _
  have HW1 := Lib.hid hw1
  have HJ1 := Lib.hid (h.below hb1)
  clear hw1
  obtain ⟨R, hR⟩ : ∃ R, jwhy t q f = R := ⟨_, rfl⟩
  rw [hR]
  have HR := Lib.hid hR
  clear hR
  unfold frV
  simp only [frC] at *
  go_enter Tryz.func24, Tryz.ntmps24
  go_wp2_with fail
  obtain ⟨c0, c1⟩ := HJ1.out.cells
  have hbj := HJ1.out.size
  have hfr : w.heap.size < w1.heap.size := (Array.getElem?_eq_some_iff.1 hx1).1
  have LT : ∀ V, Below w1.heap.size w1 V → (Instr.loadAt 66 (.pointer (some ⟨bj, 1, none⟩))).run Tryz.prog V = .ok (.pointer (some ⟨b, 0, none⟩)) V := fun V hV => by
    obtain ⟨_, d1⟩ := (HJ1.out.below hV).cells
    simp [Instr.loadAt, go_sem, d1]
  have LF : ∀ V, Below w1.heap.size w1 V → (Instr.loadAt 42 (.pointer (some ⟨w.heap.size, 0, none⟩))).run Tryz.prog V = .ok (.agg #[.int .i64 f.v, .int .i64 f.k, .int .u32 f.s, .int .i64 f.i, .int .i64 f.c, .slice none 0 0]) V := fun V hV => by
    obtain ⟨d0, d1, d2, d3, d4, d5⟩ := fr_block (v := f.v) (k := f.k) (s := f.s) (i := f.i) (c := f.c) (row_stays hx1 hV)
    simp [Instr.loadAt, go_sem, d0, d1, d2, d3, d4, d5]
  have KP := Lib.hid (fun V => tput_short b ⟨f.v, f.k, f.s, f.i, f.c, none, 0, []⟩ hf rfl V)
  obtain ⟨E, hE⟩ : ∃ E, (if chk f.v f.k f.i f.c ≠ 0 then chk f.v f.k f.i f.c else 13) = E := ⟨_, rfl⟩
  unfold frV outV at KP
  simp only [frC, outC, List.length_nil, hE] at KP
  rw [HW1.out]
  refine wp_region_FL 30 6 [false, false, false, false, false, false, false, false, true, false] [5] (FOut w1.heap.size) (fun V => Below w1.heap.size w1 V) (fun xs V V' => ∃ g, xs 5 = .pointer (some ⟨g, 0, none⟩) ∧ V' = V.setRow g (outC none 0 0 false false 0)) (by kernel_rfl) (by kernel_rfl) (by rfl) (by kernel_rfl) (by rfl) (by simp) (fun W W' h hb => h.trans (hb.mono h.size)) (fun q x W W' h hb => h.later hb) (Below.refl _ _).drew ?_
  repeat (refine wpFL_step (wpF_pure rfl rfl ?_); go_big_quiet_step (fail); refine wpQuiet_nil ?_; simp only [wpF])
  refine wpFL_step (wpF_nil (ad := ⟨bj, 0, none⟩) rfl (by rfl) (by rfl) (by rfl) ?_)
  simp only [wpF, Act.put, List.setIfInBounds_toArray, List.set_cons_succ, List.set_cons_zero]
  repeat (refine wpFL_step (wpF_pure rfl rfl ?_); go_big_quiet_step (fail); refine wpQuiet_nil ?_; simp only [wpF])
  refine wpFL_step (wpF_load (.pointer (some ⟨b, 0, none⟩)) rfl (by rfl) (by rfl) (by rfl) LT ?_)
  simp only [wpF, Act.put, List.setIfInBounds_toArray, List.set_cons_succ, List.set_cons_zero]
  refine wpFL_step (wpF_load (.agg #[.int .i64 f.v, .int .i64 f.k, .int .u32 f.s, .int .i64 f.i, .int .i64 f.c, .slice none 0 0]) rfl (by rfl) (by rfl) (by rfl) LF ?_)
  simp only [wpF, Act.put, List.setIfInBounds_toArray, List.set_cons_succ, List.set_cons_zero]
  refine wpFL_step (wpF_call (f := 25) (args := #[.pointer (some ⟨b, 0, none⟩), .agg #[.int .i64 f.v, .int .i64 f.k, .int .u32 f.s, .int .i64 f.i, .int .i64 f.c, .slice none 0 0]]) (.tuple #[.agg #[.slice none 0 0, .bool false, .bool false, .int .u32 0], .int .i64 E]) rfl rfl (fun x => by first | rfl | (simp [go_sem]; done)) (fun V _ => KP.out V) ?_)
  simp only [wpF, Act.put, List.setIfInBounds_toArray, List.set_cons_succ, List.set_cons_zero]
  repeat (refine wpFL_step (wpF_pure rfl rfl ?_); go_big_quiet_step (fail); refine wpQuiet_nil ?_; simp only [wpF])
  refine wpFL_late (wpFS_pure rfl rfl ?_)
  go_big_quiet_step (fail)
  refine wpQuiet_nil ?_
  simp only [wpFS]
  refine wpFL_step (wpF_src 5 (by simp) rfl (by kernel_rfl) (by kernel_rfl) (fun V hV => ⟨.pointer (some ⟨V.heap.size, 0, none⟩), V.alloc (.cells (outC none 0 0 false false 0) 54), ?_, ⟨rfl, _, rfl, hV.size, World.alloc_heap_new _ _⟩, (Below.refl _ _).alloc (Nat.le_refl _) _⟩) ?_)
  · have hzz : (zeroValue 54).run Tryz.prog V = .ok (.agg (outC none 0 0 false false 0)) V := by kernel_rfl
    simp [execOp, go_sem, hzz]
    try rfl
  simp only [wpF, Act.put, List.setIfInBounds_toArray, List.set_cons_succ, List.set_cons_zero]
  refine wpFL_store (wpFS_storeX rfl rfl rfl (fun xs V hV hx => ?_) ?_)
  · obtain ⟨_, g, e4, hg, hcg⟩ := hx 5 (by simp)
    refine ⟨_, ?_, g, e4, rfl⟩
    simp only [fill, Act.put, List.setIfInBounds_toArray, List.set_cons_succ, List.set_cons_zero, e4]
    exact out_store V g _ (outC none 0 0 false false 0) hcg rfl rfl (out_one ..)
  refine wpFS_pure rfl rfl ?_
  go_big_quiet_step (fail)
  refine wpQuiet_nil ?_
  simp only [wpFS]
  rintro xs V V' hV hx ⟨g, e4, rfl⟩
  obtain ⟨_, g', e4', hg, hcg⟩ := hx 5 (by simp)
  obtain rfl : g = g' := by rw [e4] at e4'; injection e4' with e4'; injection e4' with e4'; injection e4'
  simp only [fill, Act.put, List.setIfInBounds_toArray, List.set_cons_succ, List.set_cons_zero, e4]
  have hoF : Off (fun k => k = g) V (V.setRow g (outC none 0 0 false false 0)) := Off.setRow (S := fun k => k = g) (Off.refl _ V) rfl _
  have hbF : Below w1.heap.size w1 (V.setRow g (outC none 0 0 false false 0)) := hV.trans (hoF.below (fun k hk => by omega) hV.size)
  generalize V.setRow g (outC none 0 0 false false 0) = Wf at *
  clear hx e4 e4' LT LF hV hcg hoF KP
  have HJF := Lib.hid (HJ1.out.below hbF)
  have hxF := row_stays hx1 hbF
  have hbw := hb1.trans (hbF.mono hb1.size)
  have HBW := Lib.hid hbw
  have hfr2 : w.heap.size < Wf.heap.size := (Array.getElem?_eq_some_iff.1 hxF).1
  clear HJ1 hx1 hbF hb1 hbw HW1 c0 c1 hbj hfr hg
  by_cases hc : chk f.v f.k f.i f.c = 0
  · have hw : jwhy t q f = Wn.look t q f.s := if_neg (by simp [hc])
    have he : E = 13 := by rw [← hE, if_neg (by simp [hc])]
    have hRL : Wn.look t q f.s = R := by rw [← HR.out, hw]
    subst he
    clear HR hw
    have KL' := fun (V : World) (hV : Below Wf.heap.size Wf V) => wLook_any (HJF.out.below hV).win f.s HJF.out.top ⟨hf.1, by omega⟩ HJF.out.bits
    rw [hRL] at KL'
    have KL := Lib.hid KL'
    clear KL' hRL
    have LW : ∀ V, Below Wf.heap.size Wf V → (Instr.loadAt 69 (.pointer (some ⟨bj, 0, none⟩))).run Tryz.prog V = .ok (.pointer (some ⟨bw, 0, none⟩)) V := fun V hV => by
      obtain ⟨d0, _⟩ := (HJF.out.below hV).cells
      simp [Instr.loadAt, go_sem, d0]
    have LS : ∀ V, Below Wf.heap.size Wf V → (Instr.loadAt 22 (.pointer (some ⟨w.heap.size, 2, none⟩))).run Tryz.prog V = .ok (.int .u32 f.s) V := fun V hV => by
      obtain ⟨d0, d1, d2, d3, d4, d5⟩ := fr_block (v := f.v) (k := f.k) (s := f.s) (i := f.i) (c := f.c) (row_stays hxF hV)
      simp [Instr.loadAt, go_sem, d2]
    clear hc hE
    go_wp2_with fail
    refine wp_region_F 30 [] (fun _ _ _ => True) (fun V => Below Wf.heap.size Wf V) (by kernel_rfl) (by kernel_rfl) (by rfl) (by simp) (fun W W' h hb => h.trans (hb.mono h.size)) (fun q x W W' h hb => trivial) (Below.refl _ _).drew ?_
    repeat (refine wpF_pure rfl rfl ?_; go_big_quiet_step (fail); refine wpQuiet_nil ?_)
    refine wpF_nil (ad := ⟨bj, 0, none⟩) rfl (by rfl) (by rfl) (by rfl) ?_
    simp only [Act.put, List.setIfInBounds_toArray, List.set_cons_succ, List.set_cons_zero]
    repeat (refine wpF_pure rfl rfl ?_; go_big_quiet_step (fail); refine wpQuiet_nil ?_)
    refine wpF_load (.pointer (some ⟨bw, 0, none⟩)) rfl (by rfl) (by rfl) (by rfl) LW ?_
    simp only [Act.put, List.setIfInBounds_toArray, List.set_cons_succ, List.set_cons_zero]
    repeat (refine wpF_pure rfl rfl ?_; go_big_quiet_step (fail); refine wpQuiet_nil ?_)
    refine wpF_load (.int .u32 f.s) rfl (by rfl) (by rfl) (by rfl) LS ?_
    simp only [Act.put, List.setIfInBounds_toArray, List.set_cons_succ, List.set_cons_zero]
    refine wpF_call (f := 47) (args := #[.pointer (some ⟨bw, 0, none⟩), .int .u32 f.s]) (.int .i64 R) rfl rfl (fun x => by first | rfl | (simp [go_sem]; done)) (fun V hV => KL.out V hV) ?_
    simp only [Act.put, List.setIfInBounds_toArray, List.set_cons_succ, List.set_cons_zero]
    repeat (refine wpF_pure rfl rfl ?_; go_big_quiet_step (fail); refine wpQuiet_nil ?_)
    intro xs V hV _
    have hbV := HBW.out.trans (hV.mono HBW.out.size)
    simp only [fill]
    clear LW LS KL
    go_wp2
    go_ret
    exact ⟨rfl, hbV⟩
  · have hw : jwhy t q f = E := by rw [← hE]; exact if_pos hc |>.trans (if_pos hc).symm
    have he : (E != 13) = true := by
      rw [← hE, if_pos hc, bne_iff_ne]
      have := chk_cases f.v f.k f.i f.c
      omega
    have hRE : E = R := by rw [← HR.out, hw]
    subst hRE
    clear hw hc hE HR
    go_wp2
    go_ret
    exact ⟨rfl, HBW.out⟩
/-- what Take leaves -/
def JTakeR (w : World) (S : Nat → Prop) (bj bw b r : Nat) (t : Int) (q : Nat) (T : List Tb.Ms) (f : Fr) (e : Ending) (w' : World) : Prop :=
  ∃ A2 c2, e = .returned (.tuple #[outV A2 (jtake r t q T f).o.zs.length c2 (jtake r t q T f).o.wh (jtake r t q T f).o.ev (jtake r t q T f).o.old, .int .i64 (jtake r t q T f).e]) ∧ (jtake r t q T f).o.zs.length ≤ c2 ∧
    NumsS .u8 w' (fun g => w.heap.size ≤ g ∧ g < w'.heap.size) A2 (jtake r t q T f).o.zs ∧ TOff S w w' ∧ ∃ S', JAt w' S' bj bw b r t q (jtake r t q T f).T ∧ ∀ p, S' p → S p ∨ w.heap.size ≤ p
theorem JTakeR.of {f : Fr} {e : Ending} {R : Tb.Res} (h : JTakeR w S bj bw b r t q T f e w') (hp : jtake r t q T f = R) : ∃ A2 c2, e = .returned (.tuple #[outV A2 R.o.zs.length c2 R.o.wh R.o.ev R.o.old, .int .i64 R.e]) ∧ R.o.zs.length ≤ c2 ∧
    NumsS .u8 w' (fun g => w.heap.size ≤ g ∧ g < w'.heap.size) A2 R.o.zs ∧ TOff S w w' ∧ ∃ S', JAt w' S' bj bw b r t q R.T ∧ ∀ p, S' p → S p ∨ w.heap.size ≤ p := by
  subst hp
  exact h
/-- what Put hands Take: in a world V in which box g is still to be written -/
def JMid (w : World) (S : Nat → Prop) (bj bw b r : Nat) (t : Int) (q : Nat) (R : Tb.Res) (g : Nat) (v : Value) (V : World) : Prop :=
  ∃ A2 c2, v = .tuple #[outV A2 R.o.zs.length c2 R.o.wh R.o.ev R.o.old, .int .i64 R.e] ∧ R.o.zs.length ≤ c2 ∧ NumsS .u8 V (fun k => g < k ∧ k < V.heap.size) A2 R.o.zs ∧ TOff S w V ∧ (∃ S', JAt V S' bj bw b r t q R.T ∧ ∀ p, S' p → S p ∨ w.heap.size ≤ p) ∧
    V.heap[g]? = some (.cells (outC none 0 0 false false 0) 54 (0, 0))
theorem JMid.put {R : Tb.Res} {g : Nat} {A2 : Option Addr} {c2 n : Nat} {wh ev : Bool} {old er : Int} {V : World} (h : JMid w S bj bw b r t q R g (.tuple #[outV A2 n c2 wh ev old, .int .i64 er]) V) (hg : w.heap.size ≤ g) :
    n = R.o.zs.length ∧ wh = R.o.wh ∧ ev = R.o.ev ∧ old = R.o.old ∧ er = R.e ∧ R.o.zs.length ≤ c2 ∧ NumsS .u8 (V.setRow g (outC A2 n c2 wh ev old)) (fun k => w.heap.size ≤ k ∧ k < (V.setRow g (outC A2 n c2 wh ev old)).heap.size) A2 R.o.zs ∧ TOff S w (V.setRow g (outC A2 n c2 wh ev old)) ∧
      (∃ S', JAt (V.setRow g (outC A2 n c2 wh ev old)) S' bj bw b r t q R.T ∧ ∀ p, S' p → S p ∨ w.heap.size ≤ p) := by
  obtain ⟨A2', c2', e, hc, hn, ho, ⟨S', hJ, hS'⟩, hx⟩ := h
  unfold outV at e
  simp only [outC, Value.tuple.injEq, Array.mk.injEq, List.cons.injEq, Value.agg.injEq, Value.slice.injEq, Value.bool.injEq, Value.int.injEq, and_true, true_and] at e
  obtain ⟨⟨⟨rfl, rfl, rfl⟩, rfl, rfl, rfl⟩, rfl⟩ := e
  have hof : Off (fun k => k = g) V (V.setRow g (outC A2 R.o.zs.length c2 R.o.wh R.o.ev R.o.old)) := (Off.refl (fun k => k = g) V).setRow rfl _
  refine ⟨rfl, rfl, rfl, rfl, rfl, hc, ?_, tset_new ho hg _, S', hJ.other hx ⟨by decide, by decide, by decide, by decide⟩ ⟨by decide, by decide⟩ hof, hS'⟩
  refine (hn.keeps (w' := V.setRow g (outC A2 R.o.zs.length c2 R.o.wh R.o.ev R.o.old)) ?_).more fun k hk => ⟨by omega, by have := hof.size; omega⟩
  exact ⟨hof.size, fun k (hk : g < k ∧ k < V.heap.size) => hof.block k hk.2 (by omega)⟩
set_option maxHeartbeats 8000000 in
theorem jtake_any (h : JAt w S bj bw b r t q T) (f : Fr) (hf : f.At w w.heap.size) :
    Calls Tryz.prog 10 #[.pointer (some ⟨bj, 0, none⟩), frV f.v f.k f.s f.i f.c (.slice f.a f.zs.length f.cp)] w (JTakeR w S bj bw b r t q T f) := by
  obtain ⟨w0, hw0⟩ : ∃ w0, (w.alloc (.cells f.cs 42)).alloc (.cells (outC none 0 0 false false 0) 54) = w0 := ⟨_, rfl⟩
  obtain ⟨hb0, hs0, hF0, hR0⟩ := put_boxes hw0
  obtain ⟨d0, d1, d2, d3, d4, d5⟩ := fr_block (v := f.v) (k := f.k) (s := f.s) (i := f.i) (c := f.c) hF0
  have KC := jcheck_any (h.below hb0) f ⟨hf.s0, hf.s1⟩
  obtain ⟨E, hE⟩ : ∃ E, jwhy t q f = E := ⟨_, rfl⟩
  rw [hE] at KC
  obtain ⟨R, hR⟩ : ∃ R, jtake r t q T f = R := ⟨_, rfl⟩
  have HEND : Hid (∀ e w', (∃ A2 c2, e = .returned (.tuple #[outV A2 R.o.zs.length c2 R.o.wh R.o.ev R.o.old, .int .i64 R.e]) ∧ R.o.zs.length ≤ c2 ∧
    NumsS .u8 w' (fun g => w.heap.size ≤ g ∧ g < w'.heap.size) A2 R.o.zs ∧ TOff S w w' ∧ ∃ S', JAt w' S' bj bw b r t q R.T ∧ ∀ p, S' p → S p ∨ w.heap.size ≤ p) → JTakeR w S bj bw b r t q T f e w') := Lib.hid fun e w' h => by subst hR; exact h
  generalize JTakeR w S bj bw b r t q T f = G at *
  have HJ := Lib.hid h
  have HF := Lib.hid hf
  have HE := Lib.hid hE
  have HR := Lib.hid hR
  have HW0 := Lib.hid hw0
  have HS0 := Lib.hid hs0
  clear h hf hE hR hw0 hs0
  unfold frV at *
  simp only [Fr.cs, frC, outC] at HW0 KC ⊢
  go_enter Tryz.func10, Tryz.ntmps10
  go_wp2_with fail
  rw [HW0.out]
  refine KC.mono ?_
  rintro e W1 ⟨rfl, hb1⟩
  have hb01 := hb0.trans (hb1.mono hb0.size)
  have hF1 := row_stays hF0 hb1
  have hR1 := row_stays hR0 hb1
  have hJ1 := HJ.out.below hb01
  have hs1 : w.heap.size + 2 ≤ W1.heap.size := Nat.le_trans HS0.out hb1.size
  have HB1 := Lib.hid hb01
  have HF1 := Lib.hid hF1
  have HR1 := Lib.hid hR1
  have HJ1 := Lib.hid hJ1
  clear hb0 hF0 hR0 d0 d1 d2 d3 d4 d5 KC hb1 hb01 hF1 hR1 hJ1 HW0 HS0
  by_cases he : E = 0
  · have hRP : Tb.put r T f = R := by rw [← HR.out]; exact (if_neg (by rw [HE.out]; simp [he])).symm
    subst he
    have KP : Hid (∀ V, Below W1.heap.size W1 V → Calls Tryz.prog 25 #[.pointer (some ⟨b, 0, none⟩), .agg #[.int .i64 f.v, .int .i64 f.k, .int .u32 f.s, .int .i64 f.i, .int .i64 f.c, .slice f.a f.zs.length f.cp]] V fun e V' => ∃ v, e = .returned v ∧ (∃ A2 c2, v = .tuple #[outV A2 R.o.zs.length c2 R.o.wh R.o.ev R.o.old, .int .i64 R.e]) ∧ JMid w S bj bw b r t q R (w.heap.size + 1) v V' ∧ V'.heap[w.heap.size]? = some (.cells f.cs 42 (0, 0))) := Lib.hid fun V hV => by
      have hJV := HJ1.out.below hV
      refine (tput_of hJV.tbl f ((HF.out.below (HB1.out.trans (hV.mono HB1.out.size))).mono (HB1.out.trans (hV.mono HB1.out.size)).size)).mono ?_
      rintro e V' hP
      obtain ⟨A2, c2, rfl, hc2, hn, ho, ht⟩ := hP.of hRP
      obtain ⟨S', hJ', hS'⟩ := hJV.table ho ht
      have hsV := hV.size
      have hlt := HJ.out.lt
      refine ⟨_, rfl, ⟨_, _, rfl⟩, ⟨A2, c2, rfl, hc2, hn.more fun k hk => ⟨by omega, hk.2⟩, TOff.trans (TOff.of_below HB1.out) (TOff.trans (TOff.of_below hV) ho fun _ _ h => h) fun _ _ h => h, ⟨S', hJ', fun p hp => ?_⟩, (TOff.keep ho ?_ fun hs => ?_).trans (row_stays HR1.out hV)⟩, (TOff.keep ho ?_ fun hs => ?_).trans (row_stays HF1.out hV)⟩
      · rcases hS' p hp with h | h
        · exact .inl h
        · exact .inr (by omega)
      · omega
      · have := hlt _ hs; omega
      · omega
      · have := hlt _ hs; omega
    obtain ⟨c0, c1⟩ := HJ1.out.cells
    obtain ⟨wh, hwh⟩ : ∃ wh, R.o.wh = wh := ⟨_, rfl⟩
    obtain ⟨ev, hev⟩ : ∃ ev, R.o.ev = ev := ⟨_, rfl⟩
    obtain ⟨old, hold⟩ : ∃ old, R.o.old = old := ⟨_, rfl⟩
    obtain ⟨er, her⟩ : ∃ er, R.e = er := ⟨_, rfl⟩
    obtain ⟨n, hn⟩ : ∃ n, R.o.zs.length = n := ⟨_, rfl⟩
    rw [hwh, hev, hold, her, hn] at KP
    clear hRP HE HR hwh hev hold her hn
    go_wp2_with fail
    refine wp_region_order4 (0 :: 4 :: 1 :: 2 :: 3 :: 5 :: 6 :: 7 :: 8 :: 9 :: []) (fun V => V.heap[bj]? = some (.cells #[.pointer (some ⟨bw, 0, none⟩), .pointer (some ⟨b, 0, none⟩)] 72 (0, 0)) ∧ V.heap[w.heap.size]? = some (.cells f.cs 42 (0, 0))) (C := fun V => Below W1.heap.size W1 V) (by kernel_rfl) (by kernel_rfl) (Below.refl _ _).drew (fun V hV => ⟨row_stays HJ1.out.row hV, row_stays HF1.out hV⟩) ?_
    repeat (refine wpO4_pure rfl rfl ?_; go_big_quiet_step (fail); refine wpQuiet_nil ?_)
    refine wpO4_load (ad := ⟨w.heap.size, 0, none⟩) (.agg #[.int .i64 f.v, .int .i64 f.k, .int .u32 f.s, .int .i64 f.i, .int .i64 f.c, .slice f.a f.zs.length f.cp]) rfl rfl rfl (by rfl) (fun V hV => by
      obtain ⟨d0, d1, d2, d3, d4, d5⟩ := fr_block (v := f.v) (k := f.k) (s := f.s) (i := f.i) (c := f.c) hV.2
      simp [Instr.loadAt, go_sem, d0, d1, d2, d3, d4, d5]) ?_
    simp only [Act.put, List.setIfInBounds_toArray, List.set_cons_succ, List.set_cons_zero]
    refine wpO4_nil (ad := ⟨bj, 0, none⟩) rfl rfl rfl (by rfl) (fun V hV => ⟨row_stays HJ1.out.row hV, row_stays HF1.out hV⟩) ?_
    simp only [Act.put, List.setIfInBounds_toArray, List.set_cons_succ, List.set_cons_zero]
    repeat (refine wpO4_pure rfl rfl ?_; go_big_quiet_step (fail); refine wpQuiet_nil ?_)
    refine wpO4_load (ad := ⟨bj, 1, none⟩) (.pointer (some ⟨b, 0, none⟩)) rfl rfl rfl (by rfl) (fun V hV => by
      have d1 : V.cell? ⟨bj, 1, none⟩ = some (.pointer (some ⟨b, 0, none⟩)) := by simp [World.cell?, hV.1]
      simp [Instr.loadAt, go_sem, d1]) ?_
    simp only [Act.put, List.setIfInBounds_toArray, List.set_cons_succ, List.set_cons_zero]
    refine wpO4_call (fun v => ∃ A2 c2, v = .tuple #[outV A2 n c2 wh ev old, .int .i64 er]) (fun v V => JMid w S bj bw b r t q R (w.heap.size + 1) v V ∧ V.heap[w.heap.size]? = some (.cells f.cs 42 (0, 0))) (f := 25) (args := #[.pointer (some ⟨b, 0, none⟩), .agg #[.int .i64 f.v, .int .i64 f.k, .int .u32 f.s, .int .i64 f.i, .int .i64 f.c, .slice f.a f.zs.length f.cp]]) rfl rfl rfl (fun _ V hV => ?_) (fun x => by first | rfl | (simp [go_sem]; done)) (fun V hV => KP.out V hV) ?_
    · obtain ⟨⟨_, _, _, _, _, _, ⟨_, hJ, _⟩, _⟩, h2⟩ := hV
      exact ⟨hJ.row, h2⟩
    rintro v ⟨A2, c2, rfl⟩
    unfold outV
    simp only [Act.put, List.setIfInBounds_toArray, List.set_cons_succ, List.set_cons_zero]
    repeat (refine wpO4_pure rfl rfl ?_; go_big_quiet_step (fail); refine wpQuiet_nil ?_)
    have hbj := HJ.out.size
    refine wpO4_store (fun V' => ∃ V, (JMid w S bj bw b r t q R (w.heap.size + 1) (.tuple #[.agg #[.slice A2 n c2, .bool wh, .bool ev, .int .u32 old], .int .i64 er]) V ∧ V.heap[w.heap.size]? = some (.cells f.cs 42 (0, 0))) ∧ V' = V.setRow (w.heap.size + 1) (outC A2 n c2 wh ev old)) rfl rfl rfl rfl ⟨w.heap.size + 1, 0, none⟩ (.agg #[.slice A2 n c2, .bool wh, .bool ev, .int .u32 old]) rfl rfl ?_ ?_ ?_
    · rintro V' ⟨V, ⟨⟨_, _, _, _, _, _, ⟨_, hJ, _⟩, _⟩, h2⟩, rfl⟩
      exact ⟨(setRow_other _ _ _ _ (by omega)).trans hJ.row, (setRow_other _ _ _ _ (by omega)).trans h2⟩
    · rintro V hV
      have hx := hV.1
      obtain ⟨_, _, _, _, _, _, _, hx⟩ := hx
      exact ⟨_, out_store V (w.heap.size + 1) _ (outC A2 n c2 wh ev old) hx rfl rfl (out_one ..), V, hV, rfl⟩
    repeat (refine wpO4_pure rfl rfl ?_; go_big_quiet_step (fail); refine wpQuiet_nil ?_)
    rintro V' ⟨V, ⟨hM, _⟩, rfl⟩
    have hx : (V.setRow (w.heap.size + 1) (outC A2 n c2 wh ev old)).heap[w.heap.size + 1]? = some (.cells (outC A2 n c2 wh ev old) 54 (0, 0)) := by
      obtain ⟨_, _, _, _, _, _, _, hx⟩ := hM
      exact setRow_heap _ _ _ _ _ _ hx
    obtain ⟨e1, e2, e3, e4, e5, hc2, hnum, hto, hJ'⟩ := JMid.put hM (by omega)
    have HFIN : Hid (G (.returned (.tuple #[.agg (outC A2 n c2 wh ev old), .int .i64 er])) (V.setRow (w.heap.size + 1) (outC A2 n c2 wh ev old))) := Lib.hid (HEND.out _ _ (by
      subst e1 e2 e3 e4 e5
      exact ⟨A2, c2, rfl, hc2, hnum, hto, hJ'⟩))
    have HX := Lib.hid hx
    clear hx e1 e2 e3 e4 e5 hc2 hnum hto hJ' hM HJ1 HF1 HB1 HR1 HJ HF HEND KP c0 c1
    generalize V.setRow (w.heap.size + 1) (outC A2 n c2 wh ev old) = Wf at *
    go_wp2
    refine bodyPost_ret (results_row_tmp (P := Tryz.prog) (fn := Tryz.f10) rfl _ _ (w.heap.size + 1) 54 (outC A2 n c2 wh ev old) _ (by rfl) HX.out Tryz.underlying54 (by rfl) outInfo) rfl ?_
    exact HFIN.out
  · have hRP : R = ⟨E, T, .no⟩ := by rw [← HR.out, ← HE.out]; exact if_pos (by rw [HE.out]; exact he)
    have HFIN : Hid (G (.returned (.tuple #[.agg (outC none 0 0 false false 0), .int .i64 E])) (W1.setRow (w.heap.size + 1) (outC none 0 0 false false 0))) := Lib.hid (HEND.out _ _ (by
      rw [hRP]
      exact ⟨none, 0, rfl, Nat.le_refl _, NumsS.nil, tset_new (TOff.of_below HB1.out) (by omega) _, S, HJ1.out.other HR1.out ⟨by decide, by decide, by decide, by decide⟩ ⟨by decide, by decide⟩ ((Off.refl (fun p => p = w.heap.size + 1) W1).setRow rfl _), fun p hp => .inl hp⟩))
    have he' : (E != 0) = true := by simpa using he
    clear hRP HE HR he HJ1 HF1 HB1 HJ HF HEND
    go_wp2_with (refine wpList_store_row rfl 54 (.tmp 4) (.tmp 12) rfl (w.heap.size + 1) (outC none 0 0 false false 0) rfl rfl 54 _ HR1.out outInfo rfl (out_one ..) ?_)
    refine bodyPost_ret (results_row_tmp (P := Tryz.prog) (fn := Tryz.f10) rfl _ _ (w.heap.size + 1) 54 (outC none 0 0 false false 0) _ (by rfl) (setRow_heap _ _ _ _ _ _ HR1.out) Tryz.underlying54 (by rfl) outInfo) rfl ?_
    exact HFIN.out
/-- the window behind Mark -/
theorem JAt.mark (h : JAt w S bj bw b r t q T) {t' : Int} {q' : Nat} (hw : WinAt w' bw t' q') (ht : 0 ≤ t' ∧ t' < 4294967296) (hq : q' < 18446744073709551616) (ho : Off (fun k => k = bw) w w') : JAt w' S bj bw b r t' q' T := by
  have key : ∀ (g : Nat) (cs' : Array Value) (t' : TypeId), w.heap[g]? = some (.cells cs' t' (0, 0)) → 103 ≠ t' → ¬ g = bw := fun g cs' t' h1 h2 e => by
    have h3 : w.heap[bw]? = _ := h.win
    rw [e, h3] at h1
    injection h1 with h1
    injection h1 with _ h1
    exact h2 h1
  have hn := h.nw
  obtain ⟨m, A, n, cp, X, hT, e⟩ := h.tbl
  exact ⟨(ho.block bj h.size (key _ _ _ h.row (by decide))).trans h.row, hw, ht, hq, ⟨m, A, n, cp, X, hT.other (show w.heap[bw]? = _ from h.win) ⟨by decide, by decide, by decide, by decide⟩ ho, e⟩,
    fun g cs' tt' fz hg hs hfz => h.tys g cs' tt' fz ((ho.block g (h.lt g hs) fun e => hn (by rw [← e]; exact hs)).symm.trans hg) hs hfz, fun g hg => Nat.lt_of_lt_of_le (h.lt g hg) ho.size⟩
/-- what Done leaves -/
def JDoneR (w : World) (S : Nat → Prop) (bj bw b r : Nat) (t : Int) (q : Nat) (T : List Tb.Ms) (z : Int) (e : Ending) (w' : World) : Prop :=
  e = .returned (.int .i64 (Wn.look t q z)) ∧ TOff (fun p => S p ∨ p = bw) w w' ∧ ∃ S', JAt w' S' bj bw b r (if Wn.look t q z = 0 then Wn.nt t z else t) (if Wn.look t q z = 0 then Wn.nq t q z else q) (if Wn.look t q z = 0 then Tb.drop T z else T) ∧ ∀ p, S' p → S p
theorem jdone_any (h : JAt w S bj bw b r t q T) {z : Int} (hz : 0 ≤ z ∧ z ≤ 4294967295) : Calls Tryz.prog 13 #[.pointer (some ⟨bj, 0, none⟩), .int .u32 z] w (JDoneR w S bj bw b r t q T z) := by
  have KM := wMark_any h.win z h.top ⟨hz.1, by omega⟩ h.bits
  have hwx : w.heap[bw]? = _ := h.win
  have hone : ∀ w', Off (fun k => k = bw) w w' → TOff (fun p => S p ∨ p = bw) w w' := fun w' ho => TOff.one (S := fun p => S p ∨ p = bw) ho (.inr rfl) (fun cs e => by rw [hwx] at e; injection e with e; injection e with _ e _; exact absurd e (by decide)) (fun cs e => by rw [hwx] at e; injection e with e; injection e with _ e _; exact absurd e (by decide))
  have HONE := Lib.hid hone
  obtain ⟨c0, c1⟩ := h.cells
  have HJ := Lib.hid h
  have HZ := Lib.hid hz
  have HG : Hid (∀ e w', (e = .returned (.int .i64 (Wn.look t q z)) ∧ TOff (fun p => S p ∨ p = bw) w w' ∧ ∃ S', JAt w' S' bj bw b r (if Wn.look t q z = 0 then Wn.nt t z else t) (if Wn.look t q z = 0 then Wn.nq t q z else q) (if Wn.look t q z = 0 then Tb.drop T z else T) ∧ ∀ p, S' p → S p) → JDoneR w S bj bw b r t q T z e w') := Lib.hid fun e w' h => h
  generalize JDoneR w S bj bw b r t q T z = G at *
  obtain ⟨L, hL⟩ : ∃ L, Wn.look t q z = L := ⟨_, rfl⟩
  rw [hL] at KM HG
  have HL := Lib.hid hL
  clear h hz hone hwx hL
  go_enter Tryz.func13, Tryz.ntmps13
  go_wp2_with fail
  refine KM.mono ?_
  rintro e w1 ⟨rfl, hw1, ho1⟩
  by_cases h0 : L = 0
  · subst h0
    rw [if_pos rfl, if_pos rfl] at hw1
    simp only [if_true] at HG
    have hJ1 := HJ.out.mark hw1 (Wn.nt_lt HJ.out.top ⟨HZ.out.1, by have := HZ.out.2; omega⟩) (Wn.nq_lt HJ.out.bits HL.out) ho1
    have KD := jdrop_any hJ1 HZ.out
    have HO1 := Lib.hid ho1
    clear hw1 hJ1 KM c0 c1 ho1
    go_wp2_with fail
    refine KD.mono ?_
    rintro e w2 ⟨rfl, ho2, S', hJ2, hS2⟩
    have HFIN : Hid (G (.returned (.int .i64 0)) w2) := Lib.hid (HG.out _ _ ⟨rfl, TOff.trans (HONE.out _ HO1.out) ho2 fun _ _ h => .inl h, S', hJ2, hS2⟩)
    clear KD ho2 hJ2 HG HONE HJ HO1
    go_wp2
    exact HFIN.out
  · rw [if_neg h0, if_neg h0] at hw1
    have HFIN : Hid (G (.returned (.int .i64 L)) w1) := Lib.hid (HG.out _ _ ⟨rfl, HONE.out _ ho1, S, by rw [if_neg h0, if_neg h0, if_neg h0]; exact HJ.out.mark hw1 HJ.out.top HJ.out.bits ho1, fun _ h => h⟩)
    have h0' : (L == 0) = false := by simpa using h0
    clear hw1 KM c0 c1 HG HONE HJ ho1 h0
    go_wp2
    exact HFIN.out
end
end Go.Proofs.YtfdbcfkjablnkaaGreat

namespace Go.Proofs.YtfdbcfkjablnkaaGreat
open Go.RowKit
set_option maxRecDepth 100000

/-- two rows and a number as the results -/
theorem results_row_row_tmp {P : Program} {fn : Func} {p p2 s : Tmp} {ty ty2 : TypeId} (h : fn.results = #[.cell p ty, .cell p2 ty2, .tmp s]) (tmps : Array Value) (w : World) (g g2 : Nat) (t t2 : TypeId) (cs cs2 : Array Value) (d d2 : TypeDesc)
    (hp : tmps.getD p undef = .pointer (some ⟨g, 0, none⟩)) (hg : w.heap[g]? = some (.cells cs t (0, 0)))
    (hu : P.underlying ty = some d) (hd : (match d with | .struct _ | .array _ _ => true | _ => false) = true) (hi : (P.info? ty).map (·.size) = some cs.size)
    (hp2 : tmps.getD p2 undef = .pointer (some ⟨g2, 0, none⟩)) (hg2 : w.heap[g2]? = some (.cells cs2 t2 (0, 0)))
    (hu2 : P.underlying ty2 = some d2) (hd2 : (match d2 with | .struct _ | .array _ _ => true | _ => false) = true) (hi2 : (P.info? ty2).map (·.size) = some cs2.size) :
    (results fn tmps).run P w = .ok (.tuple #[.agg cs, .agg cs2, tmps.getD s undef]) w := by
  have hp' : tmps[p]?.getD undef = .pointer (some ⟨g, 0, none⟩) := by simpa using hp
  have hp2' : tmps[p2]?.getD undef = .pointer (some ⟨g2, 0, none⟩) := by simpa using hp2
  simp [results, h, hp', hp2', asAddr, run_loadVar_row w g t ty cs (0, 0) d hg hu hd hi, run_loadVar_row w g2 t2 ty2 cs2 (0, 0) d2 hg2 hu2 hd2 hi2]
/-- what Take answers -/
def DTakeR (Src : Fr → Prop) (w : World) (r : Nat) (t : Int) (q : Nat) (T : List Tb.Ms) (f : Fr) (e : Ending) (w' : World) : Prop :=
  Below w.heap.size w w' ∧ ∃ A n cp L Ab cb, e = .returned (.tuple #[.agg (jC t q r A n cp), outV Ab (jtake r t q T f).o.zs.length cb (jtake r t q T f).o.wh (jtake r t q T f).o.ev (jtake r t q T f).o.old, .int .i64 (jtake r t q T f).e]) ∧
    DocAt w' A n cp L ∧ (jtake r t q T f).T = L.map Ds.ms ∧ (jtake r t q T f).o.zs.length ≤ cb ∧ Nums .u8 w' w'.heap.size Ab (jtake r t q T f).o.zs ∧ SrcL Src L ∧ ∀ p, Ab = some p → w.heap.size ≤ p.block
theorem smj_out {w : World} {b : Nat} {A : Option Addr} {n cp : Nat} {wh ev : Bool} {old : Int} (h : w.heap[b]? = some (.cells (outC A n cp wh ev old) 47 (0, 0))) : Smj w (fun q => q = b) := by
  rintro g cs t' fz hg rfl
  rw [h] at hg
  injection hg with hg
  injection hg with e1 e2 e3
  subst e1 e2
  exact ⟨fun j z h => by rcases j with _ | _ | _ | _ | j <;> simp [outC] at h, by decide, by decide⟩
/-- the boxes that Take makes first: the joiner's, the frame's, the results' -/
structure Jt (w : World) (Cw : Array Value) (r : Nat) (A : Option Addr) (n cp : Nat) (Z : Array Value) (f : Fr) (W : World) : Prop where
  j : JdAt W w.heap.size Cw r A n cp
  f : W.heap[w.heap.size + 1]? = some (.cells f.cs 52 (0, 0))
  rj : W.heap[w.heap.size + 2]? = some (.cells Z 36 (0, 0))
  ro : W.heap[w.heap.size + 3]? = some (.cells (outC none 0 0 false false 0) 47 (0, 0))
  below : Below w.heap.size w W
section
variable {w W W' : World} {Cw Z : Array Value} {r n cp : Nat} {A : Option Addr} {f : Fr}
theorem Jt.later (h : Jt w Cw r A n cp Z f W) (hb : Below W.heap.size W W') : Jt w Cw r A n cp Z f W' :=
  ⟨h.j.below hb, row_keep h.f hb, row_keep h.rj hb, row_keep h.ro hb, h.below.trans (hb.mono h.below.size)⟩
theorem Jt.start (hw : (((w.alloc (.cells (jCw Cw r A n cp) 36)).alloc (.cells f.cs 52)).alloc (.cells Z 36)).alloc (.cells (outC none 0 0 false false 0) 47) = W) : Jt w Cw r A n cp Z f W ∧ W.heap.size = w.heap.size + 4 := by
  obtain ⟨W2, hW2⟩ : ∃ W2, (w.alloc (.cells (jCw Cw r A n cp) 36)).alloc (.cells f.cs 52) = W2 := ⟨_, rfl⟩
  have hs2 : W2.heap.size = w.heap.size + 2 := by rw [← hW2]; simp
  have h1 : W2.heap[w.heap.size]? = some (.cells (jCw Cw r A n cp) 36 (0, 0)) := by rw [← hW2]; exact heap_alloc2_old w _ _
  have h2 : W2.heap[w.heap.size + 1]? = some (.cells f.cs 52 (0, 0)) := by rw [← hW2]; exact heap_alloc2_new w _ _
  have hb2 : Below w.heap.size w W2 := by rw [← hW2]; exact ((Below.refl _ w).alloc (Nat.le_refl _) _).alloc (by simp) _
  rw [hW2] at hw
  subst hw
  have hb : Below W2.heap.size W2 ((W2.alloc (.cells Z 36)).alloc (.cells (outC none 0 0 false false 0) 47)) := ((Below.refl _ W2).alloc (Nat.le_refl _) _).alloc (by simp) _
  have h3 := heap_alloc2_old W2 (.cells Z 36) (.cells (outC none 0 0 false false 0) 47)
  have h4 := heap_alloc2_new W2 (.cells Z 36) (.cells (outC none 0 0 false false 0) 47)
  rw [hs2] at h3 h4
  exact ⟨⟨row_keep h1 hb, row_keep h2 hb, h3, h4, hb2.trans (hb.mono hb2.size)⟩, by simp [hs2]⟩
/-- the end: both results are stored -/
theorem Jt.fin {L : List Ds} {Ab : Option Addr} {cb k : Nat} {zs : List Int} {wh ev : Bool} {old : Int} (h : Jt w Cw r A n cp Z f W) (hs : Cw.size = 65) (h1 : Cw.all (·.oneCell') = true) (_hu : ∀ (r : Nat) (A : Option Addr) (n cp j : Nat) (z : Int), (jCw Cw r A n cp)[j]? ≠ some (.int .u8 z)) (hz : Z.size = 67) (hzu : ∀ (j : Nat) (z : Int), Z[j]? ≠ some (.int .u8 z))
    (hd : DocAt W A n cp L) (hn : Nums .u8 W W.heap.size Ab zs) :
    ((Instr.storeAt 36 (.pointer (some ⟨w.heap.size + 2, 0, none⟩)) (.agg (jCw Cw r A n cp))).run Tryz.prog W = .ok () (W.setRow (w.heap.size + 2) (jCw Cw r A n cp))) ∧
    ((Instr.storeAt 47 (.pointer (some ⟨w.heap.size + 3, 0, none⟩)) (.agg (outC Ab k cb wh ev old))).run Tryz.prog (W.setRow (w.heap.size + 2) (jCw Cw r A n cp)) = .ok () ((W.setRow (w.heap.size + 2) (jCw Cw r A n cp)).setRow (w.heap.size + 3) (outC Ab k cb wh ev old))) ∧
    ((W.setRow (w.heap.size + 2) (jCw Cw r A n cp)).setRow (w.heap.size + 3) (outC Ab k cb wh ev old)).heap[w.heap.size + 2]? = some (.cells (jCw Cw r A n cp) 36 (0, 0)) ∧
    ((W.setRow (w.heap.size + 2) (jCw Cw r A n cp)).setRow (w.heap.size + 3) (outC Ab k cb wh ev old)).heap[w.heap.size + 3]? = some (.cells (outC Ab k cb wh ev old) 47 (0, 0)) ∧
    Below w.heap.size w ((W.setRow (w.heap.size + 2) (jCw Cw r A n cp)).setRow (w.heap.size + 3) (outC Ab k cb wh ev old)) ∧
    DocAt ((W.setRow (w.heap.size + 2) (jCw Cw r A n cp)).setRow (w.heap.size + 3) (outC Ab k cb wh ev old)) A n cp L ∧
    Nums .u8 ((W.setRow (w.heap.size + 2) (jCw Cw r A n cp)).setRow (w.heap.size + 3) (outC Ab k cb wh ev old)) ((W.setRow (w.heap.size + 2) (jCw Cw r A n cp)).setRow (w.heap.size + 3) (outC Ab k cb wh ev old)).heap.size Ab zs := by
  have hro1 : (W.setRow (w.heap.size + 2) (jCw Cw r A n cp)).heap[w.heap.size + 3]? = some (.cells (outC none 0 0 false false 0) 47 (0, 0)) := (setRow_other _ _ _ _ (by omega)).trans h.ro
  have hrj1 := setRow_heap W (w.heap.size + 2) _ (jCw Cw r A n cp) _ _ h.rj
  have o1 : Off (fun q => q = w.heap.size + 2) W (W.setRow (w.heap.size + 2) (jCw Cw r A n cp)) := Off.setRow (S := fun q => q = w.heap.size + 2) (Off.refl _ _) rfl _
  have o2 : Off (fun q => q = w.heap.size + 3) (W.setRow (w.heap.size + 2) (jCw Cw r A n cp)) ((W.setRow (w.heap.size + 2) (jCw Cw r A n cp)).setRow (w.heap.size + 3) (outC Ab k cb wh ev old)) := Off.setRow (S := fun q => q = w.heap.size + 3) (Off.refl _ _) rfl _
  refine ⟨jd_store h.rj hz (jCw_size hs) (jCw_one h1), run_storeVar_rowO hro1, (setRow_other _ _ _ _ (by omega)).trans hrj1, setRow_heap _ _ _ _ _ _ hro1, setRow_new (setRow_new h.below (by omega) _) (by omega) _, (hd.smj o1 (smj_row h.rj hzu)).smj o2 (smj_out hro1), nums_smj (nums_smj hn o1 rfl (smj_row h.rj hzu)) o2 rfl (smj_out hro1)⟩
end
set_option maxHeartbeats 16000000 in
theorem jdtake_any {w : World} {A : Option Addr} {n cp : Nat} {L : List Ds} (h : DocAt w A n cp L) (hk : (L.map Ds.s).Nodup) (r : Nat) (hr1 : 1 ≤ r) (hnr : n ≤ r) (hr2 : r ≤ 16) {t : Int} {q : Nat} (ht : 0 ≤ t ∧ t < 4294967296) (f : Fr) (hf : f.At w w.heap.size) (hfl : f.zs.length ≤ 250) (Src : Fr → Prop) (hsr : SrcL Src L) (hsf : Src f) :
    Calls Tryz.prog 8 #[.agg (jC t q r A n cp), frV f.v f.k f.s f.i f.c (.slice f.a f.zs.length f.cp)] w (DTakeR Src w r t q (L.map Ds.ms) f) := by
  obtain ⟨hzj, hzji⟩ := zero_of_info (P := Tryz.prog) jdZero
  have hzjs : (jCw (wC 0 (fun _ => false)) 0 none 0 0).size = 67 := jCw_size (wC_size _ _)
  have hzju : ∀ (j : Nat) (z : Int), (jCw (wC 0 (fun _ => false)) 0 none 0 0)[j]? ≠ some (.int .u8 z) := fun j z => jC_u8
  generalize jCw (wC 0 (fun _ => false)) 0 none 0 0 = Z at *
  have HZS := Lib.hid hzjs
  have HZU := Lib.hid hzju
  have KL := Lib.hid (fun W => rlook_any t q f.s ht ⟨hf.s0, by have := hf.s1; omega⟩ W)
  have KC := Lib.hid (fun W => rcheck_any f.v f.k f.s f.i f.c W)
  have HEND : Hid (∀ e w', (Below w.heap.size w w' ∧ ∃ A n cp L' Ab cb, e = .returned (.tuple #[.agg (jC t q r A n cp), outV Ab (jtake r t q (L.map Ds.ms) f).o.zs.length cb (jtake r t q (L.map Ds.ms) f).o.wh (jtake r t q (L.map Ds.ms) f).o.ev (jtake r t q (L.map Ds.ms) f).o.old, .int .i64 (jtake r t q (L.map Ds.ms) f).e]) ∧
    DocAt w' A n cp L' ∧ (jtake r t q (L.map Ds.ms) f).T = L'.map Ds.ms ∧ (jtake r t q (L.map Ds.ms) f).o.zs.length ≤ cb ∧ Nums .u8 w' w'.heap.size Ab (jtake r t q (L.map Ds.ms) f).o.zs ∧ SrcL Src L' ∧ ∀ p, Ab = some p → w.heap.size ≤ p.block) → DTakeR Src w r t q (L.map Ds.ms) f e w') := Lib.hid fun e w' h => h
  generalize DTakeR Src w r t q (L.map Ds.ms) f = G at *
  obtain ⟨R, hR⟩ : ∃ R, jtake r t q (L.map Ds.ms) f = R := ⟨_, rfl⟩
  have hRj : R = (if jwhy t q f ≠ 0 then ⟨jwhy t q f, L.map Ds.ms, .no⟩ else Tb.put r (L.map Ds.ms) f) := by rw [← hR]; rfl
  have hwhy : jwhy t q f = if chk f.v f.k f.i f.c ≠ 0 then chk f.v f.k f.i f.c else Wn.look t q f.s := rfl
  rw [hR] at HEND
  have HRJ := Lib.hid hRj
  have HWHY := Lib.hid hwhy
  clear hzjs hzju hzji hR hRj hwhy
  unfold jC refV at *
  have hcs := wC_size t q.testBit
  have hc1 := wC_one t q.testBit
  have hcu : ∀ (r : Nat) (A : Option Addr) (n cp j : Nat) (z : Int), (jCw (wC t q.testBit) r A n cp)[j]? ≠ some (.int .u8 z) := fun r A n cp j z => jC_u8
  generalize wC t q.testBit = Cw at *
  generalize Wn.look t q f.s = K at *
  obtain ⟨w1, hw1⟩ : ∃ w1, (((w.alloc (.cells (jCw Cw r A n cp) 36)).alloc (.cells f.cs 52)).alloc (.cells Z 36)).alloc (.cells (outC none 0 0 false false 0) 47) = w1 := ⟨_, rfl⟩
  obtain ⟨hJ1, hs1⟩ := Jt.start hw1
  obtain ⟨d0, d1, d2, d3, d4, d5⟩ := fr_block (v := f.v) (k := f.k) (s := f.s) (i := f.i) (c := f.c) hJ1.f
  have HD := Lib.hid h
  have HKK := Lib.hid hk
  have HF := Lib.hid hf
  have HSR := Lib.hid hsr
  have HSF := Lib.hid hsf
  have HCS := Lib.hid hcs
  have HC1 := Lib.hid hc1
  have HCU := Lib.hid hcu
  have HJ1 := Lib.hid hJ1
  have HFL := Lib.hid hfl
  unfold hdV at KC
  unfold frV at *
  simp only [Fr.cs, frC, outC] at hw1
  have HW1 := Lib.hid hw1
  clear h hk hf hsr hsf hcs hc1 hcu hJ1 hw1 hfl
  simp only [frC]
  generalize hCj : jCw Cw r A n cp = Cj at HW1 ⊢
  have HCJ := Lib.hid hCj
  clear hCj
  go_enter Tryz.func8, Tryz.ntmps8
  go_wp2_with fail
  rw [HW1.out]
  refine (KC.out w1).mono ?_
  rintro e w2 ⟨rfl, hb2⟩
  have HJ2 := Lib.hid (HJ1.out.later hb2)
  have HCI : Hid ((Tryz.prog.info? 36).map (·.size) = some Cj.size) := by show _ = _; rw [← HCJ.out, jCw_size HCS.out]; exact jdInfo
  have HNO : Hid (∀ (E : Int) (V : World), R = ⟨E, L.map Ds.ms, .no⟩ → Jt w Cw r A n cp Z f V →
      ((Instr.storeAt 36 (.pointer (some ⟨w.heap.size + 2, 0, none⟩)) (.agg Cj)).run Tryz.prog V = .ok () (V.setRow (w.heap.size + 2) Cj)) ∧
      ((Instr.storeAt 47 (.pointer (some ⟨w.heap.size + 3, 0, none⟩)) (.agg (outC none 0 0 false false 0))).run Tryz.prog (V.setRow (w.heap.size + 2) Cj) = .ok () ((V.setRow (w.heap.size + 2) Cj).setRow (w.heap.size + 3) (outC none 0 0 false false 0))) ∧
      ((V.setRow (w.heap.size + 2) Cj).setRow (w.heap.size + 3) (outC none 0 0 false false 0)).heap[w.heap.size + 2]? = some (.cells Cj 36 (0, 0)) ∧
      ((V.setRow (w.heap.size + 2) Cj).setRow (w.heap.size + 3) (outC none 0 0 false false 0)).heap[w.heap.size + 3]? = some (.cells (outC none 0 0 false false 0) 47 (0, 0)) ∧
      G (.returned (.tuple #[.agg Cj, .agg (outC none 0 0 false false 0), .int .i64 E])) ((V.setRow (w.heap.size + 2) Cj).setRow (w.heap.size + 3) (outC none 0 0 false false 0))) := Lib.hid fun E V hE hV => by
    obtain ⟨f1, f2, f3, f4, f5, f6, f7⟩ := hV.fin (Ab := none) (cb := 0) (k := 0) (zs := []) (wh := false) (ev := false) (old := 0) HCS.out HC1.out HCU.out HZS.out HZU.out (HD.out.below hV.below) Nums.nil
    rw [HCJ.out] at f1 f2 f3 f4 f5 f6 f7
    refine ⟨f1, f2, f3, f4, HEND.out _ _ ⟨f5, A, n, cp, L, none, 0, ?_, f6, ?_, ?_, ?_, HSR.out, fun p hp => (by cases hp)⟩⟩
    · rw [HCJ.out, hE]; rfl
    · rw [hE]
    · rw [hE]; exact Nat.le_refl _
    · rw [hE]; exact Nums.nil
  have hs2 : w.heap.size + 4 ≤ w2.heap.size := by have := hb2.size; omega
  clear hb2 d0 d1 d2 d3 d4 d5 HW1 HJ1
  obtain ⟨E, hE⟩ : ∃ E, chk f.v f.k f.i f.c = E := ⟨_, rfl⟩
  rw [hE] at KC HWHY ⊢
  by_cases hc : E = 0
  · have HLW := Lib.hid (HJ2.out.j.loadW HCS.out)
    obtain ⟨d0, d1, d2, d3, d4, d5⟩ := fr_block (v := f.v) (k := f.k) (s := f.s) (i := f.i) (c := f.c) HJ2.out.f
    subst hc
    clear hE
    go_wp2_with (first | (refine wpList_load_run rfl 31 (.tmp 19) rfl (some ⟨w.heap.size, 0, none⟩) rfl (.agg Cw) HLW.out ?_))
    refine (KL.out w2).mono ?_
    rintro e w3 ⟨rfl, hb3⟩
    have HJ3 := Lib.hid (HJ2.out.later hb3)
    have hs3 : w.heap.size + 4 ≤ w3.heap.size := by have := hb3.size; omega
    have HWK : Hid (jwhy t q f = K) := Lib.hid (by rw [HWHY.out]; exact if_neg (by simp))
    clear HJ2 HLW hb3 d0 d1 d2 d3 d4 d5 hs2 HWHY
    by_cases hK : K = 0
    · have HRP : Hid (Tb.put r (L.map Ds.ms) f = R) := Lib.hid (by rw [HRJ.out, HWK.out, hK]; exact (if_neg (by simp)).symm)
      subst hK
      have HLT := Lib.hid (HJ3.out.j.loadT HCS.out)
      obtain ⟨d0, d1, d2, d3, d4, d5⟩ := fr_block (v := f.v) (k := f.k) (s := f.s) (i := f.i) (c := f.c) HJ3.out.f
      have KP := dput_any (HD.out.below HJ3.out.below) HKK.out r hr1 hnr hr2 f ((HF.out.below HJ3.out.below).mono HJ3.out.below.size) HFL.out Src HSR.out HSF.out
      unfold docV at HLT KP
      unfold frV at KP
      simp only [frC] at KP
      have HKP := Lib.hid KP
      clear KP KL KC HNO HRJ HWK
      go_wp2_with (first | (refine wpList_load_run rfl 34 (.tmp 35) rfl (some ⟨w.heap.size, 65, none⟩) rfl _ HLT.out ?_))
      refine HKP.out.mono ?_
      rintro e w4 ⟨hb4, A', n', cp', L', Ab, cb, rfl, hd4, hT4, hcb, hn4, hsr4, hnew⟩
      rw [HRP.out] at hT4 hcb hn4 ⊢
      have HJ4 := Lib.hid (HJ3.out.later hb4)
      have HD4 := Lib.hid hd4
      have HT4 := Lib.hid hT4
      have HCB := Lib.hid hcb
      have HN4 := Lib.hid hn4
      have HSR4 := Lib.hid hsr4
      have HNEW := Lib.hid hnew
      clear hb4 hd4 hT4 hcb hn4 hsr4 hnew HKP HLT d0 d1 d2 d3 d4 d5 HJ3
      have hs4 : w.heap.size + 4 ≤ w4.heap.size := by have := HJ4.out.below.size; have := (Array.getElem?_eq_some_iff.1 HJ4.out.ro).1; omega
      obtain ⟨zs, hzs⟩ : ∃ zs, R.o.zs = zs := ⟨_, rfl⟩
      obtain ⟨wh, hwh⟩ : ∃ wh, R.o.wh = wh := ⟨_, rfl⟩
      obtain ⟨ev, hev⟩ : ∃ ev, R.o.ev = ev := ⟨_, rfl⟩
      obtain ⟨old, hold⟩ : ∃ old, R.o.old = old := ⟨_, rfl⟩
      obtain ⟨er, her⟩ : ∃ er, R.e = er := ⟨_, rfl⟩
      obtain ⟨w5, hw5⟩ : ∃ w5, (w4.alloc (.cells #[.int .i64 (r : Int), .slice A' n' cp'] 34)).alloc (.cells (outC Ab zs.length cb wh ev old) 47) = w5 := ⟨_, rfl⟩
      have hb45 : Below w4.heap.size w4 w5 := by rw [← hw5]; exact ((Below.refl _ w4).alloc (Nat.le_refl _) _).alloc (by simp) _
      have hxo5 : w5.heap[w4.heap.size + 1]? = some (.cells (outC Ab zs.length cb wh ev old) 47 (0, 0)) := by rw [← hw5]; exact heap_alloc2_new w4 _ _
      have hJ5 := HJ4.out.later hb45
      obtain ⟨w6, hw6⟩ : ∃ w6, w5.setRow w.heap.size (jCw Cw r A' n' cp') = w6 := ⟨_, rfl⟩
      have hst6 := hJ5.j.storeT (r' := r) (A' := A') (n' := n') (cp' := cp') HCS.out
      have ho6 : Off (fun q => q = w.heap.size) w5 w6 := by rw [← hw6]; exact Off.setRow (S := fun q => q = w.heap.size) (Off.refl _ w5) rfl _
      have hsm5 : Smj w5 (fun q => q = w.heap.size) := smj_row hJ5.j (fun j z => HCU.out _ _ _ _ j z)
      have hd6 := (HD4.out.below hb45).smj ho6 hsm5
      have hn6 := nums_smj ((HN4.out.below hb45).mono hb45.size) ho6 rfl hsm5
      have hxo6 : w6.heap[w4.heap.size + 1]? = some (.cells (outC Ab zs.length cb wh ev old) 47 (0, 0)) := by rw [← hw6]; exact (setRow_other _ _ _ _ (by omega)).trans hxo5
      have hJ6 : Jt w Cw r A' n' cp' Z f w6 := ⟨by rw [← hw6]; exact jd_set hJ5.j, by rw [← hw6]; exact (setRow_other _ _ _ _ (by omega)).trans hJ5.f, by rw [← hw6]; exact (setRow_other _ _ _ _ (by omega)).trans hJ5.rj, by rw [← hw6]; exact (setRow_other _ _ _ _ (by omega)).trans hJ5.ro, by rw [← hw6]; exact setRow_new hJ5.below (Nat.le_refl _) _⟩
      rw [hw6] at hst6
      rw [hzs] at hn6
      have HJ6 := Lib.hid hJ6
      have HD6 := Lib.hid hd6
      have HN6 := Lib.hid hn6
      have HXO := Lib.hid hxo6
      have HST6 := Lib.hid hst6
      obtain ⟨Cf, hCf⟩ : ∃ Cf, jCw Cw r A' n' cp' = Cf := ⟨_, rfl⟩
      have HCF := Lib.hid hCf
      have HCI2 : Hid ((Tryz.prog.info? 36).map (·.size) = some Cf.size) := by show _ = _; rw [← hCf, jCw_size HCS.out]; exact jdInfo
      have HFV : Hid (∀ (V : World), Below w6.heap.size w6 V →
          ((Instr.storeAt 36 (.pointer (some ⟨w.heap.size + 2, 0, none⟩)) (.agg Cf)).run Tryz.prog V = .ok () (V.setRow (w.heap.size + 2) Cf)) ∧
          ((Instr.storeAt 47 (.pointer (some ⟨w.heap.size + 3, 0, none⟩)) (.agg (outC Ab zs.length cb wh ev old))).run Tryz.prog (V.setRow (w.heap.size + 2) Cf) = .ok () ((V.setRow (w.heap.size + 2) Cf).setRow (w.heap.size + 3) (outC Ab zs.length cb wh ev old))) ∧
          ((V.setRow (w.heap.size + 2) Cf).setRow (w.heap.size + 3) (outC Ab zs.length cb wh ev old)).heap[w.heap.size + 2]? = some (.cells Cf 36 (0, 0)) ∧
          ((V.setRow (w.heap.size + 2) Cf).setRow (w.heap.size + 3) (outC Ab zs.length cb wh ev old)).heap[w.heap.size + 3]? = some (.cells (outC Ab zs.length cb wh ev old) 47 (0, 0)) ∧
          G (.returned (.tuple #[.agg Cf, .agg (outC Ab zs.length cb wh ev old), .int .i64 er])) ((V.setRow (w.heap.size + 2) Cf).setRow (w.heap.size + 3) (outC Ab zs.length cb wh ev old))) := Lib.hid fun V hV => by
        obtain ⟨f1, f2, f3, f4, f5, f6, f7⟩ := (HJ6.out.later hV).fin (Ab := Ab) (cb := cb) (k := zs.length) (zs := zs) (wh := wh) (ev := ev) (old := old) HCS.out HC1.out HCU.out HZS.out HZU.out (HD6.out.below hV) ((HN6.out.below hV).mono hV.size)
        rw [HCF.out] at f1 f2 f3 f4 f5 f6 f7
        refine ⟨f1, f2, f3, f4, HEND.out _ _ ⟨f5, A', n', cp', L', Ab, cb, ?_, f6, HT4.out, HCB.out, by rw [hzs]; exact f7, HSR4.out, fun p hp => ?_⟩⟩
        · rw [HCF.out, hzs, hwh, hev, hold, her]; rfl
        · have := HNEW.out p hp; have := HJ4.out.below.size; omega
      have hw5' : Hid ((w4.alloc (.cells #[.int .i64 (r : Int), .slice A' n' cp'] 34)).alloc (.cells #[.slice Ab zs.length cb, .bool wh, .bool ev, .int .u32 old] 47) = w5) := Lib.hid hw5
      clear hb45 hxo5 hJ5 hw6 hst6 ho6 hsm5 hd6 hn6 hxo6 hJ6 hCf hw5
      rw [hzs, hwh, hev, hold, her]
      unfold docV at HST6
      unfold docV outV
      simp only [outC]
      generalize zs.length = zl at *
      go_wp2_with (rw [hw5'.out]; refine wpList_store_run rfl 34 (.tmp 43) (.tmp 42) rfl (some ⟨w.heap.size, 65, none⟩) rfl _ rfl HST6.out ?_)
      refine wp_region_order6 (0 :: 1 :: 2 :: 3 :: 4 :: 5 :: []) (fun V => JdAt V w.heap.size Cw r A' n' cp' ∧ V.heap[w4.heap.size + 1]? = some (.cells (outC Ab zl cb wh ev old) 47 (0, 0)))
        (C := fun V => Below w6.heap.size w6 V) (by kernel_rfl) (by kernel_rfl) (Below.refl _ _).drew (fun V hV => ⟨(HJ6.out.later hV).j, row_keep HXO.out hV⟩) ?_
      refine wpO6_load (ad := ⟨w.heap.size, 0, none⟩) (.agg Cf) rfl rfl rfl (by rfl) (fun V hV => by have := hV.1.load HCS.out; rwa [HCF.out] at this) ?_
      simp only [Act.put, List.setIfInBounds_toArray, List.set_cons_succ, List.set_cons_zero]
      refine wpO6_load (ad := ⟨w4.heap.size + 1, 0, none⟩) (.agg #[.slice Ab zl cb, .bool wh, .bool ev, .int .u32 old]) rfl rfl rfl (by rfl) (fun V hV => ?_) ?_
      · obtain ⟨k0, k1, k2, k3⟩ := out_block hV.2
        simp [Instr.loadAt, go_sem, k0, k1, k2, k3]
      simp only [Act.put, List.setIfInBounds_toArray, List.set_cons_succ, List.set_cons_zero]
      refine wpO6_pure rfl rfl ?_
      go_big_quiet_step (fail)
      refine wpQuiet_nil ?_
      refine wpO6_store (fun V' => ∃ V, Below w6.heap.size w6 V ∧ V' = V.setRow (w.heap.size + 2) Cf) rfl rfl rfl rfl ⟨w.heap.size + 2, 0, none⟩ (.agg Cf) (by rfl) (by rfl) ?_ (fun V hV => ?_) ?_
      · rintro V' ⟨V, hV, rfl⟩
        exact ⟨(setRow_other _ _ _ _ (by omega)).trans (HJ6.out.later hV).j, (setRow_other _ _ _ _ (by omega)).trans (row_keep HXO.out hV)⟩
      · exact ⟨_, (HFV.out V hV).1, V, hV, rfl⟩
      refine wpO6_store (fun V' => ∃ V, Below w6.heap.size w6 V ∧ V' = (V.setRow (w.heap.size + 2) Cf).setRow (w.heap.size + 3) (outC Ab zl cb wh ev old)) rfl rfl rfl rfl ⟨w.heap.size + 3, 0, none⟩ (.agg (outC Ab zl cb wh ev old)) (by rfl) (by rfl) ?_ ?_ ?_
      · rintro V' ⟨V, hV, rfl⟩
        exact ⟨(setRow_other _ _ _ _ (by omega)).trans ((setRow_other _ _ _ _ (by omega)).trans (HJ6.out.later hV).j), (setRow_other _ _ _ _ (by omega)).trans ((setRow_other _ _ _ _ (by omega)).trans (row_keep HXO.out hV))⟩
      · rintro V' ⟨V, hV, rfl⟩
        exact ⟨_, (HFV.out V hV).2.1, V, hV, rfl⟩
      refine wpO6_pure rfl rfl ?_
      go_big_quiet_step (fail)
      refine wpQuiet_nil ?_
      rintro wz ⟨wy, hby, rfl⟩
      obtain ⟨_, _, x2, x3, hG⟩ := HFV.out wy hby
      have HX2 := Lib.hid x2
      have HX3 := Lib.hid x3
      have HG := Lib.hid hG
      clear x2 x3 hG hby HFV
      generalize (wy.setRow (w.heap.size + 2) Cf).setRow (w.heap.size + 3) (outC Ab zl cb wh ev old) = wf at *
      go_wp2_with fail
      refine bodyPost_ret (results_row_row_tmp (P := Tryz.prog) (fn := Tryz.f8) rfl _ _ (w.heap.size + 2) (w.heap.size + 3) 36 47 Cf (outC Ab zl cb wh ev old) _ _ (by rfl) HX2.out Tryz.underlying36 (by rfl) HCI2.out (by rfl) HX3.out Tryz.underlying47 (by rfl) soInfo) rfl ?_
      exact HG.out
    · have hK' : (K != 0) = true := by simpa using hK
      have HRE : Hid (R = ⟨K, L.map Ds.ms, .no⟩) := Lib.hid (by rw [HRJ.out, HWK.out]; exact if_pos hK)
      clear hK
      have HNOE := Lib.hid (fun V (hV : Below w3.heap.size w3 V) => HNO.out K V HRE.out (HJ3.out.later hV))
      go_wp2_with (first | fail | (refine wpList_load_run rfl 31 (.tmp 19) rfl (some ⟨w.heap.size, 0, none⟩) rfl (.agg Cw) HLW.out ?_))
      refine wp_region_order6 (1 :: 0 :: 2 :: 3 :: 4 :: 5 :: 6 :: 7 :: 8 :: 9 :: 10 :: []) (fun V => JdAt V w.heap.size Cw r A n cp ∧ V.heap[w.heap.size + 1]? = some (.cells f.cs 52 (0, 0)))
        (C := fun V => Below w3.heap.size w3 V) (by kernel_rfl) (by kernel_rfl) (Below.refl _ _).drew (fun V hV => ⟨(HJ3.out.later hV).j, (HJ3.out.later hV).f⟩) ?_
      refine wpO6_build (.agg #[.slice none 0 0, .bool false, .bool false, .int .u32 0]) rfl rfl rfl (fun V _ => by kernel_rfl) ?_
      simp only [Act.put, List.setIfInBounds_toArray, List.set_cons_succ, List.set_cons_zero]
      refine wpO6_load (ad := ⟨w.heap.size, 0, none⟩) (.agg Cj) rfl rfl rfl (by rfl) (fun V hV => by have := hV.1.load HCS.out; rwa [HCJ.out] at this) ?_
      simp only [Act.put, List.setIfInBounds_toArray, List.set_cons_succ, List.set_cons_zero]
      refine wpO6_pure rfl rfl ?_
      go_big_quiet_step (fail)
      refine wpQuiet_nil ?_
      refine wpO6_load (ad := ⟨w.heap.size, 0, none⟩) (.agg Cw) rfl rfl rfl (by rfl) (fun V hV => hV.1.loadW HCS.out) ?_
      simp only [Act.put, List.setIfInBounds_toArray, List.set_cons_succ, List.set_cons_zero]
      refine wpO6_pure rfl rfl ?_
      go_big_quiet_step (fail)
      refine wpQuiet_nil ?_
      refine wpO6_pure rfl rfl ?_
      go_big_quiet_step (fail)
      refine wpQuiet_nil ?_
      refine wpO6_load (ad := ⟨w.heap.size + 1, 2, none⟩) (.int .u32 f.s) rfl rfl rfl (by rfl) (fun V hV => ?_) ?_
      · obtain ⟨d0, d1, d2, d3, d4, d5⟩ := fr_block (v := f.v) (k := f.k) (s := f.s) (i := f.i) (c := f.c) hV.2
        simp [Instr.loadAt, go_sem, d2]
      simp only [Act.put, List.setIfInBounds_toArray, List.set_cons_succ, List.set_cons_zero]
      refine wpO6_call (fun v => v = .int .i64 K) (fun _ V => Below w3.heap.size w3 V) (f := 22) (args := #[.agg Cw, .int .u32 f.s]) rfl rfl rfl (fun _ V hV => ⟨(HJ3.out.later hV).j, (HJ3.out.later hV).f⟩) (fun V => by first | rfl | (simp [go_sem]; done)) (fun V hV => (KL.out V).mono fun e W' h => ⟨_, h.1, rfl, hV.trans (h.2.mono hV.size)⟩) ?_
      rintro v rfl
      simp only [Act.put, List.setIfInBounds_toArray, List.set_cons_succ, List.set_cons_zero]
      refine wpO6_store (fun V' => ∃ V, Below w3.heap.size w3 V ∧ V' = V.setRow (w.heap.size + 2) Cj) rfl rfl rfl rfl ⟨w.heap.size + 2, 0, none⟩ (.agg Cj) (by rfl) (by rfl) ?_ (fun V hV => ?_) ?_
      · rintro V' ⟨V, hV, rfl⟩
        exact ⟨(setRow_other _ _ _ _ (by omega)).trans (HJ3.out.later hV).j, (setRow_other _ _ _ _ (by omega)).trans (HJ3.out.later hV).f⟩
      · exact ⟨_, (HNOE.out V hV).1, V, hV, rfl⟩
      refine wpO6_store (fun V' => ∃ V, Below w3.heap.size w3 V ∧ V' = (V.setRow (w.heap.size + 2) Cj).setRow (w.heap.size + 3) (outC none 0 0 false false 0)) rfl rfl rfl rfl ⟨w.heap.size + 3, 0, none⟩ (.agg (outC none 0 0 false false 0)) (by rfl) (by rfl) ?_ ?_ ?_
      · rintro V' ⟨V, hV, rfl⟩
        exact ⟨(setRow_other _ _ _ _ (by omega)).trans ((setRow_other _ _ _ _ (by omega)).trans (HJ3.out.later hV).j), (setRow_other _ _ _ _ (by omega)).trans ((setRow_other _ _ _ _ (by omega)).trans (HJ3.out.later hV).f)⟩
      · rintro V' ⟨V, hV, rfl⟩
        exact ⟨_, (HNOE.out V hV).2.1, V, hV, rfl⟩
      refine wpO6_pure rfl rfl ?_
      go_big_quiet_step (fail)
      refine wpQuiet_nil ?_
      rintro wz ⟨wy, hby, rfl⟩
      obtain ⟨_, _, x2, x3, hG⟩ := HNOE.out wy hby
      have HX2 := Lib.hid x2
      have HX3 := Lib.hid x3
      have HG := Lib.hid hG
      clear x2 x3 hG hby HNOE
      generalize (wy.setRow (w.heap.size + 2) Cj).setRow (w.heap.size + 3) (outC none 0 0 false false 0) = wf at *
      go_wp2_with fail
      refine bodyPost_ret (results_row_row_tmp (P := Tryz.prog) (fn := Tryz.f8) rfl _ _ (w.heap.size + 2) (w.heap.size + 3) 36 47 Cj (outC none 0 0 false false 0) _ _ (by rfl) HX2.out Tryz.underlying36 (by rfl) HCI.out (by rfl) HX3.out Tryz.underlying47 (by rfl) soInfo) rfl ?_
      exact HG.out
  · have hc' : (E != 0) = true := by simpa using hc
    have HRE : Hid (R = ⟨E, L.map Ds.ms, .no⟩) := Lib.hid (by rw [HRJ.out, HWHY.out, if_pos hc]; exact if_pos hc)
    clear hc
    have HNOE := Lib.hid (fun V (hV : Below w2.heap.size w2 V) => HNO.out E V HRE.out (HJ2.out.later hV))
    go_wp2_with (first | fail)
    refine wp_region_order6 (1 :: 0 :: 2 :: 3 :: 4 :: 5 :: 6 :: 7 :: []) (fun V => JdAt V w.heap.size Cw r A n cp ∧ V.heap[w.heap.size + 1]? = some (.cells f.cs 52 (0, 0)))
      (C := fun V => Below w2.heap.size w2 V) (by kernel_rfl) (by kernel_rfl) (Below.refl _ _).drew (fun V hV => ⟨(HJ2.out.later hV).j, (HJ2.out.later hV).f⟩) ?_
    refine wpO6_build (.agg #[.slice none 0 0, .bool false, .bool false, .int .u32 0]) rfl rfl rfl (fun V _ => by kernel_rfl) ?_
    simp only [Act.put, List.setIfInBounds_toArray, List.set_cons_succ, List.set_cons_zero]
    refine wpO6_load (ad := ⟨w.heap.size, 0, none⟩) (.agg Cj) rfl rfl rfl (by rfl) (fun V hV => by have := hV.1.load HCS.out; rwa [HCJ.out] at this) ?_
    simp only [Act.put, List.setIfInBounds_toArray, List.set_cons_succ, List.set_cons_zero]
    refine wpO6_pure rfl rfl ?_
    go_big_quiet_step (fail)
    refine wpQuiet_nil ?_
    refine wpO6_load (ad := ⟨w.heap.size + 1, 0, none⟩) (.agg #[.int .i64 f.v, .int .i64 f.k, .int .u32 f.s, .int .i64 f.i, .int .i64 f.c]) rfl rfl rfl (by rfl) (fun V hV => ?_) ?_
    · obtain ⟨d0, d1, d2, d3, d4, d5⟩ := fr_block (v := f.v) (k := f.k) (s := f.s) (i := f.i) (c := f.c) hV.2
      simp [Instr.loadAt, go_sem, d0, d1, d2, d3, d4]
    simp only [Act.put, List.setIfInBounds_toArray, List.set_cons_succ, List.set_cons_zero]
    refine wpO6_call (fun v => v = .int .i64 E) (fun _ V => Below w2.heap.size w2 V) (f := 21) (args := #[.agg #[.int .i64 f.v, .int .i64 f.k, .int .u32 f.s, .int .i64 f.i, .int .i64 f.c]]) rfl rfl rfl (fun _ V hV => ⟨(HJ2.out.later hV).j, (HJ2.out.later hV).f⟩) (fun V => by first | rfl | (simp [go_sem]; done)) (fun V hV => (KC.out V).mono fun e W' h => ⟨_, h.1, rfl, hV.trans (h.2.mono hV.size)⟩) ?_
    rintro v rfl
    simp only [Act.put, List.setIfInBounds_toArray, List.set_cons_succ, List.set_cons_zero]
    refine wpO6_store (fun V' => ∃ V, Below w2.heap.size w2 V ∧ V' = V.setRow (w.heap.size + 2) Cj) rfl rfl rfl rfl ⟨w.heap.size + 2, 0, none⟩ (.agg Cj) (by rfl) (by rfl) ?_ (fun V hV => ?_) ?_
    · rintro V' ⟨V, hV, rfl⟩
      exact ⟨(setRow_other _ _ _ _ (by omega)).trans (HJ2.out.later hV).j, (setRow_other _ _ _ _ (by omega)).trans (HJ2.out.later hV).f⟩
    · exact ⟨_, (HNOE.out V hV).1, V, hV, rfl⟩
    refine wpO6_store (fun V' => ∃ V, Below w2.heap.size w2 V ∧ V' = (V.setRow (w.heap.size + 2) Cj).setRow (w.heap.size + 3) (outC none 0 0 false false 0)) rfl rfl rfl rfl ⟨w.heap.size + 3, 0, none⟩ (.agg (outC none 0 0 false false 0)) (by rfl) (by rfl) ?_ ?_ ?_
    · rintro V' ⟨V, hV, rfl⟩
      exact ⟨(setRow_other _ _ _ _ (by omega)).trans ((setRow_other _ _ _ _ (by omega)).trans (HJ2.out.later hV).j), (setRow_other _ _ _ _ (by omega)).trans ((setRow_other _ _ _ _ (by omega)).trans (HJ2.out.later hV).f)⟩
    · rintro V' ⟨V, hV, rfl⟩
      exact ⟨_, (HNOE.out V hV).2.1, V, hV, rfl⟩
    refine wpO6_pure rfl rfl ?_
    go_big_quiet_step (fail)
    refine wpQuiet_nil ?_
    rintro wz ⟨wy, hby, rfl⟩
    obtain ⟨_, _, x2, x3, hG⟩ := HNOE.out wy hby
    have HX2 := Lib.hid x2
    have HX3 := Lib.hid x3
    have HG := Lib.hid hG
    clear x2 x3 hG hby HNOE
    generalize (wy.setRow (w.heap.size + 2) Cj).setRow (w.heap.size + 3) (outC none 0 0 false false 0) = wf at *
    go_wp2_with fail
    refine bodyPost_ret (results_row_row_tmp (P := Tryz.prog) (fn := Tryz.f8) rfl _ _ (w.heap.size + 2) (w.heap.size + 3) 36 47 Cj (outC none 0 0 false false 0) _ _ (by rfl) HX2.out Tryz.underlying36 (by rfl) HCI.out (by rfl) HX3.out Tryz.underlying47 (by rfl) soInfo) rfl ?_
    exact HG.out
end Go.Proofs.YtfdbcfkjablnkaaGreat

namespace Go.Proofs.YtfdbcfkjablnkaaGreat
open Go.RowKit

section
variable {F : Fence} {n : Nat} {P : Program} {g : Operand} {ps : Array Tmp} {assign body : Code} {Q : Exit → Act → World → Prop} {a : Act} {w : World}
/-- range_stopsL, the body told of its own loop's record (a loop within it wants that) -/
theorem range_stopsR {α : Type} (hro : F.round = none) (h1 : 1 ≤ n) {gf : Nat} {lb : Array Value} (hg : a.eval g = .func (.func gf) #[] lb) (hFg : F.fn gf) (eg : ∀ args w, (callFunc gf args).run P w = .ok (.enter gf args) w)
    (enc : α → Array Value) (hps : ∀ x, (enc x).size = ps.size) (Rd : Nat → α → World → Prop) (Dn : Nat → World → Prop) (Sx : Code → World → Prop) (Kp : World → World → Prop) (N : Nat)
    (hRp : ∀ j x W l (o : Loop) o', Rd j x W → w.heap.size ≤ l → W.heap[l]? = some (.loop o) → Rd j x (W.putObj l o'))
    (hDp : ∀ j W l (o : Loop) o', Dn j W → w.heap.size ≤ l → W.heap[l]? = some (.loop o) → Dn j (W.putObj l o'))
    (hSp : ∀ c W l o o', Sx c W → w.heap.size ≤ l → W.heap[l]? = some o → o.isCells = false → Sx c (W.putObj l o'))
    (hKt : ∀ A B C, Kp A B → Kp B C → Kp A C)
    (hKp : ∀ W l o o', w.heap.size ≤ l → W.heap[l]? = some o → o.isCells = false → Kp W (W.putObj l o'))
    (hD0 : ∀ o, Dn 0 ((w.alloc (.deferred (some []))).alloc o)) (a₁ : α → Act)
    (hassign : ∀ (l : Nat) (x : α) (W : World) (K : Act → World → Prop), K (a₁ x) W → assign.wpIn (F.inRound l) (n - 1 - 1) P (Exit.then K (fun _ _ _ => False)) { tmps := (ps.zip (enc x)).foldl (fun t (p, v) => t.setIfInBounds p v) a.tmps, defers := [] } W)
    (hbody : ∀ (l j : Nat) (x : α) (W : World), w.heap.size ≤ l → (∃ r, W.heap[l]? = some (.loop r)) → Rd j x W → j < N → body.wpIn (F.inRound l) (n - 1 - 1) P (stopPost w.heap.size Kp (Dn (j + 1)) Sx W) (a₁ x) W)
    (hiter : ∀ (Bk : World → Prop) (X : World → Prop) (l : Nat) (W : World), (∀ A B, Bk A → A.heap.size ≤ B.heap.size → (∀ k, w.heap.size ≤ k → k < w.heap.size + 2 → B.heap[k]? = A.heap[k]?) → Bk B) → (∀ A, Bk A → w.heap.size + 2 ≤ A.heap.size) →
      (∀ A l' o o', X A → w.heap.size + 2 ≤ l' → A.heap[l']? = some o → o.isCells = false → X (A.putObj l' o')) → l < w.heap.size + 2 → Dn 0 W → Bk W →
      (∀ j x W1, Rd j x W1 → Bk W1 → j < N → YieldAt F (n - 1 - 1) P l (enc x) W1 (YPost w.heap.size l Kp (fun W2 => Dn (j + 1) W2 ∧ Bk W2) X W1)) →
      CallsIn F (n - 1) P gf (#[.func (.yield l) #[] #[]] ++ lb) W fun e W' => (∃ v, e = .returned v) ∧ ((Dn N W' ∧ Bk W') ∨ X W'))
    (hdone : ∀ (D : Nat) (W : World), w.heap.size ≤ D → Dn N W → W.heap[D]? = some (.deferred (some [])) → Q .normal { a with defers := { target := .collected D, args := #[] } :: a.defers } W)
    (hstop : ∀ (D : Nat) (c : Code) (W : World), w.heap.size ≤ D → Sx c W → W.heap[D]? = some (.deferred (some [])) → c.wpIn F n P Q { a with defers := { target := .collected D, args := #[] } :: a.defers } W) :
    (Code.rangeFunc g ps assign body).wpIn F n P Q a w := by
  apply wpIn_rangeFunc
  intro fn hfn
  rw [hro]
  have hent := run_enterLoop_outer (P := P) (w := w) fn a.tmps ps assign body
  obtain ⟨lp, hlp⟩ : ∃ lp : LoopState → Option Code → Loop, lp = fun st pe => { state := st, pending := pe, fn := fn, tmps := a.tmps, params := ps, assign := assign, body := body, defers := w.heap.size } := ⟨_, rfl⟩
  have hlp0 : ({ state := .ready, pending := none, fn, tmps := a.tmps, params := ps, assign, body, defers := w.heap.size } : Loop) = lp .ready none := by rw [hlp]
  rw [hlp0] at hent
  have hD0' := hD0 (.loop (lp .ready none))
  have hl0 : ((w.alloc (.deferred (some []))).alloc (.loop (lp .ready none))).heap[w.heap.size + 1]? = some (.loop (lp .ready none)) := by
    have h := World.alloc_heap_new (w.alloc (.deferred (some []))) (.loop (lp .ready none))
    rwa [World.size_alloc] at h
  have hd0 : ((w.alloc (.deferred (some []))).alloc (.loop (lp .ready none))).heap[w.heap.size]? = some (.deferred (some [])) := (Below.heap_alloc _ _ _ (by simp)).trans (World.alloc_heap_new w _)
  generalize (w.alloc (.deferred (some []))).alloc (.loop (lp .ready none)) = W0 at *
  refine ⟨_, _, _, { target := .fn (.func gf) lb, args := #[.func (.yield (w.heap.size + 1)) #[] #[]] }, W0, gf, #[.func (.yield (w.heap.size + 1)) #[] #[]] ++ lb, W0, hent, ?_, ?_, ?_, fun _ => h1, ?_⟩
  · simp only [resolve, hg]
    simp [go_sem]
  · intro f' hf'
    simp [Target.leads] at hf'
    subst hf'
    exact hFg
  · simp [invoke, go_sem, eg]
  let Bk : World → Prop := fun W => W.heap[w.heap.size + 1]? = some (.loop (lp .ready none)) ∧ W.heap[w.heap.size]? = some (.deferred (some []))
  let X : World → Prop := fun W => ∃ c, Sx c W ∧ W.heap[w.heap.size + 1]? = some (.loop (lp .done (some c))) ∧ W.heap[w.heap.size]? = some (.deferred (some []))
  have hBlt : ∀ A, Bk A → w.heap.size + 2 ≤ A.heap.size := fun A h => (Array.getElem?_eq_some_iff.1 h.1).1
  refine (hiter Bk X (w.heap.size + 1) W0 (fun A B hA _ hAB => ⟨(hAB _ (by omega) (by omega)).trans hA.1, (hAB _ (by omega) (by omega)).trans hA.2⟩) hBlt
    (fun A l' o o' hA hl' ho hc => by
      obtain ⟨c, h1, h2, h3⟩ := hA
      exact ⟨c, hSp c A l' o o' h1 (by omega) ho hc, (World.putObj_heap_other (by omega)).trans h2, (World.putObj_heap_other (by omega)).trans h3⟩) (by omega) hD0' ⟨hl0, hd0⟩ ?_).mono ?_
  · rintro j x W1 hR hB hj
    have hsz := hBlt W1 hB
    have hy := run_yield (P := P) (args := enc x) hB.1 (by rw [hlp]; exact hps x)
    have hbeg := run_beginRound (P := P) hB.1 (by rw [hlp])
    rw [hlp] at hy hbeg
    refine ⟨fn, _, assign, body, hy, roundIn_of_wpIn hfn (hassign _ x W1 _ ⟨_, hbeg, ?_⟩)⟩
    have b1 : (W1.putObj (w.heap.size + 1) (.loop { lp .ready none with state := .busy })).heap[w.heap.size + 1]? = some (.loop { lp .ready none with state := .busy }) := World.putObj_heap_same (by omega)
    have b1r : ∃ r, (W1.putObj (w.heap.size + 1) (.loop { lp .ready none with state := .busy })).heap[w.heap.size + 1]? = some (.loop r) := ⟨_, b1⟩
    rw [hlp] at b1r
    refine wpIn_mono (hbody _ j x _ (by omega) b1r (hRp j x W1 _ _ _ hR (by omega) hB.1) hj) ?_
    have b2 : (W1.putObj (w.heap.size + 1) (.loop { lp .ready none with state := .busy })).heap[w.heap.size]? = some (.deferred (some [])) := (World.putObj_heap_other (by omega)).trans hB.2
    have hK1 := hKp W1 (w.heap.size + 1) _ (.loop { lp .ready none with state := .busy }) (by omega) hB.1 rfl
    rw [hlp] at b1 b2 hK1
    have fin : ∀ (jump : Option Code) (W3 : World), KeepsFrom w.heap.size (W1.putObj (w.heap.size + 1) (.loop { lp .ready none with state := .busy })) W3 →
        (Instr.endRound (w.heap.size + 1) jump).run P W3 = .ok (.bool jump.isNone) (W3.putObj (w.heap.size + 1) (.loop (lp (if jump.isNone then .ready else .done) jump))) ∧
        W3.heap[w.heap.size + 1]? = some (.loop { lp .ready none with state := .busy }) ∧
        (W3.putObj (w.heap.size + 1) (.loop (lp (if jump.isNone then .ready else .done) jump))).heap[w.heap.size + 1]? = some (.loop (lp (if jump.isNone then .ready else .done) jump)) ∧
        (W3.putObj (w.heap.size + 1) (.loop (lp (if jump.isNone then .ready else .done) jump))).heap[w.heap.size]? = some (.deferred (some [])) ∧
        KeepsBut w.heap.size (w.heap.size + 1) W1 (W3.putObj (w.heap.size + 1) (.loop (lp (if jump.isNone then .ready else .done) jump))) := fun jump W3 hk => by
      rw [hlp] at hk ⊢
      have c1 := hk.same _ _ (by omega) b1 rfl
      have c2 := hk.same _ _ (Nat.le_refl _) b2 rfl
      have hend := run_endRound (P := P) jump c1
      refine ⟨hend, c1, World.putObj_heap_same (Array.getElem?_eq_some_iff.1 c1).1, (World.putObj_heap_other (by omega)).trans c2, ?_, ?_⟩
      · have h1 := hk.size
        simp only [World.putObj, Array.size_setIfInBounds] at h1 ⊢
        exact h1
      · intro k o hkl hk2 ho hc
        exact (World.putObj_heap_other (by omega)).trans (hk.same k o hk2 ((World.putObj_heap_other (by omega)).trans ho) hc)
    rintro e a3 W3 hp
    rw [hlp] at fin
    cases e with
    | normal =>
      obtain ⟨hk, hDn, hKp3⟩ := hp
      obtain ⟨hend, c1, d1, d2, hkb⟩ := fin none W3 hk
      exact ⟨_, _, hend, .inl ⟨rfl, ⟨hDp _ _ _ _ _ hDn (by omega) c1, by rw [hlp]; exact d1, d2⟩, hKt _ _ _ hK1 (hKt _ _ _ hKp3 (hKp W3 _ _ _ (by omega) c1 rfl)), hkb⟩⟩
    | ret =>
      obtain ⟨hk, hx⟩ := hp
      obtain ⟨hend, c1, d1, d2, hkb⟩ := fin (some .ret) W3 hk
      exact ⟨_, _, hend, .inr ⟨rfl, ⟨.ret, hSp _ _ _ _ _ hx (by omega) c1 rfl, by rw [hlp]; exact d1, d2⟩, hkb⟩⟩
    | exit id =>
      obtain ⟨hk, hx⟩ := hp
      obtain ⟨hend, c1, d1, d2, hkb⟩ := fin (some (.exit id)) W3 hk
      exact ⟨_, _, hend, .inr ⟨rfl, ⟨.exit id, hSp _ _ _ _ _ hx (by omega) c1 rfl, by rw [hlp]; exact d1, d2⟩, hkb⟩⟩
    | goto t => exact hp.elim
    | panic ch => exact hp.elim
    | outgrown => exact hp.elim
  · rintro e W2 ⟨⟨v, rfl⟩, ⟨hDN, hB⟩ | ⟨c, hc, hl, hd⟩⟩
    · have hend := run_endLoop (P := P) hB.1 (by rw [hlp]; simp)
      rw [hlp] at hend
      exact ⟨none, _, hend, hdone _ _ (Nat.le_refl _) (hDp _ _ _ _ _ hDN (by omega) hB.1) ((World.putObj_heap_other (by omega)).trans hB.2)⟩
    · have hend := run_endLoop (P := P) hl (by rw [hlp]; simp)
      rw [hlp] at hend
      exact ⟨some c, _, hend, hstop _ c _ (Nat.le_refl _) (hSp _ _ _ _ _ hc (by omega) hl rfl) ((World.putObj_heap_other (by omega)).trans hd)⟩
/-- the same within a round of loop l₀: one block is laid (the record), no mark -/
theorem range_stopsN {α : Type} {l₀ : Nat} {r₀ : Loop} (hro : F.round = some l₀) (hl₀ : w.heap[l₀]? = some (.loop r₀)) (h1 : 1 ≤ n) {gf : Nat} {lb : Array Value} (hg : a.eval g = .func (.func gf) #[] lb) (hFg : F.fn gf) (eg : ∀ args w, (callFunc gf args).run P w = .ok (.enter gf args) w)
    (enc : α → Array Value) (hps : ∀ x, (enc x).size = ps.size) (Rd : Nat → α → World → Prop) (Dn : Nat → World → Prop) (Sx : Code → World → Prop) (Kp : World → World → Prop) (N : Nat)
    (hRp : ∀ j x W l (o : Loop) o', Rd j x W → w.heap.size ≤ l → W.heap[l]? = some (.loop o) → Rd j x (W.putObj l o'))
    (hDp : ∀ j W l (o : Loop) o', Dn j W → w.heap.size ≤ l → W.heap[l]? = some (.loop o) → Dn j (W.putObj l o'))
    (hSp : ∀ c W l o o', Sx c W → w.heap.size ≤ l → W.heap[l]? = some o → o.isCells = false → Sx c (W.putObj l o'))
    (hKt : ∀ A B C, Kp A B → Kp B C → Kp A C)
    (hKp : ∀ W l o o', w.heap.size ≤ l → W.heap[l]? = some o → o.isCells = false → Kp W (W.putObj l o'))
    (hD0 : ∀ o, Dn 0 (w.alloc o)) (a₁ : α → Act)
    (hassign : ∀ (l : Nat) (x : α) (W : World) (K : Act → World → Prop), K (a₁ x) W → assign.wpIn (F.inRound l) (n - 1 - 1) P (Exit.then K (fun _ _ _ => False)) { tmps := (ps.zip (enc x)).foldl (fun t (p, v) => t.setIfInBounds p v) a.tmps, defers := [] } W)
    (hbody : ∀ (l j : Nat) (x : α) (W : World), w.heap.size ≤ l → (∃ r, W.heap[l]? = some (.loop r)) → Rd j x W → j < N → body.wpIn (F.inRound l) (n - 1 - 1) P (stopPost w.heap.size Kp (Dn (j + 1)) Sx W) (a₁ x) W)
    (hiter : ∀ (Bk : World → Prop) (X : World → Prop) (l : Nat) (W : World), (∀ A B, Bk A → A.heap.size ≤ B.heap.size → (∀ k, w.heap.size ≤ k → k < w.heap.size + 1 → B.heap[k]? = A.heap[k]?) → Bk B) → (∀ A, Bk A → w.heap.size + 1 ≤ A.heap.size) →
      (∀ A l' o o', X A → w.heap.size + 1 ≤ l' → A.heap[l']? = some o → o.isCells = false → X (A.putObj l' o')) → l < w.heap.size + 1 → Dn 0 W → Bk W →
      (∀ j x W1, Rd j x W1 → Bk W1 → j < N → YieldAt F (n - 1 - 1) P l (enc x) W1 (YPost w.heap.size l Kp (fun W2 => Dn (j + 1) W2 ∧ Bk W2) X W1)) →
      CallsIn F (n - 1) P gf (#[.func (.yield l) #[] #[]] ++ lb) W fun e W' => (∃ v, e = .returned v) ∧ ((Dn N W' ∧ Bk W') ∨ X W'))
    (hdone : ∀ (W : World), Dn N W → Q .normal a W)
    (hstop : ∀ (c : Code) (W : World), Sx c W → c.wpIn F n P Q a W) :
    (Code.rangeFunc g ps assign body).wpIn F n P Q a w := by
  apply wpIn_rangeFunc
  intro fn hfn
  rw [hro]
  have hent := run_enterLoop_inner (P := P) (w := w) hl₀ fn a.tmps ps assign body
  obtain ⟨lp, hlp⟩ : ∃ lp : LoopState → Option Code → Loop, lp = fun st pe => { state := st, pending := pe, fn := fn, tmps := a.tmps, params := ps, assign := assign, body := body, defers := r₀.defers } := ⟨_, rfl⟩
  have hlp0 : ({ state := .ready, pending := none, fn, tmps := a.tmps, params := ps, assign, body, defers := r₀.defers } : Loop) = lp .ready none := by rw [hlp]
  rw [hlp0] at hent
  have hD0' := hD0 (.loop (lp .ready none))
  have hl0 : (w.alloc (.loop (lp .ready none))).heap[w.heap.size]? = some (.loop (lp .ready none)) := World.alloc_heap_new w _
  generalize w.alloc (.loop (lp .ready none)) = W0 at *
  refine ⟨_, _, _, { target := .fn (.func gf) lb, args := #[.func (.yield w.heap.size) #[] #[]] }, W0, gf, #[.func (.yield w.heap.size) #[] #[]] ++ lb, W0, hent, ?_, ?_, ?_, fun _ => h1, ?_⟩
  · simp only [resolve, hg]
    simp [go_sem]
  · intro f' hf'
    simp [Target.leads] at hf'
    subst hf'
    exact hFg
  · simp [invoke, go_sem, eg]
  let Bk : World → Prop := fun W => W.heap[w.heap.size]? = some (.loop (lp .ready none))
  let X : World → Prop := fun W => ∃ c, Sx c W ∧ W.heap[w.heap.size]? = some (.loop (lp .done (some c)))
  have hBlt : ∀ A, Bk A → w.heap.size + 1 ≤ A.heap.size := fun A h => (Array.getElem?_eq_some_iff.1 h).1
  refine (hiter Bk X w.heap.size W0 (fun A B hA _ hAB => (hAB _ (by omega) (by omega)).trans hA) hBlt
    (fun A l' o o' hA hl' ho hc => by
      obtain ⟨c, h1, h2⟩ := hA
      exact ⟨c, hSp c A l' o o' h1 (by omega) ho hc, (World.putObj_heap_other (by omega)).trans h2⟩) (by omega) hD0' hl0 ?_).mono ?_
  · rintro j x W1 hR hB hj
    have hsz := hBlt W1 hB
    have hy := run_yield (P := P) (args := enc x) hB (by rw [hlp]; exact hps x)
    have hbeg := run_beginRound (P := P) hB (by rw [hlp])
    rw [hlp] at hy hbeg
    refine ⟨fn, _, assign, body, hy, roundIn_of_wpIn hfn (hassign _ x W1 _ ⟨_, hbeg, ?_⟩)⟩
    have b1 : (W1.putObj w.heap.size (.loop { lp .ready none with state := .busy })).heap[w.heap.size]? = some (.loop { lp .ready none with state := .busy }) := World.putObj_heap_same (by omega)
    have b1r : ∃ r, (W1.putObj w.heap.size (.loop { lp .ready none with state := .busy })).heap[w.heap.size]? = some (.loop r) := ⟨_, b1⟩
    rw [hlp] at b1r
    refine wpIn_mono (hbody _ j x _ (by omega) b1r (hRp j x W1 _ _ _ hR (by omega) hB) hj) ?_
    have hK1 := hKp W1 w.heap.size _ (.loop { lp .ready none with state := .busy }) (by omega) hB rfl
    rw [hlp] at b1 hK1
    have fin : ∀ (jump : Option Code) (W3 : World), KeepsFrom w.heap.size (W1.putObj w.heap.size (.loop { lp .ready none with state := .busy })) W3 →
        (Instr.endRound w.heap.size jump).run P W3 = .ok (.bool jump.isNone) (W3.putObj w.heap.size (.loop (lp (if jump.isNone then .ready else .done) jump))) ∧
        W3.heap[w.heap.size]? = some (.loop { lp .ready none with state := .busy }) ∧
        (W3.putObj w.heap.size (.loop (lp (if jump.isNone then .ready else .done) jump))).heap[w.heap.size]? = some (.loop (lp (if jump.isNone then .ready else .done) jump)) ∧
        KeepsBut w.heap.size w.heap.size W1 (W3.putObj w.heap.size (.loop (lp (if jump.isNone then .ready else .done) jump))) := fun jump W3 hk => by
      rw [hlp] at hk ⊢
      have c1 := hk.same _ _ (by omega) b1 rfl
      have hend := run_endRound (P := P) jump c1
      refine ⟨hend, c1, World.putObj_heap_same (Array.getElem?_eq_some_iff.1 c1).1, ?_, ?_⟩
      · have h1 := hk.size
        simp only [World.putObj, Array.size_setIfInBounds] at h1 ⊢
        exact h1
      · intro k o hkl hk2 ho hc
        exact (World.putObj_heap_other (by omega)).trans (hk.same k o hk2 ((World.putObj_heap_other (by omega)).trans ho) hc)
    rintro e a3 W3 hp
    rw [hlp] at fin
    cases e with
    | normal =>
      obtain ⟨hk, hDn, hKp3⟩ := hp
      obtain ⟨hend, c1, d1, hkb⟩ := fin none W3 hk
      exact ⟨_, _, hend, .inl ⟨rfl, ⟨hDp _ _ _ _ _ hDn (by omega) c1, by show _ = _; rw [hlp]; exact d1⟩, hKt _ _ _ hK1 (hKt _ _ _ hKp3 (hKp W3 _ _ _ (by omega) c1 rfl)), hkb⟩⟩
    | ret =>
      obtain ⟨hk, hx⟩ := hp
      obtain ⟨hend, c1, d1, hkb⟩ := fin (some .ret) W3 hk
      exact ⟨_, _, hend, .inr ⟨rfl, ⟨.ret, hSp _ _ _ _ _ hx (by omega) c1 rfl, by rw [hlp]; exact d1⟩, hkb⟩⟩
    | exit id =>
      obtain ⟨hk, hx⟩ := hp
      obtain ⟨hend, c1, d1, hkb⟩ := fin (some (.exit id)) W3 hk
      exact ⟨_, _, hend, .inr ⟨rfl, ⟨.exit id, hSp _ _ _ _ _ hx (by omega) c1 rfl, by rw [hlp]; exact d1⟩, hkb⟩⟩
    | goto t => exact hp.elim
    | panic ch => exact hp.elim
    | outgrown => exact hp.elim
  · rintro e W2 ⟨⟨v, rfl⟩, ⟨hDN, hB⟩ | ⟨c, hc, hl⟩⟩
    · have hend := run_endLoop (P := P) hB (by rw [hlp]; simp)
      rw [hlp] at hend
      exact ⟨none, _, hend, hdone _ (hDp _ _ _ _ _ hDN (by omega) hB)⟩
    · have hend := run_endLoop (P := P) hl (by rw [hlp]; simp)
      rw [hlp] at hend
      exact ⟨some c, _, hend, hstop c _ (hSp _ _ _ _ _ hc (by omega) hl rfl)⟩
end
end Go.Proofs.YtfdbcfkjablnkaaGreat

namespace Go.Proofs.YtfdbcfkjablnkaaGreat
open Go.RowKit Go.Shelf
set_option maxRecDepth 100000
attribute [local go_sem] Oper.semAt_some

namespace Sl
theorem one_at (n : Nat) : ∀ (C : Ct), Keys C → C.countP (fun p => p.1 == n) = if has C n then 1 else 0
  | [], _ => rfl
  | p :: r, h => by
    have h' : (∀ x ∈ r, x.1 ≠ p.1) ∧ Keys r := by
      unfold Keys at h ⊢
      rw [List.map_cons, List.nodup_cons] at h
      exact ⟨fun x hx e => h.1 (List.mem_map.2 ⟨x, hx, e⟩), h.2⟩
    rw [List.countP_cons, one_at n r h'.2]
    by_cases e : p.1 = n
    · have hr : has r n = false := by
        simp only [has, List.any_eq_false]
        intro x hx
        have := h'.1 x hx
        simp only [beq_iff_eq]
        omega
      rw [if_neg (by rw [hr]; decide)]
      have e2 : has (p :: r) n = true := by simp [has, e]
      rw [if_pos e2]
      simp [e]
    · have e2 : (p.1 == n) = false := by simpa using e
      have e3 : has (p :: r) n = has r n := by simp only [has, List.any_cons, e2, Bool.false_or]
      rw [e3, e2]
      simp
theorem mis_upto (C : Ct) (h : Keys C) : ∀ n : Nat, (mis C n).length + C.countP (fun p => decide (p.1 < n)) = n
  | 0 => by simp [mis]
  | n + 1 => by
    have ih := mis_upto C h n
    have e : C.countP (fun p => decide (p.1 < n + 1)) = C.countP (fun p => decide (p.1 < n)) + C.countP (fun p => p.1 == n) := by
      clear ih h
      induction C with
      | nil => rfl
      | cons p r ih =>
        rw [List.countP_cons, List.countP_cons, List.countP_cons, ih]
        rcases Nat.lt_trichotomy p.1 n with h | h | h
        · have h1 : p.1 < n + 1 := by omega
          have h2 : (p.1 == n) = false := by simp; omega
          simp [h, h1, h2]; omega
        · simp [h]; omega
        · have h1 : ¬ p.1 < n + 1 := by omega
          have h2 : (p.1 == n) = false := by simp; omega
          have h3 : ¬ p.1 < n := by omega
          simp [h1, h2, h3]
    rw [mis_succ, List.length_append, e, one_at n C h]
    by_cases hh : has C n = true <;> simp [hh] <;> omega
theorem mis_count {C : Ct} (h : Keys C) {n : Nat} (hn : ∀ p ∈ C, p.1 < n) : (mis C n).length + C.length = n := by
  have h1 := mis_upto C h n
  rwa [List.countP_eq_length.2 (fun p hp => by simpa using hn p hp)] at h1
end Sl
theorem store_funcJ (W : World) (t : TypeId) (f : FuncId) (lb : Array Value) : (store ⟨W.heap.size, 0, none⟩ (.func (.func f) #[] lb)).run Tryz.prog (W.alloc (.cells #[.nilFunc] t)) = .ok () (W.alloc (.cells #[.func (.func f) #[] lb] t)) := by
  have hg := heap_alloc_new W (.cells #[.nilFunc] t)
  rw [run_store Tryz.prog _ _ _ _ (by rfl), cell_of_row _ _ 0 _ _ _ hg, frozen_of_row _ _ 0 _ _ hg, setCell_eq_setRow _ _ 0 _ t (0, 0) _ hg, World.setRow_alloc_new]
  rfl
theorem jwait_func (p : Nat) (w : World) : (Instr.makeFunc (.func 72) #[] #[.pointer (some ⟨p, 0, none⟩)]).run Tryz.prog w = .ok (.func (.func 72) #[] #[.pointer (some ⟨p, 0, none⟩)]) w := by kernel_rfl
theorem jwait_not_nil (p : Nat) (w : World) : (binOp .eql 92 (.func (.func 72) #[] #[.pointer (some ⟨p, 0, none⟩)]) .nilFunc).run Tryz.prog w = .ok (.bool false) w := by kernel_rfl
theorem jwait_any {w : World} {S : Nat → Prop} {bj bw b r : Nat} {t : Int} {q : Nat} {T : List Tb.Ms} (h : JAt w S bj bw b r t q T) :
    Calls Tryz.prog 36 #[.pointer (some ⟨bj, 0, none⟩)] w fun e w' => ∃ Bs p c m A n cp X, e = .returned (.func (.func 72) #[] #[.pointer (some ⟨Bs, 0, none⟩)]) ∧
      Boxed w' Bs 134 (.func (.func 91) #[] #[.pointer (some ⟨p, 0, none⟩)]) ∧ Boxed w' p 66 (.pointer (some ⟨c, 0, none⟩)) ∧ w.heap.size ≤ Bs ∧ w.heap.size ≤ p ∧
      TblAt w' (fun q => w.heap.size ≤ q) c r m A n cp X ∧ Tb.Likes T (X.map Sx.ms) ∧ Below w.heap.size w w' := by
  obtain ⟨m, A, n, cp, X, hT, hX⟩ := h.tbl
  subst hX
  have K := tall_any hT
  have hmf := jwait_func
  obtain ⟨c0, c1⟩ := h.cells
  clear h hT
  go_enter Tryz.func36, Tryz.ntmps36
  go_wp2_with fail
  refine K.mono ?_
  rintro e w1 ⟨p, c, m', A', cp', X', rfl, hbx, hp, hT, hL, hb⟩
  have HT := Lib.hid hT
  have HL := Lib.hid hL
  have HB := Lib.hid hb
  have HBX := Lib.hid hbx
  have hst := store_funcJ w1 134 91 #[.pointer (some ⟨p, 0, none⟩)]
  clear K hT hL hb hbx
  go_wp2
  go_ret
  have hal := (Below.refl w1.heap.size w1).alloc (Nat.le_refl _) (.cells #[.func (.func 91) #[] #[.pointer (some ⟨p, 0, none⟩)]] 134)
  exact ⟨w1.heap.size, p, c, m', A', n, cp', X', rfl, Boxed.new w1 _ _, HBX.out.alloc _, HB.out.size, hp, HT.out.below hal, HL.out, HB.out.trans (hal.mono HB.out.size)⟩
/-- how many a slot lacks -/
theorem lacks_of {w : World} {x y : Sx} (hy : y.At w) (hl : Tb.Like x.ms y.ms) : ∃ n : Nat, y.c = (n : Int) ∧ ((misZ (y.E.map Pl.ct) n).length : Int) = x.c - (x.E.length : Int) := by
  obtain ⟨n, hn, _, _, _, hlt⟩ := SlotAt.count hy
  refine ⟨n, hn, ?_⟩
  have h1 := Sl.mis_count (SlotAt.keys hy) (n := n) fun p hp => by
    obtain ⟨z, hz, rfl⟩ := List.mem_map.1 hp
    exact hlt z hz
  have h2 := hl.2.2.2.2.length_eq
  have h3 : y.c = x.c := hl.2.2.2.1
  simp only [Sx.ms, List.length_map] at h1 h2
  rw [misZ_len]
  omega
set_option maxHeartbeats 8000000 in
/-- the iterator: v is what the table's box holds, X its slots -/
theorem jwait_in (n : Nat) (hn : 8 ≤ n) (m' l Bs s0 p : Nat) (v : Option Addr) (X : List Sx) (Dn : Nat → World → Prop) (Bk Xp : World → Prop) (Kp : World → World → Prop) (hls : l < s0 + 2)
    (hDb : ∀ j A B, Dn j A → Below s0 A B → Dn j B) (hDx : ∀ j V, Dn j V → V.cell? ⟨p, 0, none⟩ = some (.pointer v) ∧ ∀ x ∈ X, x.At V)
    (hBk : ∀ A B, Bk A → A.heap.size ≤ B.heap.size → (∀ k, s0 ≤ k → k < s0 + 2 → B.heap[k]? = A.heap[k]?) → Bk B) (hBlt : ∀ A, Bk A → s0 + 2 ≤ A.heap.size)
    (hX : ∀ A l' o o', Xp A → s0 + 2 ≤ l' → A.heap[l']? = some o → o.isCells = false → Xp (A.putObj l' o'))
    (hKp : ∀ V V' k cs t, Kp V V' → s0 + 2 ≤ k → V.heap[k]? = some (.cells cs t (0, 0)) → V'.heap[k]? = some (.cells cs t (0, 0)))
    (hI : ∀ (l2 Bs2 : Nat) (J : Nat → World → Prop) (Jx : World → Prop), (∀ j V, J j V → V.cell? ⟨Bs2, 0, none⟩ = some (.pointer v) ∧ ∃ k, Dn k V) →
      (∀ (j : Nat) (x : Sx) (V : World), J j V → X[j]? = some x → YieldAt Fence.wide (n - 1 - 1 - 1) Tryz.prog l2 #[.int .u32 x.s, .pointer (some ⟨x.b, 0, none⟩)] V fun e W' => (e = .returned (.bool true) ∧ J (j + 1) W') ∨ (e = .returned (.bool false) ∧ Jx W')) →
      ∀ V, J 0 V → CallsIn Fence.wide (n - 1 - 1) Tryz.prog 104 #[.func (.yield l2) #[] #[], .pointer (some ⟨Bs2, 0, none⟩)] V fun e W' => (∃ v, e = .returned v) ∧ (J X.length W' ∨ Jx W'))
    (hY : ∀ (j : Nat) (x : Sx) (V : World), Dn j V → X[j]? = some x → Bk V →
      YieldAt Fence.wide m' Tryz.prog l #[.int .u32 x.s, .int .i64 (x.c - (x.E.length : Int))] V (YPost s0 l Kp (fun W2 => Dn (j + 1) W2 ∧ Bk W2) Xp V))
    (W : World) (hBs : W.cell? ⟨Bs, 0, none⟩ = some (.func (.func 91) #[] #[.pointer (some ⟨p, 0, none⟩)])) (hD0 : Dn 0 W) (hB0 : Bk W) :
    CallsIn Fence.wide n Tryz.prog 72 #[.func (.yield l) #[] #[], .pointer (some ⟨Bs, 0, none⟩)] W fun e W' => (∃ v, e = .returned v) ∧ ((Dn X.length W' ∧ Bk W') ∨ Xp W') := by
  have hsW := hBlt W hB0
  have hBsl := block_of_cell hBs
  simp only at hBsl
  obtain ⟨W2, hW2⟩ : ∃ W2, W.alloc (.cells #[.func (.yield l) #[] #[]] 138) = W2 := ⟨_, rfl⟩
  have hb2 : Below W.heap.size W W2 := by rw [← hW2]; exact (Below.refl _ W).alloc (Nat.le_refl _) _
  have hyb2 : Boxed W2 W.heap.size 138 (.func (.yield l) #[] #[]) := by rw [← hW2]; exact Boxed.new W _ _
  have hs2 : W2.heap.size = W.heap.size + 1 := by rw [← hW2]; simp
  have hBs2 := (hb2.cell (p := ⟨Bs, 0, none⟩) hBsl).trans hBs
  have hD2 := hDb 0 _ _ hD0 (hb2.mono (by omega : s0 ≤ W.heap.size))
  have hB2 : Bk W2 := hBk _ _ hB0 hb2.size (fun k _ h2 => hb2.block k (by omega))
  have HW2 := Lib.hid hW2
  clear hW2 hBs hD0 hB0 hb2
  refine callsIn_of_wp_marks Tryz.func72 rfl trivial ?_ rfl
  simp only [Tryz.ntmps72, List.size_toArray, List.length_cons, List.length_nil, Nat.reduceAdd, Nat.reduceSub, Array.replicate_succ, Array.replicate_zero, List.push_toArray, List.append_toArray, List.nil_append, List.cons_append]
  gi_wp2_with fail
  refine wpIn_wide.2 (wp_scope_straight ((wpIn_wide (n := n)).1 ?_))
  gi_wp2_with fail
  apply wpIn_label
  rw [HW2.out]
  obtain ⟨BX, hBX⟩ : ∃ BX : World → Prop, BX = fun V => W2.heap.size ≤ V.heap.size ∧ Boxed V W.heap.size 138 (.func (.yield l) #[] #[]) := ⟨_, rfl⟩
  have hBX0 : ∀ V, BX V → W2.heap.size ≤ V.heap.size ∧ V.cell? ⟨W.heap.size, 0, none⟩ = some (.func (.yield l) #[] #[]) := fun V hV => by
    rw [hBX] at hV
    exact ⟨hV.1, hV.2.cell⟩
  have hBXb : ∀ V V', BX V → Below W2.heap.size V V' → BX V' := fun V V' h hb => by
    rw [hBX] at h ⊢
    exact ⟨Nat.le_trans h.1 hb.size, (hb.block _ (by omega)).trans h.2⟩
  have hBXk : ∀ V V', BX V → Kp V V' → V.heap.size ≤ V'.heap.size → BX V' := fun V V' h hk hsz => by
    rw [hBX] at h ⊢
    exact ⟨Nat.le_trans h.1 hsz, hKp _ _ _ _ _ hk (by omega) h.2⟩
  have hBX2 : BX W2 := by rw [hBX]; exact ⟨Nat.le_refl _, hyb2⟩
  have hW1b : ∀ j V, Dn j V ∧ Bk V ∧ BX V → ∀ V', Below W2.heap.size V V' → Dn j V' ∧ Bk V' ∧ BX V' := fun j V h V' hb =>
    ⟨hDb _ _ _ h.1 (hb.mono (by omega)), hBk _ _ h.2.1 hb.size (fun k _ h2 => hb.block k (by omega)), hBXb _ _ h.2.2 hb⟩
  clear hyb2 hBX HW2
  gi_wp2_with fail
  refine range_stopsR rfl (by omega) (gf := 91) (lb := #[.pointer (some ⟨p, 0, none⟩)]) rfl trivial (enters_of Tryz.func91 (by kernel_rfl) rfl)
    (fun x : Sx × Sx => #[Value.int .u32 x.1.s, .pointer (some ⟨x.2.b, 0, none⟩)]) (fun _ => rfl)
    (fun j x V => (Dn j V ∧ Bk V ∧ BX V) ∧ X[j]? = some x.1 ∧ x.2.At V ∧ Tb.Like x.1.ms x.2.ms)
    (fun j V => Dn j V ∧ Bk V ∧ BX V) (fun cd V => cd = .exit 0 ∧ Xp V)
    (fun V V' => ∀ k cs t, W2.heap.size + 2 ≤ k → V.heap[k]? = some (.cells cs t (0, 0)) → V'.heap[k]? = some (.cells cs t (0, 0))) X.length
    (fun j x V l o o' h hl ho => ⟨hW1b j V h.1 _ (below_put V o' hl), h.2.1, by
      have hof : Off (fun q => q = l) V (V.putObj l o') := ⟨rfl, rfl, rfl, by simp, fun k _ hk => World.putObj_heap_other hk⟩
      refine ⟨h.2.2.1.off hof (fun cs h1 e => ?_) (fun e => ?_) (fun g cs h1 e => ?_), h.2.2.2⟩
      · rw [e, ho] at h1; injection h1 with h1; cases h1
      · obtain ⟨_, _, h1, _⟩ := SlotAt.map h.2.2.1
        rw [e, ho] at h1; injection h1 with h1; cases h1
      · rw [e, ho] at h1; injection h1 with h1; cases h1⟩)
    (fun j V l o o' h hl ho => hW1b j V h _ (below_put V o' hl))
    (fun cd V l o o' h hl ho hc => ⟨h.1, hX V l o o' h.2 (by omega) ho hc⟩)
    (fun _ _ _ h k q cs t h1 h2 => k q cs t h1 (h q cs t h1 h2))
    (fun V l o o' hl ho hc q cs t h1 h2 => (World.putObj_heap_other (fun e => by
      rw [e, ho] at h2; injection h2 with h2; rw [h2] at hc; cases hc)).trans h2)
    (fun o => hW1b 0 W2 ⟨hD2, hB2, hBX2⟩ _ (((Below.refl W2.heap.size W2).alloc (Nat.le_refl _) _).alloc (by simp) _)) ?a1 ?assign ?body ?iter ?done ?stop
  case assign =>
    intro l x V K hK
    gi_wp2
    exact hK
  case body =>
    rintro l' j ⟨x, y⟩ V hl' ⟨rc, hrc⟩ ⟨hV, hxj, hyat, hlike⟩ hj
    simp only at hxj hyat hlike
    obtain ⟨N, hyc, hlack⟩ := lacks_of hyat hlike
    obtain ⟨LM, hLM⟩ : ∃ LM, misZ (y.E.map Pl.ct) N = LM := ⟨_, rfl⟩
    have hLM5 : LM.length ≤ 255 := by
      have h1 := Sl.mis_few (y.E.map Pl.ct) N
      obtain ⟨N', hN', _, h2, _⟩ := SlotAt.count hyat
      rw [← hLM, misZ_len]
      omega
    obtain ⟨V1, hV1⟩ : ∃ V1, V.alloc (.cells #[.int .i64 0] 3) = V1 := ⟨_, rfl⟩
    have hb1 : Below V.heap.size V V1 := by rw [← hV1]; exact (Below.refl _ V).alloc (Nat.le_refl _) _
    have bI1 : Boxed V1 V.heap.size 3 (.int .i64 ((0 : Nat) : Int)) := by rw [← hV1]; exact Boxed.new V _ _
    have hs1 : V1.heap.size = V.heap.size + 1 := by rw [← hV1]; simp
    have hy1 := SlotAt.below hyat hb1
    rw [hyc] at hy1
    have KM := smissing_any hy1
    rw [hLM] at KM
    rw [hLM] at hlack
    have HV1 := Lib.hid hV1
    have HV := Lib.hid hV
    have HXJ := Lib.hid hxj
    have HLK := Lib.hid hlack
    have HB1 := Lib.hid hb1
    clear hV1 hV hxj hyat hlike hyc hlack hy1 hb1 hLM hD2 hB2 hBX2
    gi_wp2_with fail
    refine ⟨trivial, fun _ => by omega, ?_⟩
    rw [HV1.out]
    refine (callsIn_wide.2 KM).mono ?_
    rintro e V2 ⟨Bv, A, cp, rfl, hb2, hBv, hbx, hcp, hnum⟩
    have hb12 := HB1.out.trans (hb2.mono HB1.out.size)
    have hrc2 : V2.heap[l']? = some (.loop rc) := (hb12.block l' (Array.getElem?_eq_some_iff.1 hrc).1).trans hrc
    have bI2 : Boxed V2 V.heap.size 3 (.int .i64 ((0 : Nat) : Int)) := (hb2.block _ (by omega)).trans bI1
    have hbl : V.heap.size < V2.heap.size := bI2.lt
    have hs2' := hb2.size
    have HB2 := Lib.hid hb12
    have HBX := Lib.hid hbx
    have HNM := Lib.hid hnum
    have hBvl := hbx.lt
    have HRC := Lib.hid hrc2
    have HI2 := Lib.hid bI2
    clear HV1 HB1 hb2 hb12 hrc hrc2 bI1 bI2 hbx hnum KM
    gi_wp2_with fail
    refine range_stopsN (F := Fence.wide.inRound l') rfl HRC.out (by omega) (gf := 107) (lb := #[.pointer (some ⟨Bv, 0, none⟩)]) rfl trivial (enters_of Tryz.func107 (by kernel_rfl) rfl)
      (fun z : Int => #[Value.int .i64 z]) (fun _ => rfl)
      (fun j z U => Ld V2 V.heap.size 3 j U ∧ LM[j]? = some z)
      (fun j U => Ld V2 V.heap.size 3 j U) (fun _ _ => False) (fun _ _ => True) LM.length
      (fun j z U l o o' h hl ho => ⟨h.1.below hbl (below_put U o' hl), h.2⟩)
      (fun j U l o o' h hl ho => h.below hbl (below_put U o' hl))
      (fun _ _ _ _ _ h _ _ _ => h) (fun _ _ _ _ _ => trivial) (fun _ _ _ _ _ _ _ => trivial)
      (fun o => Ld.below ⟨HI2.out, Off.refl _ _⟩ hbl ((Below.refl V2.heap.size V2).alloc (Nat.le_refl _) _)) ?b1 ?assign2 ?body2 ?iter2 ?done2 ?stop2
    case assign2 =>
      intro l2 z U K hK
      gi_wp2
      exact hK
    case body2 =>
      rintro l2 i z U hl2 _ ⟨hLd, _⟩ hi
      have kI := hLd.1.cell
      have fI := hLd.1.frozen
      have hi2 : (i : Int) ≤ 255 := by omega
      have hlu := Lib.hid hLd
      clear hLd
      gi_wp2
      exact ⟨(KeepsOthers.setCell U ⟨V.heap.size, 0, none⟩ (.int .i64 ((i : Int) + 1))).from V2.heap.size, hlu.out.next hbl (Below.refl _ U), trivial⟩
    case iter2 =>
      intro Bk2 X2 l2 U hBk2 hBlt2 hX2 hl2 hD2 hBU hYU
      refine (values_in (n - 1 - 1 - 1) (by omega) (n - 1 - 1 - 1 - 1) l2 Bv A LM.length cp LM rfl (by omega) (fun j U => Ld V2 V.heap.size 3 j U ∧ Bk2 U) X2 (fun i U' h => ⟨V2.heap.size, ?_⟩) (fun i z U' h hz => ?_) U ?_ ⟨hD2, hBU⟩).mono fun _ _ h => h
      · exact (HNM.out.keeps ⟨h.1.2.size, fun k (hk : V1.heap.size ≤ k ∧ k < Bv) => h.1.2.block k (by omega) (by omega)⟩).nums fun k (hk : V1.heap.size ≤ k ∧ k < Bv) => by omega
      · refine (hYU i z U' ⟨h.1, hz⟩ h.2 (List.getElem?_eq_some_iff.1 hz).1).mono ?_
        rintro e V3 (⟨rfl, hd, _, _⟩ | ⟨rfl, hx, _⟩)
        · exact .inl ⟨rfl, hd⟩
        · exact .inr ⟨rfl, hx⟩
      · exact (show Boxed U Bv 159 (.slice A LM.length cp) from (hD2.2.block Bv hBvl (by omega)).trans HBX.out).cell
    case done2 =>
      rintro U hLd
      have kI := hLd.1.cell
      have hVU : Below V.heap.size V U := HB2.out.trans (hLd.2.below (fun k hk => by omega) HB2.out.size)
      obtain ⟨hDU, hBU, hXU⟩ := hW1b j V HV.out U (hVU.mono (hBX0 V HV.out.2.2).1)
      have hsV := (hBX0 V HV.out.2.2).1
      obtain ⟨hsU, kY⟩ := hBX0 U hXU
      have hyld := hY j x U hDU HXJ.out hBU
      rw [← HLK.out] at hyld
      obtain ⟨fn, tmps, assign, body, hyr, hR⟩ := yield_any (n - 1 - 1 - 1) hyld
      have HR := Lib.hid hR
      have HVU := Lib.hid hVU
      have HXU := Lib.hid hXU
      have HLd := Lib.hid hLd
      clear hR hyld hDU hBU hXU hVU hLd HBX HNM HRC HI2 HB2
      gi_wp2_with fail
      refine ⟨fun _ => by omega, ?_⟩
      refine RoundIn.mono (F := Fence.wide.inRound l') HR.out ?_
      rintro e V3 (⟨rfl, ⟨hd, hb⟩, hk, hkb⟩ | ⟨rfl, hx, hkb⟩)
      · have hX3 := hBXk _ _ HXU.out hk hkb.size
        have hfin := Lib.hid (show KeepsFrom W2.heap.size V V3 ∧ (Dn (j + 1) V3 ∧ Bk V3 ∧ BX V3) ∧ ∀ k cs t, W2.heap.size + 2 ≤ k → V.heap[k]? = some (.cells cs t (0, 0)) → V3.heap[k]? = some (.cells cs t (0, 0)) from
          ⟨⟨Nat.le_trans HVU.out.size hkb.size, fun q o h1 h2 h3 => hkb.same q o (by omega) (by omega) ((HVU.out.block q (Array.getElem?_eq_some_iff.1 h2).1).trans h2) h3⟩, ⟨hd, hb, hX3⟩, fun k cs t h1 h2 => hKp _ _ _ _ _ hk (by omega) ((HVU.out.block k (Array.getElem?_eq_some_iff.1 h2).1).trans h2)⟩)
        clear hd hb hk hkb hX3 HR
        gi_wp2
        exact hfin.out
      · have hfin := Lib.hid (show KeepsFrom W2.heap.size V V3 ∧ Xp V3 from
          ⟨⟨Nat.le_trans HVU.out.size hkb.size, fun q o h1 h2 h3 => hkb.same q o (by omega) (by omega) ((HVU.out.block q (Array.getElem?_eq_some_iff.1 h2).1).trans h2) h3⟩, hx⟩)
        clear hx hkb HR
        gi_wp2
        exact ⟨hfin.out.1, rfl, hfin.out.2⟩
    case stop2 =>
      rintro cd U h
      exact h.elim
  case iter =>
    intro Bk2 X2 l2 V hBk2 hBlt2 hX2 hl2 hDV hBV hYV
    refine tall_in (n - 1) (by omega) (n - 1 - 1) l2 p W2.heap.size v X (fun j V => Dn j V ∧ Bk V ∧ BX V) Bk2 X2 (fun V V' => ∀ k cs t, W2.heap.size + 2 ≤ k → V.heap[k]? = some (.cells cs t (0, 0)) → V'.heap[k]? = some (.cells cs t (0, 0))) hl2 (fun j A B h hb => hW1b j A h B hb) (fun j V h x hx => (hDx j V h.1).2 x hx) hBk2 hBlt2 hX2 (fun V V' k cs t h h1 h2 => h k cs t h1 h2) (fun l3 Bs3 J Jx hJ hYY V h0 => ?_) (fun j x y V h hx hy hlk hb => hYV j (x, y) V ⟨h, hx, hy, hlk⟩ hb (List.getElem?_eq_some_iff.1 hx).1) V (hDx 0 V hDV.1).1 hDV hBV
    refine hI l3 Bs3 J Jx (fun j V h => ?_) hYY V h0
    obtain ⟨h1, k, h2, _⟩ := hJ j V h
    exact ⟨h1, k, h2⟩
  case done =>
    rintro D V hD ⟨hDV, hBV, _⟩ hK
    have hfin := Lib.hid (And.intro (hDb _ _ _ hDV (below_put V (.deferred none) (by omega : s0 ≤ D))) (hBk _ _ hBV (by simp [World.putObj]) (fun k _ h2 => World.putObj_heap_other (by omega)) : Bk (V.putObj D (.deferred none))))
    clear hDV hBV hD2 hB2
    gi_wp2
    refine ⟨by simp, .inl ⟨_, _, rfl, run_takeDeferred hK, ?_⟩⟩
    refine ⟨_, results_none rfl _ _ _, ?_⟩
    exact ⟨⟨_, rfl⟩, .inl hfin.out⟩
  case stop =>
    rintro D cd V hD ⟨rfl, hx⟩ hK
    have hfin := Lib.hid (hX V D _ (.deferred none) hx (by omega) hK rfl)
    clear hx
    gi_wp2
    refine ⟨by simp, .inl ⟨_, _, rfl, run_takeDeferred hK, ?_⟩⟩
    refine ⟨_, results_none rfl _ _ _, ?_⟩
    exact ⟨⟨_, rfl⟩, .inr hfin.out⟩
end Go.Proofs.YtfdbcfkjablnkaaGreat

namespace Go.Proofs.YtfdbcfkjablnkaaGreat.Tb
open Go.RowKit
theorem Like.refl (x : Ms) : Like x x := ⟨rfl, rfl, rfl, rfl, .refl _⟩
theorem Like.symm {x y : Ms} (h : Like x y) : Like y x := ⟨h.1.symm, h.2.1.symm, h.2.2.1.symm, h.2.2.2.1.symm, h.2.2.2.2.symm⟩
theorem Like.trans {x y z : Ms} (h : Like x y) (k : Like y z) : Like x z := ⟨k.1.trans h.1, k.2.1.trans h.2.1, k.2.2.1.trans h.2.2.1, k.2.2.2.1.trans h.2.2.2.1, h.2.2.2.2.trans k.2.2.2.2⟩
theorem Like.err {x y : Ms} (h : Like x y) (f : Fr) : y.err f = x.err f := by
  unfold Ms.err sErr
  rw [h.1, h.2.1, h.2.2.1, h.2.2.2.1, Sl.has_perm h.2.2.2.2, Sl.tot_perm h.2.2.2.2]
theorem Like.push {x y : Ms} (h : Like x y) (f : Fr) : Like (x.push f) (y.push f) := ⟨h.1, h.2.1, h.2.2.1, h.2.2.2.1, h.2.2.2.2.append_right _⟩
theorem Like.full {x y : Ms} (h : Like x y) : y.full = x.full := by
  unfold Ms.full
  rw [h.2.2.2.1, h.2.2.2.2.length_eq]
theorem Likes.refl : ∀ T : List Ms, Likes T T
  | [] => trivial
  | x :: r => ⟨Like.refl x, Likes.refl r⟩
theorem Likes.symm : ∀ {T T' : List Ms}, Likes T T' → Likes T' T
  | [], [], _ => trivial
  | _ :: _, _ :: _, h => ⟨h.1.symm, Likes.symm h.2⟩
  | [], _ :: _, h => h.elim
  | _ :: _, [], h => h.elim
theorem Likes.trans : ∀ {T T' U : List Ms}, Likes T T' → Likes T' U → Likes T U
  | [], [], [], _, _ => trivial
  | _ :: _, _ :: _, _ :: _, h, k => ⟨h.1.trans k.1, Likes.trans h.2 k.2⟩
  | [], _ :: _, _, h, _ => h.elim
  | _ :: _, [], _, h, _ => h.elim
  | [], [], _ :: _, _, k => k.elim
  | _ :: _, _ :: _, [], _, k => k.elim
theorem Likes.len {T T' : List Ms} (h : Likes T T') : T'.length = T.length := by
  have := congrArg List.length h.nums
  unfold Tb.nums at this
  rwa [List.length_map, List.length_map] at this
theorem Likes.old {T T' : List Ms} (h : Likes T T') : old T' = old T := by
  unfold Tb.old
  rw [h.nums]
theorem Likes.held : ∀ {T T' : List Ms}, Likes T T' → held T' = held T
  | [], [], _ => rfl
  | x :: r, y :: s, h => by
    have h1 := Likes.held h.2
    have h2 := Sl.tot_perm h.1.2.2.2.2
    unfold Tb.held at *
    rw [List.map_cons, List.map_cons, List.sum_cons, List.sum_cons, h1, h2]
  | [], _ :: _, h => h.elim
  | _ :: _, [], h => h.elim
theorem Likes.find : ∀ {T T' : List Ms}, Likes T T' → ∀ n : Int, (find T n = none ∧ find T' n = none) ∨ ∃ x y, find T n = some x ∧ find T' n = some y ∧ Like x y
  | [], [], _, _ => .inl ⟨rfl, rfl⟩
  | x :: r, y :: s, h, n => by
    have hs : y.s = x.s := h.1.2.2.1
    unfold Tb.find
    by_cases hx : x.s = n
    · rw [List.find?_cons_of_pos (by simpa using hx), List.find?_cons_of_pos (by simpa [hs] using hx)]
      exact .inr ⟨x, y, rfl, rfl, h.1⟩
    · rw [List.find?_cons_of_neg (by simpa using hx), List.find?_cons_of_neg (by simpa [hs] using hx)]
      exact Likes.find h.2 n
  | [], _ :: _, h, _ => h.elim
  | _ :: _, [], h, _ => h.elim
theorem Likes.drop : ∀ {T T' : List Ms}, Likes T T' → ∀ n : Int, Likes (drop T n) (drop T' n)
  | [], [], _, _ => trivial
  | x :: r, y :: s, h, n => by
    have hs : y.s = x.s := h.1.2.2.1
    have ih := Likes.drop h.2 n
    unfold Tb.drop at *
    by_cases hx : x.s = n
    · rw [List.filter_cons_of_neg (by simpa using hx), List.filter_cons_of_neg (by simpa [hs] using hx)]
      exact ih
    · rw [List.filter_cons_of_pos (by simpa using hx), List.filter_cons_of_pos (by simpa [hs] using hx)]
      exact ⟨h.1, ih⟩
  | [], _ :: _, h, _ => h.elim
  | _ :: _, [], h, _ => h.elim
theorem Likes.put1 : ∀ {T T' : List Ms}, Likes T T' → ∀ f : Fr, Likes (put1 T f) (put1 T' f)
  | [], [], _, _ => trivial
  | x :: r, y :: s, h, f => by
    have hs : y.s = x.s := h.1.2.2.1
    have ih := Likes.put1 h.2 f
    unfold Tb.put1 at *
    rw [List.map_cons, List.map_cons]
    refine ⟨?_, ih⟩
    by_cases hx : x.s = f.s
    · rw [if_pos hx, if_pos (hs.trans hx)]
      exact h.1.push f
    · rw [if_neg hx, if_neg (by rw [hs]; exact hx)]
      exact h.1
  | [], _ :: _, h, _ => h.elim
  | _ :: _, [], h, _ => h.elim
/-- two answers that are the same but for the order in which frames came -/
structure ResLike (a b : Res) : Prop where
  e : b.e = a.e
  o : b.o = a.o
  T : Likes a.T b.T
theorem ResLike.refl {T T' : List Ms} (h : Likes T T') (e : Int) (o : Out) : ResLike ⟨e, T, o⟩ ⟨e, T', o⟩ := ⟨rfl, rfl, h⟩
theorem Likes.came {T T' : List Ms} (h : Likes T T') (n : Int) (ev : Bool) (o : Int) (hk : ∀ x, Tb.find T n = some x → Sl.Keys x.C) : ResLike (.ok (came T n ev o)) (.ok (came T' n ev o)) := by
  rcases h.find n with ⟨h1, h2⟩ | ⟨x, y, h1, h2, h3⟩
  · unfold Tb.came
    rw [h1, h2]
    exact ⟨rfl, rfl, h⟩
  · unfold Tb.came
    rw [h1, h2]
    simp only [h3.full]
    by_cases hf : x.full = true
    · rw [if_pos hf, if_pos hf]
      refine ⟨rfl, ?_, h.drop n⟩
      show Out.mk _ _ _ _ = Out.mk _ _ _ _
      rw [← h3.2.2.2.2.length_eq, Sl.cat_perm h3.2.2.2.2 (hk x h1)]
    · rw [if_neg hf, if_neg hf]
      exact ⟨rfl, rfl, h⟩
theorem keys_push {C : Sl.Ct} {p : Nat × List Int} (h : Sl.Keys C) (hn : Sl.has C p.1 = false) : Sl.Keys (C ++ [p]) := by
  unfold Sl.Keys at *
  rw [List.map_append, List.nodup_append]
  refine ⟨h, by simp, fun a ha b hb => ?_⟩
  have hb' : b = p.1 := by simpa using hb
  rintro rfl
  rw [hb'] at ha
  rw [Sl.has_iff.2 ha] at hn
  cases hn
theorem Likes.put {T T' : List Ms} (h : Likes T T') (hk : ∀ x ∈ T, Sl.Keys x.C) (r : Nat) (f : Fr) : ResLike (put r T f) (put r T' f) := by
  unfold Tb.put
  by_cases h1 : chk f.v f.k f.i f.c ≠ 0
  · rw [if_pos h1, if_pos h1]; exact .refl h _ _
  rw [if_neg h1, if_neg h1]
  by_cases h2 : f.zs = []
  · rw [if_pos h2, if_pos h2]; exact .refl h _ _
  rw [if_neg h2, if_neg h2]
  rcases h.find f.s with ⟨e1, e2⟩ | ⟨x, y, e1, e2, hxy⟩
  · rw [e1, e2]
    simp only []
    by_cases h3 : (Ms.new f).err f ≠ 0
    · rw [if_pos h3, if_pos h3]; exact .refl h _ _
    rw [if_neg h3, if_neg h3, h.len, h.old]
    by_cases h4 : T.length = r
    · rw [if_pos h4, if_pos h4]
      by_cases h5 : Sr.after f.s (Tb.old T) = true
      · rw [if_pos h5, if_pos h5]
        refine ((h.drop _).push (Like.refl _)).came f.s true _ fun z hz => ?_
        rw [find_app (find_drop e1) rfl] at hz
        injection hz with hz
        rw [← hz]
        exact keys_push (C := []) (by simp [Sl.Keys]) rfl
      · rw [if_neg h5, if_neg h5]; exact .refl h _ _
    · rw [if_neg h4, if_neg h4]
      refine (h.push (Like.refl _)).came f.s false _ fun z hz => ?_
      rw [find_app e1 rfl] at hz
      injection hz with hz
      rw [← hz]
      exact keys_push (C := []) (by simp [Sl.Keys]) rfl
  · rw [e1, e2]
    simp only [hxy.err]
    by_cases h3 : x.err f ≠ 0
    · rw [if_pos h3, if_pos h3]; exact .refl h _ _
    rw [if_neg h3, if_neg h3]
    refine (h.put1 f).came f.s false _ fun z hz => ?_
    rw [find_put1 e1] at hz
    injection hz with hz
    rw [← hz]
    obtain ⟨_, _, _, _, h6, _⟩ := sErr_zero (Decidable.not_not.1 h3)
    exact keys_push (hk x (find_mem e1).1) h6
end Go.Proofs.YtfdbcfkjablnkaaGreat.Tb

namespace Go.Proofs.YtfdbcfkjablnkaaGreat
open Go.RowKit Go.Shelf
set_option maxRecDepth 100000

theorem touts_any (A A' : Option Addr) (n cp cp' : Nat) (wh ev : Bool) (old : Int) (zs : List Int) (w : World) (hn : zs.length = n) (hl : n ≤ 1000000) (h1 : Nums .u8 w w.heap.size A zs) (h2 : Nums .u8 w w.heap.size A' zs) :
    Calls Tryz.prog 11 #[outV A n cp wh ev old, outV A' n cp' wh ev old] w fun e w' => e = .returned (.bool true) ∧ Below w.heap.size w w' := by
  obtain ⟨w0, hw0⟩ : ∃ w0, (w.alloc (.cells (outC A n cp wh ev old) 54)).alloc (.cells (outC A' n cp' wh ev old) 47) = w0 := ⟨_, rfl⟩
  have hb0 : Below w.heap.size w w0 := by rw [← hw0]; exact ((Below.refl _ w).alloc (Nat.le_refl _) _).alloc (by simp) _
  have KS := same_any w0.heap.size A A' n n cp cp' zs zs w0 hn hn (by omega) ((h1.below hb0).mono hb0.size) ((h2.below hb0).mono hb0.size)
  rw [decide_eq_true rfl] at KS
  have HKS := Lib.hid KS
  have HB := Lib.hid hb0
  clear KS hb0 h1 h2 hn
  subst hw0
  unfold outV
  simp only [outC] at HKS HB ⊢
  go_enter Tryz.func11, Tryz.ntmps11
  go_wp2_with fail
  refine HKS.out.mono ?_
  rintro e w1 ⟨rfl, nd, rfl⟩
  have HB1 := Lib.hid (below_drewN HB.out nd)
  clear HKS HB
  cases wh <;> cases ev
  all_goals (
    go_wp2
    go_ret
    exact ⟨rfl, HB1.out⟩)
theorem tseqsame_any (A A' : Option Addr) (n cp cp' : Nat) (zs : List Int) (w : World) (B : Nat) (hn : zs.length = n) (hl : n ≤ 1000000) (h1 : Nums .u32 w B A zs) (h2 : Nums .u32 w B A' zs) :
    Calls Tryz.prog 63 #[.slice A n cp, .slice A' n cp'] w fun e w' => e = .returned (.bool true) ∧ ∃ d, w' = w.drewN d := by
  go_enter Tryz.func63, Tryz.ntmps63
  go_wp2
  go_loopw [5] (fun i wr => ∃ (j d : Nat), j ≤ n ∧ i = .int .i64 (j : Int) ∧ wr = w.drewN d) (fun i _ => n - (intOf i).toNat)
  case atStart => exact ⟨0, 0, by omega, rfl, rfl⟩
  case round =>
    obtain ⟨j, d, hj, rfl, rfl⟩ := hrel
    by_cases hjn : j < n
    · obtain ⟨z, hz⟩ : ∃ z, zs[j]? = some z := ⟨_, List.getElem?_eq_getElem (by rw [hn]; exact hjn)⟩
      obtain ⟨g, o, rfl, _, hc⟩ := h1.open hz
      obtain ⟨g', o', rfl, _, hc'⟩ := h2.open hz
      have hlt : (j : Int) < (n : Int) := by omega
      clear h1 h2 hz
      go_wp2_with fail
      go_quiet ((fail))
      go_wp2
      go_roundw
      case rel => exact ⟨j + 1, d + nq, by omega, by go_num, by simp⟩
      case measure => simp [intOf]; omega
    · have hjn' : j = n := by omega
      subst hjn'
      go_wp2
      go_ret
      exact ⟨rfl, _, rfl⟩
end Go.Proofs.YtfdbcfkjablnkaaGreat

namespace Go.Proofs.YtfdbcfkjablnkaaGreat
open Go.RowKit
section
variable {P : Program} {l : List Oper} {I : World → Prop} {fs : List Tmp} {FS : Tmp → Value → World → Prop} {E : Act → Prop} {o : Oper} {rest : List Oper} {a : Act}
/-- an operation that enters no function and looks at a value that is known by what it is good for alone -/
theorem wpF_useval (s : Tmp) (j : Nat) (v : Value) (hs : s ∈ fs) (hj : (l[j]?).bind (·.dst) = some s) (hje : (o.after.any fun e => Region.binds .any e && e.on == j) = true)
    (hn : ((o.looksAt l.toArray).all fun d => !fs.contains d || d == s) = true) (hdst : (match o.dst with | some d => !fs.contains d | none => true) = true) (hw : ∀ x, Region.wanted o (yielded l.toArray (a.put (some s) x).tmps) = true)
    (hrun : ∀ x w, I w → FS s x w → (execOp (a.put (some s) x).eval o).run P w = .ok (.value v) w) (h : wpF P l.toArray I fs FS E rest (a.put o.dst v)) : wpF P l.toArray I fs FS E (o :: rest) a := by
  refine ⟨v, .inr (.inr (.inl ⟨s, hs, ⟨j, by simpa using hj, hje⟩, fun d hd hf => ?_, fun d hd hf => ?_, fun x w hI hx => ⟨hw x, ?_⟩⟩)), h⟩
  · rw [List.all_eq_true] at hn
    have := hn d hd
    simpa [hf] using this
  · rw [hd] at hdst
    simp [hf] at hdst
  · rw [hrun x w hI hx]
    exact ⟨rfl, rfl⟩
end
end Go.Proofs.YtfdbcfkjablnkaaGreat
