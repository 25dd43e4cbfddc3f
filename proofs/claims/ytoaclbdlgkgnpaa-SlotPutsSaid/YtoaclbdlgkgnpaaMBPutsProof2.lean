/-
  SlotPuts: whatever frames come to a slot, its answers, and what is told of it, are the document's
-/
import Derived.Test.YtoaclbdlgkgnpaaRows
import Derived.Below
import Derived.WalkKit
import Derived.ProofKit
import Derived.OpenShut
import Derived.ShutString
import Derived.ChangeOld
import Derived.Test.YtoaclbdlgkgnpaaMBPutsProof1
namespace Go.Proofs.Ytoaclbdlgkgnpaa
open Go.RowKit
set_option maxRecDepth 100000

theorem salike_any {w : World} {b m : Nat} {v k s : Int} {c : Int} {E : List Pl} (h : SlotAt w b m v k s c E) {A : Option Addr} {n cp : Nat} {fs : List Fr} (hr : RefAt w c A n cp fs) (hp : (E.map Pl.ct).Perm (fs.map Fr.ct)) :
    Calls Try.prog 15 #[.pointer (some ⟨b, 0, none⟩), frV v k s 0 c (.slice A n cp)] w fun e w' => e = .returned (.bool true) ∧ Below w.heap.size w w' := by
  obtain ⟨q, rfl, _⟩ := h.count
  by_cases hq : n = q
  · exact salike_full h hr hp hq
  · exact salike_part h hr hp hq
theorem frs_nil13 (W : World) (B : Nat) : FrsAt W B none [] := ⟨fun f hf => (by cases hf), fun j f hf => by simp at hf⟩
/-- the document's slot behind a frame -/
def nxF (gs : List Fr) (f : Fr) (er : Int) : List Fr := if er = 0 then gs ++ [f] else gs
def nxC (C : Sl.Ct) (f : Fr) (er : Int) : Sl.Ct := if er = 0 then C ++ [f.ct] else C
theorem nx_ct (gs : List Fr) (f : Fr) (er : Int) : (nxF gs f er).map Fr.ct = nxC (gs.map Fr.ct) f er := by
  unfold nxF nxC
  split <;> simp
theorem rput_nx {w w' : World} {v k s c : Int} {A : Option Addr} {n cp : Nat} {gs : List Fr} {f : Fr} {er : Int} {e : Ending} (hr : RefAt w c A n cp gs) (h : RPutR w v k s c A n cp gs f er e w') :
    ∃ A2 n2 cp2, e = .returned (.tuple #[frV v k s 0 c (.slice A2 n2 cp2), .int .i64 er]) ∧ RefAt w' c A2 n2 cp2 (nxF gs f er) ∧ Below w.heap.size w w' := by
  obtain ⟨hb, ⟨h0, he⟩ | ⟨h0, A2, cp2, he, hr2⟩⟩ := h
  · exact ⟨A, n, cp, he, by unfold nxF; rw [if_neg h0]; exact hr.below hb, hb⟩
  · subst h0
    exact ⟨A2, n + 1, cp2, he, hr2, hb⟩
theorem put_nx {w w' : World} {b m : Nat} {v k s c : Int} {E : List Pl} {f : Fr} {er : Int} {e : Ending} (h : PutR w b m v k s c E f.i.toNat f.zs er e w') :
    e = .returned (.int .i64 er) ∧ Off (fun q => q = m) w w' ∧ ∃ E2, SlotAt w' b m v k s c E2 ∧ E2.map Pl.ct = nxC (E.map Pl.ct) f er := by
  obtain ⟨he, ho, ⟨h0, hs⟩ | ⟨h0, p, hi, hz, hs⟩⟩ := h
  · exact ⟨he, ho, E, hs, by unfold nxC; rw [if_neg h0]⟩
  · refine ⟨he, ho, _, hs, ?_⟩
    unfold nxC
    rw [if_pos h0, List.map_append]
    simp [Pl.ct, Fr.ct, hi, hz]
/-- where the law's loop is: the slot and the document's are the same -/
structure PP (w : World) (b m bm : Nat) (v k s c : Int) (E : List Pl) (A : Option Addr) (n cp : Nat) (gs : List Fr) (wr : World) : Prop where
  slot : SlotAt wr b m v k s c E
  box : wr.heap[bm]? = some (.cells (frC v k s 0 c (.slice A n cp)) 35 (0, 0))
  ref : RefAt wr c A n cp gs
  same : E.map Pl.ct = gs.map Fr.ct
  below : Below w.heap.size w wr
theorem PP.below' {w wr wr' : World} {b m bm : Nat} {v k s c : Int} {E : List Pl} {A : Option Addr} {n cp : Nat} {gs : List Fr} (h : PP w b m bm v k s c E A n cp gs wr) (hb : Below wr.heap.size wr wr') : PP w b m bm v k s c E A n cp gs wr' :=
  ⟨h.slot.below hb, (hb.block bm (Array.getElem?_eq_some_iff.1 h.box).1).trans h.box, h.ref.below hb, h.same, h.below.trans (hb.mono h.below.size)⟩
theorem fs_store (W : World) (g : Nat) (old cs : Array Value) (h : W.heap[g]? = some (.cells old 35 (0, 0))) (ho : old.size = 6) (hc : cs.size = 6) (h1 : cs.all (·.oneCell') = true) :
    (Instr.storeAt 35 (.pointer (some ⟨g, 0, none⟩)) (.agg cs)).run Try.prog W = .ok () (W.setRow g cs) := by
  simp only [Instr.storeAt, Instr.sureAddr, Sem.run_bind, Sem.run_pure, Result.andThen]
  exact run_storeVar_row W g 35 35 old cs h (by rw [hc]; exact ssInfo) (by omega) h1
/-- what the operations of 'next, want := ref.Put(m, Of(f))' hand on -/
def FNx (H : Nat) (v k s c : Int) (gs : List Fr) (f : Fr) (er : Int) (q : Tmp) (x : Value) (W : World) : Prop :=
  if q = 12 then ∃ g, x = .pointer (some ⟨g, 0, none⟩) ∧ H ≤ g ∧ W.heap[g]? = some (.cells (frC 0 0 0 0 0 (.slice none 0 0)) 35 (0, 0))
  else ∃ A2 n2 cp2, x = (if q = 63 then frV v k s 0 c (.slice A2 n2 cp2) else .tuple #[frV v k s 0 c (.slice A2 n2 cp2), .int .i64 er]) ∧ RefAt W c A2 n2 cp2 (nxF gs f er)
theorem FNx.later {H : Nat} {v k s c : Int} {gs : List Fr} {f : Fr} {er : Int} {q : Tmp} {x : Value} {W W' : World} (h : FNx H v k s c gs f er q x W) (hb : Below W.heap.size W W') : FNx H v k s c gs f er q x W' := by
  unfold FNx at h ⊢
  split at h
  · rename_i hq
    rw [if_pos hq]
    obtain ⟨g, e, hg, h1⟩ := h
    exact ⟨g, e, hg, (hb.block g (Array.getElem?_eq_some_iff.1 h1).1).trans h1⟩
  · rename_i hq
    rw [if_neg hq]
    obtain ⟨A2, n2, cp2, e, h1⟩ := h
    exact ⟨A2, n2, cp2, e, h1.below hb⟩
set_option maxHeartbeats 8000000 in
theorem puts_go (v k s i c : Int) (hs : 0 ≤ s ∧ s ≤ 4294967295) (A : Option Addr) (n cp : Nat) (fs : List Fr) (w : World) (hn : fs.length = n) (hcp : n ≤ cp) (h1 : FrsAt w w.heap.size A fs) :
    Calls Try.prog 3 #[hdV v k s i c, .slice A n cp] w fun e w' => e = .returned (.bool true) ∧ Below w.heap.size w w' := by
  have hnc : (n : Int) ≤ (cp : Int) := by omega
  have hnl : n ≤ 9223372036854775807 ∨ n > 9223372036854775807 := by omega
  have HKN := Lib.hid (fun W => sknown_any W)
  have HNW := Lib.hid (fun W => snew_any13 v k s i c hs W)
  have HCK := Lib.hid (fun W => rcheck_any v k s i c W)
  have HRN := Lib.hid (fun W => rnew_any13 v k s i c W)
  obtain ⟨w1, hw1⟩ : ∃ w1, w.alloc (.cells #[.int .i64 v, .int .i64 k, .int .u32 s, .int .i64 i, .int .i64 c] 24) = w1 := ⟨_, rfl⟩
  have hb1 : Below w.heap.size w w1 := by rw [← hw1]; exact (Below.refl _ w).alloc (Nat.le_refl _) _
  have hs1 : w1.heap.size = w.heap.size + 1 := by rw [← hw1]; simp
  have hx1 : w1.heap[w.heap.size]? = some (.cells #[.int .i64 v, .int .i64 k, .int .u32 s, .int .i64 i, .int .i64 c] 24 (0, 0)) := by rw [← hw1]; exact World.alloc_heap_new _ _
  have HX : Hid (∀ W, Below w1.heap.size w1 W → W.cell? ⟨w.heap.size, 0, none⟩ = some (.int .i64 v) ∧ W.cell? ⟨w.heap.size, 1, none⟩ = some (.int .i64 k) ∧ W.cell? ⟨w.heap.size, 2, none⟩ = some (.int .u32 s) ∧ W.cell? ⟨w.heap.size, 3, none⟩ = some (.int .i64 i) ∧ W.cell? ⟨w.heap.size, 4, none⟩ = some (.int .i64 c)) :=
    Lib.hid fun W hW => hd_block ((hW.block _ (by omega)).trans hx1)
  have HW1 := Lib.hid hw1
  have HB1 := Lib.hid hb1
  have HS1 := Lib.hid hs1
  have H1 := Lib.hid h1
  have HN := Lib.hid hn
  clear hw1 hb1 hs1 hx1 h1 hn
  unfold frV frC hdV at *
  go_enter Try.func3, Try.ntmps3
  go_wp2_with fail
  rw [HW1.out]
  refine (HNW.out w1).mono ?_
  rintro e w2 hnew
  rcases hnew with ⟨h0, rfl, hb2⟩ | ⟨h0, b, m, rfl, hsl, hb2, hbl, hml, hbm⟩
  · obtain ⟨d0, d1, d2, d3, d4⟩ := HX.out w2 hb2
    have HB2 := Lib.hid (HB1.out.trans (hb2.mono HB1.out.size))
    have hne0 : (chk v k i c != 0) = true := by simpa using h0
    generalize chk v k i c = E at *
    clear hb2
    go_wp2_with fail
    refine (HCK.out w2).mono ?_
    rintro e w3 ⟨rfl, hb3⟩
    have HB3 := Lib.hid (HB2.out.trans (hb3.mono HB2.out.size))
    clear hb3 d0 d1 d2 d3 d4
    go_wp2_with fail
    refine (HKN.out w3).mono ?_
    rintro e w4 ⟨rfl, hb4⟩
    have HB4 := Lib.hid (HB3.out.trans (hb4.mono HB3.out.size))
    clear hb4
    go_wp2
    go_ret
    exact ⟨rfl, HB4.out⟩
  · obtain ⟨d0, d1, d2, d3, d4⟩ := HX.out w2 hb2
    have HB2 := Lib.hid (HB1.out.trans (hb2.mono HB1.out.size))
    have HBB := Lib.hid hb2
    have HSL := Lib.hid hsl
    rw [h0] at HCK
    have HH0 := Lib.hid h0
    clear hb2 hsl h0 HNW
    go_wp2_with fail
    refine (HCK.out w2).mono ?_
    rintro e w3 ⟨rfl, hb3⟩
    have hbb3 := HBB.out.trans (hb3.mono HBB.out.size)
    obtain ⟨d0, d1, d2, d3, d4⟩ := HX.out w3 hbb3
    have HSL3 := Lib.hid (HSL.out.below hb3)
    have HB3 := Lib.hid (HB2.out.trans (hb3.mono HB2.out.size))
    have HBB3 := Lib.hid hbb3
    clear hb3 hbb3
    go_wp2_with fail
    refine (HRN.out w3).mono ?_
    rintro e w4 ⟨rfl, hb4⟩
    obtain ⟨w5, hw5⟩ : ∃ w5, w4.alloc (.cells #[.int .i64 v, .int .i64 k, .int .u32 s, .int .i64 0, .int .i64 c, .slice none 0 0] 35) = w5 := ⟨_, rfl⟩
    have hb45 : Below w4.heap.size w4 w5 := by rw [← hw5]; exact (Below.refl _ w4).alloc (Nat.le_refl _) _
    have hx5 : w5.heap[w4.heap.size]? = some (.cells (frC v k s 0 c (.slice none 0 0)) 35 (0, 0)) := by rw [← hw5]; exact World.alloc_heap_new _ _
    have hb35 := hb4.trans (hb45.mono hb4.size)
    obtain ⟨bm, hbm'⟩ : ∃ bm, w4.heap.size = bm := ⟨_, rfl⟩
    rw [hbm'] at hx5
    have hbw5 := HB3.out.trans (hb35.mono HB3.out.size)
    have hsl5 := HSL3.out.below hb35
    have hc255 : c ≤ 255 := by
      obtain ⟨_, _, _, _, hc, _⟩ := chk_zero hsl5.good
      exact hc
    have hP0 : PP w b m bm v k s c [] none 0 0 [] w5 := ⟨hsl5, hx5, ⟨frs_nil13 _ _, rfl, Nat.le_refl _, fun f hf => (by cases hf), by simp [Sl.Keys], by simp [Sl.tot], hc255, fun g off e => (by cases e)⟩, rfl, hbw5⟩
    have HP0 := Lib.hid hP0
    have HW5 := Lib.hid hw5
    have hwbm : w.heap.size ≤ bm := by have := HB3.out.size; have := hb4.size; omega
    clear hb4 hb45 hx5 hb35 hbw5 hsl5 hP0 hw5 d0 d1 d2 d3 d4 HSL3 HSL
    go_wp2_with fail
    rw [HW5.out]
    go_loopw [9] (fun iv wr => ∃ j : Nat, j ≤ n ∧ j ≤ 40 ∧ iv = .int .i64 (j : Int) ∧ ∃ E Ag ng cpg gs, Hid (PP w b m bm v k s c E Ag ng cpg gs wr)) (fun iv _ => 40 - (intOf iv).toNat)
    case atStart => exact ⟨0, by omega, by omega, rfl, [], none, 0, 0, [], HP0⟩
    case round =>
      obtain ⟨j, hjn, hj40, rfl, E, Ag, ng, cpg, gs, HP⟩ := hrel
      by_cases hj1 : j < n
      · by_cases hj2 : j < 40
        · have hj1' : (j : Int) < (n : Int) := by omega
          have hj2' : (j : Int) < 40 := by omega
          obtain ⟨f, hfj⟩ : ∃ f, fs[j]? = some f := ⟨_, List.getElem?_eq_getElem (by rw [HN.out]; omega)⟩
          have hat := H1.out.1 f (List.mem_of_getElem? hfj)
          obtain ⟨g, off, rfl, hg, a0, a1, a2, a3, a4, a5⟩ := (H1.out.below HP.out.below).six hfj
          have hfl : (f.zs.take 250).length = min 250 f.zs.length := List.length_take
          have h250 : f.cut.zs.length ≤ 250 := by show (f.zs.take 250).length ≤ 250; omega
          have KC : ∀ W, Calls Try.prog 10 #[.agg #[.int .i64 f.v, .int .i64 f.k, .int .u32 f.s, .int .i64 f.i, .int .i64 f.c, .slice f.a f.zs.length f.cp]] W fun e w' => e = .returned (.agg #[.int .i64 f.cut.v, .int .i64 f.cut.k, .int .u32 f.cut.s, .int .i64 f.cut.i, .int .i64 f.cut.c, .slice f.cut.a f.cut.zs.length f.cut.cp]) ∧ Below W.heap.size W w' :=
            fun W => cut_any f.v f.k f.s f.i f.c f.a f.zs.length (f.zs.take 250).length f.cp W (by omega) (by omega) hat.room
          have HCA := Lib.hid (Fr.cut_at hat)
          have HKC := Lib.hid KC
          obtain ⟨f0v, f0k, f0q, f0i, f0c, f0a, f0cp, f0z⟩ := f
          simp only at a0 a1 a2 a3 a4 a5 HKC
          clear KC hat hfj hfl
          generalize (Fr.cut ⟨f0v, f0k, f0q, f0i, f0c, f0a, f0cp, f0z⟩) = h at *
          obtain ⟨fv, fk, fq, fi, fc, fa, fcp, fz⟩ := h
          simp only at HKC h250
          clear hj1 hj2
          go_wp2_with fail
          refine (HKC.out wr).mono ?_
          rintro e W1 ⟨rfl, hbW1⟩
          obtain ⟨W2, hW2⟩ : ∃ W2, W1.alloc (.cells #[.int .i64 fv, .int .i64 fk, .int .u32 fq, .int .i64 fi, .int .i64 fc, .slice fa fz.length fcp] 39) = W2 := ⟨_, rfl⟩
          have hb12 : Below W1.heap.size W1 W2 := by rw [← hW2]; exact (Below.refl _ W1).alloc (Nat.le_refl _) _
          obtain ⟨bf, hbf⟩ : ∃ bf, W1.heap.size = bf := ⟨_, rfl⟩
          have hxf : W2.heap[bf]? = some (.cells (frC fv fk fq fi fc (.slice fa fz.length fcp)) 39 (0, 0)) := by rw [← hW2, ← hbf]; exact World.alloc_heap_new _ _
          have hbr2 := hbW1.trans (hb12.mono hbW1.size)
          have hsl2 := HP.out.slot.below hbr2
          have KCP := scopy_any hsl2
          have HW2 := Lib.hid hW2
          have HXF := Lib.hid hxf
          have HBR2 := Lib.hid hbr2
          have hbfw : wr.heap.size ≤ bf := by have := hbW1.size; omega
          have hbf2 : bf < W2.heap.size := (Array.getElem?_eq_some_iff.1 hxf).1
          have HBF := Lib.hid hbf
          clear hW2 hb12 hxf hbr2 hsl2 hbW1 a0 a1 a2 a3 a4 a5 hbf
          go_wp2_with fail
          rw [HW2.out]
          rw [HBF.out]
          refine KCP.mono ?_
          rintro e W3 ⟨bc, mc, Ec, rfl, hslc, hperm, hb23, hbc, hmc⟩
          have hbr3 := HBR2.out.trans (hb23.mono HBR2.out.size)
          have hs23 := hb23.size
          have hxf3 := (hb23.block bf hbf2).trans HXF.out
          have hbmr : bm < wr.heap.size := (Array.getElem?_eq_some_iff.1 HP.out.box).1
          have HBR3 := Lib.hid hbr3
          have HSLC := Lib.hid hslc
          have HPM := Lib.hid hperm
          have HXF3 := Lib.hid hxf3
          have hbf3 : bf < W3.heap.size := by omega
          have hwr3 : wr.heap.size ≤ W3.heap.size := hbr3.size
          obtain ⟨er, her⟩ : ∃ er, sErr v k s c fv fk fq fi fc (gs.map Fr.ct) fz = er := ⟨_, rfl⟩
          have HER := Lib.hid her
          have LF : ∀ V, Below W3.heap.size W3 V → (Instr.loadAt 39 (.pointer (some ⟨bf, 0, none⟩))).run Try.prog V = .ok (Value.agg #[.int .i64 fv, .int .i64 fk, .int .u32 fq, .int .i64 fi, .int .i64 fc, .slice fa fz.length fcp]) V := fun V hV => by
            obtain ⟨d0, d1, d2, d3, d4, d5⟩ := fr_block ((hV.block bf hbf3).trans HXF3.out)
            simp [Instr.loadAt, go_sem, d0, d1, d2, d3, d4, d5]
          have LM : ∀ V, Below W3.heap.size W3 V → (Instr.loadAt 35 (.pointer (some ⟨bm, 0, none⟩))).run Try.prog V = .ok (Value.agg #[.int .i64 v, .int .i64 k, .int .u32 s, .int .i64 0, .int .i64 c, .slice Ag ng cpg]) V := fun V hV => by
            obtain ⟨d0, d1, d2, d3, d4, d5⟩ := fr_block ((hV.block bm (by omega)).trans ((HBR3.out.block bm hbmr).trans HP.out.box))
            simp [Instr.loadAt, go_sem, d0, d1, d2, d3, d4, d5]
          have HFA : Hid (∀ V, Below W3.heap.size W3 V → (⟨fv, fk, fq, fi, fc, fa, fcp, fz⟩ : Fr).At V V.heap.size) := Lib.hid fun V hV => by
            have h1 := HP.out.below.trans ((HBR3.out.trans (hV.mono HBR3.out.size)).mono HP.out.below.size)
            exact (HCA.out.below h1).mono h1.size
          have KO : Hid (∀ V, Below W3.heap.size W3 V → Calls Try.prog 13 #[Value.agg #[.int .i64 fv, .int .i64 fk, .int .u32 fq, .int .i64 fi, .int .i64 fc, .slice fa fz.length fcp]] V fun e w' => e = .returned (Value.agg #[.int .i64 fv, .int .i64 fk, .int .u32 fq, .int .i64 fi, .int .i64 fc, .slice fa fz.length fcp]) ∧ Below V.heap.size V w') := Lib.hid fun V _ => of_frame fv fk fq fi fc fa fz.length fcp V
          have KR : Hid (∀ V, Below W3.heap.size W3 V → Calls Try.prog 12 #[Value.agg #[.int .i64 v, .int .i64 k, .int .u32 s, .int .i64 0, .int .i64 c, .slice Ag ng cpg], Value.agg #[.int .i64 fv, .int .i64 fk, .int .u32 fq, .int .i64 fi, .int .i64 fc, .slice fa fz.length fcp]] V fun e w' => ∃ u, e = .returned u ∧ FNx W3.heap.size v k s c gs ⟨fv, fk, fq, fi, fc, fa, fcp, fz⟩ er 62 u w' ∧ Below V.heap.size V w') := Lib.hid fun V hV => by
            have hr := HP.out.ref.below (HBR3.out.trans (hV.mono HBR3.out.size))
            have h1 := rput_any v k s hr ⟨fv, fk, fq, fi, fc, fa, fcp, fz⟩ (HFA.out V hV) h250
            refine h1.mono fun e w' h2 => ?_
            simp only [HER.out] at h2
            obtain ⟨A2, n2, cp2, he, hr2, hb⟩ := rput_nx hr h2
            exact ⟨_, he, ⟨A2, n2, cp2, rfl, hr2⟩, hb⟩
          clear hslc hperm hb23 hbr3 hs23 hxf3 KCP her
          go_wp2_with fail
          refine wp_region_FG 86 6 [false, false, false, false, false, false, true, false] [62, 58, 63, 12] (FNx W3.heap.size v k s c gs ⟨fv, fk, fq, fi, fc, fa, fcp, fz⟩ er) (fun V => Below W3.heap.size W3 V) (fun xs V V' => ∃ g A2 n2 cp2, xs 12 = .pointer (some ⟨g, 0, none⟩) ∧ W3.heap.size ≤ g ∧ V.heap[g]? = some (.cells (frC 0 0 0 0 0 (.slice none 0 0)) 35 (0, 0)) ∧ RefAt V c A2 n2 cp2 (nxF gs ⟨fv, fk, fq, fi, fc, fa, fcp, fz⟩ er) ∧ V' = V.setRow g (frC v k s 0 c (.slice A2 n2 cp2))) (by kernel_rfl) (by kernel_rfl) (by rfl) (by kernel_rfl) (by rfl) (by simp) (fun W W' h hb => h.trans (hb.mono h.size)) (fun q x W W' h hb => h.later hb) (Below.refl _ _).drew ?_
          refine wpFG_step (wpF_load _ rfl (by rfl) (by rfl) (by rfl) LM ?_)
          simp only [wpF, Act.put, List.setIfInBounds_toArray, List.set_cons_succ, List.set_cons_zero]
          refine wpFG_step (wpF_load _ rfl (by rfl) (by rfl) (by rfl) LF ?_)
          simp only [wpF, Act.put, List.setIfInBounds_toArray, List.set_cons_succ, List.set_cons_zero]
          refine wpFG_step (wpF_call (f := 13) (args := #[Value.agg #[.int .i64 fv, .int .i64 fk, .int .u32 fq, .int .i64 fi, .int .i64 fc, .slice fa fz.length fcp]]) (Value.agg #[.int .i64 fv, .int .i64 fk, .int .u32 fq, .int .i64 fi, .int .i64 fc, .slice fa fz.length fcp]) rfl rfl (fun x => by first | rfl | (simp [go_sem]; done)) KO.out ?_)
          simp only [wpF, Act.put, List.setIfInBounds_toArray, List.set_cons_succ, List.set_cons_zero]
          refine wpFG_step (wpF_callsrc 62 (f := 12) (args := #[Value.agg #[.int .i64 v, .int .i64 k, .int .u32 s, .int .i64 0, .int .i64 c, .slice Ag ng cpg], Value.agg #[.int .i64 fv, .int .i64 fk, .int .u32 fq, .int .i64 fi, .int .i64 fc, .slice fa fz.length fcp]]) (by simp) rfl rfl rfl (fun x => by first | rfl | (simp [go_sem]; done)) KR.out ?_)
          simp only [wpF, Act.put, List.setIfInBounds_toArray, List.set_cons_succ, List.set_cons_zero]
          refine wpFG_step (wpF_mix 58 [62] (by simp) rfl (by kernel_rfl) (by kernel_rfl) (fun xs => by rfl) (fun xs V hV hx => ⟨xs 62, V, by simp [execOp, fill, Act.put, Act.eval, go_sem], hx 62 (by simp), Below.refl _ _⟩) ?_)
          simp only [wpF, Act.put, List.setIfInBounds_toArray, List.set_cons_succ, List.set_cons_zero]
          refine wpFG_step (wpF_mix 63 [58] (by simp) rfl (by kernel_rfl) (by kernel_rfl) (fun xs => by rfl) (fun xs V hV hx => ?_) ?_)
          · obtain ⟨A2, n2, cp2, e58, hr2⟩ := (show ∃ A2 n2 cp2, xs 58 = .tuple #[frV v k s 0 c (.slice A2 n2 cp2), .int .i64 er] ∧ RefAt V c A2 n2 cp2 (nxF gs ⟨fv, fk, fq, fi, fc, fa, fcp, fz⟩ er) from hx 58 (by simp))
            exact ⟨frV v k s 0 c (.slice A2 n2 cp2), V, by simp [execOp, fill, Act.put, Act.eval, e58, go_sem], ⟨A2, n2, cp2, rfl, hr2⟩, Below.refl _ _⟩
          simp only [wpF, Act.put, List.setIfInBounds_toArray, List.set_cons_succ, List.set_cons_zero]
          refine wpFG_use 58 4 (.int .i64 er) (by simp) (by rfl) (by kernel_rfl) (by kernel_rfl) (by rfl) (fun x => by rfl) (fun x V hx V' => ?_) ?_
          · obtain ⟨A2, n2, cp2, e58, hr2⟩ := (show ∃ A2 n2 cp2, x = .tuple #[frV v k s 0 c (.slice A2 n2 cp2), .int .i64 er] ∧ RefAt V c A2 n2 cp2 (nxF gs ⟨fv, fk, fq, fi, fc, fa, fcp, fz⟩ er) from hx)
            simp [execOp, Act.put, Act.eval, e58, go_sem]
          simp only [Act.put, List.setIfInBounds_toArray, List.set_cons_succ, List.set_cons_zero]
          refine wpFG_step (wpF_src 12 (by simp) rfl (by kernel_rfl) (by kernel_rfl) (fun V hV => ⟨.pointer (some ⟨V.heap.size, 0, none⟩), V.alloc (.cells (frC 0 0 0 0 0 (.slice none 0 0)) 35), ?_, ⟨_, rfl, hV.size, World.alloc_heap_new _ _⟩, (Below.refl _ _).alloc (Nat.le_refl _) _⟩) ?_)
          · have hzz : (zeroValue 35).run Try.prog V = .ok (frV 0 0 0 0 0 (.slice none 0 0)) V := by kernel_rfl
            simp [execOp, go_sem, hzz]
            try rfl
          simp only [wpF, Act.put, List.setIfInBounds_toArray, List.set_cons_succ, List.set_cons_zero]
          refine wpFG_storeX rfl rfl rfl (fun xs V hV hx => ?_) ?_
          · obtain ⟨g', e12, hg', hcg⟩ := (show ∃ g, xs 12 = .pointer (some ⟨g, 0, none⟩) ∧ W3.heap.size ≤ g ∧ V.heap[g]? = some (.cells (frC 0 0 0 0 0 (.slice none 0 0)) 35 (0, 0)) from hx 12 (by simp))
            obtain ⟨A2, n2, cp2, e63, hr2⟩ := (show ∃ A2 n2 cp2, xs 63 = frV v k s 0 c (.slice A2 n2 cp2) ∧ RefAt V c A2 n2 cp2 (nxF gs ⟨fv, fk, fq, fi, fc, fa, fcp, fz⟩ er) from hx 63 (by simp))
            refine ⟨_, ?_, g', A2, n2, cp2, e12, hg', hcg, hr2, rfl⟩
            simp only [fill, Act.put, List.setIfInBounds_toArray, List.set_cons_succ, List.set_cons_zero, e12, e63]
            exact fs_store V g' _ _ hcg rfl rfl (fs_one _ _ _ _ _ _ _ _)
          refine wpFGn_pure (wpFS_pure rfl rfl ?_)
          go_big_quiet_step (fail)
          refine wpQuiet_nil ?_
          simp only [wpFS]
          rintro xs V V' hV hx ⟨g', A2, n2, cp2, e12, hg', hcg, hr2, rfl⟩
          simp only [fill, Act.put, List.setIfInBounds_toArray, List.set_cons_succ, List.set_cons_zero, e12]
          have hof : Off (fun q => q = g') V (V.setRow g' (frC v k s 0 c (.slice A2 n2 cp2))) := Off.setRow (S := fun q => q = g') (Off.refl _ V) rfl _
          have hvf := hV.trans (hof.below (fun q hq => by omega) hV.size)
          have hrf := hr2.off hof (fun q cs t fz hq hs => by
            subst hs
            rw [hcg] at hq
            injection hq with hq
            injection hq with h1 h2 h3
            exact ⟨_, _, _, _, _, _, _, _, h1.symm, h2.symm⟩)
          have hxg := setRow_heap V g' _ (frC v k s 0 c (.slice A2 n2 cp2)) _ _ hcg
          clear hof hcg hr2
          generalize (V.setRow g' (frC v k s 0 c (.slice A2 n2 cp2))) = Wf at hvf hrf hxg ⊢
          have hrvf := HBR3.out.trans (hvf.mono HBR3.out.size)
          have hslf := HP.out.slot.below hrvf
          have hslcf := HSLC.out.below hvf
          have hxbm := (hrvf.block bm hbmr).trans HP.out.box
          have hxbf := (hvf.block bf hbf3).trans HXF3.out
          have hgsf := HP.out.ref.below hrvf
          have hfaf := HFA.out Wf hvf
          have hbwf := HP.out.below.trans (hrvf.mono HP.out.below.size)
          have KP := (sput_any hslf fv fk fq fi fc fa fz.length fcp fz rfl hfaf.byte hfaf.nums).mono fun e w' h => put_nx (f := ⟨fv, fk, fq, fi, fc, fa, fcp, fz⟩) h
          have hsam := HP.out.same
          rw [hsam, HER.out] at KP
          obtain ⟨d0, d1, d2, d3, d4, d5⟩ := fr_block hxbf
          have hmf := hslf.map.lt
          have hmb : bm ≠ m := fun e => hslf.map.not_cells _ _ _ (by rw [← e]; exact hxbm)
          have hmf' : bf ≠ m := fun e => hslf.map.not_cells _ _ _ (by rw [← e]; exact hxbf)
          have hmg' : g' ≠ m := fun e => hslf.map.not_cells _ _ _ (by rw [← e]; exact hxg)
          have hmc' : mc ≠ m := by
            have := HP.out.slot.map.lt
            have := HBR2.out.size
            omega
          have hbc' : bc ≠ m := by
            have := HP.out.slot.map.lt
            have := HBR2.out.size
            omega
          have hml5 : bm < Wf.heap.size := (Array.getElem?_eq_some_iff.1 hxbm).1
          have hgl5 : g' < Wf.heap.size := (Array.getElem?_eq_some_iff.1 hxg).1
          have hncl : ∀ q cs, Wf.heap[q]? = some (.cells cs 5 (0, 0)) → ¬ (q = m) := fun q cs hq e => hslf.map.not_cells _ _ _ (by rw [← e]; exact hq)
          have hncl' : ∀ q cs t fz, Wf.heap[q]? = some (.cells cs t fz) → q = m → False := fun q cs t fz hq e => hslf.map.not_cells _ _ _ (by rw [← e]; exact hq)
          have HXBM := Lib.hid hxbm
          have HXG := Lib.hid hxg
          have HSLF := Lib.hid hslcf
          have HGSF := Lib.hid hgsf
          have HRF := Lib.hid hrf
          have HBWF := Lib.hid hbwf
          have HNCL := Lib.hid hncl
          have HNCL' := Lib.hid hncl'
          clear hncl hncl' hxbm hxg hslcf hgsf hrf hbwf hfaf hslf hxbf hrvf hvf
          unfold frV frC at KP
          go_wp2_with fail
          refine KP.mono ?_
          rintro e W5 ⟨rfl, ho5, E2, hsl5, hct5⟩
          have hx5 := (ho5.block bm hml5 hmb).trans HXBM.out
          have hg5 := (ho5.block g' hgl5 hmg').trans HXG.out
          have hslc5 := HSLF.out.off ho5 hbc' hmc' HNCL.out
          have hgs5 := HGSF.out.off ho5 (fun q cs t fz hq hs => (HNCL'.out q cs t fz hq hs).elim)
          have hrf5 := HRF.out.off ho5 (fun q cs t fz hq hs => (HNCL'.out q cs t fz hq hs).elim)
          have hbw5 : Below w.heap.size w W5 := HBWF.out.trans (ho5.below (fun q hq => by subst hq; have := HB1.out.size; omega) HBWF.out.size)
          have KA := salike_any hslc5 hgs5 (by rw [← hsam]; exact HPM.out)
          obtain ⟨e0, e1, e2, e3, e4, e5⟩ := fr_block hx5
          have HSL5 := Lib.hid hsl5
          have HX5 := Lib.hid hx5
          have HG5 := Lib.hid hg5
          have HRF5 := Lib.hid hrf5
          have HBW5 := Lib.hid hbw5
          have HCT5 := Lib.hid hct5
          clear hsl5 hx5 hg5 hrf5 hbw5 hct5 hslc5 hgs5 ho5 KP d0 d1 d2 d3 d4 d5
          unfold frV at KA
          go_wp2_with fail
          refine KA.mono ?_
          rintro e W6 ⟨rfl, hb6⟩
          have hml6 : bm < W5.heap.size := (Array.getElem?_eq_some_iff.1 HX5.out).1
          have hx6 := (hb6.block bm hml6).trans HX5.out
          have hg6 := (hb6.block g' (Array.getElem?_eq_some_iff.1 HG5.out).1).trans HG5.out
          have hsl6 := HSL5.out.below hb6
          have hrf6 := HRF5.out.below hb6
          have hbw6 := HBW5.out.trans (hb6.mono HBW5.out.size)
          obtain ⟨g0, g1, g2, g3, g4, g5⟩ := fr_block hg6
          obtain ⟨W7, hW7⟩ : ∃ W7, W6.setRow bm (frC v k s 0 c (.slice A2 n2 cp2)) = W7 := ⟨_, rfl⟩
          have ho7 : Off (fun q => q = bm) W6 W7 := by rw [← hW7]; exact Off.setRow (S := fun q => q = bm) (Off.refl _ W6) rfl _
          have hx7 : W7.heap[bm]? = some (.cells (frC v k s 0 c (.slice A2 n2 cp2)) 35 (0, 0)) := by rw [← hW7]; exact setRow_heap W6 bm _ (frC v k s 0 c (.slice A2 n2 cp2)) _ _ hx6
          have hsl7 := hsl6.off ho7 (fun e => by
            have h1 := hsl6.row
            rw [e, hx6] at h1
            injection h1 with h1
            injection h1 with h1 h2 h3
            exact absurd h2 (by decide)) (fun e => hmb e.symm) (fun q cs hq e => by
            subst e
            rw [hx6] at hq
            injection hq with hq
            injection hq with h1 h2 h3
            exact absurd h2 (by decide))
          have hrf7 := hrf6.off ho7 (fun q cs t fz hq hs => by
            subst hs
            rw [hx6] at hq
            injection hq with hq
            injection hq with h1 h2 h3
            exact ⟨_, _, _, _, _, _, _, _, h1.symm, h2.symm⟩)
          have hbw7 : Below w.heap.size w W7 := hbw6.trans (ho7.below (fun q hq => by subst hq; exact hwbm) hbw6.size)
          have hct7 := HCT5.out.trans (nx_ct gs ⟨fv, fk, fq, fi, fc, fa, fcp, fz⟩ er).symm
          have KA2 := salike_any hsl7 hrf7 (by rw [hct7])
          have HP7 : Hid (PP w b m bm v k s c E2 A2 n2 cp2 (nxF gs ⟨fv, fk, fq, fi, fc, fa, fcp, fz⟩ er) W7) := Lib.hid ⟨hsl7, hx7, hrf7, hct7, hbw7⟩
          have HW7 := Lib.hid hW7
          obtain ⟨q0, q1, q2, q3, q4, q5⟩ := fr_block (show (W6.setRow bm (frC v k s 0 c (.slice A2 n2 cp2))).heap[bm]? = some (.cells (frC v k s 0 c (.slice A2 n2 cp2)) 35 (0, 0)) from by rw [hW7]; exact hx7)
          clear hb6 hg6 hsl6 hrf6 hbw6 ho7 hx7 hsl7 hrf7 hbw7 hct7 hW7 KA e0 e1 e2 e3 e4 e5 HSL5 HX5 HG5 HRF5 HBW5 HCT5
          unfold frV at KA2
          go_wp2_with (refine wpList_store_row rfl 35 (.tmp 8) (.tmp 80) rfl bm (frC v k s 0 c (.slice A2 n2 cp2)) rfl rfl 35 _ hx6 ssInfo rfl (fs_one _ _ _ _ _ _ _ _) ?_)
          rw [HW7.out]
          refine KA2.mono ?_
          rintro e W8 ⟨rfl, hb8⟩
          have HP8 : Hid (PP w b m bm v k s c E2 A2 n2 cp2 (nxF gs ⟨fv, fk, fq, fi, fc, fa, fcp, fz⟩ er) W8) := Lib.hid (HP7.out.below' hb8)
          clear hb8 KA2 g0 g1 g2 g3 g4 g5 q0 q1 q2 q3 q4 q5
          go_wp2_with fail
          refine ⟨⟨j + 1, by omega, by omega, by simp, _, _, _, _, _, HP8⟩, ?_⟩
          simp only [intOf]
          omega
        · have hj1' : (j : Int) < (n : Int) := by omega
          have hj2' : ¬ (j : Int) < 40 := by omega
          clear hj1 hj2
          go_wp2_with fail
          refine (HKN.out wr).mono ?_
          rintro e wz ⟨rfl, hbz⟩
          have HBZ := Lib.hid (HP.out.below.trans (hbz.mono HP.out.below.size))
          clear hbz
          go_wp2
          go_ret
          exact ⟨rfl, HBZ.out⟩
      · have hj1' : ¬ (j : Int) < (n : Int) := by omega
        clear hj1
        go_wp2_with fail
        refine (HKN.out wr).mono ?_
        rintro e wz ⟨rfl, hbz⟩
        have HBZ := Lib.hid (HP.out.below.trans (hbz.mono HP.out.below.size))
        clear hbz
        go_wp2
        go_ret
        exact ⟨rfl, HBZ.out⟩
end Go.Proofs.Ytoaclbdlgkgnpaa

namespace Go.Proofs.Ytoaclbdlgkgnpaa.slotPuts
open Go.ChangeShapes Go.WideShapes Go.ChangeAt Go.RowKit
open Go.ChangeMaps (open_string shut_string)
set_option linter.unusedVariables false

theorem own : ownKnob Try.prog.godebug = none := by kernel_rfl
theorem laidOut : laidOutB Try.prog = true := by kernel_rfl

set_option maxRecDepth 100000 in
theorem lifted (os : Os) (started : os.Started) (H : Type) (enc : TypeId × Value → H) :
    ReturnsInHanded {} Try.checked os 3 .any (Rows.slotPutsSpec.pre6 enc Try.prog Try.f3 Rows.slotPutsRow.domain false) (Rows.slotPutsSpec.post enc Try.prog Try.f3 false true false false) := by
  refine returnsInHanded_of_change (C := Try.checked) own started (by kernel_rfl) Try.func3
    (ChangeSpec.witness6 (enc := enc) (C := Try.checked) false ⟨#[], #[.agg #[.int .i64 0, .int .i64 0, .int .u32 0, .int .i64 0, .int .i64 0], .slice none 0 0], []⟩ 8 (by kernel_rfl) (by kernel_rfl) (by kernel_rfl) (by kernel_rfl)) ?_
  intro W base args ds gs before hval0 hW hcnd _
  have hval : ∀ (j : Nat) t v, Try.f3.params[j]? = some t → args[j]? = some v → Value.okWide Try.prog W .any base t v := hval0
  have hW' := hW
  obtain ⟨p, q, hA0, hV, rfl, hfz, hnd⟩ := hW
  have hA : DataW.TrodAll enc Try.prog W 0 (fun _ => true) true Try.f3.params.toList args.toList ds p := hA0
  rw [Try.params3] at hA hval
  obtain ⟨v0, vs0, d0, ds0, p0, q0, hargs, rfl, rfl, h0, r0⟩ := trodAll_cons hA
  obtain ⟨v1, vs1, d1, ds1, p1, q1, rfl, rfl, rfl, h1, r1⟩ := trodAll_cons r0
  obtain ⟨rfl, rfl, rfl⟩ := trodAll_nil r1
  obtain rfl : args = #[v0, v1] := by cases args; simp_all
  obtain ⟨rfl, rfl⟩ := trodVars_none hV
  have k0 := h0
  have lt0 : ∀ x ∈ p0, x.block < W.heap.size := by obtain ⟨m, hm⟩ := k0; exact DataW.trod_lt m _ _ _ hm
  obtain ⟨x0_1, x0_2, x0_3, x0_4, x0_5, rfl, y0_1, y0_2, y0_3, y0_4, y0_5⟩ := open_head (hval 0 24 v0 rfl rfl) h0
  obtain ⟨a1, len1, cap1, rfl⟩ := okWide_slice Try.underlying25 (hval 1 25 v1 rfl rfl)
  have k1 := h1
  have lt1 : ∀ x ∈ p1, x.block < W.heap.size := by obtain ⟨m, hm⟩ := k1; exact DataW.trod_lt m _ _ _ hm
  obtain ⟨e1, hd1, hx1, hm1, w1, wf1⟩ := (by
    obtain ⟨fuel, hf⟩ := h1
    exact frs_of hf : ∃ fs : List Fr, fs.length = len1 ∧ len1 ≤ 9223372036854775807 ∧ len1 ≤ cap1 ∧ FrsAt W W.heap.size a1 fs ∧ ∀ f ∈ fs, f.Wf)
  clear hA0 hval0
  refine (puts_go x0_1 x0_2 x0_3 x0_4 x0_5 (bounds_u32 y0_3) a1 len1 cap1 e1 W hd1 hm1 w1).mono fun e W' ⟨he, bel⟩ => ?_
  subst he
  exact ⟨_, rfl, _, _, _, [], _, [], hW', trodAll_mk1 (shut_bool Try.underlying4 _), (trodAll_cons_mk (Below.trod laidOut (by kernel_rfl) (of_decide_eq_true (by kernel_rfl)) k0 bel lt0) (trodAll_cons_mk (Below.trod laidOut (by kernel_rfl) (of_decide_eq_true (by kernel_rfl)) k1 bel lt1) trodAll_mk0)), rfl, bel.frame _, fun h => by cases h⟩

theorem over : Rows.slotPutsRow.holds Try.pinned (OpenSpec.ofChange Rows.slotPutsSpec) :=
  OpenClaim.holds_of_wide 3 Try.f3 rfl rfl rfl rfl rfl rfl rfl ⟨rfl, rfl, rfl, rfl, rfl⟩ rfl rfl rfl rfl rfl (by kernel_rfl) Try.func3 (by kernel_rfl)
    (of_decide_eq_true (by kernel_rfl)) (by unfold Func.isWrapper; first | (rw [if_pos (by decide +kernel)]; kernel_rfl) | (rw [if_neg (by decide +kernel)]; exact ⟨rfl, rfl⟩))
    (fun os started H enc _ => lifted os started H enc)

theorem proved : Rows.SlotPutsSaid := over
#print axioms proved
end Go.Proofs.Ytoaclbdlgkgnpaa.slotPuts
