/-
  For every head, every list of bytes and any two rooms, the law CutRooms returns true: cut by either room the parts are the whole body, and a greater room makes no more parts.
-/
import Derived.Test.YtmdjgidbfcfdnaaRows
import Derived.Below
import Derived.WalkKit
import Derived.ProofKit
import Derived.OpenShut
import Derived.ShutString
import Derived.ChangeOld
import Derived.Test.YtmdjgidbfcfdnaaMB3
namespace Go.Proofs.Ytmdjgidbfcfdnaa
open Go.RowKit Go.Shelf
set_option maxRecDepth 100000
attribute [local go_sem] Oper.semAt_some

theorem of_frame (v k s i c : Int) (A : Option Addr) (n cp : Nat) (w : World) : Calls Try.prog 14 #[frV v k s i c (.slice A n cp)] w fun e w' => e = .returned (frV v k s i c (.slice A n cp)) ∧ Below w.heap.size w w' := by
  have hb : Below w.heap.size w ((w.alloc (.cells (frC v k s i c (.slice A n cp)) 42)).alloc (.cells (frC v k s i c (.slice A n cp)) 45)) := ((Below.refl _ w).alloc (Nat.le_refl _) _).alloc (by simp) _
  have HB := Lib.hid hb
  unfold frV
  have HF : Hid (frC v k s i c (.slice A n cp) = #[.int .i64 v, .int .i64 k, .int .u32 s, .int .i64 i, .int .i64 c, .slice A n cp]) := rfl
  rw [HF.out] at HB ⊢
  clear hb
  go_enter Try.func14, Try.ntmps14
  go_wp2
  refine bodyPost_ret (v := .agg #[.int .i64 v, .int .i64 k, .int .u32 s, .int .i64 i, .int .i64 c, .slice A n cp]) (by simp [results, Try.results14, go_sem]) rfl ?_
  exact ⟨rfl, HB.out⟩
end Go.Proofs.Ytmdjgidbfcfdnaa

namespace Go.Proofs.Ytmdjgidbfcfdnaa
open Go.RowKit Go.Shelf
set_option maxRecDepth 100000
attribute [local go_sem] Oper.semAt_some

/-- frames that are the same, one by one -/
def SameF (fs gs : List Fr) : Prop := ∀ (j : Nat) (f g : Fr), fs[j]? = some f → gs[j]? = some g → f.v = g.v ∧ f.k = g.k ∧ f.s = g.s ∧ f.i = g.i ∧ f.c = g.c ∧ f.zs = g.zs
theorem Ct.Cut.same {v k s : Int} {zs : List Int} {r : Nat} {fs gs : List Fr} (h : Ct.Cut v k s zs r fs) (h2 : Ct.Cut v k s zs r gs) : fs.length = gs.length ∧ SameF fs gs := by
  refine ⟨by rw [h.len, h2.len], fun j f g hf hg => ?_⟩
  obtain ⟨a1, a2, a3, a4, a5, a6⟩ := h.at' j f hf
  obtain ⟨b1, b2, b3, b4, b5, b6⟩ := h2.at' j g hg
  exact ⟨a1.trans b1.symm, a2.trans b2.symm, a3.trans b3.symm, a4.trans b4.symm, a5.trans b5.symm, a6.trans b6.symm⟩

set_option maxHeartbeats 4000000 in
theorem csame_any (A A' : Option Addr) (n cp cp' : Nat) (fs gs : List Fr) (w : World) (hn : fs.length = n) (hn' : gs.length = n) (hcp : n ≤ cp) (hcp' : n ≤ cp') (hl : n ≤ 1000000) (h1 : FrsAt w w.heap.size A fs) (h2 : FrsAt w w.heap.size A' gs) (hS : SameF fs gs) :
    Calls Try.prog 8 #[.slice A n cp, .slice A' n cp'] w fun e w' => e = .returned (.bool true) ∧ Below w.heap.size w w' := by
  have hnc : (n : Int) ≤ (cp : Int) := by omega
  have hnc' : (n : Int) ≤ (cp' : Int) := by omega
  have HN := Lib.hid hn
  have HN' := Lib.hid hn'
  have H1 := Lib.hid h1
  have H2 := Lib.hid h2
  have HS := Lib.hid hS
  clear hn hn' h1 h2 hS
  go_enter Try.func8, Try.ntmps8
  go_wp2
  go_loopw [5] (fun iv wr => ∃ j : Nat, j ≤ n ∧ iv = .int .i64 (j : Int) ∧ Hid (Below w.heap.size w wr)) (fun iv _ => n - (intOf iv).toNat)
  case atStart => exact ⟨0, by omega, rfl, Below.refl _ _⟩
  case round =>
    obtain ⟨j, hj, rfl, HB⟩ := hrel
    by_cases hlt : j < n
    · have hlt' : (j : Int) < (n : Int) := by omega
      obtain ⟨f, hf⟩ : ∃ f, fs[j]? = some f := ⟨_, List.getElem?_eq_getElem (by rw [HN.out]; exact hlt)⟩
      obtain ⟨q, hq⟩ : ∃ q, gs[j]? = some q := ⟨_, List.getElem?_eq_getElem (by rw [HN'.out]; exact hlt)⟩
      obtain ⟨g, off, rfl, hg, c0, c1, c2, c3, c4, c5⟩ := (H1.out.below HB.out).six hf
      obtain ⟨g', off', rfl, hg', e0, e1, e2, e3, e4, e5⟩ := (H2.out.below HB.out).six hq
      have hat := (H1.out.below HB.out).1 f (List.mem_of_getElem? hf)
      have hat' := (H2.out.below HB.out).1 q (List.mem_of_getElem? hq)
      obtain ⟨q1, q2, q3, q4, q5, q6⟩ := HS.out j f q hf hq
      have hfew := hat.few
      have hnu := hat.nums
      have hnu' := hat'.nums
      have hs := HB.out.size
      clear hf hq hat hat'
      obtain ⟨fv, fk, fq, fi, fc, fa, fcp, fz⟩ := f
      obtain ⟨gv, gk, gq, gi, gc, ga, gcp, gz⟩ := q
      simp only at *
      subst q1 q2 q3 q4 q5 q6
      have hlF : ∀ W, Below wr.heap.size wr W → (Instr.loadAt 42 (.pointer (some ⟨g, off + j * 6, none⟩))).run Try.prog W = .ok (.agg #[.int .i64 fv, .int .i64 fk, .int .u32 fq, .int .i64 fi, .int .i64 fc, .slice fa fz.length fcp]) W := fun W hW => by
        have hgr : g < wr.heap.size := by omega
        have d0 := (hW.cell (p := ⟨g, off + j * 6, none⟩) hgr).trans c0
        have d1 := (hW.cell (p := ⟨g, off + j * 6 + 1, none⟩) hgr).trans c1
        have d2 := (hW.cell (p := ⟨g, off + j * 6 + 2, none⟩) hgr).trans c2
        have d3 := (hW.cell (p := ⟨g, off + j * 6 + 3, none⟩) hgr).trans c3
        have d4 := (hW.cell (p := ⟨g, off + j * 6 + 4, none⟩) hgr).trans c4
        have d5 := (hW.cell (p := ⟨g, off + j * 6 + 5, none⟩) hgr).trans c5
        simp [Instr.loadAt, go_sem, d0, d1, d2, d3, d4, d5]
      have hlG : ∀ W, Below wr.heap.size wr W → (Instr.loadAt 45 (.pointer (some ⟨g', off' + j * 6, none⟩))).run Try.prog W = .ok (.agg #[.int .i64 fv, .int .i64 fk, .int .u32 fq, .int .i64 fi, .int .i64 fc, .slice ga fz.length gcp]) W := fun W hW => by
        have hgr : g' < wr.heap.size := by omega
        have d0 := (hW.cell (p := ⟨g', off' + j * 6, none⟩) hgr).trans e0
        have d1 := (hW.cell (p := ⟨g', off' + j * 6 + 1, none⟩) hgr).trans e1
        have d2 := (hW.cell (p := ⟨g', off' + j * 6 + 2, none⟩) hgr).trans e2
        have d3 := (hW.cell (p := ⟨g', off' + j * 6 + 3, none⟩) hgr).trans e3
        have d4 := (hW.cell (p := ⟨g', off' + j * 6 + 4, none⟩) hgr).trans e4
        have d5 := (hW.cell (p := ⟨g', off' + j * 6 + 5, none⟩) hgr).trans e5
        simp [Instr.loadAt, go_sem, d0, d1, d2, d3, d4, d5]
      have hO : ∀ W, Calls Try.prog 14 #[.agg #[.int .i64 fv, .int .i64 fk, .int .u32 fq, .int .i64 fi, .int .i64 fc, .slice fa fz.length fcp]] W fun e w' => e = .returned (.agg #[.int .i64 fv, .int .i64 fk, .int .u32 fq, .int .i64 fi, .int .i64 fc, .slice fa fz.length fcp]) ∧ Below W.heap.size W w' := fun W => of_frame fv fk fq fi fc fa fz.length fcp W
      have hE : ∀ W, Below wr.heap.size wr W → Calls Try.prog 20 #[.agg #[.int .i64 fv, .int .i64 fk, .int .u32 fq, .int .i64 fi, .int .i64 fc, .slice fa fz.length fcp], .agg #[.int .i64 fv, .int .i64 fk, .int .u32 fq, .int .i64 fi, .int .i64 fc, .slice ga fz.length gcp]] W fun e w' => e = .returned (.bool true) ∧ Below W.heap.size W w' := fun W hW => by
        have h := rfsame_any fv fk fq fi fc fv fk fq fi fc wr.heap.size fa ga fz.length fcp fz.length gcp fz fz W rfl rfl hfew hW.size ((hnu.mono hs).below hW) ((hnu'.mono hs).below hW)
        have e1 : sameZ fv fk fq fi fc fv fk fq fi fc fz fz = true := by simp [sameZ]
        rw [e1] at h
        exact h
      clear c0 c1 c2 c3 c4 c5 e0 e1 e2 e3 e4 e5 hnu hnu' hfew
      go_wp2_with fail
      refine wp_region_F 28 [] (fun _ _ _ => False) (fun W => Below wr.heap.size wr W) (by kernel_rfl) (by kernel_rfl) (by rfl) (by simp) (fun W W' h hb => h.trans (hb.mono h.size)) (fun s v W W' h hb => h) (Below.refl _ _).drew ?_
      repeat (refine wpF_pure rfl rfl ?_; go_big_quiet_step (fail); refine wpQuiet_nil ?_)
      refine wpF_load (.agg #[.int .i64 fv, .int .i64 fk, .int .u32 fq, .int .i64 fi, .int .i64 fc, .slice fa fz.length fcp]) rfl (by rfl) (by rfl) (by rfl) hlF ?_
      simp only [Act.put, List.setIfInBounds_toArray, List.set_cons_succ, List.set_cons_zero]
      refine wpF_call (f := 14) (args := #[.agg #[.int .i64 fv, .int .i64 fk, .int .u32 fq, .int .i64 fi, .int .i64 fc, .slice fa fz.length fcp]]) (.agg #[.int .i64 fv, .int .i64 fk, .int .u32 fq, .int .i64 fi, .int .i64 fc, .slice fa fz.length fcp]) rfl rfl (fun x => by first | rfl | (simp [go_sem]; done)) (fun W _ => hO W) ?_
      simp only [Act.put, List.setIfInBounds_toArray, List.set_cons_succ, List.set_cons_zero]
      repeat (refine wpF_pure rfl rfl ?_; go_big_quiet_step (fail); refine wpQuiet_nil ?_)
      refine wpF_load (.agg #[.int .i64 fv, .int .i64 fk, .int .u32 fq, .int .i64 fi, .int .i64 fc, .slice ga fz.length gcp]) rfl (by rfl) (by rfl) (by rfl) hlG ?_
      simp only [Act.put, List.setIfInBounds_toArray, List.set_cons_succ, List.set_cons_zero]
      refine wpF_call (f := 20) (args := #[.agg #[.int .i64 fv, .int .i64 fk, .int .u32 fq, .int .i64 fi, .int .i64 fc, .slice fa fz.length fcp], .agg #[.int .i64 fv, .int .i64 fk, .int .u32 fq, .int .i64 fi, .int .i64 fc, .slice ga fz.length gcp]]) (.bool true) rfl rfl (fun x => by first | rfl | (simp [go_sem]; done)) (fun W hW => hE W hW) ?_
      simp only [Act.put, List.setIfInBounds_toArray, List.set_cons_succ, List.set_cons_zero]
      repeat (refine wpF_pure rfl rfl ?_; go_big_quiet_step (fail); refine wpQuiet_nil ?_)
      intro xs W hW _
      simp only [fill]
      have HB2 := Lib.hid (HB.out.trans (hW.mono HB.out.size))
      clear hlF hlG hO hE hW
      go_wp2
      go_roundw
      case rel => exact ⟨j + 1, by omega, by go_num, HB2⟩
      case measure => simp [intOf]; omega
    · have hjn : ¬ (j : Int) < (n : Int) := by omega
      go_wp2
      go_ret
      exact ⟨rfl, HB.out⟩
end Go.Proofs.Ytmdjgidbfcfdnaa

namespace Go.Proofs.Ytmdjgidbfcfdnaa
open Go.RowKit Go.Shelf
set_option maxRecDepth 100000
attribute [local go_sem] Oper.semAt_some

theorem box_load {w W : World} {v k s i c : Int} {t : TypeId} (hb : Below (w.alloc (.cells #[.int .i64 v, .int .i64 k, .int .u32 s, .int .i64 i, .int .i64 c] t)).heap.size (w.alloc (.cells #[.int .i64 v, .int .i64 k, .int .u32 s, .int .i64 i, .int .i64 c] t)) W) :
    W.cell? ⟨w.heap.size, 0, none⟩ = some (.int .i64 v) ∧ W.cell? ⟨w.heap.size, 1, none⟩ = some (.int .i64 k) ∧ W.cell? ⟨w.heap.size, 2, none⟩ = some (.int .u32 s) ∧ W.cell? ⟨w.heap.size, 3, none⟩ = some (.int .i64 i) ∧ W.cell? ⟨w.heap.size, 4, none⟩ = some (.int .i64 c) := by
  have h : W.heap[w.heap.size]? = some (.cells #[.int .i64 v, .int .i64 k, .int .u32 s, .int .i64 i, .int .i64 c] t (0, 0)) := (hb.block _ (by simp)).trans (World.alloc_heap_new _ _)
  refine ⟨?_, ?_, ?_, ?_, ?_⟩ <;> simp [World.cell?, h]
theorem frs_nil (W : World) (B : Nat) : FrsAt W B none [] := ⟨fun f hf => (by cases hf), fun j f hf => by simp at hf⟩
set_option maxHeartbeats 8000000 in
theorem cframes_go (v k s i c : Int) (hs : 0 ≤ s ∧ s ≤ 4294967295) (a : Option Addr) (n m cp : Nat) (es : List Int) (room : Int) (hrm : -9223372036854775808 ≤ room ∧ room ≤ 9223372036854775807) (w : World) (hn : es.length = n) (hc : n ≤ cp) (hz : Bytes es) (h1 : Nums .u8 w w.heap.size a es)
    (hm : min (n : Int) 200 = (m : Int)) (hmn : m ≤ n) (hm2 : m ≤ 200) :
    Calls Try.prog 3 #[hdV v k s i c, .slice a n cp, .int .i64 room] w fun e w' => e = .returned (.bool true) ∧ Below w.heap.size w w' := by
  have hmc : (m : Int) ≤ (cp : Int) := by omega
  have hlen : (es.take m).length = m := by rw [List.length_take]; omega
  have hzb := hz.take m
  have hnum := h1.take m
  generalize es.take m = bs at *
  clear hz h1 hn
  obtain ⟨w0, hw0⟩ : ∃ w0, w.alloc (.cells #[.int .i64 v, .int .i64 k, .int .u32 s, .int .i64 i, .int .i64 c] 24) = w0 := ⟨_, rfl⟩
  have hb0 : Below w.heap.size w w0 := by rw [← hw0]; exact (Below.refl _ w).alloc (Nat.le_refl _) _
  have KF := frames_any12 v k s i c hs a m cp room bs w0 hlen hzb ((hnum.below hb0).mono hb0.size)
  have hbox : ∀ W, Below w0.heap.size w0 W → W.cell? ⟨w.heap.size, 0, none⟩ = some (.int .i64 v) ∧ W.cell? ⟨w.heap.size, 1, none⟩ = some (.int .i64 k) ∧ W.cell? ⟨w.heap.size, 2, none⟩ = some (.int .u32 s) ∧ W.cell? ⟨w.heap.size, 3, none⟩ = some (.int .i64 i) ∧ W.cell? ⟨w.heap.size, 4, none⟩ = some (.int .i64 c) := by
    intro W hW
    rw [← hw0] at hW
    exact box_load hW
  have KW : ∀ W, Calls Try.prog 9 #[] W fun e w' => e = .returned (.bool true) ∧ Below W.heap.size W w' := fun W => cknown_any W
  have HW0 := Lib.hid hw0
  have HB0 := Lib.hid hb0
  have HBOX := Lib.hid hbox
  have HZ := Lib.hid hzb
  have HL := Lib.hid hlen
  have HNM := Lib.hid hnum
  have HKW := Lib.hid KW
  have HS := Lib.hid hs
  have HRM := Lib.hid hrm
  clear hw0 hb0 hbox hzb hlen hnum KW hs hrm
  unfold hdV at KF ⊢
  go_enter Try.func3, Try.ntmps3
  go_wp2_with fail
  rw [HW0.out]
  obtain ⟨d0, d1, d2, d3, d4⟩ := HBOX.out w0 (Below.refl _ _)
  go_wp2_with fail
  refine KF.mono ?_
  rintro e w1 ⟨hb1, ⟨hE, rfl⟩ | ⟨hE, A, c1, fs, rfl, hc1, hcut, hat⟩⟩
  · obtain ⟨d0, d1, d2, d3, d4⟩ := HBOX.out w1 hb1
    have HB1 := Lib.hid (HB0.out.trans (hb1.mono HB0.out.size))
    have KR := rframes_any v k s i c HS.out a m cp room bs w1 HL.out HZ.out ((HNM.out.below HB1.out).mono HB1.out.size)
    unfold hdV at KR
    unfold FramesR at KR
    generalize Ct.fErr v k bs.length room = E at *
    clear KF
    go_wp2_with fail
    refine KR.mono ?_
    rintro e w2 ⟨hb2, ⟨_, hq⟩ | ⟨hE2, _⟩⟩
    · subst hq
      have HB2 := Lib.hid (HB1.out.trans (hb2.mono HB1.out.size))
      have KS := csame_any none none 0 0 0 [] [] w2 rfl rfl (by omega) (by omega) (by omega) (frs_nil _ _) (frs_nil _ _) (fun j f g hf => by simp at hf)
      have hne : (E != E) = false := by simp
      have hne0 : (E != 0) = true := by simpa using hE
      clear KR hb2 d0 d1 d2 d3 d4
      go_wp2_with fail
      refine KS.mono ?_
      rintro e w3 ⟨rfl, hb3⟩
      have HB3 := Lib.hid (HB2.out.trans (hb3.mono HB2.out.size))
      clear KS hb3
      go_wp2_with fail
      refine (HKW.out _).mono ?_
      rintro e w4 ⟨rfl, hb4⟩
      have HB4 := Lib.hid (HB3.out.trans (hb4.mono HB3.out.size))
      clear hb4
      go_wp2
      go_ret
      exact ⟨rfl, HB4.out⟩
    · exact absurd hE2 hE
  · obtain ⟨d0, d1, d2, d3, d4⟩ := HBOX.out w1 hb1
    have HB1 := Lib.hid (HB0.out.trans (hb1.mono HB0.out.size))
    have KR := rframes_any v k s i c HS.out a m cp room bs w1 HL.out HZ.out ((HNM.out.below HB1.out).mono HB1.out.size)
    have HE := Lib.hid hE
    have HCUT := Lib.hid hcut
    have HAT := Lib.hid hat
    have hE0 := Ct.fErr_zero hE
    rw [HL.out] at hE0
    obtain ⟨m1, m192, r1, r242, _⟩ := hE0
    obtain ⟨r, rfl⟩ : ∃ r : Nat, room = (r : Int) := ⟨room.toNat, by omega⟩
    have hfl := hcut.len
    rw [HL.out, Int.toNat_natCast] at hfl
    have hcm := Ct.cnt_le (n := m) (r := r) (by omega)
    unfold hdV at KR
    obtain ⟨q, hq⟩ : ∃ q, fs.length = q := ⟨_, rfl⟩
    rw [hq] at hc1 hfl ⊢
    have HQ := Lib.hid hq
    have hqm : q ≤ m := by omega
    have HFL := Lib.hid hfl
    clear KF hE hcut hat hq hfl hcm
    go_wp2_with fail
    refine KR.mono ?_
    rintro e w2 ⟨hb2, ⟨hE2, _⟩ | ⟨_, A2, c2, gs, hq, hc2, hcut2, hat2⟩⟩
    · exact absurd HE.out hE2
    · subst hq
      have HB2 := Lib.hid (HB1.out.trans (hb2.mono HB1.out.size))
      obtain ⟨hl2, hsm⟩ := HCUT.out.same hcut2
      rw [HQ.out] at hl2
      rw [← hl2] at hc2 ⊢
      have hat1 := (HAT.out.below hb2).mono hb2.size
      have KS := csame_any A A2 q c1 c2 fs gs w2 HQ.out hl2.symm hc1 hc2 (by omega) hat1 hat2 hsm
      have HAT1 := Lib.hid hat1
      clear KR hb2 d0 d1 d2 d3 d4 hcut2 hat2 hsm hat1 hl2
      go_wp2_with fail
      refine KS.mono ?_
      rintro e w3 ⟨rfl, hb3⟩
      have HB3 := Lib.hid (HB2.out.trans (hb3.mono HB2.out.size))
      have hfz := HCUT.out.flat_eq (by omega)
      have hwh := HCUT.out.whole (by omega) (by rw [HL.out]; omega)
      have KX := cwhole_any A q c1 fs w3 HQ.out hc1 (by omega) (by rw [hfz, HL.out]; omega) ((HAT1.out.below hb3).mono hb3.size)
      have hwo : Ct.wOut fs = bs := by unfold Ct.wOut; rw [if_pos hwh]; exact hfz
      unfold WholeR at KX
      rw [hwo, hwh, HL.out] at KX
      clear KS hb3 hfz hwh hwo
      go_wp2_with fail
      refine KX.mono ?_
      rintro e w4 ⟨A4, c4, rfl, hc4, hn4, hb4⟩
      have HB4 := Lib.hid (HB3.out.trans (hb4.mono HB3.out.size))
      have HN4 := Lib.hid hn4
      clear KX hn4 hb4
      go_wp2_with fail
      refine (HKW.out _).mono ?_
      rintro e w5 ⟨rfl, hb5⟩
      have HB5 := Lib.hid (HB4.out.trans (hb5.mono HB4.out.size))
      have KE := same_any w5.heap.size A4 a m m c4 cp bs bs w5 HL.out HL.out (by omega) ((HN4.out.below hb5).mono hb5.size) ((HNM.out.below HB5.out).mono HB5.out.size)
      rw [decide_eq_true rfl] at KE
      clear hb5
      go_wp2_with fail
      refine KE.mono ?_
      rintro e w6 ⟨rfl, nd, hq⟩
      have HB6 : Hid (Below w.heap.size w w6) := by rw [hq]; exact below_drewN HB5.out nd
      clear KE hq
      have KC := ccount_any m (r : Int) (by omega) (by omega) w6
      have hcz : cntZ m (r : Int) = (q : Int) := by
        unfold cntZ
        rw [if_neg (by omega), if_neg (by omega), Int.toNat_natCast, HFL.out]
      rw [hcz] at KC
      clear hcz
      go_wp2_with fail
      refine KC.mono ?_
      rintro e w7 ⟨rfl, rfl⟩
      go_wp2
      go_ret
      exact ⟨rfl, HB6.out⟩
end Go.Proofs.Ytmdjgidbfcfdnaa

namespace Go.Proofs.Ytmdjgidbfcfdnaa
open Go.RowKit Go.Shelf
set_option maxRecDepth 100000
attribute [local go_sem] Oper.semAt_some

theorem room_of (x : Int) : ∃ r : Nat, wrap64 (1 + wrap64 ((IntKind.u64.wrap x).tmod 242)) = (r : Int) ∧ 1 ≤ r ∧ r ≤ 242 := by
  have h0 : 0 ≤ IntKind.u64.wrap x := by rw [IntKind.wrap_u64]; omega
  have h1 := Int.tmod_nonneg 242 h0
  have h2 := Int.tmod_lt_of_pos (IntKind.u64.wrap x) (show (0 : Int) < 242 by omega)
  refine ⟨(1 + (IntKind.u64.wrap x).tmod 242).toNat, ?_, by omega, by omega⟩
  unfold wrap64; omega
theorem Ct.fErr_rooms {v k : Int} {n p q : Nat} (hn : n ≤ 192) (hp : 1 ≤ p ∧ p ≤ 242) (hq : 1 ≤ q ∧ q ≤ 242) : Ct.fErr v k n (p : Int) = Ct.fErr v k n (q : Int) := by
  unfold Ct.fErr
  by_cases h0 : n = 0
  · rw [if_pos h0, if_pos h0]
  · rw [if_neg h0, if_neg h0, if_neg (by omega), if_neg (by omega), if_neg (by omega), if_neg (by omega), Int.toNat_natCast, Int.toNat_natCast]
    have h1 := Ct.cnt_pos hp.1 (by omega : 1 ≤ n)
    have h2 := Ct.cnt_pos hq.1 (by omega : 1 ≤ n)
    have h3 := Ct.cnt_le (n := n) hp.1
    have h4 := Ct.cnt_le (n := n) hq.1
    unfold chk
    rw [if_neg (by omega : ¬ ((Ct.cnt n p : Int) < 1 ∨ 255 < (Ct.cnt n p : Int) ∨ (0 : Int) < 0 ∨ (Ct.cnt n p : Int) ≤ 0)), if_neg (by omega : ¬ ((Ct.cnt n q : Int) < 1 ∨ 255 < (Ct.cnt n q : Int) ∨ (0 : Int) < 0 ∨ (Ct.cnt n q : Int) ≤ 0))]

set_option maxHeartbeats 8000000 in
theorem crooms_go (v k s i c : Int) (hs : 0 ≤ s ∧ s ≤ 4294967295) (a : Option Addr) (n m cp : Nat) (es : List Int) (x y : Int) (w : World) (hn : es.length = n) (hc : n ≤ cp) (hz : Bytes es) (h1 : Nums .u8 w w.heap.size a es)
    (hm : min (n : Int) 192 = (m : Int)) (hmn : m ≤ n) (hm2 : m ≤ 192) :
    Calls Try.prog 5 #[hdV v k s i c, .slice a n cp, .int .i64 x, .int .i64 y] w fun e w' => e = .returned (.bool true) ∧ Below w.heap.size w w' := by
  have hmc : (m : Int) ≤ (cp : Int) := by omega
  have hlen : (es.take m).length = m := by rw [List.length_take]; omega
  have hzb := hz.take m
  have hnum := h1.take m
  generalize es.take m = bs at *
  clear hz h1 hn
  obtain ⟨w0, hw0⟩ : ∃ w0, w.alloc (.cells #[.int .i64 v, .int .i64 k, .int .u32 s, .int .i64 i, .int .i64 c] 24) = w0 := ⟨_, rfl⟩
  have hb0 : Below w.heap.size w w0 := by rw [← hw0]; exact (Below.refl _ w).alloc (Nat.le_refl _) _
  have hbox : ∀ W, Below w0.heap.size w0 W → W.cell? ⟨w.heap.size, 0, none⟩ = some (.int .i64 v) ∧ W.cell? ⟨w.heap.size, 1, none⟩ = some (.int .i64 k) ∧ W.cell? ⟨w.heap.size, 2, none⟩ = some (.int .u32 s) ∧ W.cell? ⟨w.heap.size, 3, none⟩ = some (.int .i64 i) ∧ W.cell? ⟨w.heap.size, 4, none⟩ = some (.int .i64 c) := by
    intro W hW
    rw [← hw0] at hW
    exact box_load hW
  have HW0 := Lib.hid hw0
  have HB0 := Lib.hid hb0
  have HBOX := Lib.hid hbox
  have HZ := Lib.hid hzb
  have HL := Lib.hid hlen
  have HNM := Lib.hid hnum
  have HS := Lib.hid hs
  clear hw0 hb0 hbox hzb hlen hnum hs
  unfold hdV
  obtain ⟨X, hX, hX1, hX2⟩ := room_of x
  obtain ⟨Y, hY, hY1, hY2⟩ := room_of y
  have HX := Lib.hid hX
  have HY := Lib.hid hY
  obtain ⟨P, hP, hP1, hP2⟩ : ∃ P : Nat, min (X : Int) (Y : Int) = (P : Int) ∧ 1 ≤ P ∧ P ≤ 242 := ⟨min X Y, by omega, by omega, by omega⟩
  have HP := Lib.hid hP
  obtain ⟨Q, hQ, hQ1, hQ2, hPQ⟩ : ∃ Q : Nat, max (X : Int) (Y : Int) = (Q : Int) ∧ 1 ≤ Q ∧ Q ≤ 242 ∧ P ≤ Q := ⟨max X Y, by omega, by omega, by omega, by omega⟩
  have HQ := Lib.hid hQ
  have HEE := Lib.hid (Ct.fErr_rooms (v := v) (k := k) hm2 ⟨hP1, hP2⟩ ⟨hQ1, hQ2⟩)
  have HKW : Hid (∀ W, Calls Try.prog 9 #[] W fun e w' => e = .returned (.bool true) ∧ Below W.heap.size W w') := fun W => cknown_any W
  have KF := frames_any12 v k s i c HS.out a m cp (P : Int) bs w0 HL.out HZ.out ((HNM.out.below HB0.out).mono HB0.out.size)
  unfold hdV at KF
  clear hX hY hP hQ
  go_enter Try.func5, Try.ntmps5
  go_wp2_with fail
  rw [HW0.out]
  obtain ⟨d0, d1, d2, d3, d4⟩ := HBOX.out w0 (Below.refl _ _)
  go_wp2_with fail
  rw [HX.out, HY.out, HP.out]
  refine KF.mono ?_
  rintro e w1 ⟨hb1, ⟨hE, rfl⟩ | ⟨hE, A, c1, fs, rfl, hc1, hcut, hat⟩⟩
  · obtain ⟨d0, d1, d2, d3, d4⟩ := HBOX.out w1 hb1
    have HB1 := Lib.hid (HB0.out.trans (hb1.mono HB0.out.size))
    have KR := frames_any12 v k s i c HS.out a m cp (Q : Int) bs w1 HL.out HZ.out ((HNM.out.below HB1.out).mono HB1.out.size)
    unfold hdV FramesR at KR
    rw [HL.out] at KR hE ⊢
    rw [← HEE.out] at KR
    generalize Ct.fErr v k m (P : Int) = E at *
    clear KF hb1
    go_wp2_with fail
    rw [HQ.out]
    refine KR.mono ?_
    rintro e w2 ⟨hb2, ⟨_, hq⟩ | ⟨hE2, _⟩⟩
    · subst hq
      have HB2 := Lib.hid (HB1.out.trans (hb2.mono HB1.out.size))
      have hne : (E == E) = true := by simp
      have hne0 : (E != 0) = true := by simpa using hE
      clear KR hb2 d0 d1 d2 d3 d4
      go_wp2_with fail
      refine (HKW.out _).mono ?_
      rintro e w4 ⟨rfl, hb4⟩
      have HB4 := Lib.hid (HB2.out.trans (hb4.mono HB2.out.size))
      clear hb4
      go_wp2
      go_ret
      exact ⟨rfl, HB4.out⟩
    · exact absurd hE2 hE
  · obtain ⟨d0, d1, d2, d3, d4⟩ := HBOX.out w1 hb1
    have HB1 := Lib.hid (HB0.out.trans (hb1.mono HB0.out.size))
    have KR := frames_any12 v k s i c HS.out a m cp (Q : Int) bs w1 HL.out HZ.out ((HNM.out.below HB1.out).mono HB1.out.size)
    rw [HL.out] at hE
    have HE := Lib.hid hE
    have hE0 := (Ct.fErr_zero hE).1
    have hfl := hcut.len
    rw [HL.out, Int.toNat_natCast] at hfl
    have hcm := Ct.cnt_le (n := m) (r := P) hP1
    have hcp := Ct.cnt_pos (n := m) (r := P) hP1 hE0
    unfold hdV at KR
    obtain ⟨q, hq⟩ : ∃ q, fs.length = q := ⟨_, rfl⟩
    rw [hq] at hc1 hfl ⊢
    have HCUT := Lib.hid hcut
    have HAT := Lib.hid hat
    have HQ1 := Lib.hid hq
    have hqm : (q : Int) ≤ (m : Int) := by omega
    have HFL := Lib.hid hfl
    clear KF hE hcut hat hq hfl hcm hcp
    go_wp2_with fail
    rw [HQ.out]
    refine KR.mono ?_
    rintro e w2 ⟨hb2, ⟨hE2, _⟩ | ⟨_, A2, c2, gs, rfl, hc2, hcut2, hat2⟩⟩
    · rw [HL.out, ← HEE.out] at hE2
      exact absurd HE.out hE2
    · have HB2 := Lib.hid (HB1.out.trans (hb2.mono HB1.out.size))
      have hfl2 := hcut2.len
      rw [HL.out, Int.toNat_natCast] at hfl2
      obtain ⟨q2, hq2⟩ : ∃ q, gs.length = q := ⟨_, rfl⟩
      have hqq : (q2 : Int) ≤ (q : Int) := by
        have h9 := Ct.cnt_anti (n := m) hP1 hPQ
        rw [← hq2, hfl2, HFL.out]; omega
      have hq1 : (1 : Int) ≤ (q2 : Int) := by
        have h9 := Ct.cnt_pos (n := m) (r := Q) hQ1 hE0
        rw [← hq2, hfl2]; omega
      rw [hq2] at hc2 ⊢
      have HCUT2 := Lib.hid hcut2
      have HAT2 := Lib.hid hat2
      have HQ2 := Lib.hid hq2
      have hat1 := (HAT.out.below hb2).mono hb2.size
      have hfz := HCUT.out.flat_eq (by omega)
      have hwh := HCUT.out.whole (by omega) (by rw [HL.out]; omega)
      have KX := cwhole_any A q c1 fs w2 HQ1.out hc1 (by omega) (by rw [hfz, HL.out]; omega) hat1
      have hwo : Ct.wOut fs = bs := by unfold Ct.wOut; rw [if_pos hwh]; exact hfz
      unfold WholeR at KX
      rw [hwo, hwh, HL.out] at KX
      clear KR hb2 d0 d1 d2 d3 d4 hcut2 hat2 hq2 hfl2 hat1 hfz hwh hwo
      go_wp2_with fail
      refine KX.mono ?_
      rintro e w3 ⟨A3, c3, rfl, hc3, hn3, hb3⟩
      have HB3 := Lib.hid (HB2.out.trans (hb3.mono HB2.out.size))
      have HN3 := Lib.hid hn3
      have hat1 := (HAT2.out.below hb3).mono hb3.size
      have hfz := HCUT2.out.flat_eq (by omega)
      have hwh := HCUT2.out.whole (by omega) (by rw [HL.out]; omega)
      have KY := cwhole_any A2 q2 c2 gs w3 HQ2.out hc2 (by omega) (by rw [hfz, HL.out]; omega) hat1
      have hwo : Ct.wOut gs = bs := by unfold Ct.wOut; rw [if_pos hwh]; exact hfz
      unfold WholeR at KY
      rw [hwo, hwh, HL.out] at KY
      clear KX hn3 hb3 hat1 hfz hwh hwo
      go_wp2_with fail
      refine KY.mono ?_
      rintro e w4 ⟨A4, c4, rfl, hc4, hn4, hb4⟩
      have HB4 := Lib.hid (HB3.out.trans (hb4.mono HB3.out.size))
      have HN4 := Lib.hid hn4
      have HN34 := Lib.hid ((HN3.out.below hb4).mono hb4.size)
      clear KY hn4 hb4
      go_wp2_with fail
      refine (HKW.out _).mono ?_
      rintro e w5 ⟨rfl, hb5⟩
      have HB5 := Lib.hid (HB4.out.trans (hb5.mono HB4.out.size))
      have HN45 := Lib.hid ((HN4.out.below hb5).mono hb5.size)
      have KE := same_any w5.heap.size A3 a m m c3 cp bs bs w5 HL.out HL.out (by omega) ((HN34.out.below hb5).mono hb5.size) ((HNM.out.below HB5.out).mono HB5.out.size)
      rw [decide_eq_true rfl] at KE
      clear hb5
      go_wp2_with fail
      refine KE.mono ?_
      rintro e w6 ⟨rfl, nd, hq⟩
      have HB56 : Hid (Below w5.heap.size w5 w6) := by rw [hq]; exact below_drewN (Below.refl _ _) nd
      have HB6 := Lib.hid (HB5.out.trans (HB56.out.mono HB5.out.size))
      have KG := same_any w6.heap.size A4 a m m c4 cp bs bs w6 HL.out HL.out (by omega) ((HN45.out.below HB56.out).mono HB56.out.size) ((HNM.out.below HB6.out).mono HB6.out.size)
      rw [decide_eq_true rfl] at KG
      clear KE hq
      go_wp2_with fail
      refine KG.mono ?_
      rintro e w7 ⟨rfl, nd2, hq⟩
      have HB7 : Hid (Below w.heap.size w w7) := by rw [hq]; exact below_drewN HB6.out nd2
      clear KG hq
      go_wp2
      go_ret
      exact ⟨rfl, HB7.out⟩
end Go.Proofs.Ytmdjgidbfcfdnaa

namespace Go.Proofs.Ytmdjgidbfcfdnaa.cutRooms
open Go.ChangeShapes Go.WideShapes Go.ChangeAt Go.RowKit
open Go.ChangeMaps (open_string shut_string)
set_option linter.unusedVariables false

theorem own : ownKnob Try.prog.godebug = none := by kernel_rfl
theorem laidOut : laidOutB Try.prog = true := by kernel_rfl

set_option maxRecDepth 100000 in
theorem lifted (os : Os) (started : os.Started) (H : Type) (enc : TypeId × Value → H) :
    ReturnsInHanded {} Try.checked os 5 .any (Rows.cutRoomsSpec.pre6 enc Try.prog Try.f5 Rows.cutRoomsRow.domain false) (Rows.cutRoomsSpec.post enc Try.prog Try.f5 false true false false) := by
  refine returnsInHanded_of_change (C := Try.checked) own started (by kernel_rfl) Try.func5
    (ChangeSpec.witness6 (enc := enc) (C := Try.checked) false ⟨#[], #[.agg #[.int .i64 0, .int .i64 0, .int .u32 0, .int .i64 0, .int .i64 0], .slice none 0 0, .int .i64 0, .int .i64 0], []⟩ 8 (by kernel_rfl) (by kernel_rfl) (by kernel_rfl) (by kernel_rfl)) ?_
  intro W base args ds gs before hval0 hW hcnd _
  have hval : ∀ (j : Nat) t v, Try.f5.params[j]? = some t → args[j]? = some v → Value.okWide Try.prog W .any base t v := hval0
  have hW' := hW
  obtain ⟨p, q, hA0, hV, rfl, hfz, hnd⟩ := hW
  have hA : DataW.TrodAll enc Try.prog W 0 (fun _ => true) true Try.f5.params.toList args.toList ds p := hA0
  rw [Try.params5] at hA hval
  obtain ⟨v0, vs0, d0, ds0, p0, q0, hargs, rfl, rfl, h0, r0⟩ := trodAll_cons hA
  obtain ⟨v1, vs1, d1, ds1, p1, q1, rfl, rfl, rfl, h1, r1⟩ := trodAll_cons r0
  obtain ⟨v2, vs2, d2, ds2, p2, q2, rfl, rfl, rfl, h2, r2⟩ := trodAll_cons r1
  obtain ⟨v3, vs3, d3, ds3, p3, q3, rfl, rfl, rfl, h3, r3⟩ := trodAll_cons r2
  obtain ⟨rfl, rfl, rfl⟩ := trodAll_nil r3
  obtain rfl : args = #[v0, v1, v2, v3] := by cases args; simp_all
  obtain ⟨rfl, rfl⟩ := trodVars_none hV
  have k0 := h0
  have lt0 : ∀ x ∈ p0, x.block < W.heap.size := by obtain ⟨m, hm⟩ := k0; exact DataW.trod_lt m _ _ _ hm
  obtain ⟨x0_1, x0_2, x0_3, x0_4, x0_5, rfl, y0_1, y0_2, y0_3, y0_4, y0_5⟩ := open_head (hval 0 24 v0 rfl rfl) h0
  obtain ⟨a1, len1, cap1, rfl⟩ := okWide_slice Try.underlying25 (hval 1 25 v1 rfl rfl)
  have k1 := h1
  have lt1 : ∀ x ∈ p1, x.block < W.heap.size := by obtain ⟨m, hm⟩ := k1; exact DataW.trod_lt m _ _ _ hm
  obtain ⟨e1, hd1, hm1, w1⟩ : ∃ es : List Int, es.length = len1 ∧ len1 ≤ cap1 ∧ Nums .u8 W W.heap.size a1 es ∧ ∀ z ∈ es, (Lit.int .u8 z).wf = true := by
    obtain ⟨fuel, hf⟩ := h1
    obtain ⟨_, _, _, es, he, q⟩ := row_of Try.underlying25 Try.underlying5 (by kernel_rfl) hf
    injection he with e1 e2 e3
    subst e1 e2 e3
    exact ⟨es, q⟩
  obtain ⟨a2, rfl, rfl, rfl, w2⟩ := open_int Try.underlying3 (hval 2 3 v2 rfl rfl) h2
  obtain ⟨a3, rfl, rfl, rfl, w3⟩ := open_int Try.underlying3 (hval 3 3 v3 rfl rfl) h3
  clear hA0 hval0
  refine (crooms_go x0_1 x0_2 x0_3 x0_4 x0_5 (bounds_u32 y0_3) a1 len1 (min len1 192) cap1 e1 a2 a3 W hd1 hm1 (bytes_of w1.2) w1.1 (by omega) (by omega) (by omega)).mono fun e W' ⟨he, bel⟩ => ?_
  subst he
  exact ⟨_, rfl, _, _, _, [], _, [], hW', trodAll_mk1 (shut_bool Try.underlying4 _), (trodAll_cons_mk (Below.trod laidOut (by kernel_rfl) (of_decide_eq_true (by kernel_rfl)) k0 bel lt0) (trodAll_cons_mk (Below.trod laidOut (by kernel_rfl) (of_decide_eq_true (by kernel_rfl)) k1 bel lt1) (trodAll_cons_mk (shut_int Try.underlying3 w2) (trodAll_cons_mk (shut_int Try.underlying3 w3) trodAll_mk0)))), rfl, bel.frame _, fun h => by cases h⟩

theorem over : Rows.cutRoomsRow.holds Try.pinned (OpenSpec.ofChange Rows.cutRoomsSpec) :=
  OpenClaim.holds_of_wide 5 Try.f5 rfl rfl rfl rfl rfl rfl rfl ⟨rfl, rfl, rfl, rfl, rfl⟩ rfl rfl rfl rfl rfl (by kernel_rfl) Try.func5 (by kernel_rfl)
    (of_decide_eq_true (by kernel_rfl)) (by unfold Func.isWrapper; first | (rw [if_pos (by decide +kernel)]; kernel_rfl) | (rw [if_neg (by decide +kernel)]; exact ⟨rfl, rfl⟩))
    (fun os started H enc _ => lifted os started H enc)

theorem proved : Rows.CutRoomsSaid := over
#print axioms proved
end Go.Proofs.Ytmdjgidbfcfdnaa.cutRooms
