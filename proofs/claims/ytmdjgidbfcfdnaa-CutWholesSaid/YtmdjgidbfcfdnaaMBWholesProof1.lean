/-
  For every list of frames, the law CutWholes returns true: their body, or what is wrong, is the document's.
-/
import Derived.Lib.MinMax
import Derived.Deep.Slices
import Derived.Test.YtmdjgidbfcfdnaaRows
import Derived.Below
import Derived.WalkKit
import Derived.ProofKit
import Derived.OpenShut
import Derived.ShutString
import Derived.ChangeOld
import Derived.Test.YtmdjgidbfcfdnaaMB3
namespace Go.Proofs.Ytmdjgidbfcfdnaa
open Go.RowKit Go.Shelf
set_option maxRecDepth 100000
attribute [local go_sem] Oper.semAt_some

theorem mateZ_comm (v k s c v' k' s' c' : Int) : mateZ v k s c v' k' s' c' = mateZ v' k' s' c' v k s c := by
  unfold mateZ
  rw [decide_eq_decide]
  constructor <;> (rintro ⟨rfl, rfl, rfl, rfl⟩; exact ⟨rfl, rfl, rfl, rfl⟩)

theorem rwhole_nil (A : Option Addr) (cp : Nat) (w : World) : Calls Try.prog 15 #[.slice A 0 cp] w (WholeR w []) := by
  have HF := Lib.hid (show ∀ e w', (e = Ending.returned (.tuple #[.slice none 0 0, .int .i64 13]) ∧ Below w.heap.size w w') → WholeR w [] e w' from fun e w' h => ⟨none, 0, h.1, Nat.le_refl _, Nums.nil, h.2⟩)
  generalize WholeR w [] = G at *
  go_enter Try.func15, Try.ntmps15
  go_wp2
  go_loopw [4, 5] (fun v iv wr => iv = .int .i64 ((0 : Nat) : Int) ∧ wr = w) (fun _ _ _ => 0)
  case atStart => exact ⟨rfl, rfl⟩
  case round =>
    obtain ⟨rfl, rfl⟩ := hrel
    go_wp2
    try go_ret2
    exact HF.out _ _ ⟨rfl, Below.refl _ _⟩

set_option maxHeartbeats 8000000 in
theorem rwhole_some (A : Option Addr) (n cp : Nat) (fs : List Fr) (f0 : Fr) (w : World) (hn : fs.length = n) (hcp : n ≤ cp) (hl : n ≤ 9223372036854775807) (hf : (Ct.flat fs).length ≤ 1000000) (h0 : fs[0]? = some f0) (h1 : FrsAt w w.heap.size A fs) :
    Calls Try.prog 15 #[.slice A n cp] w (WholeR w fs) := by
  obtain ⟨i0, hi, hz0, hz1, hz2⟩ := info_parts byteInfo
  have hnc : (n : Int) ≤ (cp : Int) := by omega
  have hn0 : 0 < n := by rw [← hn]; exact (List.getElem?_eq_some_iff.1 h0).1
  have hn0' : (0 : Int) < (n : Int) := by omega
  have HN := Lib.hid hn
  have H0 := Lib.hid h0
  have H1 := Lib.hid h1
  have HFL := Lib.hid hf
  have HGood := Lib.hid (show ∀ e w' v, Ct.wErr fs = 0 → e = Ending.returned (.tuple #[v, .int .i64 0]) → MadeK 5 .u8 w w' (Ct.flat fs) v → WholeR w fs e w' from fun e w' v hE h hm => by
    obtain ⟨A', c', rfl, hc', hnn⟩ := hm.slice
    have HO : Ct.wOut fs = Ct.flat fs := by unfold Ct.wOut; rw [if_pos hE]
    exact ⟨A', c', by rw [HO, hE]; exact h, by rw [HO]; exact hc', by rw [HO]; exact hnn, hm.2⟩)
  have HBad := Lib.hid (show ∀ e w' (E : Int), Ct.wErr fs = E → E ≠ 0 → e = Ending.returned (.tuple #[.slice none 0 0, .int .i64 E]) → Below w.heap.size w w' → WholeR w fs e w' from fun e w' E hE hne h hb => by
    have HO : Ct.wOut fs = [] := by unfold Ct.wOut; rw [if_neg (by rw [hE]; exact hne)]
    exact ⟨none, 0, by rw [HO, hE]; exact h, by rw [HO]; exact Nat.le_refl _, by rw [HO]; exact Nums.nil, hb⟩)
  clear hn h0 h1 hf
  generalize WholeR w fs = G at *
  go_enter Try.func15, Try.ntmps15
  go_wp2
  go_loopw [4, 5] (fun v iv wr => ∃ (j : Nat) (u : Value), u = v ∧ j ≤ n ∧ iv = .int .i64 (j : Int) ∧ Hid (∀ (i : Nat) (g : Fr), i < j → fs[i]? = some g → Ct.wBad f0 g i = 0) ∧ Hid (MadeK 5 .u8 w wr (Ct.flat (fs.take j)) v)) (fun _ iv _ => n - (intOf iv).toNat)
  case atStart => exact ⟨0, _, rfl, by omega, rfl, fun i g hi => by omega, MadeK.nil _ _ (Below.refl _ _)⟩
  case round =>
    obtain ⟨j, u, rfl, hj, rfl, HP, HM⟩ := hrel
    obtain ⟨g, off, rfl, hg, a0, a1, a2, a3, a4, a5⟩ := (H1.out.below HM.out.2).six H0.out
    rw [Nat.zero_mul, Nat.add_zero] at a0 a1 a2 a3 a4 a5
    by_cases hlt : j < n
    · have hlt' : (j : Int) < (n : Int) := by omega
      obtain ⟨f, hf⟩ : ∃ f, fs[j]? = some f := ⟨_, List.getElem?_eq_getElem (by rw [HN.out]; exact hlt)⟩
      obtain ⟨g', off', e', _, c0, c1, c2, c3, c4, c5⟩ := (H1.out.below HM.out.2).six hf
      injection e' with e'
      injection e' with e1 e2
      subst e1 e2
      have hat := (H1.out.below HM.out.2).1 f (List.mem_of_getElem? hf)
      have HT := Lib.hid (Ct.flat_take hf)
      have hle := Ct.flat_len_le fs (j + 1)
      rw [HT.out, List.length_append] at hle
      have hFL := HFL.out
      have HX1 : Hid ((Ct.flat (fs.take j)).length + f.zs.length ≤ maxLen) := by show _ ≤ _; unfold maxLen; omega
      have HX2 : Hid (((Ct.flat (fs.take j)).length + f.zs.length) * 1 ≤ 140737488355328) := by show _ ≤ _; omega
      have hnum := hat.nums
      have HF := Lib.hid hf
      obtain ⟨M, hM⟩ : ∃ M, mateZ f0.v f0.k f0.s f0.c f.v f.k f.s f.c = M := ⟨_, rfl⟩
      have HM' := Lib.hid hM
      have hK : ∀ W, Calls Try.prog 22 #[hdV f.v f.k f.s f.i f.c, hdV f0.v f0.k f0.s f0.i f0.c] W fun e w' => e = .returned (.bool M) ∧ Below W.heap.size W w' := fun W => by rw [← hM, mateZ_comm]; exact rmates_any f.v f.k f.s f.i f.c f0.v f0.k f0.s f0.i f0.c W
      unfold hdV at hK
      have HK := Lib.hid hK
      clear hM hK hf hat hle hFL
      obtain ⟨fv, fk, fq, fi, fc, fa, fcp, fz⟩ := f
      obtain ⟨gv, gk, gq, gi, gc, ga, gcp, gz⟩ := f0
      simp only at *
      have hgr : g < wr.heap.size := Nat.lt_of_lt_of_le hg HM.out.2.size
      have hlR : ∀ W, Below wr.heap.size wr W → (Instr.loadAt 33 (.pointer (some ⟨g, off, none⟩))).run Try.prog W = .ok (.agg #[.int .i64 gv, .int .i64 gk, .int .u32 gq, .int .i64 gi, .int .i64 gc]) W := fun W hW => by
        have d0 := (hW.cell (p := ⟨g, off, none⟩) hgr).trans a0
        have d1 := (hW.cell (p := ⟨g, off + 1, none⟩) hgr).trans a1
        have d2 := (hW.cell (p := ⟨g, off + 2, none⟩) hgr).trans a2
        have d3 := (hW.cell (p := ⟨g, off + 3, none⟩) hgr).trans a3
        have d4 := (hW.cell (p := ⟨g, off + 4, none⟩) hgr).trans a4
        simp [Instr.loadAt, go_sem, d0, d1, d2, d3, d4]
      have hlF : ∀ W, Below wr.heap.size wr W → (Instr.loadAt 33 (.pointer (some ⟨g, off + j * 6, none⟩))).run Try.prog W = .ok (.agg #[.int .i64 fv, .int .i64 fk, .int .u32 fq, .int .i64 fi, .int .i64 fc]) W := fun W hW => by
        have d0 := (hW.cell (p := ⟨g, off + j * 6, none⟩) hgr).trans c0
        have d1 := (hW.cell (p := ⟨g, off + j * 6 + 1, none⟩) hgr).trans c1
        have d2 := (hW.cell (p := ⟨g, off + j * 6 + 2, none⟩) hgr).trans c2
        have d3 := (hW.cell (p := ⟨g, off + j * 6 + 3, none⟩) hgr).trans c3
        have d4 := (hW.cell (p := ⟨g, off + j * 6 + 4, none⟩) hgr).trans c4
        simp [Instr.loadAt, go_sem, d0, d1, d2, d3, d4]
      have HC3 : Hid (wr.cell? ⟨g, off + j * 6 + 3, none⟩ = some (.int .i64 fi)) := c3
      have HC5 : Hid (wr.cell? ⟨g, off + j * 6 + 5, none⟩ = some (.slice fa fz.length fcp)) := c5
      have HNUM := Lib.hid hnum
      clear a0 a1 a2 a3 a4 a5 c0 c1 c2 c3 c4 c5 hnum
      go_wp2_with fail
      refine wp_region_F 60 [] (fun _ _ _ => False) (fun W => Below wr.heap.size wr W) (by kernel_rfl) (by kernel_rfl) (by rfl) (by simp) (fun W W' h hb => h.trans (hb.mono h.size)) (fun s v W W' h hb => h) (Below.refl _ _).drew ?_
      repeat (refine wpF_pure rfl rfl ?_; go_big_quiet_step (fail); refine wpQuiet_nil ?_)
      refine wpF_load (.agg #[.int .i64 fv, .int .i64 fk, .int .u32 fq, .int .i64 fi, .int .i64 fc]) rfl (by rfl) (by rfl) (by rfl) hlF ?_
      simp only [Act.put, List.setIfInBounds_toArray, List.set_cons_succ, List.set_cons_zero]
      repeat (refine wpF_pure rfl rfl ?_; go_big_quiet_step (fail); refine wpQuiet_nil ?_)
      refine wpF_load (.agg #[.int .i64 gv, .int .i64 gk, .int .u32 gq, .int .i64 gi, .int .i64 gc]) rfl (by rfl) (by rfl) (by rfl) hlR ?_
      simp only [Act.put, List.setIfInBounds_toArray, List.set_cons_succ, List.set_cons_zero]
      refine wpF_call (f := 22) (args := #[.agg #[.int .i64 fv, .int .i64 fk, .int .u32 fq, .int .i64 fi, .int .i64 fc], .agg #[.int .i64 gv, .int .i64 gk, .int .u32 gq, .int .i64 gi, .int .i64 gc]]) (.bool M) rfl rfl (fun x => by first | rfl | (simp [go_sem]; done)) (fun W hW => HK.out W) ?_
      simp only [Act.put, List.setIfInBounds_toArray, List.set_cons_succ, List.set_cons_zero]
      repeat (refine wpF_pure rfl rfl ?_; go_big_quiet_step (fail); refine wpQuiet_nil ?_)
      intro xs W hW _
      simp only [fill]
      have d3 := (hW.cell (p := ⟨g, off + j * 6 + 3, none⟩) hgr).trans HC3.out
      have d5 := (hW.cell (p := ⟨g, off + j * 6 + 5, none⟩) hgr).trans HC5.out
      have HM2 : Hid (MadeK 5 .u8 w W (Ct.flat (fs.take j)) u) := ⟨own_below HM.out.1 hW, HM.out.2.trans (hW.mono HM.out.2.size)⟩
      have HNU := Lib.hid (HNUM.out.below (hW.mono HM.out.2.size))
      have HSZ := Lib.hid HM2.out.2.size
      clear hlR hlF hW
      cases M with
      | false =>
        have HE : Hid (Ct.wErr fs = 17) := by
          show Ct.wErr fs = 17
          rw [Ct.wErr_bad (k := j) H0.out HP.out HF.out (by unfold Ct.wBad; rw [if_neg (by simp [HM'.out])]; decide)]
          unfold Ct.wBad
          rw [if_neg (by simp [HM'.out])]
        go_wp2
        try go_ret2
        exact HBad.out _ _ 17 HE.out (by decide) rfl HM2.out.2
      | true =>
        by_cases hi3 : fi = (j : Int)
        · have HP2 : Hid (∀ (i : Nat) (g : Fr), i < j + 1 → fs[i]? = some g → Ct.wBad ⟨gv, gk, gq, gi, gc, ga, gcp, gz⟩ g i = 0) := fun i g hi2 hg2 => by
            rcases Nat.lt_or_ge i j with h | h
            · exact HP.out i g h hg2
            · have e : i = j := by omega
              subst e
              have h2 := HF.out
              rw [hg2] at h2
              injection h2 with h2
              rw [h2]
              exact Ct.wBad_zero.2 ⟨HM'.out, hi3⟩
          have hi2 : (fi != (j : Int)) = false := by simp [hi3]
          subst hi3
          clear HP
          go_wp2_with (at_builtin; refine wpList_append_any rfl (.tmp 31) (.tmp 36) 25 rfl w.heap.size 5 i0 (.int .u8 0) 1 Try.underlying25 hi hz0 hz1 hz2 rfl .u8 (Ct.flat (fs.take j)) fz _ rfl HM2.out.1 _ _ _ _ rfl rfl HNU.out HX1.out HX2.out HSZ.out ?_)
          intro v' w4 hown hg4
          have HM4 := Lib.hid (HM2.out.more (zs := fz) (v' := v') (by simpa using hown) hg4)
          rw [← HT.out] at HM4
          clear hown hg4 d3 d5
          go_wp2
          go_roundw
          case rel => exact ⟨j + 1, _, rfl, by omega, by go_num, HP2, HM4⟩
          case measure => simp [intOf]; omega
        · have HE : Hid (Ct.wErr fs = 3) := by
            show Ct.wErr fs = 3
            rw [Ct.wErr_bad (k := j) H0.out HP.out HF.out (by unfold Ct.wBad; rw [if_pos HM'.out, if_neg hi3]; decide)]
            unfold Ct.wBad
            rw [if_pos HM'.out, if_neg hi3]
          have hi2 : (fi != (j : Int)) = true := by simp [hi3]
          go_wp2
          try go_ret2
          exact HBad.out _ _ 3 HE.out (by decide) rfl HM2.out.2
    · have hjn : ¬ (j : Int) < (n : Int) := by omega
      have HE : Hid (Ct.wErr fs = Ct.wEnd f0 n) := by
        show _ = _
        rw [Ct.wErr_end H0.out (fun i g hg2 => HP.out i g (by have := (List.getElem?_eq_some_iff.1 hg2).1; rw [HN.out] at this; omega) hg2), HN.out]
      have hn1 : ¬ (n : Int) = 0 := by omega
      have e : j = n := by omega
      have HM5 := HM.out
      rw [e, ← HN.out, List.take_length] at HM5
      have HM6 := Lib.hid HM5
      clear HM5 e
      obtain ⟨gv, gk, gq, gi, gc, ga, gcp, gz⟩ := f0
      simp only at *
      by_cases h1 : (n : Int) < gc
      · have HE2 : Hid (Ct.wErr fs = 13) := by show _ = _; rw [HE.out]; unfold Ct.wEnd; rw [if_pos h1]
        clear HE a0 a1 a2 a3 a5
        go_wp2
        try go_ret2
        exact HBad.out _ _ 13 HE2.out (by decide) rfl HM6.out.2
      · by_cases h2 : gc < (n : Int)
        · have HE2 : Hid (Ct.wErr fs = 6) := by show _ = _; rw [HE.out]; unfold Ct.wEnd; rw [if_neg h1, if_pos h2]
          clear HE a0 a1 a2 a3 a5
          go_wp2
          try go_ret2
          exact HBad.out _ _ 6 HE2.out (by decide) rfl HM6.out.2
        · have HE2 : Hid (Ct.wErr fs = 0) := by show _ = _; rw [HE.out]; unfold Ct.wEnd; rw [if_neg h1, if_neg h2]
          clear HE a0 a1 a2 a3 a5
          go_wp2
          try go_ret2
          exact HGood.out _ _ _ HE2.out rfl HM6.out

/-- the document's Whole of any frames -/
theorem rwhole_any (A : Option Addr) (n cp : Nat) (fs : List Fr) (w : World) (hn : fs.length = n) (hcp : n ≤ cp) (hl : n ≤ 9223372036854775807) (hf : (Ct.flat fs).length ≤ 1000000) (h1 : FrsAt w w.heap.size A fs) :
    Calls Try.prog 15 #[.slice A n cp] w (WholeR w fs) := by
  cases fs with
  | nil =>
    obtain rfl : n = 0 := by simpa using hn.symm
    exact rwhole_nil A cp w
  | cons f0 r => exact rwhole_some A n cp (f0 :: r) f0 w hn hcp hl hf rfl h1
end Go.Proofs.Ytmdjgidbfcfdnaa

namespace Go.Proofs.Ytmdjgidbfcfdnaa
open Go.RowKit Go.Shelf
set_option maxRecDepth 100000
attribute [local go_sem] Oper.semAt_some

/-- a frame, cut -/
theorem cut_any (v k s i c : Int) (A : Option Addr) (n m cp : Nat) (w : World) (hm : min (n : Int) 250 = (m : Int)) (hmn : m ≤ n) (hn : n ≤ cp) :
    Calls Try.prog 13 #[frV v k s i c (.slice A n cp)] w fun e w' => e = .returned (frV v k s i c (.slice A m cp)) ∧ Below w.heap.size w w' := by
  have hmc : (m : Int) ≤ (cp : Int) := by omega
  unfold frV
  have HF : Hid (frC v k s i c (.slice A n cp) = #[.int .i64 v, .int .i64 k, .int .u32 s, .int .i64 i, .int .i64 c, .slice A n cp]) := rfl
  have HG : Hid (frC v k s i c (.slice A m cp) = #[.int .i64 v, .int .i64 k, .int .u32 s, .int .i64 i, .int .i64 c, .slice A m cp]) := rfl
  rw [HF.out, HG.out]
  go_enter Try.func13, Try.ntmps13
  go_wp2
  refine bodyPost_ret (v := .agg #[.int .i64 v, .int .i64 k, .int .u32 s, .int .i64 i, .int .i64 c, .slice A m cp]) (by simp [results, Try.results13, go_sem]) rfl ?_
  exact ⟨rfl, ((Below.refl _ w).alloc (Nat.le_refl _) _).alloc (by simp) _⟩
end Go.Proofs.Ytmdjgidbfcfdnaa

namespace Go.Proofs.Ytmdjgidbfcfdnaa
open Go.RowKit Go.Shelf
set_option maxRecDepth 100000
attribute [local go_sem] Oper.semAt_some

theorem of_frame (v k s i c : Int) (A : Option Addr) (n cp : Nat) (w : World) : Calls Try.prog 14 #[frV v k s i c (.slice A n cp)] w fun e w' => e = .returned (frV v k s i c (.slice A n cp)) ∧ Below w.heap.size w w' := by
  have hb : Below w.heap.size w ((w.alloc (.cells (frC v k s i c (.slice A n cp)) 42)).alloc (.cells (frC v k s i c (.slice A n cp)) 45)) := ((Below.refl _ w).alloc (Nat.le_refl _) _).alloc (by simp) _
  have HB := Lib.hid hb
  unfold frV
  have HF : Hid (frC v k s i c (.slice A n cp) = #[.int .i64 v, .int .i64 k, .int .u32 s, .int .i64 i, .int .i64 c, .slice A n cp]) := rfl
  rw [HF.out] at HB ⊢
  clear hb
  go_enter Try.func14, Try.ntmps14
  go_wp2
  refine bodyPost_ret (v := .agg #[.int .i64 v, .int .i64 k, .int .u32 s, .int .i64 i, .int .i64 c, .slice A n cp]) (by simp [results, Try.results14, go_sem]) rfl ?_
  exact ⟨rfl, HB.out⟩
end Go.Proofs.Ytmdjgidbfcfdnaa

namespace Go.Proofs.Ytmdjgidbfcfdnaa
open Go.RowKit Go.Shelf
set_option maxRecDepth 100000
attribute [local go_sem] Oper.semAt_some

/-- two rows of frames that the call has made beside one another -/
structure TwoL (w : World) (tf tr : TypeId) (g1 g2 : List Fr) (W : World) (u v : Value) : Prop where
  below : Below w.heap.size w W
  one : W.ownsRow w.heap.size tf 6 u g1.length (flatF g1)
  two : W.ownsRow w.heap.size tr 6 v g2.length (flatF g2)
section
variable {w W W' W4 : World} {tf tr : TypeId} {g1 g2 : List Fr} {u v u' v' : Value} {f : Fr}
theorem TwoL.start (w : World) (tf tr : TypeId) : TwoL w tf tr [] [] w (.slice none 0 0) (.slice none 0 0) := ⟨Below.refl _ _, World.ownsRow_nil _ _ _ _, World.ownsRow_nil _ _ _ _⟩
theorem TwoL.later (h : TwoL w tf tr g1 g2 W u v) (hb : Below W.heap.size W W') : TwoL w tf tr g1 g2 W' u v := ⟨h.below.trans (hb.mono h.below.size), own_below6 h.one hb, own_below6 h.two hb⟩
theorem grown_under {B : Nat} {o : Option Nat} (h : Below B w W) (hB : B ≤ W.heap.size) (hg : W.grownBy W4 o) (ho : ∀ g, o = some g → B ≤ g) : Below B w W4 := by
  have hO : Off (fun g => o = some g) W W4 := ⟨hg.os, hg.tape, hg.output, hg.size, fun g h3 h4 => hg.block g h3 (fun e => h4 e.symm)⟩
  exact h.trans (hO.below (fun g e => ho g e) hB)
theorem TwoL.push1 (h : TwoL w tf tr g1 g2 W u v) (hne : tf ≠ tr) (hown : W4.ownsRow w.heap.size tf 6 u' (g1.length + 1) (flatF g1 ++ f.cs.toList)) (hg : W.grownBy W4 u.ownBlock) : TwoL w tf tr (g1 ++ [f]) g2 W4 u' v := by
  refine ⟨grown_under h.below h.below.size hg (fun g hk => (h.one.lt g hk).1), ?_, h.two.kept hg (own_apart h.two h.one (Ne.symm hne))⟩
  rw [List.length_append, List.length_singleton, flatF_push]
  exact hown
theorem TwoL.push2 (h : TwoL w tf tr g1 g2 W u v) (hne : tf ≠ tr) (hown : W4.ownsRow w.heap.size tr 6 v' (g2.length + 1) (flatF g2 ++ f.cs.toList)) (hg : W.grownBy W4 v.ownBlock) : TwoL w tf tr g1 (g2 ++ [f]) W4 u v' := by
  refine ⟨grown_under h.below h.below.size hg (fun g hk => (h.two.lt g hk).1), h.one.kept hg (own_apart h.one h.two hne), ?_⟩
  rw [List.length_append, List.length_singleton, flatF_push]
  exact hown
theorem TwoL.own (h : TwoL w tf tr g1 g2 W u v) : ∃ A c B d, u = .slice A g1.length c ∧ v = .slice B g2.length d := by
  obtain ⟨A, c, e, _⟩ := own_slC h.one
  obtain ⟨B, d, e2, _⟩ := own_slC h.two
  exact ⟨A, c, B, d, e, e2⟩
end
theorem Ct.flat_few : ∀ (fs : List Fr), (∀ f ∈ fs, f.zs.length ≤ 250) → (Ct.flat fs).length ≤ 250 * fs.length
  | [], _ => by simp [Ct.flat]
  | f :: r, h => by
    have h1 := Ct.flat_few r fun g hg => h g (List.mem_cons_of_mem _ hg)
    have h2 := h f (by simp)
    unfold Ct.flat at h1 ⊢
    rw [List.flatMap_cons, List.length_append, List.length_cons]
    omega
set_option maxHeartbeats 16000000 in
theorem wholes_go (A : Option Addr) (n m cp : Nat) (fs : List Fr) (w : World) (hn : fs.length = n) (hcp : n ≤ cp) (hm : m = min n 20) (h1 : FrsAt w w.heap.size A fs) :
    Calls Try.prog 4 #[.slice A n cp] w fun e w' => e = .returned (.bool true) ∧ Below w.heap.size w w' := by
  obtain ⟨z0, hf, hf0, hf1, hf2⟩ := info_parts fzInfo
  obtain ⟨r0, hr, hr0, hr1, hr2⟩ := info_parts rfInfo
  have hnc : (n : Int) ≤ (cp : Int) := by omega
  obtain ⟨gs, hgs⟩ : ∃ gs, (fs.take m).map Fr.cut = gs := ⟨_, rfl⟩
  have hgl : gs.length = m := by rw [← hgs, List.length_map, List.length_take]; omega
  have hmn : m ≤ n := by omega
  have hm20 : m ≤ 20 := by omega
  have HMX := Lib.hid (show n ≤ m ∨ 20 ≤ m by omega)
  clear hm
  have HN := Lib.hid hn
  have HGL := Lib.hid hgl
  have HGS := Lib.hid hgs
  have H1 := Lib.hid h1
  have HGA : Hid (∀ f ∈ gs, f.At w w.heap.size ∧ f.zs.length ≤ 250) := fun f hf => by
    rw [← hgs] at hf
    obtain ⟨x, hx, rfl⟩ := List.mem_map.1 hf
    exact ⟨Fr.cut_at (h1.1 x (List.mem_of_mem_take hx)), by show (x.zs.take 250).length ≤ 250; rw [List.length_take]; omega⟩
  clear hn h1 hgs hgl
  go_enter Try.func4, Try.ntmps4
  go_wp2
  go_loopw [3, 4, 5] (fun u v iv wr => ∃ k : Nat, k ≤ m ∧ iv = .int .i64 (k : Int) ∧ Hid (TwoL w 42 45 (gs.take k) (gs.take k) wr u v)) (fun _ _ iv _ => m - (intOf iv).toNat)
  case atStart => exact ⟨0, by omega, rfl, TwoL.start w _ _⟩
  case round =>
    obtain ⟨k, hk, rfl, HF⟩ := hrel
    by_cases hlt : k < m
    · have hkn : (k : Int) < (n : Int) := by omega
      have hk10 : (k : Int) < 20 := by omega
      obtain ⟨f, hfk⟩ : ∃ f, fs[k]? = some f := ⟨_, List.getElem?_eq_getElem (by rw [HN.out]; omega)⟩
      have HFK := Lib.hid hfk
      have hbW := HF.out.below
      obtain ⟨g, off, rfl, hg, c0, c1, c2, c3, c4, c5⟩ := (H1.out.below hbW).six hfk
      have hgk : gs[k]? = some f.cut := by rw [← HGS.out, List.getElem?_map, List.getElem?_take, if_pos hlt, hfk]; rfl
      have HGK := Lib.hid hgk
      have hroom := (H1.out.1 f (List.mem_of_getElem? hfk)).room
      have hfl : (f.zs.take 250).length = min 250 f.zs.length := List.length_take
      have KC : Hid (∀ W, Calls Try.prog 13 #[.agg #[.int .i64 f.v, .int .i64 f.k, .int .u32 f.s, .int .i64 f.i, .int .i64 f.c, .slice f.a f.zs.length f.cp]] W fun e w' => e = .returned (.agg #[.int .i64 f.cut.v, .int .i64 f.cut.k, .int .u32 f.cut.s, .int .i64 f.cut.i, .int .i64 f.cut.c, .slice f.cut.a f.cut.zs.length f.cut.cp]) ∧ Below W.heap.size W w') :=
        fun W => cut_any f.v f.k f.s f.i f.c f.a f.zs.length (f.zs.take 250).length f.cp W (by omega) (by omega) hroom
      clear hfk hgk hfl hroom
      have HCELL : Hid (∀ W, Below w.heap.size w W → W.cell? ⟨g, off + k * 6, none⟩ = some (.int .i64 f.v) ∧ W.cell? ⟨g, off + k * 6 + 1, none⟩ = some (.int .i64 f.k) ∧ W.cell? ⟨g, off + k * 6 + 2, none⟩ = some (.int .u32 f.s) ∧ W.cell? ⟨g, off + k * 6 + 3, none⟩ = some (.int .i64 f.i) ∧
          W.cell? ⟨g, off + k * 6 + 4, none⟩ = some (.int .i64 f.c) ∧ W.cell? ⟨g, off + k * 6 + 5, none⟩ = some (.slice f.a f.zs.length f.cp)) := fun W hW => by
        obtain ⟨g', off', q, _, e0, e1, e2, e3, e4, e5⟩ := (H1.out.below hW).six HFK.out
        injection q with q
        injection q with q1 q2
        subst q1 q2
        exact ⟨e0, e1, e2, e3, e4, e5⟩
      generalize f.cut = h at *
      obtain ⟨fv, fk, fq, fi, fc, fa, fcp, fz⟩ := h
      simp only at KC
      go_wp2_with fail
      refine (KC.out wr).mono ?_
      rintro e W1 ⟨rfl, hb1⟩
      have hF1 := HF.out.later hb1
      have HF3 := Lib.hid (hF1.later ((Below.refl W1.heap.size W1).alloc (Nat.le_refl _) (.cells #[.int .i64 fv, .int .i64 fk, .int .u32 fq, .int .i64 fi, .int .i64 fc, .slice fa fz.length fcp] 42)))
      have HNW : Hid (∀ (j : Nat) (u : Value), [Value.int .i64 fv, .int .i64 fk, .int .u32 fq, .int .i64 fi, .int .i64 fc, .slice fa fz.length fcp][j]? = some u → (W1.alloc (.cells #[.int .i64 fv, .int .i64 fk, .int .u32 fq, .int .i64 fi, .int .i64 fc, .slice fa fz.length fcp] 42)).cell? ((⟨W1.heap.size, 0, none⟩ : Addr).add j) = some u) := fun j u h => cells_newC 42 j u h
      have hgl : (gs.take k).length = k := by rw [List.length_take, HGL.out]; omega
      have HX1 : Hid ((gs.take k).length + 1 ≤ maxLen) := by show _ ≤ _; unfold maxLen; omega
      have HX2 : Hid (((gs.take k).length + 1) * 64 ≤ 140737488355328) := by show _ ≤ _; omega
      have HX3 := Lib.hid HF3.out.below.size
      have HKL := Lib.hid hgl
      clear hF1 hgl c0 c1 c2 c3 c4 c5 hb1
      go_wp2_with (at_builtin; refine wpList_append_own_at _ rfl (.tmp 20) (.tmp 26) 26 rfl w.heap.size 42 z0 _ 6 64 Try.underlying26 hf hf0 hf1 hf2 rfl (by decide) _ _ _ rfl HF3.out.one ⟨W1.heap.size, 0, none⟩ 1 1 [Value.int .i64 fv, .int .i64 fk, .int .u32 fq, .int .i64 fi, .int .i64 fc, .slice fa fz.length fcp] rfl rfl HNW.out (by simp [Value.oneCell']) HX1.out HX2.out HX3.out ?_)
      intro u' W4 hown hg4 _ _
      have hmk : min k gs.length = k := by have := HGL.out; omega
      have HMK := Lib.hid hmk
      obtain ⟨A5, c5, rfl, hc5⟩ := own_slC hown
      rw [hmk] at hc5 hown ⊢
      have hF5 := HF3.out.push1 (f := ⟨fv, fk, fq, fi, fc, fa, fcp, fz⟩) (by decide) (by rw [HKL.out]; exact hown) hg4
      have HF5 := Lib.hid hF5
      obtain ⟨c0, c1, c2, c3, c4, c5'⟩ := HCELL.out W4 hF5.below
      have KO : Hid (∀ W, Calls Try.prog 14 #[.agg #[.int .i64 fv, .int .i64 fk, .int .u32 fq, .int .i64 fi, .int .i64 fc, .slice fa fz.length fcp]] W fun e w' => e = .returned (.agg #[.int .i64 fv, .int .i64 fk, .int .u32 fq, .int .i64 fi, .int .i64 fc, .slice fa fz.length fcp]) ∧ Below W.heap.size W w') := fun W => of_frame fv fk fq fi fc fa fz.length fcp W
      clear hown hg4 HF3 HNW HX3 hF5 hmk hc5
      go_wp2_with fail
      refine (KC.out W4).mono ?_
      rintro e W5 ⟨rfl, hb5⟩
      have HF6 := Lib.hid (HF5.out.later hb5)
      clear hb5 c0 c1 c2 c3 c4 c5'
      go_wp2_with fail
      refine (KO.out W5).mono ?_
      rintro e W6 ⟨rfl, hb6⟩
      have HF7 := Lib.hid ((HF6.out.later hb6).later ((Below.refl W6.heap.size W6).alloc (Nat.le_refl _) (.cells #[.int .i64 fv, .int .i64 fk, .int .u32 fq, .int .i64 fi, .int .i64 fc, .slice fa fz.length fcp] 45)))
      have HNW : Hid (∀ (j : Nat) (u : Value), [Value.int .i64 fv, .int .i64 fk, .int .u32 fq, .int .i64 fi, .int .i64 fc, .slice fa fz.length fcp][j]? = some u → (W6.alloc (.cells #[.int .i64 fv, .int .i64 fk, .int .u32 fq, .int .i64 fi, .int .i64 fc, .slice fa fz.length fcp] 45)).cell? ((⟨W6.heap.size, 0, none⟩ : Addr).add j) = some u) := fun j u h => cells_newC 45 j u h
      have HX3 := Lib.hid HF7.out.below.size
      clear hb6
      go_wp2_with (at_builtin; refine wpList_append_own_at _ rfl (.tmp 28) (.tmp 35) 30 rfl w.heap.size 45 r0 _ 6 64 Try.underlying30 hr hr0 hr1 hr2 rfl (by decide) _ _ _ rfl HF7.out.two ⟨W6.heap.size, 0, none⟩ 1 1 [Value.int .i64 fv, .int .i64 fk, .int .u32 fq, .int .i64 fi, .int .i64 fc, .slice fa fz.length fcp] rfl rfl HNW.out (by simp [Value.oneCell']) HX1.out HX2.out HX3.out ?_)
      intro v' W8 hown hg8 _ _
      have hF8 := HF7.out.push2 (f := ⟨fv, fk, fq, fi, fc, fa, fcp, fz⟩) (by decide) (by rw [HKL.out]; rw [HMK.out] at hown; exact hown) hg8
      have hG : gs.take k ++ [(⟨fv, fk, fq, fi, fc, fa, fcp, fz⟩ : Fr)] = gs.take (k + 1) := by rw [List.take_add_one, HGK.out]; rfl
      rw [hG] at hF8
      have HF8 := Lib.hid hF8
      clear hown hg8 HF7 HNW HX1 HX2 HX3 HF6 HF5 KO KC hF8 hG
      go_wp2
      go_roundw
      case rel => exact ⟨k + 1, by omega, by go_num, HF8⟩
      case measure => simp [intOf]; omega
    · have hkm : k = m := by omega
      subst hkm
      have hG : gs.take k = gs := List.take_of_length_le (by rw [HGL.out]; omega)
      rw [hG] at HF
      have hf := HF.out
      obtain ⟨A1, p1, A2, p2, rfl, rfl⟩ := hf.own
      have hat : ∀ f ∈ gs, f.At wr wr.heap.size := fun f hf' => ((HGA.out f hf').1.below hf.below).mono hf.below.size
      obtain ⟨_, _, q1, hp1, hfr1⟩ := own_frs hf.one hat
      injection q1 with q1 _ q3
      subst q1 q3
      obtain ⟨_, _, q1, hp2, hfr2⟩ := own_frs hf.two hat
      injection q1 with q1 _ q3
      subst q1 q3
      have hfew := Ct.flat_few gs fun f hf' => (HGA.out f hf').2
      rw [HGL.out] at hp1 hp2 hfew
      have K1 := cwhole_any A1 k p1 gs wr HGL.out hp1 (by omega) (by omega) hfr1
      have HFR2 := Lib.hid hfr2
      have HB1 := Lib.hid hf.below
      have hwl : (Ct.wOut gs).length ≤ 1000000 := by
        unfold Ct.wOut
        split
        · omega
        · simp
      have HWL := Lib.hid hwl
      rw [HGL.out]
      unfold WholeR at K1
      clear hf hat hfr1 hfr2 HF hG hwl
      have key : ∀ (C : Prop), (((k : Int) < (n : Int) ∧ ¬ (k : Int) < 20) → C) → (¬ (k : Int) < (n : Int) → C) → C := fun C h1 h2 => by
        by_cases h : (k : Int) < (n : Int)
        · exact h1 ⟨h, by rcases HMX.out with h3 | h3 <;> omega⟩
        · exact h2 h
      refine key _ ?_ ?_
      case' refine_1 => rintro ⟨hk1, hk2⟩
      case' refine_2 => intro hk1
      all_goals
        clear key
        go_wp2_with fail
        refine K1.mono ?_
        rintro e w2 ⟨A3, c3, rfl, hc3, hn3, hb3⟩
        have HB2 := Lib.hid (HB1.out.trans (hb3.mono HB1.out.size))
        have HN3 := Lib.hid hn3
        have K2 := rwhole_any A2 k p2 gs w2 HGL.out hp2 (by omega) (by omega) ((HFR2.out.below hb3).mono hb3.size)
        unfold WholeR at K2
        obtain ⟨L, hL⟩ : ∃ L, (Ct.wOut gs).length = L := ⟨_, rfl⟩
        have HL := Lib.hid hL
        have hL9 : L ≤ 1000000 := by rw [← hL]; exact HWL.out
        rw [hL] at K2 hc3 ⊢
        obtain ⟨E, hE⟩ : ∃ E, Ct.wErr gs = E := ⟨_, rfl⟩
        rw [hE] at K2 ⊢
        clear K1 hn3 hb3 hL hE
        go_wp2_with fail
        refine K2.mono ?_
        rintro e w3 ⟨A4, c4, rfl, hc4, hn4, hb4⟩
        have HB3 := Lib.hid (HB2.out.trans (hb4.mono HB2.out.size))
        have HN4 := Lib.hid hn4
        have HN34 := Lib.hid ((HN3.out.below hb4).mono hb4.size)
        have hne : (E == E) = true := by simp
        clear K2 hn4 hb4
        go_wp2_with fail
        refine (cknown_any _).mono ?_
        rintro e w4 ⟨rfl, hb5⟩
        have HB4 := Lib.hid (HB3.out.trans (hb5.mono HB3.out.size))
        have KE := same_any w4.heap.size A3 A4 L L c3 c4 (Ct.wOut gs) (Ct.wOut gs) w4 HL.out HL.out (by omega) ((HN34.out.below hb5).mono hb5.size) ((HN4.out.below hb5).mono hb5.size)
        rw [decide_eq_true rfl] at KE
        clear hb5
        go_wp2_with fail
        refine KE.mono ?_
        rintro e w5 ⟨rfl, nd, hq⟩
        have HB5 : Hid (Below w.heap.size w w5) := by rw [hq]; exact below_drewN HB4.out nd
        clear KE hq
        go_wp2
        go_ret
        exact ⟨rfl, HB5.out⟩
end Go.Proofs.Ytmdjgidbfcfdnaa

namespace Go.Proofs.Ytmdjgidbfcfdnaa.cutWholes
open Go.ChangeShapes Go.WideShapes Go.ChangeAt Go.RowKit
open Go.ChangeMaps (open_string shut_string)
set_option linter.unusedVariables false

theorem own : ownKnob Try.prog.godebug = none := by kernel_rfl
theorem laidOut : laidOutB Try.prog = true := by kernel_rfl

set_option maxRecDepth 100000 in
theorem lifted (os : Os) (started : os.Started) (H : Type) (enc : TypeId × Value → H) :
    ReturnsInHanded {} Try.checked os 4 .any (Rows.cutWholesSpec.pre6 enc Try.prog Try.f4 Rows.cutWholesRow.domain false) (Rows.cutWholesSpec.post enc Try.prog Try.f4 false true false false) := by
  refine returnsInHanded_of_change (C := Try.checked) own started (by kernel_rfl) Try.func4
    (ChangeSpec.witness6 (enc := enc) (C := Try.checked) false ⟨#[], #[.slice none 0 0], []⟩ 8 (by kernel_rfl) (by kernel_rfl) (by kernel_rfl) (by kernel_rfl)) ?_
  intro W base args ds gs before hval0 hW hcnd _
  have hval : ∀ (j : Nat) t v, Try.f4.params[j]? = some t → args[j]? = some v → Value.okWide Try.prog W .any base t v := hval0
  have hW' := hW
  obtain ⟨p, q, hA0, hV, rfl, hfz, hnd⟩ := hW
  have hA : DataW.TrodAll enc Try.prog W 0 (fun _ => true) true Try.f4.params.toList args.toList ds p := hA0
  rw [Try.params4] at hA hval
  obtain ⟨v0, vs0, d0, ds0, p0, q0, hargs, rfl, rfl, h0, r0⟩ := trodAll_cons hA
  obtain ⟨rfl, rfl, rfl⟩ := trodAll_nil r0
  obtain rfl : args = #[v0] := by cases args; simp_all
  obtain ⟨rfl, rfl⟩ := trodVars_none hV
  obtain ⟨a0, len0, cap0, rfl⟩ := okWide_slice Try.underlying26 (hval 0 26 v0 rfl rfl)
  have k0 := h0
  have lt0 : ∀ x ∈ p0, x.block < W.heap.size := by obtain ⟨m, hm⟩ := k0; exact DataW.trod_lt m _ _ _ hm
  obtain ⟨e0, hd0, hx0, hm0, w0, wf0⟩ := (by
    obtain ⟨fuel, hf⟩ := h0
    exact frs_of hf : ∃ fs : List Fr, fs.length = len0 ∧ len0 ≤ 9223372036854775807 ∧ len0 ≤ cap0 ∧ FrsAt W W.heap.size a0 fs ∧ ∀ f ∈ fs, f.Wf)
  clear hA0 hval0
  refine (wholes_go a0 len0 (min len0 20) cap0 e0 W hd0 hm0 rfl w0).mono fun e W' ⟨he, bel⟩ => ?_
  subst he
  exact ⟨_, rfl, _, _, _, [], _, [], hW', trodAll_mk1 (shut_bool Try.underlying4 _), (trodAll_cons_mk (Below.trod laidOut (by kernel_rfl) (of_decide_eq_true (by kernel_rfl)) k0 bel lt0) trodAll_mk0), rfl, bel.frame _, fun h => by cases h⟩

theorem over : Rows.cutWholesRow.holds Try.pinned (OpenSpec.ofChange Rows.cutWholesSpec) :=
  OpenClaim.holds_of_wide 4 Try.f4 rfl rfl rfl rfl rfl rfl rfl ⟨rfl, rfl, rfl, rfl, rfl⟩ rfl rfl rfl rfl rfl (by kernel_rfl) Try.func4 (by kernel_rfl)
    (of_decide_eq_true (by kernel_rfl)) (by unfold Func.isWrapper; first | (rw [if_pos (by decide +kernel)]; kernel_rfl) | (rw [if_neg (by decide +kernel)]; exact ⟨rfl, rfl⟩))
    (fun os started H enc _ => lifted os started H enc)

theorem proved : Rows.CutWholesSaid := over
#print axioms proved
end Go.Proofs.Ytmdjgidbfcfdnaa.cutWholes
