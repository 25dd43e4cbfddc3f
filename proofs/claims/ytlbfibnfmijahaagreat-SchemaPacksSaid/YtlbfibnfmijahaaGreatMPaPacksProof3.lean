/-
  A part of the texts of one proof, put together: BdyP, BdyC, Grow, Pen, Part, Write, WriteW, Pens, Signed, BdyW, BdyY, BdyV, BdyD, MsgR, MsgS, MsgT.
-/
import Derived.Lib.AppendStr
import Derived.RowKit3
import Derived.Lib.SliceRun
import Derived.Outline
import Derived.Deep.OwnRows
import Derived.Lib.ConvBytes
import Derived.BigQuiet
import Derived.Deep.QuietTactic
import Derived.Deep.LoopGhost
import Derived.WalkMore
import Derived.Test.YtlbfibnfmijahaaGreatMPaPacksProof2
namespace Go.Proofs.YtlbfibnfmijahaaGreat
open Go.RowKit Go.Shelf
set_option maxRecDepth 100000
attribute [local go_sem] Oper.semAt_some

set_option maxHeartbeats 4000000 in
theorem rpart_num (M : Mg) (f : Fd) (P C : Value) (w : World) (hf : FdX f) (hso : f.so = 1 ∨ f.so = 2) (he : fE M f = 0) : Calls Tryz.prog 37 #[mV M P C, f.v] w fun e w' => ∃ v, e = .returned v ∧ Made w w' (mpart M f) v := by
  obtain ⟨w2, hw2⟩ : ∃ w2, (w.alloc (.cells (mC M P C) 38)).alloc (.cells f.cs 81) = w2 := ⟨_, rfl⟩
  have hb2 : Below w.heap.size w w2 := by rw [← hw2]; exact ((Below.refl _ w).alloc (Nat.le_refl _) _).alloc (by simp) _
  have q0 : w2.heap[w.heap.size]? = some (.cells (mC M P C) 38 (0, 0)) := by rw [← hw2, Below.heap_alloc _ _ _ (by simp)]; exact World.alloc_heap_new _ _
  have q1 : w2.heap[w.heap.size + 1]? = some (.cells f.cs 81 (0, 0)) := by
    have := World.alloc_heap_new (w.alloc (.cells (mC M P C) 38)) (.cells f.cs 81)
    rw [World.size_alloc] at this
    rw [← hw2]; exact this
  obtain ⟨d0, d1, d2, -, -, -, -⟩ := fd_block q1
  obtain ⟨jj, hj6, hjj⟩ := hf.pl (by omega)
  have htn : f.pl.toNat = jj := by rw [hjj]; exact Int.toNat_natCast _
  rw [hjj] at d2
  have k1 := mg_at q0 hj6
  have hz6 : (jj : Int) < 6 := by omega
  have hle := hf.le
  have hwn : wN (M.at' jj) f.le f.mo = 0 := by
    unfold fE at he
    rw [htn] at he
    rcases hso with e | e <;> simpa [e] using he
  have hb := wN_zero hwn
  obtain ⟨x, hx⟩ : ∃ x, M.at' jj = x := ⟨_, rfl⟩
  rw [hx] at k1 hb
  have HW2 := Lib.hid hw2
  have HB2 := Lib.hid hb2
  rcases hso with e | e
  · have h0 := hf.one e
    have K := Lib.hid (rplain_any x w2 (by omega) (by omega))
    have hpt : mpart M f = Vi.enc x.toNat := by unfold mpart; simp [e, htn, hx]
    rw [hpt]
    rw [e] at d1
    rw [← hw2] at d1 d2 k1
    clear hw2 hb2 q0 q1 d0 htn hx hwn hle hb h0 hpt hjj he hf
    unfold mV Fd.v
    go_enter Tryz.func37, Tryz.ntmps37
    go_wp2_with fail
    rw [HW2.out]
    refine K.out.mono ?_
    rintro e w3 ⟨v, rfl, hm⟩
    have HM := Lib.hid (hm.since HB2.out)
    clear hm d1 d2 k1
    go_wp2
    go_ret
    exact ⟨_, rfl, HM.out⟩
  · obtain ⟨m1, m2⟩ := hf.two e
    have K := Lib.hid (rzig18_any x w2 (by omega) (by omega))
    have hpt : mpart M f = Vi.enc (zg x) := by unfold mpart; simp [e, htn, hx]
    rw [hpt]
    rw [e] at d1
    rw [← hw2] at d1 d2 k1
    clear hw2 hb2 q0 q1 d0 htn hx hwn hle hb hpt hjj he hf
    unfold mV Fd.v
    go_enter Tryz.func37, Tryz.ntmps37
    go_wp2_with fail
    rw [HW2.out]
    refine K.out.mono ?_
    rintro e w3 ⟨v, rfl, hm⟩
    have HM := Lib.hid (hm.since HB2.out)
    clear hm d1 d2 k1
    go_wp2
    go_ret
    exact ⟨_, rfl, HM.out⟩
theorem dlt_take : ∀ (l : List (Int × Int)) (a q : Int × Int) (j : Nat), l[j]? = some q → dlt a (l.take (j + 1)) = dlt a (l.take j) ++ (Vi.enc (zg (q.1 - (if j = 0 then a else (l[j - 1]?).getD a).1)) ++ Vi.enc (zg (q.2 - (if j = 0 then a else (l[j - 1]?).getD a).2)))
  | [], _, _, _, h => by simp at h
  | x :: l, a, q, 0, h => by
    simp only [List.getElem?_cons_zero, Option.some.injEq] at h
    subst h
    simp [dlt]
  | x :: l, a, q, j + 1, h => by
    rw [List.getElem?_cons_succ] at h
    have ih := dlt_take l x q j h
    rw [List.take_succ_cons, dlt, ih, List.take_succ_cons, dlt]
    have hp : (if j = 0 then x else (l[j - 1]?).getD x) = (if j + 1 = 0 then a else ((x :: l)[j + 1 - 1]?).getD a) := by
      rcases j with _ | j
      · simp
      · have hj : j < l.length := by have := (List.getElem?_eq_some_iff.1 h).1; omega
        simp [hj]
    rw [hp]
    simp only [List.append_assoc]
theorem gaps_take : ∀ (l : List Int) (a c : Int) (j : Nat), l[j]? = some c → gaps a (l.take (j + 1)) = gaps a (l.take j) ++ Vi.enc (c - (if j = 0 then a else (l[j - 1]?).getD a) - 1).toNat
  | [], _, _, _, h => by simp at h
  | x :: l, a, c, 0, h => by
    simp only [List.getElem?_cons_zero, Option.some.injEq] at h
    subst h
    simp [gaps]
  | x :: l, a, c, j + 1, h => by
    rw [List.getElem?_cons_succ] at h
    have ih := gaps_take l x c j h
    rw [List.take_succ_cons, gaps, ih, List.take_succ_cons, gaps]
    have hp : (if j = 0 then x else (l[j - 1]?).getD x) = (if j + 1 = 0 then a else ((x :: l)[j + 1 - 1]?).getD a) := by
      rcases j with _ | j
      · simp
      · have hj : j < l.length := by have := (List.getElem?_eq_some_iff.1 h).1; omega
        simp [hj]
    rw [hp]
    simp only [List.append_assoc]
theorem Made.later {w w1 w2 : World} {L : List Int} {v : Value} (h : Made w w1 L v) (hb : Below w1.heap.size w1 w2) : Made w w2 L v := ⟨own_below7 h.1 hb, h.2.trans (hb.mono h.2.size)⟩
theorem Made.more {w w1 w2 : World} {L zs : List Int} {v v' : Value} (h : Made w w1 L v) (hown : w2.ownsRow w.heap.size 5 1 v' (L.length + zs.length) (L.map (Value.int .u8) ++ zs.map (Value.int .u8))) (hg : w1.grownBy w2 v.ownBlock) : Made w w2 (L ++ zs) v' :=
  MadeK.more (e := 5) (k := .u8) h hown hg

theorem pts_at {w : World} {B g o : Nat} {l : List (Int × Int)} (h : Nums .i64 w B (some ⟨g, o, none⟩) (fl2 l)) {j : Nat} {q : Int × Int} (hj : l[j]? = some q) : w.cell? ⟨g, o + j * 2, none⟩ = some (.int .i64 q.1) ∧ w.cell? ⟨g, o + j * 2 + 1, none⟩ = some (.int .i64 q.2) := by
  obtain ⟨b, off, e, _, h1, h2⟩ := pts_two h hj
  injection e with e
  injection e with e1 e2
  subst e1 e2
  exact ⟨h1, h2⟩
set_option maxHeartbeats 8000000 in
theorem rpart_path (M : Mg) (f : Fd) (P C : Value) (w : World) (h1 : MAt w w.heap.size M P C) (hf : FdX f) (e : f.so = 3) (he : fE M f = 0) : Calls Tryz.prog 37 #[mV M P C, f.v] w fun e w' => ∃ v, e = .returned v ∧ Made w w' (mpart M f) v := by
  obtain ⟨i0, hi, hz0, hz1, hz2⟩ := info_parts byteInfo
  obtain ⟨w2, hw2⟩ : ∃ w2, (w.alloc (.cells (mC M P C) 38)).alloc (.cells f.cs 81) = w2 := ⟨_, rfl⟩
  have hb2 : Below w.heap.size w w2 := by rw [← hw2]; exact ((Below.refl _ w).alloc (Nat.le_refl _) _).alloc (by simp) _
  have q0 : w2.heap[w.heap.size]? = some (.cells (mC M P C) 38 (0, 0)) := by rw [← hw2, Below.heap_alloc _ _ _ (by simp)]; exact World.alloc_heap_new _ _
  have q1 : w2.heap[w.heap.size + 1]? = some (.cells f.cs 81 (0, 0)) := by
    have := World.alloc_heap_new (w.alloc (.cells (mC M P C) 38)) (.cells f.cs 81)
    rw [World.size_alloc] at this
    rw [← hw2]; exact this
  obtain ⟨-, d1, -, -, -, -, -⟩ := fd_block q1
  rw [e] at d1
  obtain ⟨⟨a, c, rfl, hc, hn⟩, -⟩ := h1
  have hx : fE M f = wP M.p f.mo := by unfold fE; simp [e]
  rw [hx] at he
  obtain ⟨p1, p2, p3⟩ := wP_zero he
  have hm16 := hf.mo.1 e
  have hpt : mpart M f = Vi.enc M.p.length ++ dlt (0, 0) M.p := by unfold mpart; simp [e]
  rw [hpt]
  obtain ⟨np, hnp⟩ : ∃ np, M.p.length = np := ⟨_, rfl⟩
  rw [hnp] at hw2 q0 hc p1 p2 ⊢
  have HNP := Lib.hid hnp
  have h16 : np ≤ 16 := by omega
  have K := rplain_any (np : Int) w2 (by omega) (by omega)
  rw [Int.toNat_natCast] at K
  have K := Lib.hid K
  have c7 := row_cell q0 7 (.slice a np c) rfl
  have HC7 := Lib.hid c7
  have HW2 := Lib.hid hw2
  have HB2 := Lib.hid hb2
  have HNU := Lib.hid (hn.below hb2)
  have HP3 := Lib.hid p3
  have hlt0 : w.heap.size < w2.heap.size := (Array.getElem?_eq_some_iff.1 q0).1
  have hle1 := Vi.enc_le 0 np (by omega)
  have HLE := Lib.hid hle1
  rw [← hw2] at d1 c7
  clear hw2
  unfold mV Fd.v
  obtain ⟨ps, hps⟩ : ∃ ps, M.p = ps := ⟨_, rfl⟩
  have HPS := Lib.hid hps
  rw [hps] at HNP HNU HP3 ⊢
  obtain ⟨X0, hX0⟩ : ∃ X0, mC M (.slice a np c) C = X0 := ⟨_, rfl⟩
  rw [hX0] at HW2 d1 c7 ⊢
  clear hX0 hb2 hn p3 hpt hx he hf q0 q1 p1 p2 hm16 hnp hps HPS e hle1
  go_enter Tryz.func37, Tryz.ntmps37
  go_wp2_with fail
  rw [HW2.out]
  refine K.out.mono ?_
  rintro e w3 ⟨v, rfl, hm⟩
  have HM0 := Lib.hid hm
  clear hm d1 c7 K HW2
  go_wp2_with fail
  go_loopw [5, 6, 7, 8] (fun ov iv _ _ wr => ∃ (j : Nat) (v : Value), v = ov ∧ j ≤ np ∧ iv = .int .i64 (j : Int) ∧ Hid (Made w2 wr (Vi.enc np ++ dlt (0, 0) (ps.take j)) v)) (fun _ iv _ _ _ => np - (intOf iv).toNat)
  case atStart => exact ⟨0, _, rfl, by omega, rfl, by rw [List.take_zero, dlt, List.append_nil]; exact HM0⟩
  case round =>
    obtain ⟨j, v, rfl, hj, rfl, HM⟩ := hrel
    have HB := Lib.hid HM.out.2
    have c7 := (HB.out.cell (p := ⟨w.heap.size, 7, none⟩) hlt0).trans HC7.out
    rcases Nat.lt_or_ge j np with hlt | hge
    · obtain ⟨q, hq⟩ : ∃ q, ps[j]? = some q := ⟨_, List.getElem?_eq_getElem (by rw [HNP.out]; exact hlt)⟩
      have hbw : Below w.heap.size w2 wr := HB.out.mono (Nat.le_of_lt hlt0)
      obtain ⟨ga, off, rfl, hga, x0, x1⟩ := pts_two (HNU.out.below hbw) hq
      have hqo := HP3.out q (List.mem_of_getElem? hq)
      have hj2 : (j : Int) < (np : Int) := by omega
      have hnc2 : (np : Int) ≤ (c : Int) := by omega
      have hj0 : (0 : Int) ≤ (j : Int) := by omega
      have HDT := Lib.hid (dlt_take ps (0, 0) q j hq)
      obtain ⟨qx, qy⟩ := q
      dsimp only at x0 x1 HDT
      unfold ptOk at hqo
      dsimp only at hqo
      go_wp2_with fail
      go_quiet (fail)
      obtain ⟨wz, hwz⟩ : ∃ wz, wr.drewN nq = wz := ⟨_, rfl⟩
      have hbz : Below wr.heap.size wr wz := by rw [← hwz]; exact below_of_drewN _ _
      have HMZ := Lib.hid (HM.out.later hbz)
      rw [hwz]
      obtain ⟨T, hT⟩ : ∃ T, Vi.enc np ++ dlt (0, 0) (ps.take j) = T := ⟨_, rfl⟩
      have hTl : T.length ≤ 200 := by
        rw [← hT, List.length_append]
        have h1 := dlt_len (ps.take j) (0, 0) ⟨by decide, by decide, by decide, by decide⟩ fun q hq => HP3.out q (List.mem_of_mem_take hq)
        rw [List.length_take] at h1
        have := HLE.out
        omega
      rw [hT] at HMZ
      have HT := Lib.hid hT
      clear hwz hbz hT x0 x1 c7 HM HB
      by_cases hj00 : j = 0
      · have e0 : ¬ (0 : Int) < (j : Int) := by omega
        have KX := Lib.hid (rzig18_any (qx) wz (by omega) (by omega))
        go_wp2_with fail
        refine KX.out.mono ?_
        rintro e w4 ⟨va, rfl, hma⟩
        obtain ⟨A1, cc1, rfl, hcc1, hna1⟩ := hma.slice
        have HM4 := Lib.hid (HMZ.out.later hma.2)
        obtain ⟨zx, hzx⟩ : ∃ zx, Vi.enc (zg (qx)) = zx := ⟨_, rfl⟩
        obtain ⟨zy, hzy⟩ : ∃ zy, Vi.enc (zg (qy)) = zy := ⟨_, rfl⟩
        have hlx : zx.length ≤ 10 := by rw [← hzx]; exact Vi.enc_le10 (by have := zg_le (x := qx) (b := 2000000) (by omega) (by omega); omega)
        have hly : zy.length ≤ 10 := by rw [← hzy]; exact Vi.enc_le10 (by have := zg_le (x := qy) (b := 2000000) (by omega) (by omega); omega)
        rw [hzx] at hna1 hcc1 ⊢
        have HNA := Lib.hid hna1
        have HX1 : Hid (T.length + zx.length ≤ maxLen) := by show _ ≤ _; unfold maxLen; omega
        have HX2 : Hid ((T.length + zx.length) * 1 ≤ 140737488355328) := by show _ ≤ _; omega
        have HZ := Lib.hid (And.intro hzx hzy)
        clear hna1 hma hzx hzy KX HMZ
        go_wp2_with (at_builtin; refine wpList_append_any rfl (.tmp 73) (.tmp 75) 49 rfl w2.heap.size 5 i0 (.int .u8 0) 1 Tryz.underlying49 hi hz0 hz1 hz2 rfl .u8 T zx _ rfl HM4.out.1 _ _ _ _ rfl rfl HNA.out HX1.out HX2.out HM4.out.2.size ?_)
        intro v5 w5 hown hgr
        have HM5 := Lib.hid (HM4.out.more hown hgr)
        have KY := Lib.hid (rzig18_any (qy) w5 (by omega) (by omega))
        go_wp2_with fail
        refine KY.out.mono ?_
        rintro e w6 ⟨vb, rfl, hmb⟩
        obtain ⟨A2, cc2, rfl, hcc2, hna2⟩ := hmb.slice
        have HM6 := Lib.hid (HM5.out.later hmb.2)
        rw [HZ.out.2] at hna2 hcc2 ⊢
        have HNB := Lib.hid hna2
        have HX3 : Hid ((T ++ zx).length + zy.length ≤ maxLen) := by show _ ≤ _; rw [List.length_append]; unfold maxLen; omega
        have HX4 : Hid (((T ++ zx).length + zy.length) * 1 ≤ 140737488355328) := by show _ ≤ _; rw [List.length_append]; omega
        clear hna2 hmb KY HM5 HM4 HX1 HX2 HNA hown hgr
        go_wp2_with (at_builtin; refine wpList_append_any rfl (.tmp 76) (.tmp 78) 49 rfl w2.heap.size 5 i0 (.int .u8 0) 1 Tryz.underlying49 hi hz0 hz1 hz2 rfl .u8 (T ++ zx) zy _ rfl HM6.out.1 _ _ _ _ rfl rfl HNB.out HX3.out HX4.out HM6.out.2.size ?_)
        intro v7 w7 hown hgr
        have hm7 := HM6.out.more (zs := zy) (v' := v7) (by simpa using hown) hgr
        have hdt' := HDT.out
        rw [if_pos hj00] at hdt'
        simp only [Int.sub_zero] at hdt'
        rw [HZ.out.1, HZ.out.2] at hdt'
        rw [show T ++ zx ++ zy = Vi.enc np ++ dlt (0, 0) (ps.take (j + 1)) by rw [hdt', ← HT.out]; simp only [List.append_assoc]] at hm7
        have HF := Lib.hid hm7
        clear hm7 hown hgr HX3 HX4 HNB HM6 hdt'
        go_wp2
        exact ⟨⟨j + 1, _, rfl, by omega, by go_num, HF⟩, by simp only [intOf]; omega⟩
      · obtain ⟨j', rfl⟩ : ∃ j', j = j' + 1 := ⟨j - 1, by omega⟩
        obtain ⟨⟨px, py⟩, hp⟩ : ∃ p, ps[j']? = some p := ⟨_, List.getElem?_eq_getElem (by rw [HNP.out]; omega)⟩
        have hbz := HMZ.out.2
        have c7z := (hbz.cell (p := ⟨w.heap.size, 7, none⟩) hlt0).trans HC7.out
        obtain ⟨y0, y1⟩ := pts_at (HNU.out.below (hbz.mono (Nat.le_of_lt hlt0))) hp
        dsimp only at y0 y1
        have hpo := HP3.out _ (List.mem_of_getElem? hp)
        unfold ptOk at hpo
        dsimp only at hpo
        have HPV := Lib.hid hp
        have hjp : (j' : Int) < (np : Int) := by omega
        have hjp0 : (0 : Int) ≤ (j' : Int) := by omega
        have e0 : (0 : Int) < ((j' + 1 : Nat) : Int) := by omega
        clear hbz hp hq
        go_wp2_with fail
        go_quiet (fail)
        obtain ⟨wy, hwy⟩ : ∃ wy, wz.drewN nq = wy := ⟨_, rfl⟩
        have hby : Below wz.heap.size wz wy := by rw [← hwy]; exact below_of_drewN _ _
        have HMY := Lib.hid (HMZ.out.later hby)
        rw [hwy]
        clear hwy hby y0 y1 c7z HMZ
        have KX := Lib.hid (rzig18_any (qx - px) wy (by omega) (by omega))
        go_wp2_with fail
        refine KX.out.mono ?_
        rintro e w4 ⟨va, rfl, hma⟩
        obtain ⟨A1, cc1, rfl, hcc1, hna1⟩ := hma.slice
        have HM4 := Lib.hid (HMY.out.later hma.2)
        obtain ⟨zx, hzx⟩ : ∃ zx, Vi.enc (zg (qx - px)) = zx := ⟨_, rfl⟩
        obtain ⟨zy, hzy⟩ : ∃ zy, Vi.enc (zg (qy - py)) = zy := ⟨_, rfl⟩
        have hlx : zx.length ≤ 10 := by rw [← hzx]; exact Vi.enc_le10 (by have := zg_le (x := qx - px) (b := 2000000) (by omega) (by omega); omega)
        have hly : zy.length ≤ 10 := by rw [← hzy]; exact Vi.enc_le10 (by have := zg_le (x := qy - py) (b := 2000000) (by omega) (by omega); omega)
        rw [hzx] at hna1 hcc1 ⊢
        have HNA := Lib.hid hna1
        have HX1 : Hid (T.length + zx.length ≤ maxLen) := by show _ ≤ _; unfold maxLen; omega
        have HX2 : Hid ((T.length + zx.length) * 1 ≤ 140737488355328) := by show _ ≤ _; omega
        have HZ := Lib.hid (And.intro hzx hzy)
        clear hna1 hma hzx hzy KX HMY
        go_wp2_with (at_builtin; refine wpList_append_any rfl (.tmp 73) (.tmp 75) 49 rfl w2.heap.size 5 i0 (.int .u8 0) 1 Tryz.underlying49 hi hz0 hz1 hz2 rfl .u8 T zx _ rfl HM4.out.1 _ _ _ _ rfl rfl HNA.out HX1.out HX2.out HM4.out.2.size ?_)
        intro v5 w5 hown hgr
        have HM5 := Lib.hid (HM4.out.more hown hgr)
        have KY := Lib.hid (rzig18_any (qy - py) w5 (by omega) (by omega))
        go_wp2_with fail
        refine KY.out.mono ?_
        rintro e w6 ⟨vb, rfl, hmb⟩
        obtain ⟨A2, cc2, rfl, hcc2, hna2⟩ := hmb.slice
        have HM6 := Lib.hid (HM5.out.later hmb.2)
        rw [HZ.out.2] at hna2 hcc2 ⊢
        have HNB := Lib.hid hna2
        have HX3 : Hid ((T ++ zx).length + zy.length ≤ maxLen) := by show _ ≤ _; rw [List.length_append]; unfold maxLen; omega
        have HX4 : Hid (((T ++ zx).length + zy.length) * 1 ≤ 140737488355328) := by show _ ≤ _; rw [List.length_append]; omega
        clear hna2 hmb KY HM5 HM4 HX1 HX2 HNA hown hgr
        go_wp2_with (at_builtin; refine wpList_append_any rfl (.tmp 76) (.tmp 78) 49 rfl w2.heap.size 5 i0 (.int .u8 0) 1 Tryz.underlying49 hi hz0 hz1 hz2 rfl .u8 (T ++ zx) zy _ rfl HM6.out.1 _ _ _ _ rfl rfl HNB.out HX3.out HX4.out HM6.out.2.size ?_)
        intro v7 w7 hown hgr
        have hm7 := HM6.out.more (zs := zy) (v' := v7) (by simpa using hown) hgr
        have hdt' := HDT.out
        rw [if_neg hj00, Nat.add_sub_cancel, HPV.out] at hdt'
        simp only [Option.getD_some] at hdt'
        rw [HZ.out.1, HZ.out.2] at hdt'
        rw [show T ++ zx ++ zy = Vi.enc np ++ dlt (0, 0) (ps.take (j' + 1 + 1)) by rw [hdt', ← HT.out]; simp only [List.append_assoc]] at hm7
        have HF := Lib.hid hm7
        clear hm7 hown hgr HX3 HX4 HNB HM6 hdt'
        go_wp2
        exact ⟨⟨j' + 1 + 1, _, rfl, by omega, by go_num, HF⟩, by simp only [intOf]; omega⟩
    · obtain rfl : j = np := by omega
      have hfin := HM.out
      rw [List.take_of_length_le (by rw [HNP.out]; exact Nat.le_refl _)] at hfin
      have HF := Lib.hid hfin
      clear hfin
      go_wp2
      go_ret
      exact ⟨_, rfl, HF.out.since HB2.out⟩
end Go.Proofs.YtlbfibnfmijahaaGreat

namespace Go.Proofs.YtlbfibnfmijahaaGreat
open Go.RowKit Go.Shelf
set_option maxRecDepth 100000
attribute [local go_sem] Oper.semAt_some

theorem cE_take : ∀ (l : List Int) (a : Int) (j : Nat), cE a l = 0 → cE a (l.take j) = 0
  | [], _, _, h => by simp [cE]
  | c :: r, a, 0, _ => by simp [cE]
  | c :: r, a, j + 1, h => by
    rw [cE] at h
    by_cases h1 : c < 0 ∨ 65535 < c
    · rw [if_pos h1] at h; omega
    rw [if_neg h1] at h
    by_cases h2 : c ≤ a
    · rw [if_pos h2] at h; omega
    rw [if_neg h2] at h
    rw [List.take_succ_cons, cE, if_neg h1, if_neg h2]
    exact cE_take r c j h
theorem cE_get : ∀ (l : List Int) (a : Int) (j : Nat) (c : Int), -1 ≤ a → cE a l = 0 → l[j]? = some c → 0 ≤ c ∧ c ≤ 65535 ∧ (∀ i p, i < j → l[i]? = some p → p < c) ∧ a < c
  | [], _, _, _, _, _, h => by simp at h
  | x :: r, a, j, c, ha, h, hj => by
    rw [cE] at h
    by_cases h1 : x < 0 ∨ 65535 < x
    · rw [if_pos h1] at h; omega
    rw [if_neg h1] at h
    by_cases h2 : x ≤ a
    · rw [if_pos h2] at h; omega
    rw [if_neg h2] at h
    rcases j with _ | j
    · simp only [List.getElem?_cons_zero, Option.some.injEq] at hj
      subst hj
      exact ⟨by omega, by omega, fun i p hi _ => by omega, by omega⟩
    · rw [List.getElem?_cons_succ] at hj
      obtain ⟨b1, b2, b3, b4⟩ := cE_get r x j c (by omega) h hj
      refine ⟨b1, b2, fun i p hi hp => ?_, by omega⟩
      rcases i with _ | i
      · simp only [List.getElem?_cons_zero, Option.some.injEq] at hp
        omega
      · rw [List.getElem?_cons_succ] at hp
        exact b3 i p (by omega) hp

set_option maxHeartbeats 8000000 in
theorem rpart_cells (M : Mg) (f : Fd) (P C : Value) (w : World) (h1 : MAt w w.heap.size M P C) (hf : FdX f) (e : f.so = 4) (he : fE M f = 0) : Calls Tryz.prog 37 #[mV M P C, f.v] w fun e w' => ∃ v, e = .returned v ∧ Made w w' (mpart M f) v := by
  obtain ⟨i0, hi, hz0, hz1, hz2⟩ := info_parts byteInfo
  obtain ⟨w2, hw2⟩ : ∃ w2, (w.alloc (.cells (mC M P C) 38)).alloc (.cells f.cs 81) = w2 := ⟨_, rfl⟩
  have hb2 : Below w.heap.size w w2 := by rw [← hw2]; exact ((Below.refl _ w).alloc (Nat.le_refl _) _).alloc (by simp) _
  have q0 : w2.heap[w.heap.size]? = some (.cells (mC M P C) 38 (0, 0)) := by rw [← hw2, Below.heap_alloc _ _ _ (by simp)]; exact World.alloc_heap_new _ _
  have q1 : w2.heap[w.heap.size + 1]? = some (.cells f.cs 81 (0, 0)) := by
    have := World.alloc_heap_new (w.alloc (.cells (mC M P C) 38)) (.cells f.cs 81)
    rw [World.size_alloc] at this
    rw [← hw2]; exact this
  obtain ⟨-, d1, -, -, -, -, -⟩ := fd_block q1
  rw [e] at d1
  obtain ⟨-, ⟨a, c, rfl, hc, hn⟩⟩ := h1
  have hx : fE M f = wC M.c f.mo := by unfold fE; simp [e]
  rw [hx] at he
  obtain ⟨p1, p2, p3⟩ := wC_zero he
  have hm16 := hf.mo.2.1 e
  have hpt : mpart M f = Vi.enc M.c.length ++ gaps (-1) M.c := by unfold mpart; simp [e]
  rw [hpt]
  obtain ⟨np, hnp⟩ : ∃ np, M.c.length = np := ⟨_, rfl⟩
  rw [hnp] at hw2 q0 hc p1 p2 ⊢
  have HNP := Lib.hid hnp
  have h16 : np ≤ 32 := by omega
  have K := rplain_any (np : Int) w2 (by omega) (by omega)
  rw [Int.toNat_natCast] at K
  have K := Lib.hid K
  have c7 := row_cell q0 8 (.slice a np c) rfl
  have HC7 := Lib.hid c7
  have HW2 := Lib.hid hw2
  have HB2 := Lib.hid hb2
  have HNU := Lib.hid (hn.below hb2)
  have HP3 := Lib.hid p3
  have hlt0 : w.heap.size < w2.heap.size := (Array.getElem?_eq_some_iff.1 q0).1
  have hle1 := Vi.enc_le 0 np (by omega)
  have HLE := Lib.hid hle1
  rw [← hw2] at d1 c7
  clear hw2
  unfold mV Fd.v
  obtain ⟨ps, hps⟩ : ∃ ps, M.c = ps := ⟨_, rfl⟩
  have HPS := Lib.hid hps
  rw [hps] at HNP HNU HP3 ⊢
  obtain ⟨X0, hX0⟩ : ∃ X0, mC M P (.slice a np c) = X0 := ⟨_, rfl⟩
  rw [hX0] at HW2 d1 c7 ⊢
  clear hX0 hb2 hn p3 hpt hx he hf q0 q1 p1 p2 hm16 hnp hps HPS e hle1
  go_enter Tryz.func37, Tryz.ntmps37
  go_wp2_with fail
  rw [HW2.out]
  refine K.out.mono ?_
  rintro e w3 ⟨v, rfl, hm⟩
  have HM0 := Lib.hid hm
  clear hm d1 c7 K HW2
  go_wp2_with fail
  go_loopw [5, 9] (fun ov iv wr => ∃ (j : Nat) (v : Value), v = ov ∧ j ≤ np ∧ iv = .int .i64 (j : Int) ∧ Hid (Made w2 wr (Vi.enc np ++ gaps (-1) (ps.take j)) v)) (fun _ iv _ => np - (intOf iv).toNat)
  case atStart => exact ⟨0, _, rfl, by omega, rfl, by rw [List.take_zero, gaps, List.append_nil]; exact HM0⟩
  case round =>
    obtain ⟨j, v, rfl, hj, rfl, HM⟩ := hrel
    have HB := Lib.hid HM.out.2
    have c7 := (HB.out.cell (p := ⟨w.heap.size, 8, none⟩) hlt0).trans HC7.out
    rcases Nat.lt_or_ge j np with hlt | hge
    · obtain ⟨q, hq⟩ : ∃ q, ps[j]? = some q := ⟨_, List.getElem?_eq_getElem (by rw [HNP.out]; exact hlt)⟩
      have hbw : Below w.heap.size w2 wr := HB.out.mono (Nat.le_of_lt hlt0)
      obtain ⟨ga, off, rfl, hga, x0⟩ := (HNU.out.below hbw).open hq
      have hj2 : (j : Int) < (np : Int) := by omega
      have hnc2 : (np : Int) ≤ (c : Int) := by omega
      have hj0 : (0 : Int) ≤ (j : Int) := by omega
      have HDT := Lib.hid (gaps_take ps (-1) q j hq)
      obtain ⟨T, hT⟩ : ∃ T, Vi.enc np ++ gaps (-1) (ps.take j) = T := ⟨_, rfl⟩
      have hTl : T.length ≤ 200 := by
        rw [← hT, List.length_append]
        have h1 := gaps_len (ps.take j) (-1) (by omega) (cE_take ps (-1) j HP3.out)
        rw [List.length_take] at h1
        have := HLE.out
        omega
      rw [hT] at HM
      have HT := Lib.hid hT
      have HQ := Lib.hid hq
      obtain ⟨hq0, hq1, hq2, _⟩ := cE_get ps (-1) j q (by omega) HP3.out hq
      clear hT
      by_cases hj00 : j = 0
      · subst hj00
        have HX0 := Lib.hid x0
        have x0' : wr.cell? ⟨ga, off, none⟩ = some (.int .i64 q) := x0
        obtain ⟨zx, hzx⟩ : ∃ zx, Vi.enc q.toNat = zx := ⟨_, rfl⟩
        have hlx : zx.length ≤ 10 := by rw [← hzx]; exact Vi.enc_le10 (by omega)
        have KX := rplain_any q wr (by omega) (by omega)
        rw [hzx] at KX
        have KX := Lib.hid KX
        have hnp0 : (0 : Int) < (np : Int) := by omega
        go_wp2_with fail
        refine KX.out.mono ?_
        rintro e w4 ⟨va, rfl, hma⟩
        obtain ⟨A1, cc1, rfl, hcc1, hna1⟩ := hma.slice
        have HM4 := Lib.hid (HM.out.later hma.2)
        have HNA := Lib.hid hna1
        have HX1 : Hid (T.length + zx.length ≤ maxLen) := by show _ ≤ _; unfold maxLen; omega
        have HX2 : Hid ((T.length + zx.length) * 1 ≤ 140737488355328) := by show _ ≤ _; omega
        have HZ := Lib.hid hzx
        clear hna1 hma hzx KX HM x0 x0' c7 hbw hq
        go_wp2_with (at_builtin; refine wpList_append_any rfl (.tmp 95) (.tmp 100) 49 rfl w2.heap.size 5 i0 (.int .u8 0) 1 Tryz.underlying49 hi hz0 hz1 hz2 rfl .u8 T zx _ rfl HM4.out.1 _ _ _ _ rfl rfl HNA.out HX1.out HX2.out HM4.out.2.size ?_)
        intro v7 w7 hown hgr
        have hm7 := HM4.out.more (zs := zx) (v' := v7) (by simpa using hown) hgr
        have hdt' := HDT.out
        simp only [if_true] at hdt'
        rw [show q - (-1) - 1 = q by omega, HZ.out] at hdt'
        rw [show T ++ zx = Vi.enc np ++ gaps (-1) (ps.take (0 + 1)) by rw [hdt', ← HT.out]; simp only [List.append_assoc]] at hm7
        have HF := Lib.hid hm7
        clear hm7 hown hgr HX1 HX2 HNA HM4 hdt'
        go_wp2
        exact ⟨⟨0 + 1, _, rfl, by omega, by go_num, HF⟩, by simp only [intOf]; omega⟩
      · obtain ⟨j', rfl⟩ : ∃ j', j = j' + 1 := ⟨j - 1, by omega⟩
        obtain ⟨px, hp⟩ : ∃ p, ps[j']? = some p := ⟨_, List.getElem?_eq_getElem (by rw [HNP.out]; omega)⟩
        obtain ⟨ga', off', e', _, y0⟩ := (HNU.out.below hbw).open hp
        injection e' with e'
        injection e' with e1 e2
        subst e1 e2
        obtain ⟨hp0, hp1, _, _⟩ := cE_get ps (-1) j' px (by omega) HP3.out hp
        have hlt2 := hq2 j' px (by omega) hp
        have HPV := Lib.hid hp
        have hjp : (j' : Int) < (np : Int) := by omega
        have hjp0 : (0 : Int) ≤ (j' : Int) := by omega
        have e0 : ((j' + 1 : Nat) : Int) ≠ 0 := by omega
        obtain ⟨zx, hzx⟩ : ∃ zx, Vi.enc (q - px - 1).toNat = zx := ⟨_, rfl⟩
        have hlx : zx.length ≤ 10 := by rw [← hzx]; exact Vi.enc_le10 (by omega)
        have KX : Hid (∀ W, Below wr.heap.size wr W → Calls Tryz.prog 57 #[.int .i64 (q - px - 1)] W fun e w' => ∃ v, e = .returned v ∧ (∃ A c, v = .slice A zx.length c ∧ zx.length ≤ c ∧ Nums .u8 w' w'.heap.size A zx) ∧ Below W.heap.size W w') := Lib.hid fun W hW => by
          refine (rplain_any (q - px - 1) W (by omega) (by omega)).mono fun e w' h => ?_
          obtain ⟨v, h1, h2⟩ := h
          rw [hzx] at h2
          obtain ⟨A, c, h3, h4, h5⟩ := h2.slice
          exact ⟨v, h1, ⟨A, c, h3, h4, h5⟩, h2.2⟩
        have hwl : w.heap.size < wr.heap.size := Nat.lt_of_lt_of_le hlt0 HB.out.size
        have hgl : ga < wr.heap.size := by omega
        have L7 : ∀ W, Below wr.heap.size wr W → (Instr.loadAt 24 (.pointer (some ⟨w.heap.size, 8, none⟩))).run Tryz.prog W = .ok (.slice (some ⟨ga, off, none⟩) np c) W := fun W hW => by
          have k1 := (hW.cell (p := ⟨w.heap.size, 8, none⟩) hwl).trans c7
          simp [Instr.loadAt, go_sem, k1]
        have LQ : ∀ W, Below wr.heap.size wr W → (Instr.loadAt 3 (.pointer (some ⟨ga, off + (j' + 1), none⟩))).run Tryz.prog W = .ok (.int .i64 q) W := fun W hW => by
          have k1 := (hW.cell (p := ⟨ga, off + (j' + 1), none⟩) hgl).trans x0
          simp [Instr.loadAt, go_sem, k1]
        have LP : ∀ W, Below wr.heap.size wr W → (Instr.loadAt 3 (.pointer (some ⟨ga, off + j', none⟩))).run Tryz.prog W = .ok (.int .i64 px) W := fun W hW => by
          have k1 := (hW.cell (p := ⟨ga, off + j', none⟩) hgl).trans y0
          simp [Instr.loadAt, go_sem, k1]
        have HZ := Lib.hid hzx
        clear hzx hbw hq hp HQ
        go_wp2_with fail
        refine wp_region_FT 137 15 [116] (fun _ x W => ∃ A c, x = .slice A zx.length c ∧ zx.length ≤ c ∧ Nums .u8 W W.heap.size A zx) (fun W => Below wr.heap.size wr W) (by kernel_rfl) (by kernel_rfl) (by rfl) (by kernel_rfl) (by kernel_rfl) (by kernel_rfl) (by rfl) (by simp) (fun W W' h hb => h.trans (hb.mono h.size)) (fun _ x W W' h hb => by
          obtain ⟨A, c, h1, h2, h3⟩ := h
          exact ⟨A, c, h1, h2, (h3.below hb).mono hb.size⟩) (Below.refl _ _).drew ?_
        simp only [List.take_succ_cons, List.take_zero, List.drop_succ_cons, List.drop_zero]
        repeat (refine wpF_pure rfl rfl ?_; go_big_quiet_step (fail); refine wpQuiet_nil ?_)
        refine wpF_load (ad := ⟨w.heap.size, 8, none⟩) (.slice (some ⟨ga, off, none⟩) np c) rfl (by rfl) (by rfl) (by rfl) L7 ?_
        simp only [Act.put, List.setIfInBounds_toArray, List.set_cons_succ, List.set_cons_zero]
        repeat (refine wpF_pure rfl rfl ?_; go_big_quiet_step (fail); refine wpQuiet_nil ?_)
        refine wpF_load (ad := ⟨ga, off + (j' + 1), none⟩) (.int .i64 q) rfl (by rfl) (by rfl) (by rfl) LQ ?_
        simp only [Act.put, List.setIfInBounds_toArray, List.set_cons_succ, List.set_cons_zero]
        repeat (refine wpF_pure rfl rfl ?_; go_big_quiet_step (fail); refine wpQuiet_nil ?_)
        refine wpF_load (ad := ⟨w.heap.size, 8, none⟩) (.slice (some ⟨ga, off, none⟩) np c) rfl (by rfl) (by rfl) (by rfl) L7 ?_
        simp only [Act.put, List.setIfInBounds_toArray, List.set_cons_succ, List.set_cons_zero]
        repeat (refine wpF_pure rfl rfl ?_; go_big_quiet_step (fail); refine wpQuiet_nil ?_)
        refine wpF_load (ad := ⟨ga, off + j', none⟩) (.int .i64 px) rfl (by rfl) (by rfl) (by rfl) LP ?_
        simp only [Act.put, List.setIfInBounds_toArray, List.set_cons_succ, List.set_cons_zero]
        repeat (refine wpF_pure rfl rfl ?_; go_big_quiet_step (fail); refine wpQuiet_nil ?_)
        refine wpF_callsrc 116 (f := 57) (args := #[.int .i64 (q - px - 1)]) (by simp) rfl rfl rfl (fun x => by first | rfl | (simp [go_sem]; done)) (fun W hW => KX.out W hW) ?_
        simp only [Act.put, List.setIfInBounds_toArray, List.set_cons_succ, List.set_cons_zero]
        intro xs w4 hb4 hxs
        obtain ⟨A1, cc1, hx1, hcc1, hna1⟩ := hxs 116 (by simp)
        simp only [fill, hx1]
        simp only [Act.put, List.setIfInBounds_toArray, List.set_cons_succ, List.set_cons_zero]
        have HM4 := Lib.hid (HM.out.later hb4)
        have HNA := Lib.hid hna1
        have HX1 : Hid (T.length + zx.length ≤ maxLen) := by show _ ≤ _; unfold maxLen; omega
        have HX2 : Hid ((T.length + zx.length) * 1 ≤ 140737488355328) := by show _ ≤ _; omega
        clear hna1 hxs hx1 hb4 KX HM x0 y0 c7 L7 LQ LP
        go_wp2_with (at_builtin; refine wpList_append_any rfl (.tmp 102) (.tmp 116) 49 rfl w2.heap.size 5 i0 (.int .u8 0) 1 Tryz.underlying49 hi hz0 hz1 hz2 rfl .u8 T zx _ rfl HM4.out.1 _ _ _ _ rfl rfl HNA.out HX1.out HX2.out HM4.out.2.size ?_)
        intro v7 w7 hown hgr
        have hm7 := HM4.out.more (zs := zx) (v' := v7) (by simpa using hown) hgr
        have hdt' := HDT.out
        rw [if_neg hj00, Nat.add_sub_cancel, HPV.out] at hdt'
        simp only [Option.getD_some] at hdt'
        rw [HZ.out] at hdt'
        rw [show T ++ zx = Vi.enc np ++ gaps (-1) (ps.take (j' + 1 + 1)) by rw [hdt', ← HT.out]; simp only [List.append_assoc]] at hm7
        have HF := Lib.hid hm7
        clear hm7 hown hgr HX1 HX2 HNA HM4 hdt'
        go_wp2
        exact ⟨⟨j' + 1 + 1, _, rfl, by omega, by go_num, HF⟩, by simp only [intOf]; omega⟩
    · obtain rfl : j = np := by omega
      have hfin := HM.out
      rw [List.take_of_length_le (by rw [HNP.out]; exact Nat.le_refl _)] at hfin
      have HF := Lib.hid hfin
      clear hfin
      go_wp2
      go_ret
      exact ⟨_, rfl, HF.out.since HB2.out⟩
end Go.Proofs.YtlbfibnfmijahaaGreat

namespace Go.Proofs.YtlbfibnfmijahaaGreat
open Go.RowKit
set_option maxRecDepth 100000

/-- what Grow answers -/
def GrowR (A : Option Addr) (l n : Nat) (cur : List Int) (w : World) (e : Ending) (w' : World) : Prop :=
  ∃ A' cap' cur', e = .returned (.slice A' l cap') ∧ l + n ≤ cap' ∧ KRow 5 .u8 w' A' cap' cur' ∧ cur'.take l = cur.take l ∧ Below w.heap.size w w' ∧ (A' = A ∨ ∃ g, A' = some ⟨g, 0, none⟩ ∧ w.heap.size ≤ g)

set_option maxHeartbeats 2000000 in
theorem grow_any (A : Option Addr) (l cap n : Nat) (cur : List Int) (w : World) (hr : KRow 5 .u8 w A cap cur) (hl : l ≤ cap) (hn : l + n ≤ 1000000000) :
    Calls Tryz.prog 122 #[.slice A l cap, .int .i64 n] w fun e w' => GrowR A l n cur w e w' := by
  have hc63 : cap ≤ 9223372036854775807 := by
    rcases hr.2 with ⟨_, h0⟩ | ⟨g, _, hm, _⟩
    · omega
    · unfold maxLen at hm; omega
  by_cases hroom : l + n ≤ cap
  · have HR := Lib.hid hr
    clear hr
    have h4 : (n : Int) - ((cap : Int) - (l : Int)) ≤ 0 := by omega
    go_enter Tryz.func122, Tryz.ntmps122
    go_wp2
    go_ret
    exact ⟨A, cap, cur, rfl, hroom, HR.out, rfl, Below.refl _ _, .inl rfl⟩
  · obtain ⟨i0, hi, hz0, hz1, hz2⟩ := info_parts byteInfo
    have h4 : 0 < (n : Int) - ((cap : Int) - (l : Int)) := by omega
    have hck : cap + (l + n - cap) = l + n := by omega
    have hold : (Builtin.firstCells i0.size cap (.slice A cap cap)).run Tryz.prog w.drew = .ok (cur.map (Value.int .u8)).toArray w.drew := by
      rcases hr.2 with ⟨rfl, h0⟩ | ⟨g, rfl, hm, hh⟩
      · have hcu : cur = [] := List.eq_nil_of_length_eq_zero (hr.1.trans h0)
        subst h0
        subst hcu
        exact run_firstCells_none _ _ _ _ _
      · refine run_firstCells_some (w := w.drew) i0.size cap ⟨g, 0, none⟩ cap cap _ (by rw [hz1, List.length_map, hr.1]; omega) (fun j v hj => ?_)
        rw [List.getElem?_map] at hj
        obtain ⟨c, hc, rfl⟩ := Option.map_eq_some_iff.1 hj
        rw [Addr.add_lit, Nat.zero_add]
        exact hr.cell (w := w) rfl hc
    obtain ⟨G, hG⟩ : ∃ G, G = grownCap w (l + n) cap 5 := ⟨_, rfl⟩
    have hGn : l + n ≤ G := by rw [hG]; exact grownCap_ge w _ _ _
    have hGm : G ≤ maxLen := by rw [hG]; exact grownCap_le_maxLen w _ _ _ (by unfold maxLen; omega)
    have hG63 : G ≤ 9223372036854775807 := by unfold maxLen at hGm; omega
    obtain ⟨cur', hcur'⟩ : ∃ cur', cur' = cur ++ (List.replicate (l + n - cap) (0 : Int) ++ List.replicate (G - (l + n)) (0 : Int)) := ⟨_, rfl⟩
    have hlen' : cur'.length = G := by rw [hcur', List.length_append, List.length_append, List.length_replicate, List.length_replicate, hr.1]; omega
    have htake : cur'.take l = cur.take l := by rw [hcur', List.take_append_of_le_length (by rw [hr.1]; omega)]
    have hrz : ∀ ty, (Builtin.append_ #[49, 3] ty #[.slice A cap cap, .int .i64 ((n : Int) - ((cap : Int) - (l : Int)))]).run Tryz.prog w =
        .ok (.slice (some ⟨w.heap.size, 0, none⟩) (l + n) G) (w.drew.alloc (.cells (cur'.map (Value.int .u8)).toArray 5)) := fun ty => by
      have h := Lib.run_append_grow_zeros w 49 3 ty 5 i0 (.int .u8 0) .i64 .i64 Tryz.underlying49 Tryz.underlying3 hi hz0 A cap cap _ hold (l + n - cap) (by omega) (by omega) (by omega) (by omega) (by rw [hz2]; omega) (by rw [hck, hz2]; exact growslice_fits (by omega) (by omega))
      rw [hck, ← hG] at h
      rw [show (n : Int) - ((cap : Int) - (l : Int)) = ((l + n - cap : Nat) : Int) by omega]
      rw [h]
      have hz : (Value.int .u8 0).cells = #[.int .u8 0] := rfl
      rw [hz, zeroCells_int, zeroCells_int, hcur']
      rw [show (cur.map (Value.int .u8)).toArray ++ ((List.replicate (l + n - cap) (0 : Int)).map (Value.int .u8)).toArray ++ ((List.replicate (G - (l + n)) (0 : Int)).map (Value.int .u8)).toArray = ((cur ++ (List.replicate (l + n - cap) (0 : Int) ++ List.replicate (G - (l + n)) (0 : Int))).map (Value.int .u8)).toArray from Array.toList_inj.1 (by simp)]
    have HK : Hid (KRow 5 .u8 (w.drew.alloc (.cells (cur'.map (Value.int .u8)).toArray 5)) (some ⟨w.heap.size, 0, none⟩) G cur') := ⟨hlen', .inr ⟨_, rfl, hGm, heap_alloc_new w.drew _⟩⟩
    have HB : Hid (Below w.heap.size w (w.drew.alloc (.cells (cur'.map (Value.int .u8)).toArray 5))) := ((Below.refl _ w).drew).alloc (Nat.le_refl _) _
    have HT := Lib.hid htake
    have hnil : A = none → cap = 0 := fun h => by
      rcases hr.2 with ⟨_, h0⟩ | ⟨g, e, _⟩
      · exact h0
      · rw [h] at e; simp at e
    clear hold hck hG hcur' htake hlen' hr
    go_enter Tryz.func122, Tryz.ntmps122
    cases A with
    | none =>
      have h0 := hnil rfl
      subst h0
      obtain rfl : l = 0 := by omega
      go_wp2_with (at_builtin; refine Lib.wpList_append_run _ rfl _ _ _ _ rfl _ _ rfl rfl _ _ (hrz _) ?_)
      all_goals (go_ret; exact ⟨_, _, _, rfl, hGn, HK.out, HT.out, HB.out, .inr ⟨_, rfl, Nat.le_refl _⟩⟩)
    | some a =>
      obtain ⟨ab, ao, asp⟩ := a
      go_wp2_with (at_builtin; refine Lib.wpList_append_run _ rfl _ _ _ _ rfl _ _ rfl rfl _ _ (hrz _) ?_)
      all_goals (go_ret; exact ⟨_, _, _, rfl, hGn, HK.out, HT.out, HB.out, .inr ⟨_, rfl, Nat.le_refl _⟩⟩)
end Go.Proofs.YtlbfibnfmijahaaGreat

namespace Go.Proofs.YtlbfibnfmijahaaGreat
open Go.RowKit
set_option maxRecDepth 100000

/-- block b is a pen of that room, that wrote L; its bytes lie in block g, if anywhere -/
def PenAt (w : World) (b g : Nat) (room : Int) (L : List Int) (full : Bool) : Prop :=
  ∃ A cap cur, w.heap[b]? = some (.cells #[.int .i64 room, .slice A L.length cap, .bool full] 133 (0, 0)) ∧ KRow 5 .u8 w A cap cur ∧ L.length ≤ cap ∧ cur.take L.length = L ∧ ((A = none ∧ g = b) ∨ (A = some ⟨g, 0, none⟩ ∧ g ≠ b))
/-- the blocks of a pen -/
def penS (b g : Nat) : Nat → Prop := fun k => k = b ∨ k = g
section
variable {w w' : World} {b g : Nat} {room : Int} {L : List Int} {full : Bool}
theorem PenAt.lt (h : PenAt w b g room L full) : b < w.heap.size := by
  obtain ⟨A, cap, cur, hb, _⟩ := h
  exact (Array.getElem?_eq_some_iff.1 hb).1
theorem PenAt.glt (h : PenAt w b g room L full) : g < w.heap.size := by
  have hb := h.lt
  obtain ⟨A, cap, cur, _, hk, _, _, hA⟩ := h
  rcases hA with ⟨_, rfl⟩ | ⟨rfl, _⟩
  · exact hb
  · exact hk.lt ⟨_, _, rfl⟩
theorem PenAt.off {S : Nat → Prop} (h : PenAt w b g room L full) (hf : Off S w w') (h1 : ¬ S b) (h2 : ¬ S g) : PenAt w' b g room L full := by
  obtain ⟨A, cap, cur, hb, hk, hl, ht, hA⟩ := h
  refine ⟨A, cap, cur, ?_, hk.off hf ?_, hl, ht, hA⟩
  · rw [hf.block b (Array.getElem?_eq_some_iff.1 hb).1 h1]; exact hb
  · rintro q ⟨o, s, rfl⟩
    rcases hA with ⟨hA, _⟩ | ⟨hA, _⟩
    · simp at hA
    · injection hA with hA; injection hA with e; subst e; exact h2
theorem PenAt.below (h : PenAt w b g room L full) (hf : Below w.heap.size w w') : PenAt w' b g room L full :=
  h.off (Off.of_below (S := fun _ => False) hf) (fun h => h) (fun h => h)
theorem PenAt.open (h : PenAt w b g room L full) : ∃ A cap cur, w.heap[b]? = some (.cells #[.int .i64 room, .slice A L.length cap, .bool full] 133 (0, 0)) ∧ w.cell? ⟨b, 0, none⟩ = some (.int .i64 room) ∧ w.cell? ⟨b, 1, none⟩ = some (.slice A L.length cap) ∧ w.cell? ⟨b, 2, none⟩ = some (.bool full) ∧
    KRow 5 .u8 w A cap cur ∧ L.length ≤ cap ∧ cur.take L.length = L ∧ ((A = none ∧ g = b) ∨ (A = some ⟨g, 0, none⟩ ∧ g ≠ b)) := by
  obtain ⟨A, cap, cur, hb, hk, hl, ht, hA⟩ := h
  exact ⟨A, cap, cur, hb, by simp [World.cell?, hb], by simp [World.cell?, hb], by simp [World.cell?, hb], hk, hl, ht, hA⟩
end

theorem pen_new (w : World) (n : Int) : PenAt (w.alloc (.cells #[.int .i64 n, .slice none 0 0, .bool false] 133)) w.heap.size w.heap.size n [] false :=
  ⟨none, 0, [], heap_alloc_new w _, KRow.nil _ _ _, Nat.le_refl _, rfl, .inl ⟨rfl, rfl⟩⟩
theorem new_any (n : Int) (w : World) (h0 : -9223372036854775808 ≤ n) (h1 : n ≤ 9223372036854775807) :
    Calls Tryz.prog 54 #[.int .i64 n] w fun e w' => e = .returned (.pointer (some ⟨w.heap.size, 0, none⟩)) ∧ PenAt w' w.heap.size w.heap.size (max n 0) [] false ∧ Below w.heap.size w w' := by
  by_cases hn : 0 ≤ n
  · have HM : Hid (max n 0 = n) := by show _ = _; omega
    go_enter Tryz.func54, Tryz.ntmps54
    go_wp2
    go_ret
    exact ⟨rfl, by rw [HM.out]; exact pen_new w n, (Below.refl _ w).alloc (Nat.le_refl _) _⟩
  · have HM : Hid (max n 0 = 0) := by show _ = _; omega
    have hn' : n ≤ 0 := by omega
    go_enter Tryz.func54, Tryz.ntmps54
    go_wp2
    go_ret
    exact ⟨rfl, by rw [HM.out]; exact pen_new w 0, (Below.refl _ w).alloc (Nat.le_refl _) _⟩

theorem err_any (b g : Nat) (room : Int) (L : List Int) (full : Bool) (w : World) (h : PenAt w b g room L full) :
    Calls Tryz.prog 109 #[.pointer (some ⟨b, 0, none⟩)] w fun e w' => e = .returned (.int .i64 (if full then 2 else 0)) ∧ w = w' := by
  obtain ⟨A, cap, cur, _, c0, c1, c2, _⟩ := h.open
  clear h
  cases full with
  | true =>
    go_enter Tryz.func109, Tryz.ntmps109
    go_wp2
    go_ret
    exact ⟨rfl, rfl⟩
  | false =>
    go_enter Tryz.func109, Tryz.ntmps109
    go_wp2
    go_ret
    exact ⟨rfl, rfl⟩
theorem left_any (b g : Nat) (room : Int) (L : List Int) (full : Bool) (w : World) (h : PenAt w b g room L full) (h0 : 0 ≤ room) (h1 : room ≤ 9223372036854775807) (hl : L.length ≤ 9223372036854775807) :
    Calls Tryz.prog 110 #[.pointer (some ⟨b, 0, none⟩)] w fun e w' => e = .returned (.int .i64 (room - L.length)) ∧ ∃ n, w' = w.drewN n := by
  obtain ⟨A, cap, cur, _, c0, c1, c2, _⟩ := h.open
  clear h
  go_enter Tryz.func110, Tryz.ntmps110
  go_wp2
  go_quiet (fail)
  go_wp2
  go_ret
  exact ⟨rfl, _, rfl⟩
theorem clone_any (g c : Nat) (L : List Int) (w : World) (hl : L.length ≤ 1000000000) (h : ∀ j u, L[j]? = some u → w.cell? ⟨g, j, none⟩ = some (.int .u8 u)) :
    Calls Tryz.prog 75 #[.slice (some ⟨g, 0, none⟩) L.length c] w fun e w' => ∃ v, e = .returned v ∧ Made w w' L v := by
  obtain ⟨i0, hi, hz0, hz1, hz2⟩ := info_parts byteInfo
  have q22 : ∀ (w : World) (a : Option Addr) (n c n' c' : Nat), (binOp .eql 49 (.slice a n c) (.slice none n' c')).run Tryz.prog w = .ok (.bool a.isNone) w := fun w a n c n' c' => Lib.run_eql_slice_nil w _ _ a n c n' c' Tryz.underlying49
  have HH := Lib.hid h
  clear h
  go_enter Tryz.func75, Tryz.ntmps75
  go_wp2_with (at_builtin; refine wpList_append_own _ rfl _ _ 49 rfl w.heap.size 5 i0 (.int .u8 0) 1 1 Tryz.underlying49 hi hz0 hz1 hz2 rfl (by decide) _ _ _ rfl (World.ownsRow_made w #[] 0 (Nat.le_refl _) (Nat.zero_le _) rfl) ⟨g, 0, none⟩ L.length c (L.map (Value.int .u8)) rfl ?c1 ?c2 ?c3 ?c4 ?c5 ?c6 ?_)
  case c1 => simp
  case c2 =>
    intro j u hj
    rw [List.getElem?_map] at hj
    obtain ⟨x, hx, rfl⟩ := Option.map_eq_some_iff.1 hj
    rw [Addr.add_lit, Nat.zero_add]
    exact Lib.cell?_alloc_some _ (HH.out j x hx)
  case c3 => intro u hu; obtain ⟨x, _, rfl⟩ := List.mem_map.1 hu; rfl
  case c4 => unfold maxLen; omega
  case c5 => omega
  case c6 => simp
  intro v' w1 hown hgrow hnil
  have HM : Hid (Made w w1 L v') := ⟨by simpa using hown, ((Below.refl _ w).alloc (Nat.le_refl _) _).grown hgrow (by simp) (by intro k hk; simp [Value.ownBlock] at hk; omega)⟩
  clear hown hgrow hnil
  go_wp2
  go_ret
  exact ⟨v', rfl, HM.out⟩
theorem clone_nil (w : World) :
    Calls Tryz.prog 75 #[.slice none 0 0] w fun e w' => e = .returned (.slice none 0 0) ∧ w = w' := by
  have q22 : ∀ (w : World) (a : Option Addr) (n c n' c' : Nat), (binOp .eql 49 (.slice a n c) (.slice none n' c')).run Tryz.prog w = .ok (.bool a.isNone) w := fun w a n c n' c' => Lib.run_eql_slice_nil w _ _ a n c n' c' Tryz.underlying49
  go_enter Tryz.func75, Tryz.ntmps75
  go_wp2
  go_ret
  exact ⟨rfl, rfl⟩
theorem Bytes_any (b g : Nat) (room : Int) (L : List Int) (full : Bool) (w : World) (h : PenAt w b g room L full) (hl : L.length ≤ 1000000000) :
    Calls Tryz.prog 56 #[.pointer (some ⟨b, 0, none⟩)] w fun e w' => ∃ v, e = .returned v ∧ Made w w' L v := by
  obtain ⟨A, cap, cur, _, c0, c1, c2, hk, hlc, ht, hA⟩ := h.open
  have HT := Lib.hid ht
  clear h ht
  rcases hA with ⟨rfl, _⟩ | ⟨rfl, _⟩
  · have hc0 : cap = 0 := by
      rcases hk.2 with ⟨_, h⟩ | ⟨_, h, _⟩
      · exact h
      · simp at h
    subst hc0
    obtain rfl : L = [] := List.eq_nil_of_length_eq_zero (by omega)
    have HC := clone_nil w
    go_enter Tryz.func56, Tryz.ntmps56
    go_wp2_with (go_at_call 75; refine HC.mono ?_; rintro e w2 ⟨rfl, rfl⟩)
    go_ret
    exact ⟨_, rfl, Made.nil _⟩
  · have HC := clone_any g cap L w hl (fun j u hj => hk.cell rfl (by
      have h1 := HT.out
      rw [← h1, List.getElem?_take] at hj
      by_cases hlt : j < L.length
      · simpa [hlt] using hj
      · simp [hlt] at hj))
    clear hk
    go_enter Tryz.func56, Tryz.ntmps56
    go_wp2_with (go_at_call 75; refine HC.mono ?_; rintro e w2 ⟨v, rfl, hm⟩)
    go_ret
    exact ⟨v, rfl, hm⟩
end Go.Proofs.YtlbfibnfmijahaaGreat

namespace Go.Proofs.YtlbfibnfmijahaaGreat
open Go.RowKit
set_option maxRecDepth 100000

/-- what part answers -/
def PartR (b g : Nat) (room : Int) (L : List Int) (full : Bool) (n : Nat) (w : World) (e : Ending) (w' : World) : Prop :=
  ∃ A cap cur P, e = .returned (.slice P n n) ∧ w'.heap[b]? = some (.cells #[.int .i64 room, .slice A (L.length + n : Nat) cap, .bool full] 133 (0, 0)) ∧ KRow 5 .u8 w' A cap cur ∧ L.length + n ≤ cap ∧ cur.take L.length = L ∧ Off (penS b g) w w' ∧
    ((A = none ∧ g = b) ∨ ∃ g', A = some ⟨g', 0, none⟩ ∧ g' ≠ b ∧ (g' = g ∨ w.heap.size ≤ g') ∧ (0 < n → P = some ⟨g', L.length, none⟩))

theorem frozen_of {w : World} {b j : Nat} {cs : Array Value} {t : TypeId} (h : w.heap[b]? = some (.cells cs t (0, 0))) : w.frozen? ⟨b, j, none⟩ = false := by
  simp [World.frozen?, h]

/-- what is so behind Grow -/
theorem part_facts {b g n cap cap2 : Nat} {room : Int} {L cur cur2 : List Int} {full : Bool} {w w2 : World} {A A2 : Option Addr} (hblt : b < w.heap.size)
    (hb : w.heap[b]? = some (.cells #[.int .i64 room, .slice A L.length cap, .bool full] 133 (0, 0))) (hA : (A = none ∧ g = b) ∨ (A = some ⟨g, 0, none⟩ ∧ g ≠ b)) (ht : cur.take L.length = L)
    (hc2 : L.length + n ≤ cap2) (hk2 : KRow 5 .u8 w2 A2 cap2 cur2) (ht2 : cur2.take L.length = cur.take L.length) (hbel : Below w.heap.size w w2) (hA2 : A2 = A ∨ ∃ g, A2 = some ⟨g, 0, none⟩ ∧ w.heap.size ≤ g) :
    Hid (w2.heap[b]? = some (.cells #[.int .i64 room, .slice A L.length cap, .bool full] 133 (0, 0))) ∧ w2.cell? ⟨b, 1, none⟩ = some (.slice A L.length cap) ∧ w2.frozen? ⟨b, 1, none⟩ = false ∧
      Hid (∀ P, (0 < n → P = A2.map (·.add L.length)) → PartR b g room L full n w (.returned (.slice P n n)) (w2.setCell ⟨b, 1, none⟩ (.slice A2 (L.length + n : Nat) cap2))) := by
  have hb2 : w2.heap[b]? = some (.cells #[.int .i64 room, .slice A L.length cap, .bool full] 133 (0, 0)) := by rw [hbel.block b hblt]; exact hb
  have hne : ∀ g', A2 = some ⟨g', 0, none⟩ → g' ≠ b ∧ (g' = g ∨ w.heap.size ≤ g') := by
    intro g' he
    rcases hA2 with h | ⟨q, h, hq⟩
    · rcases hA with ⟨h0, _⟩ | ⟨h0, hgb⟩
      · rw [h, h0] at he; simp at he
      · rw [h, h0] at he; injection he with he; injection he with he; subst he; exact ⟨hgb, .inl rfl⟩
    · rw [h] at he; injection he with he; injection he with he; subst he; exact ⟨by omega, .inr hq⟩
  have hO : Off (penS b g) w (w2.setCell ⟨b, 1, none⟩ (.slice A2 (L.length + n : Nat) cap2)) := (Off.of_below hbel).setCell (.inl rfl) _
  refine ⟨hb2, by simp [World.cell?, hb2], frozen_of hb2, fun P hP => ?_⟩
  refine ⟨A2, cap2, cur2, P, rfl, by rw [setCell_at hb2]; rfl, ?_, hc2, ht2.trans ht, hO, ?_⟩
  · refine hk2.off ((Off.refl (fun k => k = b) w2).setCell rfl _) ?_
    rintro q ⟨o, s, hq⟩ rfl
    rcases hk2.2 with ⟨h0, _⟩ | ⟨q', h0, _⟩
    · rw [h0] at hq; simp at hq
    · have := (hne q' h0).1
      rw [h0] at hq; injection hq with hq; injection hq with hq; exact this hq
  · rcases hk2.2 with ⟨h0, _⟩ | ⟨g', h0, _⟩
    · refine .inl ⟨h0, ?_⟩
      rcases hA2 with h | ⟨q, h, _⟩
      · rcases hA with ⟨_, hg⟩ | ⟨h1, _⟩
        · exact hg
        · rw [h, h1] at h0; simp at h0
      · rw [h] at h0; simp at h0
    · exact .inr ⟨g', h0, (hne g' h0).1, (hne g' h0).2, fun hn => by rw [hP hn, h0, Option.map_some, Addr.add_lit, Nat.zero_add]⟩

set_option maxHeartbeats 2000000 in
theorem part_any (b g n : Nat) (room : Int) (L : List Int) (full : Bool) (w : World) (h : PenAt w b g room L full) (hn : L.length + n ≤ 1000000000) :
    Calls Tryz.prog 111 #[.pointer (some ⟨b, 0, none⟩), .int .i64 n] w fun e w' => PartR b g room L full n w e w' := by
  have hblt := h.lt
  obtain ⟨A, cap, cur, hb, c0, c1, c2, hk, hlc, ht, hA⟩ := h.open
  clear h
  have HC := grow_any A L.length cap n cur w hk hlc hn
  have HT := Lib.hid ht
  have HB := Lib.hid hb
  clear ht hb
  have HBA := Lib.hid hA
  clear hk hA c0 c2
  go_enter Tryz.func111, Tryz.ntmps111
  go_wp2_with (go_at_call 122; refine HC.mono ?_; rintro e w2 ⟨A2, cap2, cur2, rfl, hc2, hk2, ht2, hbel, hA2⟩; obtain ⟨hb2, c1', f1, HX⟩ := part_facts hblt HB.out HBA.out HT.out hc2 hk2 ht2 hbel hA2; clear hk2 ht2 hbel hA2)
  · obtain rfl : n = 0 := by omega
    go_ret
    exact HX.out A2 (fun h => absurd h (Nat.lt_irrefl 0))
  · go_ret
    exact HX.out _ (fun _ => rfl)
end Go.Proofs.YtlbfibnfmijahaaGreat

namespace Go.Proofs.YtlbfibnfmijahaaGreat
open Go.RowKit
set_option maxRecDepth 100000

/-- is the pen full behind a write of n bytes? -/
def fullNext (room : Int) (L : List Int) (full : Bool) (n : Nat) : Bool := full || decide (room < (L.length : Int) + n)
/-- what it wrote then -/
def bytesNext (room : Int) (L : List Int) (full : Bool) (new : List Int) : List Int := if fullNext room L full new.length then L else L ++ new
/-- the number of a write's error -/
def codeOf (full : Bool) : Int := if full then 2 else 0
/-- what a write answers -/
def WroteR (b g : Nat) (room : Int) (L : List Int) (full : Bool) (new : List Int) (w : World) (e : Ending) (w' : World) : Prop :=
  e = .returned (.int .i64 (codeOf (fullNext room L full new.length))) ∧ ∃ g', PenAt w' b g' room (bytesNext room L full new) (fullNext room L full new.length) ∧ Off (penS b g) w w' ∧ (g' = g ∨ w.heap.size ≤ g')

theorem ptake_more' {α : Type} {zs : List α} {k : Nat} {z : α} (h : zs[k]? = some z) : zs.take (k + 1) = zs.take k ++ [z] := by
  have hk : k < zs.length := (List.getElem?_eq_some_iff.1 h).1
  rw [List.getElem?_eq_getElem hk] at h
  injection h with h
  rw [List.take_succ_eq_append_getElem hk, h]
theorem flat_more {ps : List (List Int)} {k : Nat} {z : List Int} (h : ps[k]? = some z) : (ps.take (k + 1)).flatten = (ps.take k).flatten ++ z := by
  rw [ptake_more' h]; simp
theorem flat_le (ps : List (List Int)) (k : Nat) : (ps.take k).flatten.length ≤ ps.flatten.length := by
  have h : ps.flatten = (ps.take k).flatten ++ (ps.drop k).flatten := by rw [← List.flatten_append, List.take_append_drop]
  rw [h, List.length_append]; omega
/-- so many bytes the first k parts have -/
def flen (ps : List (List Int)) (k : Nat) : Nat := (ps.take k).flatten.length
theorem flen_zero (ps : List (List Int)) : flen ps 0 = 0 := rfl
theorem flen_more {ps : List (List Int)} {k : Nat} {z : List Int} (h : ps[k]? = some z) : flen ps (k + 1) = flen ps k + z.length := by
  unfold flen; rw [flat_more h, List.length_append]
theorem flen_le (ps : List (List Int)) (k : Nat) : flen ps k ≤ ps.flatten.length := flat_le ps k
theorem flen_all (ps : List (List Int)) {k : Nat} (h : ps.length ≤ k) : flen ps k = ps.flatten.length := by unfold flen; rw [List.take_of_length_le h]

/-- the parts lie there, apart from the pen -/
def Parts (w : World) (b g pb po : Nat) (ps : List (List Int)) : Prop :=
  ∀ k z, ps[k]? = some z → ∃ a c, w.cell? ⟨pb, po + k, none⟩ = some (.slice a z.length c) ∧ Nums .u8 w w.heap.size a z ∧ (z ≠ [] → ∀ q, blockOf a q → ¬ penS b g q)
theorem Parts.off {w w' : World} {b g pb po : Nat} {ps : List (List Int)} (h : Parts w b g pb po ps) (hp : ¬ penS b g pb) (hf : Off (penS b g) w w') {k : Nat} {z : List Int} (hk : ps[k]? = some z) :
    ∃ a c, w'.cell? ⟨pb, po + k, none⟩ = some (.slice a z.length c) ∧ Nums .u8 w' w.heap.size a z := by
  obtain ⟨a, c, hc, hn, hq⟩ := h k z hk
  exact ⟨a, c, hf.cell hc hp, hn.off hf hq⟩

/-- the first k parts are copied -/
def WSt (b g : Nat) (room : Int) (L : List Int) (g' cap : Nat) (ps : List (List Int)) (k : Nat) (P : Option Addr) (w wr : World) : Prop :=
  ∃ cur : List Int, wr.heap[b]? = some (.cells #[.int .i64 room, .slice (some ⟨g', 0, none⟩) (L.length + ps.flatten.length : Nat) cap, .bool false] 133 (0, 0)) ∧ wr.heap[g']? = some (.cells (cur.map (Value.int .u8)).toArray 5 (0, 0)) ∧ cur.length = cap ∧
    cur.take (L.length + flen ps k) = L ++ (ps.take k).flatten ∧ Off (penS b g) w wr ∧ (flen ps k < ps.flatten.length → P = some ⟨g', L.length + flen ps k, none⟩) ∧ g' ≠ b ∧ (g' = g ∨ w.heap.size ≤ g') ∧ L.length + ps.flatten.length ≤ cap ∧ cap ≤ maxLen
section
variable {b g g' cap k : Nat} {room : Int} {L : List Int} {ps : List (List Int)} {P P' : Option Addr} {w wr : World} {z : List Int}
theorem WSt.empty (h : WSt b g room L g' cap ps k P w wr) (hk : ps[k]? = some z) (hz : z = []) (hP : flen ps k < ps.flatten.length → P' = P) : WSt b g room L g' cap ps (k + 1) P' w wr := by
  subst hz
  have e : flen ps (k + 1) = flen ps k := by rw [flen_more hk]; simp
  obtain ⟨cur, h1, h2, h3, h4, h5, h6, h7⟩ := h
  refine ⟨cur, h1, h2, h3, ?_, h5, fun hlt => ?_, h7⟩
  · rw [e, h4, flat_more hk, List.append_nil]
  · rw [e] at hlt ⊢
    rw [hP hlt, h6 hlt]
theorem WSt.copied (h : WSt b g room L g' cap ps k P w wr) (hk : ps[k]? = some z) (hP : flen ps k + z.length < ps.flatten.length → P' = P.map (·.add z.length)) :
    ∃ cur : List Int, wr.heap[g']? = some (.cells (cur.map (Value.int .u8)).toArray 5 (0, 0)) ∧ L.length + flen ps k + z.length ≤ cur.length ∧
      WSt b g room L g' cap ps (k + 1) P' w (wr.setRow g' ((cur.map (Value.int .u8)).take (L.length + flen ps k) ++ (z.map (Value.int .u8) ++ (cur.map (Value.int .u8)).drop (L.length + flen ps k + z.length))).toArray) := by
  obtain ⟨cur, h1, h2, h3, h4, h5, h6, h7, h8, h9, h10⟩ := h
  have e := flen_more hk
  have hle := flen_le ps (k + 1)
  refine ⟨cur, h2, by omega, cur.take (L.length + flen ps k) ++ (z ++ cur.drop (L.length + flen ps k + z.length)), ?_, ?_, ?_, ?_, ?_, ?_, h7, h8, h9, h10⟩
  · rw [setRow_other _ _ _ _ (Ne.symm h7)]; exact h1
  · rw [setRow_heap _ _ _ _ _ _ h2]; simp
  · simp only [List.length_append, List.length_take, List.length_drop]; omega
  · rw [e, h4, flat_more hk, ← List.append_assoc, ← List.append_assoc]
    have hl : (L ++ (ps.take k).flatten ++ z).length = L.length + (flen ps k + z.length) := by simp [flen]
    rw [← hl, List.take_left']
    rfl
  · refine h5.trans ((Off.refl (fun j => j = g') wr).setRow rfl _) ?_
    rintro j hj rfl
    rcases h8 with h8 | h8
    · exact .inr h8
    · omega
  · intro hlt
    rw [e] at hlt ⊢
    rw [hP hlt, h6 (by omega), Option.map_some, Addr.add_lit, Nat.add_assoc]
theorem WSt.start {N n : Nat} {A : Option Addr} {cur : List Int} (hN : ps.flatten.length = N) (hb : wr.heap[b]? = some (.cells #[.int .i64 room, .slice A (L.length + N : Nat) cap, .bool false] 133 (0, 0))) (hk : KRow 5 .u8 wr A cap cur) (hc : L.length + N ≤ cap) (ht : cur.take L.length = L)
    (hO : Off (penS b g) (w.drewN n) wr) (h0 : 0 < N) (hP : (A = none ∧ g = b) ∨ ∃ g', A = some ⟨g', 0, none⟩ ∧ g' ≠ b ∧ (g' = g ∨ (w.drewN n).heap.size ≤ g') ∧ (0 < N → P = some ⟨g', L.length, none⟩)) : ∃ g', WSt b g room L g' cap ps 0 P w wr := by
  rcases hk.2 with ⟨_, h⟩ | ⟨q, h, hm, hh⟩
  · omega
  · rcases hP with ⟨hP, _⟩ | ⟨g', hP, hgb, hg, hPP⟩
    · rw [hP] at h; simp at h
    · rw [hP] at h; injection h with h; injection h with h; subst h
      subst hP hN
      exact ⟨g', cur, hb, hh, hk.1, by rw [flen_zero, Nat.add_zero, ht]; simp, ⟨hO.os, hO.tape, hO.output, hO.size, hO.block⟩, fun _ => by rw [flen_zero, Nat.add_zero]; exact hPP h0, hgb, hg, hc, hm⟩
/-- nothing is written -/
theorem part_zero {N n : Nat} {A : Option Addr} {cur : List Int} (hN : ps.flatten.length = N) (hb : wr.heap[b]? = some (.cells #[.int .i64 room, .slice A (L.length + N : Nat) cap, .bool false] 133 (0, 0))) (hk : KRow 5 .u8 wr A cap cur) (hc : L.length + N ≤ cap) (ht : cur.take L.length = L)
    (hO : Off (penS b g) (w.drewN n) wr) (h0 : N = 0) (hP : (A = none ∧ g = b) ∨ ∃ g', A = some ⟨g', 0, none⟩ ∧ g' ≠ b ∧ (g' = g ∨ (w.drewN n).heap.size ≤ g') ∧ (0 < N → P = some ⟨g', L.length, none⟩)) : ∃ g', PenAt wr b g' room (L ++ ps.flatten) false ∧ Off (penS b g) w wr ∧ (g' = g ∨ w.heap.size ≤ g') := by
  subst h0
  have hnil : ps.flatten = [] := List.eq_nil_of_length_eq_zero hN
  rw [hnil, List.append_nil]
  have hO' : Off (penS b g) w wr := ⟨hO.os, hO.tape, hO.output, hO.size, hO.block⟩
  rcases hP with ⟨rfl, hgb⟩ | ⟨g', rfl, hgb, hg, _⟩
  · exact ⟨g, ⟨none, cap, cur, hb, hk, by omega, ht, .inl ⟨rfl, hgb⟩⟩, hO', .inl rfl⟩
  · exact ⟨g', ⟨_, cap, cur, hb, hk, by omega, ht, .inr ⟨rfl, hgb⟩⟩, hO', hg⟩
theorem flat_nil (hN : ps.flatten.length = 0) (hk : ps[k]? = some z) : z = [] := by
  have h : ps.flatten = [] := List.eq_nil_of_length_eq_zero hN
  exact (List.flatten_eq_nil_iff.1 h) z (List.mem_of_getElem? hk)
theorem WSt.addr (h : WSt b g room L g' cap ps k P w wr) (hlt : flen ps k < ps.flatten.length) : P = some ⟨g', L.length + flen ps k, none⟩ := by
  obtain ⟨cur, h1, h2, h3, h4, h5, h6, h7⟩ := h
  exact h6 hlt
theorem WSt.frame (h : WSt b g room L g' cap ps k P w wr) : Off (penS b g) w wr := by
  obtain ⟨cur, h1, h2, h3, h4, h5, h6, h7⟩ := h
  exact h5
theorem WSt.pen (h : WSt b g room L g' cap ps k P w wr) (hk : ps.length ≤ k) : PenAt wr b g' room (L ++ ps.flatten) false ∧ Off (penS b g) w wr ∧ (g' = g ∨ w.heap.size ≤ g') := by
  obtain ⟨cur, h1, h2, h3, h4, h5, h6, h7, h8, h9, h10⟩ := h
  rw [flen_all ps hk, List.take_of_length_le hk] at h4
  refine ⟨⟨some ⟨g', 0, none⟩, cap, cur, by rw [List.length_append]; exact h1, ⟨h3, .inr ⟨g', rfl, h10, h2⟩⟩, by rw [List.length_append]; exact h9, by rw [List.length_append]; exact h4, .inr ⟨rfl, h7⟩⟩, h5, h8⟩
end
end Go.Proofs.YtlbfibnfmijahaaGreat

namespace Go.Proofs.YtlbfibnfmijahaaGreat
open Go.RowKit
set_option maxRecDepth 100000

theorem write_full (b g : Nat) (room : Int) (L new : List Int) (x : Value) (w : World) (h : PenAt w b g room L true) :
    Calls Tryz.prog 93 #[.pointer (some ⟨b, 0, none⟩), x] w fun e w' => WroteR b g room L true new w e w' := by
  have HC := err_any b g room L true w h
  have HP : Hid (WroteR b g room L true new w (.returned (.int .i64 2)) w) := ⟨rfl, g, h, Off.refl _ _, .inl rfl⟩
  clear h
  go_enter Tryz.func93, Tryz.ntmps93
  go_wp2_with (go_at_call 109; refine HC.mono ?_; rintro e w2 ⟨rfl, rfl⟩)
  go_ret
  exact HP.out

theorem fullNext_yes {room : Int} {L : List Int} {n : Nat} (h : room < (L.length : Int) + n) : fullNext room L false n = true := by
  unfold fullNext; rw [decide_eq_true h]; rfl
theorem fullNext_no {room : Int} {L : List Int} {n : Nat} (h : (L.length : Int) + n ≤ room) : fullNext room L false n = false := by
  unfold fullNext; rw [decide_eq_false (by omega)]; rfl
theorem drewN_off (S : Nat → Prop) (w : World) (n : Nat) : Off S w (w.drewN n) := ⟨rfl, rfl, rfl, Nat.le_refl _, fun _ _ _ => rfl⟩
theorem wrote_none {b g n : Nat} {room : Int} {L new : List Int} {w : World} (h : PenAt w b g room L false) (hno : room < (L.length : Int) + new.length) : WroteR b g room L false new w (.returned (.int .i64 2)) ((w.drewN n).setCell ⟨b, 2, none⟩ (.bool true)) := by
  have hf := fullNext_yes hno
  obtain ⟨A, cap, cur, hb, _, _, c2, hk, hlc, ht, hA⟩ := h.open
  refine ⟨by rw [hf]; rfl, g, ?_, (drewN_off (penS b g) w n).setCell (.inl rfl) _, .inl rfl⟩
  rw [bytesNext, hf]
  refine ⟨A, cap, cur, ?_, hk.off ((drewN_off (fun k => k = b) w n).setCell rfl _) ?_, hlc, ht, hA⟩
  · rw [setCell_at (w := w.drewN n) hb]; rfl
  · rintro q ⟨o, s, rfl⟩
    rcases hA with ⟨hA, _⟩ | ⟨hA, hgb⟩
    · simp at hA
    · injection hA with hA; injection hA with e; subst e; exact hgb
theorem wrote_some {b g : Nat} {room : Int} {L new : List Int} {w w' : World} (h : ∃ g', PenAt w' b g' room (L ++ new) false ∧ Off (penS b g) w w' ∧ (g' = g ∨ w.heap.size ≤ g')) (hno : (L.length : Int) + new.length ≤ room) : WroteR b g room L false new w (.returned (.int .i64 0)) w' := by
  have hf := fullNext_no hno
  obtain ⟨g', h1, h2, h3⟩ := h
  refine ⟨by rw [hf]; rfl, g', ?_, h2, h3⟩
  rw [bytesNext, hf]; exact h1

set_option maxHeartbeats 2000000 in
theorem write_none (b g pb po pc N : Nat) (room : Int) (L : List Int) (ps : List (List Int)) (w : World) (h : PenAt w b g room L false) (h0 : 0 ≤ room) (h1 : room ≤ 9223372036854775807) (hN : Hid (ps.flatten.length = N)) (hl : L.length + N ≤ 1000000000) (hpl : ps.length ≤ 1000000000)
    (hps : Hid (Parts w b g pb po ps)) (hno : room < (L.length : Int) + N) :
    Calls Tryz.prog 93 #[.pointer (some ⟨b, 0, none⟩), .slice (some ⟨pb, po, none⟩) ps.length pc] w fun e w' => WroteR b g room L false ps.flatten w e w' := by
  have HC := err_any b g room L false w h
  have HL := left_any b g room L false w h h0 h1 (by omega)
  obtain ⟨A, cap, cur, hb, _, _, c2, hk, hlc, ht, hA⟩ := h.open
  have f2 : w.frozen? ⟨b, 2, none⟩ = false := frozen_of hb
  have HP : Hid (∀ n, WroteR b g room L false ps.flatten w (.returned (.int .i64 2)) ((w.drewN n).setCell ⟨b, 2, none⟩ (.bool true))) := fun n => wrote_none h (by have := hN.out; omega)
  clear h hb hk ht hA
  go_enter Tryz.func93, Tryz.ntmps93
  go_wp2_with (go_at_call 109; refine HC.mono ?_; rintro e w2 ⟨rfl, rfl⟩)
  go_loopw [6, 19] (fun s i wr => ∃ k : Nat, k ≤ ps.length ∧ i = .int .i64 k ∧ s = .int .i64 (flen ps k) ∧ wr = w) (fun _ i _ => ps.length - (intOf i).toNat)
  case atStart => exact ⟨0, by omega, rfl, rfl, rfl⟩
  case round =>
    obtain ⟨k, hk, rfl, rfl, rfl⟩ := hrel
    have hfl := flen_le ps k
    rw [hN.out] at hfl
    by_cases hlt : k < ps.length
    · obtain ⟨z, hz⟩ : ∃ z, ps[k]? = some z := ⟨_, List.getElem?_eq_getElem hlt⟩
      obtain ⟨a, c, hc, _, _⟩ := hps.out k z hz
      have HZ := Lib.hid (flen_more hz)
      have hfl2 := flen_le ps (k + 1)
      rw [hN.out] at hfl2
      have hzl : flen ps k + z.length ≤ 1000000000 := by have := HZ.out; omega
      clear hz hfl2
      go_wp2
      go_roundw
      case rel => exact ⟨k + 1, by omega, by go_num, by rw [HZ.out]; go_num, trivial⟩
      case measure => simp [intOf]; omega
    · have HF := Lib.hid ((flen_all ps (k := k) (by omega)).trans hN.out)
      have hgt : room - (L.length : Int) < (flen ps k : Int) := by rw [HF.out]; omega
      go_wp2_with (go_at_call 110; refine HL.mono ?_; rintro e w2 ⟨rfl, n, rfl⟩)
      go_ret
      exact HP.out n

set_option maxHeartbeats 1000000 in
theorem write_zero (b g pb po pc N : Nat) (room : Int) (L : List Int) (ps : List (List Int)) (w : World) (h : PenAt w b g room L false) (h0 : 0 ≤ room) (h1 : room ≤ 9223372036854775807) (hN : Hid (ps.flatten.length = N)) (hl : L.length + N ≤ 1000000000) (hpl : ps.length ≤ 1000000000)
    (hps : Hid (Parts w b g pb po ps)) (hpp : Hid (¬ penS b g pb)) (hpb : pb < w.heap.size) (hn0 : Hid (N = 0)) (hno : (L.length : Int) + N ≤ room) :
    Calls Tryz.prog 93 #[.pointer (some ⟨b, 0, none⟩), .slice (some ⟨pb, po, none⟩) ps.length pc] w fun e w' => WroteR b g room L false ps.flatten w e w' := by
  have HC := err_any b g room L false w h
  have HL := left_any b g room L false w h h0 h1 (by omega)
  have HA : ∀ n : Nat, Calls Tryz.prog 111 #[.pointer (some ⟨b, 0, none⟩), .int .i64 N] (w.drewN n) fun e w' => PartR b g room L false N (w.drewN n) e w' := fun n => part_any b g _ room L false _ (h.below (below_drewN (Below.refl _ _) n)) hl
  clear h
  have hsz1 : (Tryz.prog.info? 5).map (·.size) = some 1 := by kernel_rfl
  go_enter Tryz.func93, Tryz.ntmps93
  go_wp2_with (go_at_call 109; refine HC.mono ?_; rintro e w2 ⟨rfl, rfl⟩)
  go_loopw [6, 19] (fun s i wr => ∃ k : Nat, k ≤ ps.length ∧ i = .int .i64 k ∧ s = .int .i64 (flen ps k) ∧ wr = w) (fun _ i _ => ps.length - (intOf i).toNat)
  case atStart => exact ⟨0, by omega, rfl, rfl, rfl⟩
  case round =>
    obtain ⟨k, hk, rfl, rfl, rfl⟩ := hrel
    have hfl := flen_le ps k
    rw [hN.out] at hfl
    by_cases hlt : k < ps.length
    · obtain ⟨z, hz⟩ : ∃ z, ps[k]? = some z := ⟨_, List.getElem?_eq_getElem hlt⟩
      obtain ⟨a, c, hc, _, _⟩ := hps.out k z hz
      have HZ := Lib.hid (flen_more hz)
      have hfl2 := flen_le ps (k + 1)
      rw [hN.out] at hfl2
      have hzl : flen ps k + z.length ≤ 1000000000 := by have := HZ.out; omega
      clear hz hfl2
      go_wp2
      go_roundw
      case rel => exact ⟨k + 1, by omega, by go_num, by rw [HZ.out]; go_num, trivial⟩
      case measure => simp [intOf]; omega
    · have HF : flen ps k = N := (flen_all ps (k := k) (by omega)).trans hN.out
      have hgt : (N : Int) ≤ room - (L.length : Int) := by omega
      go_wp2_with (first
        | (go_at_call 110; refine HL.mono ?_; rintro e w2 ⟨rfl, n, rfl⟩)
        | (go_at_call 111; refine (HA _).mono ?_; rintro e w3 ⟨A, cap, cur, P, rfl, hb3, hk3, hc3, ht3, hO3, hP3⟩))
      have HST := Lib.hid (part_zero (w := wr) hN.out hb3 hk3 hc3 ht3 hO3 hn0.out hP3)
      have HO := Lib.hid hO3
      clear hP3 hO3 ht3 hk3 hb3 HA HL HC
      obtain rfl := hn0.out
      go_loopw [9, 45] (fun t i wx => ∃ k : Nat, k ≤ ps.length ∧ i = .int .i64 k ∧ t = .slice P 0 0 ∧ Hid (wx = w3)) (fun _ i _ => ps.length - (intOf i).toNat)
      case atStart => exact ⟨0, by omega, rfl, rfl, rfl⟩
      case round =>
        obtain ⟨k, hk, rfl, rfl, hwx⟩ := hrel
        obtain rfl := hwx.out
        by_cases hlt : k < ps.length
        · obtain ⟨z, hz⟩ : ∃ z, ps[k]? = some z := ⟨_, List.getElem?_eq_getElem hlt⟩
          obtain ⟨a, c, hc, hnz⟩ := hps.out.off (w' := wr) hpp.out ⟨HO.out.os, HO.out.tape, HO.out.output, HO.out.size, HO.out.block⟩ hz
          obtain rfl := flat_nil hN.out hz
          clear hnz
          go_wp2_with (refine wpList_copy_nothing rfl (.tmp 50) (.tmp 51) 49 49 rfl 5 Tryz.underlying49 hsz1 _ _ _ _ _ _ rfl rfl (by simp) ?_)
          go_roundw
          case rel => exact ⟨_, _, .int .i64 (k + 1 : Nat), ⟨k + 1, by omega, rfl, rfl⟩, rfl, rfl, by go_num⟩
          case measure => simp [intOf]; omega
        · go_wp2
          go_ret
          exact wrote_some HST.out (by rw [hN.out]; exact hno)

set_option maxHeartbeats 1000000 in
theorem write_some (b g pb po pc N : Nat) (room : Int) (L : List Int) (ps : List (List Int)) (w : World) (h : PenAt w b g room L false) (h0 : 0 ≤ room) (h1 : room ≤ 9223372036854775807) (hN : Hid (ps.flatten.length = N)) (hl : L.length + N ≤ 1000000000) (hpl : ps.length ≤ 1000000000)
    (hps : Hid (Parts w b g pb po ps)) (hpp : Hid (¬ penS b g pb)) (hpb : pb < w.heap.size) (hn0 : 0 < N) (hno : (L.length : Int) + N ≤ room) :
    Calls Tryz.prog 93 #[.pointer (some ⟨b, 0, none⟩), .slice (some ⟨pb, po, none⟩) ps.length pc] w fun e w' => WroteR b g room L false ps.flatten w e w' := by
  have HC := err_any b g room L false w h
  have HL := left_any b g room L false w h h0 h1 (by omega)
  have HA : ∀ n : Nat, Calls Tryz.prog 111 #[.pointer (some ⟨b, 0, none⟩), .int .i64 N] (w.drewN n) fun e w' => PartR b g room L false N (w.drewN n) e w' := fun n => part_any b g _ room L false _ (h.below (below_drewN (Below.refl _ _) n)) hl
  clear h
  have hsz1 : (Tryz.prog.info? 5).map (·.size) = some 1 := by kernel_rfl
  go_enter Tryz.func93, Tryz.ntmps93
  go_wp2_with (go_at_call 109; refine HC.mono ?_; rintro e w2 ⟨rfl, rfl⟩)
  go_loopw [6, 19] (fun s i wr => ∃ k : Nat, k ≤ ps.length ∧ i = .int .i64 k ∧ s = .int .i64 (flen ps k) ∧ wr = w) (fun _ i _ => ps.length - (intOf i).toNat)
  case atStart => exact ⟨0, by omega, rfl, rfl, rfl⟩
  case round =>
    obtain ⟨k, hk, rfl, rfl, rfl⟩ := hrel
    have hfl := flen_le ps k
    rw [hN.out] at hfl
    by_cases hlt : k < ps.length
    · obtain ⟨z, hz⟩ : ∃ z, ps[k]? = some z := ⟨_, List.getElem?_eq_getElem hlt⟩
      obtain ⟨a, c, hc, _, _⟩ := hps.out k z hz
      have HZ := Lib.hid (flen_more hz)
      have hfl2 := flen_le ps (k + 1)
      rw [hN.out] at hfl2
      have hzl : flen ps k + z.length ≤ 1000000000 := by have := HZ.out; omega
      clear hz hfl2
      go_wp2
      go_roundw
      case rel => exact ⟨k + 1, by omega, by go_num, by rw [HZ.out]; go_num, trivial⟩
      case measure => simp [intOf]; omega
    · have HF : flen ps k = N := (flen_all ps (k := k) (by omega)).trans hN.out
      have hgt : (N : Int) ≤ room - (L.length : Int) := by omega
      go_wp2_with (first
        | (go_at_call 110; refine HL.mono ?_; rintro e w2 ⟨rfl, n, rfl⟩)
        | (go_at_call 111; refine (HA _).mono ?_; rintro e w3 ⟨A, cap, cur, P, rfl, hb3, hk3, hc3, ht3, hO3, hP3⟩))
      obtain ⟨g', hst⟩ := WSt.start (w := wr) hN.out hb3 hk3 hc3 ht3 hO3 hn0 hP3
      have HST := Lib.hid hst
      clear hst hP3 hO3 ht3 hk3 hb3 HA HL HC
      go_loopw [9, 45] (fun t i wx => ∃ (k : Nat) (P : Option Addr), k ≤ ps.length ∧ i = .int .i64 k ∧ t = .slice P (N - flen ps k : Nat) (N - flen ps k : Nat) ∧ Hid (WSt b g room L g' cap ps k P wr wx)) (fun _ i _ => ps.length - (intOf i).toNat)
      case atStart => exact ⟨0, P, by omega, rfl, by rw [flen_zero, Nat.sub_zero], HST⟩
      case round =>
        obtain ⟨k, P, hk, rfl, rfl, HW⟩ := hrel
        have hfl := flen_le ps k
        rw [hN.out] at hfl
        by_cases hlt : k < ps.length
        · obtain ⟨z, hz⟩ : ∃ z, ps[k]? = some z := ⟨_, List.getElem?_eq_getElem hlt⟩
          obtain ⟨a, c, hc, hnz⟩ := hps.out.off hpp.out HW.out.frame hz
          have HZ := Lib.hid (flen_more hz)
          have hfl2 := flen_le ps (k + 1)
          rw [hN.out] at hfl2
          have hzl : flen ps k + z.length ≤ N := by have := HZ.out; omega
          have HG := Lib.hid hz
          clear hz hfl2
          by_cases h0 : z = []
          · subst h0
            go_wp2_with (refine wpList_copy_nothing rfl (.tmp 50) (.tmp 51) 49 49 rfl 5 Tryz.underlying49 hsz1 _ _ _ _ _ _ rfl rfl (by simp) ?_)
            go_roundw
            case rel => exact ⟨k + 1, P, by omega, by go_num, by rw [HZ.out]; rfl, HW.out.empty HG.out rfl (fun _ => rfl)⟩
            case measure => simp [intOf]; omega
          · have hz0 : 0 < z.length := by
              rcases Nat.eq_zero_or_pos z.length with h | h
              · exact absurd (List.eq_nil_of_length_eq_zero h) h0
              · exact h
            obtain ⟨b1, o1, rfl, hb1, hcn⟩ := hnz h0
            have HCN := Lib.hid hcn
            obtain rfl := HW.out.addr (by rw [hN.out]; omega)
            obtain ⟨cur, hg, hfit, hst⟩ := HW.out.copied HG.out (P' := if N - flen ps k = z.length then some ⟨g', L.length + flen ps k, none⟩ else some ⟨g', L.length + flen ps k + z.length, none⟩) (fun h => by rw [hN.out] at h; rw [if_neg (by omega), Option.map_some, Addr.add_lit])
            have HST2 := Lib.hid hst
            clear hnz hcn hst
            go_wp2_with (refine wpList_copy_own rfl (.tmp 50) (.tmp 51) 49 49 rfl 5 Tryz.underlying49 hsz1 g' (L.length + flen ps k) _ _ ⟨b1, o1, none⟩ _ _ rfl rfl (cur.map (Value.int .u8)).toArray 5 hg (z.map (Value.int .u8)) ?c1 ?c2 ?c3 ?c4 ?_)
            case c1 => rw [List.length_map]; show _ = min _ _; omega
            case c2 =>
              intro j v hj
              rw [List.getElem?_map] at hj
              obtain ⟨x, hx, rfl⟩ := Option.map_eq_some_iff.1 hj
              rw [Addr.add_lit]
              exact HCN.out j x hx
            case c3 => simpa using hfit
            case c4 => intro v hv; obtain ⟨x, _, rfl⟩ := List.mem_map.1 hv; rfl
            go_roundw
            case rel => exact ⟨k + 1, _, by omega, by go_num, by rw [HZ.out, Nat.sub_add_eq], HST2⟩
            case measure => simp [intOf]; omega
        · go_wp2
          go_ret
          exact wrote_some ⟨g', HW.out.pen (by omega)⟩ (by rw [hN.out]; exact hno)
/-- write, whatever the pen -/
theorem write_any (b g pb po pc N : Nat) (room : Int) (L : List Int) (full : Bool) (ps : List (List Int)) (w : World) (h : PenAt w b g room L full) (h0 : 0 ≤ room) (h1 : room ≤ 9223372036854775807) (hN : ps.flatten.length = N) (hl : L.length + N ≤ 1000000000) (hpl : ps.length ≤ 1000000000)
    (hps : Parts w b g pb po ps) (hpp : ¬ penS b g pb) (hpb : pb < w.heap.size) :
    Calls Tryz.prog 93 #[.pointer (some ⟨b, 0, none⟩), .slice (some ⟨pb, po, none⟩) ps.length pc] w fun e w' => WroteR b g room L full ps.flatten w e w' := by
  cases full with
  | true => exact write_full b g room L _ _ w h
  | false =>
    by_cases hno : (L.length : Int) + N ≤ room
    · by_cases hz : N = 0
      · exact write_zero b g pb po pc N room L ps w h h0 h1 hN hl hpl hps hpp hpb hz hno
      · exact write_some b g pb po pc N room L ps w h h0 h1 hN hl hpl hps hpp hpb (by omega) hno
    · exact write_none b g pb po pc N room L ps w h h0 h1 hN hl hpl hps (by omega)
end Go.Proofs.YtlbfibnfmijahaaGreat

namespace Go.Proofs.YtlbfibnfmijahaaGreat
open Go.RowKit
set_option maxRecDepth 100000

theorem WroteR.later {b g : Nat} {room : Int} {L new : List Int} {full : Bool} {w w1 w' : World} {e : Ending} (h : WroteR b g room L full new w1 e w') (hb : Below w.heap.size w w1) : WroteR b g room L full new w e w' := by
  obtain ⟨he, g', h1, h2, h3⟩ := h
  have := hb.size
  refine ⟨he, g', h1, (Off.of_below hb).trans h2 (fun _ _ h => h), ?_⟩
  rcases h3 with h3 | h3
  · exact .inl h3
  · exact .inr (by omega)
/-- one part, laid in w1 -/
theorem write_one (s b g n c : Nat) (a : Option Addr) (room : Int) (L z : List Int) (full : Bool) (w w1 : World) (h : PenAt w b g room L full) (h0 : 0 ≤ room) (h1 : room ≤ 9223372036854775807) (hl : L.length + n ≤ 1000000000) (hb : Below w.heap.size w w1) (hw1 : w1.heap.size = s)
    (hz : z.length = n) (hn : Nums .u8 w1 w1.heap.size a z) (ha : z ≠ [] → ∀ q, blockOf a q → ¬ penS b g q) :
    Calls Tryz.prog 93 #[.pointer (some ⟨b, 0, none⟩), .slice (some ⟨s, 0, none⟩) 1 1] (w1.alloc (.cells #[.slice a n c] 49)) fun e w' => WroteR b g room L full z w e w' := by
  subst hw1
  have hbw : Below w.heap.size w (w1.alloc (.cells #[.slice a n c] 49)) := hb.alloc hb.size _
  have hlt := h.lt
  have hgt := h.glt
  have hs := hb.size
  have hp : ¬ penS b g w1.heap.size := by rintro (h | h) <;> omega
  have hw := write_any b g w1.heap.size 0 1 n room L full [z] _ (h.below hbw) h0 h1 (by simpa using hz) hl (by simp) (fun k y hk => by
    cases k with
    | succ k => simp at hk
    | zero =>
      simp at hk
      subst hk
      refine ⟨a, c, ?_, ?_, ha⟩
      · rw [hz, World.cell?_alloc_at _ _ _ _ rfl]; simp
      · exact (hn.below ((Below.refl _ w1).alloc (Nat.le_refl _) _)).mono (by simp)) hp (by simp)
  refine hw.mono fun e w' hr => ?_
  have hr' := hr.later hbw
  rwa [show [z].flatten = z by simp] at hr'
/-- two parts -/
theorem write_two (s b g n1 n2 c1 c2 : Nat) (a1 a2 : Option Addr) (room : Int) (L z1 z2 : List Int) (full : Bool) (w w1 : World) (h : PenAt w b g room L full) (h0 : 0 ≤ room) (h1 : room ≤ 9223372036854775807) (hl : L.length + (n1 + n2) ≤ 1000000000) (hb : Below w.heap.size w w1) (hw1 : w1.heap.size = s)
    (hz1 : z1.length = n1) (hz2 : z2.length = n2) (hn1 : Nums .u8 w1 w1.heap.size a1 z1) (hn2 : Nums .u8 w1 w1.heap.size a2 z2) (ha1 : z1 ≠ [] → ∀ q, blockOf a1 q → ¬ penS b g q) (ha2 : z2 ≠ [] → ∀ q, blockOf a2 q → ¬ penS b g q) :
    Calls Tryz.prog 93 #[.pointer (some ⟨b, 0, none⟩), .slice (some ⟨s, 0, none⟩) 2 2] (w1.alloc (.cells #[.slice a1 n1 c1, .slice a2 n2 c2] 49)) fun e w' => WroteR b g room L full (z1 ++ z2) w e w' := by
  subst hw1
  have hbw : Below w.heap.size w (w1.alloc (.cells #[.slice a1 n1 c1, .slice a2 n2 c2] 49)) := hb.alloc hb.size _
  have hlt := h.lt
  have hgt := h.glt
  have hs := hb.size
  have hp : ¬ penS b g w1.heap.size := by rintro (h | h) <;> omega
  have hw := write_any b g w1.heap.size 0 2 (n1 + n2) room L full [z1, z2] _ (h.below hbw) h0 h1 (by simp [hz1, hz2]) hl (by simp) (fun k y hk => by
    match k, hk with
    | 0, hk =>
      simp at hk
      subst hk
      refine ⟨a1, c1, ?_, ?_, ha1⟩
      · rw [hz1, World.cell?_alloc_at _ _ _ _ rfl]; simp
      · exact (hn1.below ((Below.refl _ w1).alloc (Nat.le_refl _) _)).mono (by simp)
    | 1, hk =>
      simp at hk
      subst hk
      refine ⟨a2, c2, ?_, ?_, ha2⟩
      · rw [hz2, World.cell?_alloc_at _ _ _ _ rfl]; simp
      · exact (hn2.below ((Below.refl _ w1).alloc (Nat.le_refl _) _)).mono (by simp)
    | k + 2, hk => simp at hk) hp (by simp)
  refine hw.mono fun e w' hr => ?_
  have hr' := hr.later hbw
  rwa [show [z1, z2].flatten = z1 ++ z2 by simp] at hr'
section
variable (b g : Nat) (room : Int) (L : List Int) (full : Bool) (w : World)

theorem number_any (B : Nat) (a : Option Addr) (n c : Nat) (zs : List Int) (h : PenAt w b g room L full) (h0 : 0 ≤ room) (h1 : room ≤ 9223372036854775807) (hl : L.length + 10 * n ≤ 1000000000) (hn1 : n ≤ 1000000) (hz : zs.length = n) (hzb : ∀ c ∈ zs, 0 ≤ c ∧ c ≤ 18446744073709551615) (hB : B ≤ w.heap.size) (hn : Nums .u64 w B a zs) :
    Calls Tryz.prog 70 #[.pointer (some ⟨b, 0, none⟩), .slice a n c] w fun e w' => WroteR b g room L full (puts zs) w e w' := by
  have hlen := puts_length zs hzb
  rw [hz] at hlen
  have HP : Calls Tryz.prog 94 #[.slice a n c] w fun e w' => ∃ v, e = .returned v ∧ Made w w' (puts zs) v := by
    subst hz; exact put_any B a c zs w hn1 hzb hB hn
  have HC : ∀ (w1 : World) (a1 : Option Addr) (c1 : Nat), Made w w1 (puts zs) (.slice a1 (puts zs).length c1) → Calls Tryz.prog 93 #[.pointer (some ⟨b, 0, none⟩), .slice (some ⟨w1.heap.size, 0, none⟩) 1 1] (w1.alloc (.cells #[.slice a1 (puts zs).length c1] 49)) fun e w' => WroteR b g room L full (puts zs) w e w' := fun w1 a1 c1 hm =>
    write_one _ b g _ c1 a1 room L (puts zs) full w w1 h h0 h1 (by omega) hm.2 rfl rfl (by obtain ⟨A, c', he, _, hq⟩ := hm.slice; injection he with he1; subst he1; exact hq) (by
      have hlt := h.lt
      have hgt := h.glt
      rintro _ q ⟨o, s, rfl⟩ hp
      have := (hm.1.lt q rfl).1
      rcases hp with hp | hp <;> omega)
  clear h hlen hz hzb hn
  go_enter Tryz.func70, Tryz.ntmps70
  go_wp2_with (first
    | (go_at_call 94; refine HP.mono ?_; rintro e w1 ⟨v, rfl, hm⟩; obtain ⟨a1, c1, rfl, _, _⟩ := hm.slice; have HQ := HC _ _ _ hm; clear HC HP hm)
    | (go_at_call 93; refine HQ.mono ?_; rintro e w2 hr; obtain ⟨he, hr2⟩ := hr; subst he))
  go_ret
  exact ⟨rfl, hr2⟩
theorem field_any (a : Option Addr) (n c : Nat) (z : List Int) (h : PenAt w b g room L full) (h0 : 0 ≤ room) (h1 : room ≤ 9223372036854775807) (hl : L.length + 10 + n ≤ 1000000000) (hz : z.length = n) (hn : Nums .u8 w w.heap.size a z) (ha : z ≠ [] → ∀ q, blockOf a q → ¬ penS b g q) :
    Calls Tryz.prog 74 #[.pointer (some ⟨b, 0, none⟩), .slice a n c] w fun e w' => WroteR b g room L full (puts [(n : Int)] ++ z) w e w' := by
  have hlen := puts_length [(n : Int)] (by simp; omega)
  have HP := put_any (w.heap.size + 1) (some ⟨w.heap.size, 0, none⟩) 1 [(n : Int)] (w.alloc (.cells #[.int .u64 n] 135)) (by simp) (by simp; omega) (by simp) (Nums.new .u64 w 135 [(n : Int)] _ rfl)
  have HC : ∀ (w1 : World) (a1 : Option Addr) (c1 : Nat), Made (w.alloc (.cells #[.int .u64 n] 135)) w1 (puts [(n : Int)]) (.slice a1 (puts [(n : Int)]).length c1) → Calls Tryz.prog 93 #[.pointer (some ⟨b, 0, none⟩), .slice (some ⟨w1.heap.size, 0, none⟩) 2 2] (w1.alloc (.cells #[.slice a1 (puts [(n : Int)]).length c1, .slice a n c] 49)) fun e w' => WroteR b g room L full (puts [(n : Int)] ++ z) w e w' := fun w1 a1 c1 hm =>
    have hb : Below w.heap.size w w1 := ((Below.refl _ w).alloc (Nat.le_refl _) _).trans (hm.2.mono (by simp))
    write_two _ b g _ n c1 c a1 a room L (puts [(n : Int)]) z full w w1 h h0 h1 (by simp at hlen; omega) hb rfl rfl hz (by obtain ⟨A, c', he, _, hq⟩ := hm.slice; injection he with he1; subst he1; exact hq) ((hn.below hb).mono hb.size) (by
      have hlt := h.lt
      have hgt := h.glt
      rintro _ q ⟨o, s, rfl⟩ hp
      have := (hm.1.lt q rfl).1
      simp at this
      rcases hp with hp | hp <;> omega) ha
  clear h hlen hz hn ha
  go_enter Tryz.func74, Tryz.ntmps74
  go_wp2_with (first
    | (go_at_call 94; refine HP.mono ?_; rintro e w1 ⟨v, rfl, hm⟩; obtain ⟨a1, c1, rfl, _, _⟩ := hm.slice; have HQ := HC _ _ _ hm; clear HC HP hm)
    | (go_at_call 93; refine HQ.mono ?_; rintro e w2 hr; obtain ⟨he, hr2⟩ := hr; subst he))
  go_ret
  exact ⟨by rw [List.length_append]; rfl, hr2⟩
end
end Go.Proofs.YtlbfibnfmijahaaGreat

namespace Go.Proofs.YtlbfibnfmijahaaGreat
open Go.RowKit Go.Deep
set_option maxRecDepth 100000

/-- a signed number's zigzag -/
def zigZ (z : Int) : Int := if 0 ≤ z then 2 * z else -2 * z - 1
theorem zigZ_range {z : Int} (h0 : -9223372036854775808 ≤ z) (h1 : z ≤ 9223372036854775807) : 0 ≤ zigZ z ∧ zigZ z ≤ 18446744073709551615 := by
  unfold zigZ; split <;> omega
theorem zigz_any (z : Int) (w : World) (h0 : -9223372036854775808 ≤ z) (h1 : z ≤ 9223372036854775807) : Calls Tryz.prog 95 #[.int .i64 z] w fun e w' => e = .returned (.int .u64 (zigZ z)) ∧ w = w' := by
  unfold zigZ
  by_cases h : 0 ≤ z
  · rw [if_pos h]; exact zig_pos z w h h1
  · rw [if_neg h]; exact zig_neg z w (by omega) h0
theorem madeCells_int (k : IntKind) (n : Nat) : madeCells #[.int k 0] n = ((List.replicate n (0 : Int)).map (Value.int k)).toArray := by
  apply Array.ext
  · simp [madeCells]
  · intro i h1 h2
    simp [madeCells, Nat.mod_one]
theorem KRow.made (T : TypeId) (k : IntKind) (w : World) (n : Nat) (hm : n ≤ maxLen) : KRow T k (w.alloc (.cells (madeCells #[.int k 0] n) T)) (some ⟨w.heap.size, 0, none⟩) n (List.replicate n 0) :=
  ⟨by simp, .inr ⟨_, rfl, hm, by rw [madeCells_int]; exact heap_alloc_new w _⟩⟩
theorem KRow.set {T : TypeId} {k : IntKind} {w : World} {g cap j : Nat} {cur : List Int} (h : KRow T k w (some ⟨g, 0, none⟩) cap cur) (y : Int) : KRow T k (w.setCell ⟨g, j, none⟩ (.int k y)) (some ⟨g, 0, none⟩) cap (cur.set j y) := by
  rcases h.2 with ⟨h0, _⟩ | ⟨q, e, hm, hh⟩
  · simp at h0
  · injection e with e; injection e with e; subst e
    refine ⟨by rw [List.length_set]; exact h.1, .inr ⟨g, rfl, hm, ?_⟩⟩
    rw [setCell_at hh]
    simp [List.map_set]
theorem set_take {zs : List Int} {j : Nat} {y : Int} (h : j < zs.length) : (zs.set j y).take (j + 1) = zs.take j ++ [y] := by
  rw [List.take_succ_eq_append_getElem (by simpa using h)]
  simp [List.take_set_of_le]

/-- the first k zigzags are laid -/
def SSt (g n k : Nat) (zs : List Int) (w wr : World) : Prop := ∃ cur, KRow 135 .u64 wr (some ⟨g, 0, none⟩) n cur ∧ cur.take k = (zs.take k).map zigZ ∧ Below w.heap.size w wr
theorem SSt.step {g n k : Nat} {zs : List Int} {w wr : World} {z : Int} (h : SSt g n k zs w wr) (hk : zs[k]? = some z) (hg : w.heap.size ≤ g) (hkn : k < n) : SSt g n (k + 1) zs w (wr.setCell ⟨g, k, none⟩ (.int .u64 (zigZ z))) := by
  obtain ⟨cur, h1, h2, h3⟩ := h
  refine ⟨cur.set k (zigZ z), h1.set _, ?_, h3.setCell hg _⟩
  rw [set_take (by rw [h1.1]; exact hkn), h2, ptake_more hk, List.map_append]
  rfl
theorem SSt.cell {g n k : Nat} {zs : List Int} {w wr : World} (h : SSt g n k zs w wr) (hkn : k < n) : (∃ u, wr.cell? ⟨g, k, none⟩ = some (.int .u64 u)) ∧ wr.frozen? ⟨g, k, none⟩ = false := by
  obtain ⟨cur, h1, h2, h3⟩ := h
  obtain ⟨_, hh⟩ := h1.cells rfl
  exact ⟨⟨_, h1.cell rfl (List.getElem?_eq_getElem (by rw [h1.1]; exact hkn))⟩, frozen_of hh⟩

theorem u64Info : (Tryz.prog.info? 135).map (fun i => (i.zero, i.size, i.bytes)) = some (some (.int .u64 0), 1, 8) := by kernel_rfl
theorem SSt.nums {g n : Nat} {zs : List Int} {w wr : World} (h : SSt g n n zs w wr) (hz : zs.length = n) : Nums .u64 wr wr.heap.size (some ⟨g, 0, none⟩) (zs.map zigZ) ∧ Below w.heap.size w wr := by
  obtain ⟨cur, q1, q2, q3⟩ := h
  have hcur : cur = zs.map zigZ := by
    rw [List.take_of_length_le (by rw [q1.1]; omega), List.take_of_length_le (by omega)] at q2
    exact q2
  subst hcur
  have hnn := q1.nums n
  rw [List.take_of_length_le (by rw [q1.1]; omega)] at hnn
  exact ⟨hnn, q3⟩
theorem zigs_range {zs : List Int} (hzb : ∀ c ∈ zs, -9223372036854775808 ≤ c ∧ c ≤ 9223372036854775807) : ∀ c ∈ zs.map zigZ, 0 ≤ c ∧ c ≤ 18446744073709551615 := by
  intro x hx
  obtain ⟨y, hy, rfl⟩ := List.mem_map.1 hx
  exact zigZ_range (hzb y hy).1 (hzb y hy).2
set_option maxHeartbeats 1000000 in
/-- Signed, whatever Number answers -/
theorem signed_gen (p : Option Addr) (r : Int) (Q : World → Prop) (w : World) (B : Nat) (a : Option Addr) (n c : Nat) (zs : List Int) (hn1 : n ≤ 1000000) (hz : zs.length = n) (hzb : ∀ c ∈ zs, -9223372036854775808 ≤ c ∧ c ≤ 9223372036854775807) (hB : B ≤ w.heap.size) (hn : Nums .i64 w B a zs)
    (HN : Hid (∀ wr, SSt w.heap.size n n zs w wr → Calls Tryz.prog 70 #[.pointer p, .slice (some ⟨w.heap.size, 0, none⟩) n n] wr fun e w' => e = .returned (.int .i64 r) ∧ Q w')) :
    Calls Tryz.prog 71 #[.pointer p, .slice a n c] w fun e w' => e = .returned (.int .i64 r) ∧ Q w' := by
  have hmk := run_make_row' 142 135 (.int .u64 0) 8 Tryz.underlying142 u64Info rfl .i64 .i64 n (by omega) (by omega)
  have HS : Hid (SSt w.heap.size n 0 zs w (w.alloc (.cells (madeCells #[.int .u64 0] n) 135))) := ⟨_, KRow.made _ _ w n (by unfold maxLen; omega), rfl, (Below.refl _ w).alloc (Nat.le_refl _) _⟩
  have HZ := Lib.hid hzb
  have HL := Lib.hid hz
  have HM := Lib.hid hn
  clear hzb hz hn
  go_enter Tryz.func71, Tryz.ntmps71
  go_wp2
  go_loopw [13] (fun i wr => ∃ k : Nat, k ≤ n ∧ i = .int .i64 k ∧ Hid (SSt w.heap.size n k zs w wr)) (fun i _ => n - (intOf i).toNat)
  case atStart => exact ⟨0, by omega, rfl, HS⟩
  case round =>
    obtain ⟨k, hk, rfl, hs⟩ := hrel
    by_cases hlt : k < n
    · obtain ⟨z, hz⟩ : ∃ z, zs[k]? = some z := ⟨_, List.getElem?_eq_getElem (by rw [HL.out]; exact hlt)⟩
      obtain ⟨_, _, _, q3⟩ := hs.out
      obtain ⟨b1, o1, rfl, hb1, hc1⟩ := (HM.out.below (q3.mono hB)).open hz
      have hzr := HZ.out z (List.mem_of_getElem? hz)
      obtain ⟨⟨u, hu⟩, hf⟩ := hs.out.cell hlt
      have HX := Lib.hid (hs.out.step hz (Nat.le_refl _) hlt)
      clear hz q3
      go_wp2_with (go_at_call 95; refine (zigz_any z _ hzr.1 hzr.2).mono ?_; rintro e w2 ⟨rfl, rfl⟩)
      go_roundw
      case rel => exact ⟨k + 1, by omega, by go_num, HX⟩
      case measure => simp [intOf]; omega
    · obtain rfl : k = n := by omega
      have HQ := HN.out _ hs.out
      go_wp2_with (go_at_call 70; refine HQ.mono ?_; rintro e w2 ⟨rfl, hr2⟩; have HR := Lib.hid hr2; clear hr2)
      go_ret
      exact ⟨rfl, HR.out⟩
theorem signed_any (b g : Nat) (room : Int) (L : List Int) (full : Bool) (w : World) (B : Nat) (a : Option Addr) (n c : Nat) (zs : List Int) (h : PenAt w b g room L full) (h0 : 0 ≤ room) (h1 : room ≤ 9223372036854775807) (hl : L.length + 10 * n ≤ 1000000000) (hn1 : n ≤ 1000000) (hz : zs.length = n) (hzb : ∀ c ∈ zs, -9223372036854775808 ≤ c ∧ c ≤ 9223372036854775807) (hB : B ≤ w.heap.size) (hn : Nums .i64 w B a zs) :
    Calls Tryz.prog 71 #[.pointer (some ⟨b, 0, none⟩), .slice a n c] w fun e w' => WroteR b g room L full (puts (zs.map zigZ)) w e w' :=
  signed_gen _ _ _ w B a n c zs hn1 hz hzb hB hn fun wr hs => by
    obtain ⟨hnn, q3⟩ := hs.nums hz
    exact (number_any b g room L full wr wr.heap.size _ n n (zs.map zigZ) (h.below q3) h0 h1 hl hn1 (by simpa using hz) (zigs_range hzb) (Nat.le_refl _) hnn).mono fun e w' hr => hr.later q3
end Go.Proofs.YtlbfibnfmijahaaGreat

namespace Go.Proofs.YtlbfibnfmijahaaGreat
open Go.RowKit Go.Shelf
set_option maxRecDepth 100000
attribute [local go_sem] Oper.semAt_some

theorem zigZ_zg (x : Int) : (zigZ x).toNat = zg x := by
  unfold zigZ zg
  split <;> split <;> omega
theorem gaps_le : ∀ (l : List Int) (a : Int) (j : Nat), (gaps a (l.take j)).length ≤ (gaps a l).length
  | [], _, _ => by simp
  | c :: r, a, 0 => by simp [gaps]
  | c :: r, a, j + 1 => by
    have ih := gaps_le r c j
    rw [List.take_succ_cons, gaps, gaps, List.length_append, List.length_append]
    omega
theorem dlt_le : ∀ (l : List (Int × Int)) (a : Int × Int) (j : Nat), (dlt a (l.take j)).length ≤ (dlt a l).length
  | [], _, _ => by simp
  | c :: r, a, 0 => by simp [dlt]
  | c :: r, a, j + 1 => by
    have ih := dlt_le r c j
    rw [List.take_succ_cons, dlt, dlt]
    simp only [List.length_append]
    omega
/-- rows of other types than bytes and pens are as they were -/
structure PenK (W W' : World) : Prop where
  size : W.heap.size ≤ W'.heap.size
  same : ∀ (q : Nat) (cs : Array Value) (t : TypeId), t ≠ 5 → t ≠ 133 → W.heap[q]? = some (.cells cs t (0, 0)) → W'.heap[q]? = W.heap[q]?
section
variable {W W' W'' : World}
theorem PenK.refl (W : World) : PenK W W := ⟨Nat.le_refl _, fun _ _ _ _ _ _ => rfl⟩
theorem PenK.trans (h : PenK W W') (k : PenK W' W'') : PenK W W'' := ⟨Nat.le_trans h.size k.size, fun q cs t h1 h2 h3 => (k.same q cs t h1 h2 ((h.same q cs t h1 h2 h3).trans h3)).trans (h.same q cs t h1 h2 h3)⟩
theorem PenK.of_below (h : Below W.heap.size W W') : PenK W W' := ⟨h.size, fun q _ _ _ _ hq => h.block q (Array.getElem?_eq_some_iff.1 hq).1⟩
theorem PenK.row (h : PenK W W') {q : Nat} {cs : Array Value} {t : TypeId} (hq : W.heap[q]? = some (.cells cs t (0, 0))) (h1 : t ≠ 5) (h2 : t ≠ 133) : W'.heap[q]? = some (.cells cs t (0, 0)) := (h.same q cs t h1 h2 hq).trans hq
end
theorem PenAt.kept {W W' : World} {b g : Nat} {room : Int} {L : List Int} {full : Bool} (h : PenAt W b g room L full) (ho : Off (penS b g) W W') : PenK W W' := by
  refine ⟨ho.size, fun q cs t h1 h2 hq => ho.block q (Array.getElem?_eq_some_iff.1 hq).1 ?_⟩
  obtain ⟨A, cap, cur, hb, hk, -, -, hA⟩ := h
  rintro (rfl | rfl)
  · rw [hb] at hq
    injection hq with hq
    injection hq with _ hq
    exact h2 hq.symm
  · rcases hA with ⟨-, rfl⟩ | ⟨rfl, -⟩
    · rw [hb] at hq
      injection hq with hq
      injection hq with _ hq
      exact h2 hq.symm
    · have hr := (hk.cells rfl).2
      rw [hr] at hq
      injection hq with hq
      injection hq with _ hq
      exact h1 hq.symm
/-- block b is a pen with room for 192 bytes that isn't full and holds L; beside it only the block g0 of w4 has been turned -/
def PenV (w4 : World) (b g0 : Nat) (L : List Int) (W : World) : Prop := ∃ g, PenAt W b g 192 L false ∧ (g = g0 ∨ w4.heap.size ≤ g) ∧ Off (penS b g0) w4 W ∧ PenK w4 W
section
variable {w4 W W' : World} {b g g0 : Nat} {L new : List Int} {e : Ending}
theorem PenV.start (h : PenAt W b g0 192 L false) : PenV W b g0 L W := ⟨g0, h, .inl rfl, Off.refl _ _, PenK.refl _⟩
theorem PenV.later (h : PenV w4 b g0 L W) (hb : Below W.heap.size W W') : PenV w4 b g0 L W' := by
  obtain ⟨g, h1, h2, h3, h4⟩ := h
  exact ⟨g, h1.below hb, h2, h3.trans (Off.of_below (S := penS b g0) hb) (fun _ _ h => h), h4.trans (PenK.of_below hb)⟩
theorem PenV.since (h : PenV W b g0 L W') {w4 : World} (hb : Below w4.heap.size w4 W) : PenV w4 b g0 L W' := by
  obtain ⟨g, h1, h2, h3, h4⟩ := h
  have := hb.size
  exact ⟨g, h1, by omega, (Off.of_below hb).trans h3 (fun _ _ h => h), (PenK.of_below hb).trans h4⟩
theorem PenV.below {B : Nat} (h : PenV w4 b g0 L W) (h1 : B ≤ b) (h2 : B ≤ g0) (h3 : B ≤ w4.heap.size) : Below B w4 W := by
  obtain ⟨g, -, -, ho, -⟩ := h
  exact ho.below (fun k hk => by rcases hk with rfl | rfl <;> assumption) h3
theorem PenV.size (h : PenV w4 b g0 L W) : w4.heap.size ≤ W.heap.size := by
  obtain ⟨g, -, -, ho, -⟩ := h
  exact ho.size
theorem PenV.wrote (hg : g = g0 ∨ w4.heap.size ≤ g) (ho : Off (penS b g0) w4 W) (hk : PenK w4 W) (hw : PenAt W b g 192 L false) (hr : WroteR b g 192 L false new W e W') (hl : L.length + new.length ≤ 192) :
    e = .returned (.int .i64 0) ∧ PenV w4 b g0 (L ++ new) W' ∧ PenK W W' := by
  obtain ⟨he, g', h1, h2, h3⟩ := hr
  have hf : fullNext 192 L false new.length = false := fullNext_no (by omega)
  have hbn : bytesNext 192 L false new = L ++ new := by unfold bytesNext; rw [hf]; rfl
  rw [hf] at he h1
  rw [hbn] at h1
  have hkk := hw.kept h2
  refine ⟨he, ⟨g', h1, ?_, ho.trans h2 ?_, hk.trans hkk⟩, hkk⟩
  · have := ho.size
    omega
  · rintro j hj (rfl | rfl)
    · exact .inl rfl
    · rcases hg with rfl | hg
      · exact .inr rfl
      · omega
/-- one number is written -/
theorem num1_any (hv : PenV w4 b g0 L W) (x : Int) (h0 : 0 ≤ x) (h1 : x ≤ 18446744073709551615) (hl : L.length + (Vi.enc x.toNat).length ≤ 192) :
    Calls Tryz.prog 70 #[.pointer (some ⟨b, 0, none⟩), .slice (some ⟨W.heap.size, 0, none⟩) 1 1] (W.alloc (.cells #[.int .u64 x] 135)) fun e w' => e = .returned (.int .i64 0) ∧ PenV w4 b g0 (L ++ Vi.enc x.toNat) w' ∧ PenK W w' := by
  obtain ⟨g, hp, hg, ho, hk⟩ := hv
  have hb : Below W.heap.size W (W.alloc (.cells #[.int .u64 x] 135)) := (Below.refl _ W).alloc (Nat.le_refl _) _
  refine (number_any b g 192 L false _ _ _ 1 1 [x] (hp.below hb) (by omega) (by omega) (by omega) (by omega) rfl (by simp; omega) (Nat.le_refl _) ((Nums.new .u64 W 135 [x] _ rfl).mono (by simp))).mono fun e w' hr => ?_
  have hr' := hr.later hb
  rw [puts_one] at hr'
  exact PenV.wrote hg ho hk hp hr' hl
/-- a signed one -/
theorem sig1_any (hv : PenV w4 b g0 L W) (x : Int) (h0 : -9223372036854775808 ≤ x) (h1 : x ≤ 9223372036854775807) (hl : L.length + (Vi.enc (zg x)).length ≤ 192) :
    Calls Tryz.prog 71 #[.pointer (some ⟨b, 0, none⟩), .slice (some ⟨W.heap.size, 0, none⟩) 1 1] (W.alloc (.cells #[.int .i64 x] 2)) fun e w' => e = .returned (.int .i64 0) ∧ PenV w4 b g0 (L ++ Vi.enc (zg x)) w' ∧ PenK W w' := by
  obtain ⟨g, hp, hg, ho, hk⟩ := hv
  have hb : Below W.heap.size W (W.alloc (.cells #[.int .i64 x] 2)) := (Below.refl _ W).alloc (Nat.le_refl _) _
  refine (signed_any b g 192 L false _ (W.heap.size + 1) _ 1 1 [x] (hp.below hb) (by omega) (by omega) (by omega) (by omega) rfl (by simp; omega) (by simp) (Nums.new .i64 W 2 [x] _ rfl)).mono fun e w' hr => ?_
  have hr' := hr.later hb
  rw [List.map_cons, List.map_nil, puts_one, zigZ_zg] at hr'
  exact PenV.wrote hg ho hk hp hr' hl
/-- two signed ones -/
theorem sig2_any (hv : PenV w4 b g0 L W) (x y : Int) (h0 : -9223372036854775808 ≤ x) (h1 : x ≤ 9223372036854775807) (h2 : -9223372036854775808 ≤ y) (h3 : y ≤ 9223372036854775807) (hl : L.length + (Vi.enc (zg x) ++ Vi.enc (zg y)).length ≤ 192) :
    Calls Tryz.prog 71 #[.pointer (some ⟨b, 0, none⟩), .slice (some ⟨W.heap.size, 0, none⟩) 2 2] (W.alloc (.cells #[.int .i64 x, .int .i64 y] 2)) fun e w' => e = .returned (.int .i64 0) ∧ PenV w4 b g0 (L ++ (Vi.enc (zg x) ++ Vi.enc (zg y))) w' ∧ PenK W w' := by
  obtain ⟨g, hp, hg, ho, hk⟩ := hv
  have hb : Below W.heap.size W (W.alloc (.cells #[.int .i64 x, .int .i64 y] 2)) := (Below.refl _ W).alloc (Nat.le_refl _) _
  refine (signed_any b g 192 L false _ (W.heap.size + 1) _ 2 2 [x, y] (hp.below hb) (by omega) (by omega) (by omega) (by omega) rfl (by simp; omega) (by simp) (Nums.new .i64 W 2 [x, y] _ rfl)).mono fun e w' hr => ?_
  have hr' := hr.later hb
  rw [show [x, y].map zigZ = [zigZ x] ++ [zigZ y] from rfl, puts_append, puts_one, puts_one, zigZ_zg, zigZ_zg] at hr'
  exact PenV.wrote hg ho hk hp hr' hl
/-- bytes, behind how many they are -/
theorem fld1_any (hv : PenV w4 b g0 L W) (a : Option Addr) (n c : Nat) (z : List Int) (hz : z.length = n) (hn : Nums .u8 W W.heap.size a z) (ha : z ≠ [] → ∀ q, blockOf a q → ∀ t cs, W.heap[q]? ≠ some (.cells cs t (0, 0))) (hl : L.length + (Vi.enc n ++ z).length ≤ 192) :
    Calls Tryz.prog 74 #[.pointer (some ⟨b, 0, none⟩), .slice a n c] W fun e w' => e = .returned (.int .i64 0) ∧ PenV w4 b g0 (L ++ (Vi.enc n ++ z)) w' ∧ PenK W w' := by
  obtain ⟨g, hp, hg, ho, hk⟩ := hv
  have hl2 := hl
  rw [List.length_append] at hl2
  refine (field_any b g 192 L false W a n c z hp (by omega) (by omega) (by omega) hz hn (fun hne q hq => ?_)).mono fun e w' hr => ?_
  · have h2 := ha hne q hq
    obtain ⟨A, cap, cur, hb, hk, -, -, hA⟩ := hp
    rintro (rfl | rfl)
    · exact h2 _ _ hb
    · rcases hA with ⟨-, rfl⟩ | ⟨rfl, -⟩
      · exact h2 _ _ hb
      · exact h2 _ _ (hk.cells rfl).2
  · rw [puts_one, Int.toNat_natCast] at hr
    exact PenV.wrote hg ho hk hp hr hl
end
set_option maxHeartbeats 4000000 in
theorem wcells18_any (b g0 B : Nat) (L : List Int) (a : Option Addr) (n c : Nat) (zs : List Int) (w : World) (h : PenAt w b g0 192 L false) (hn : Nums .i64 w B a zs) (hB1 : B ≤ b) (hB2 : B ≤ g0) (hz : zs.length = n) (hcE : cE (-1) zs = 0) (h32 : n ≤ 32) (hl : L.length + (Vi.enc n ++ gaps (-1) zs).length ≤ 192) :
    Calls Tryz.prog 73 #[.pointer (some ⟨b, 0, none⟩), .slice a n c] w fun e w' => (∃ x, e = .returned x) ∧ PenV w b g0 (L ++ (Vi.enc n ++ gaps (-1) zs)) w' := by
  have hBw : B ≤ w.heap.size := Nat.le_trans hB1 (Nat.le_of_lt h.lt)
  have hl2 := hl
  rw [List.length_append] at hl2
  have K0 := num1_any (PenV.start h) (n : Int) (by omega) (by omega) (by rw [Int.toNat_natCast]; omega)
  rw [Int.toNat_natCast] at K0
  have K0 := Lib.hid K0
  have HL := Lib.hid hl2
  have HN := Lib.hid hn
  have HZ := Lib.hid hz
  have HCE := Lib.hid hcE
  clear hn hz hcE hl hl2 h
  go_enter Tryz.func73, Tryz.ntmps73
  go_wp2_with (go_at_call 70; refine K0.out.mono ?_; rintro e w1 ⟨rfl, hv1, -⟩; have HV1 := Lib.hid hv1; clear hv1)
  go_loopw [4, 15] (fun av iv wr => ∃ (j : Nat) (x : Int), j ≤ n ∧ iv = .int .i64 (j : Int) ∧ av = .int .i64 x ∧ Hid (x = if j = 0 then -1 else (zs[j - 1]?).getD (-1)) ∧ -1 ≤ x ∧ x ≤ 65535 ∧ Hid (PenV w b g0 (L ++ (Vi.enc n ++ gaps (-1) (zs.take j))) wr)) (fun _ iv _ => n - (intOf iv).toNat)
  case atStart => exact ⟨0, -1, by omega, rfl, rfl, Lib.hid rfl, by omega, by omega, by rw [List.take_zero, gaps, List.append_nil]; exact HV1⟩
  case round =>
    obtain ⟨j, x, hj, rfl, rfl, HX, hx0, hx1, HV⟩ := hrel
    rcases Nat.lt_or_ge j n with hlt | hge
    · obtain ⟨q, hq⟩ : ∃ q, zs[j]? = some q := ⟨_, List.getElem?_eq_getElem (by rw [HZ.out]; exact hlt)⟩
      obtain ⟨ga, off, rfl, hga, hcl⟩ := (HN.out.below (HV.out.below hB1 hB2 hBw)).open hq
      obtain ⟨k1, k2, k3, k4⟩ := cE_get zs (-1) j q (by omega) HCE.out hq
      have hxq : x < q := by
        have hx := HX.out
        by_cases h0 : j = 0
        · rw [if_pos h0] at hx; omega
        · rw [if_neg h0] at hx
          obtain ⟨p, hp⟩ : ∃ p, zs[j - 1]? = some p := ⟨_, List.getElem?_eq_getElem (by rw [HZ.out]; omega)⟩
          rw [hp] at hx
          have := k3 (j - 1) p (by omega) hp
          simp at hx
          omega
      have hgt := gaps_take zs (-1) q j hq
      rw [← HX.out] at hgt
      have hgl := gaps_le zs (-1) (j + 1)
      rw [hgt, List.length_append] at hgl
      have hll := HL.out
      have K1 := num1_any HV.out (q - x - 1) (by omega) (by omega) (by rw [List.length_append, List.length_append]; omega)
      rw [List.append_assoc, List.append_assoc, ← hgt] at K1
      have K1 := Lib.hid K1
      have HQ : Hid (q = if j + 1 = 0 then -1 else (zs[j + 1 - 1]?).getD (-1)) := by
        show _ = _
        rw [if_neg (by omega), Nat.add_sub_cancel, hq]
        rfl
      clear hgt hgl hll k3 HX HV hq
      go_wp2_with (go_at_call 70; refine K1.out.mono ?_; rintro e w2 ⟨rfl, hv2, -⟩; have HV2 := Lib.hid hv2; clear hv2)
      go_roundw
      case rel => exact ⟨j + 1, q, by omega, by go_num, rfl, HQ, by omega, by omega, HV2⟩
      case measure => simp [intOf]; omega
    · obtain rfl : j = n := by omega
      have HF := HV.out
      rw [List.take_of_length_le (by rw [HZ.out]; omega)] at HF
      have HF := Lib.hid HF
      go_wp2
      go_end0
      exact ⟨⟨_, rfl⟩, HF.out⟩
end Go.Proofs.YtlbfibnfmijahaaGreat

namespace Go.Proofs.YtlbfibnfmijahaaGreat
open Go.RowKit Go.Shelf
set_option maxRecDepth 100000
attribute [local go_sem] Oper.semAt_some

/-- a box of another type is written to -/
theorem PenV.setBox {w4 W : World} {b g0 q j : Nat} {L : List Int} {cs : Array Value} {t : TypeId} (h : PenV w4 b g0 L W) (hq : W.heap[q]? = some (.cells cs t (0, 0))) (h1 : t ≠ 5) (h2 : t ≠ 133) (hlo : w4.heap.size ≤ q) (u : Value) : PenV w4 b g0 L (W.setCell ⟨q, j, none⟩ u) := by
  obtain ⟨g, hp, hg, ho, hk⟩ := h
  have hoff : Off (fun k => k = q) W (W.setCell ⟨q, j, none⟩ u) := Off.setCell (S := fun k => k = q) (p := ⟨q, j, none⟩) (Off.refl _ W) rfl _
  have hn : ¬ penS b g q := by
    obtain ⟨A, cap, cur, hb, hkr, -, -, hA⟩ := hp
    rintro (rfl | rfl)
    · rw [hb] at hq
      injection hq with hq
      injection hq with _ hq
      exact h2 hq.symm
    · rcases hA with ⟨-, rfl⟩ | ⟨rfl, -⟩
      · rw [hb] at hq
        injection hq with hq
        injection hq with _ hq
        exact h2 hq.symm
      · have hr := (hkr.cells rfl).2
        rw [hr] at hq
        injection hq with hq
        injection hq with _ hq
        exact h1 hq.symm
  refine ⟨g, hp.off hoff (fun e => hn (.inl e.symm)) (fun e => hn (.inr e.symm)), hg, ho.trans hoff (fun k hk e => by omega), ⟨Nat.le_trans hk.size hoff.size, fun k cs t h3 h4 h5 => ?_⟩⟩
  have h6 := hk.same k cs t h3 h4 h5
  rw [← h6]
  exact hoff.block k (Array.getElem?_eq_some_iff.1 (h6.trans h5)).1 (by have := (Array.getElem?_eq_some_iff.1 h5).1; omega)
def prevP (ps : List (Int × Int)) (j : Nat) : Int × Int := if j = 0 then (0, 0) else (ps[j - 1]?).getD (0, 0)
set_option maxHeartbeats 4000000 in
theorem wpath18_any (b g0 B : Nat) (L : List Int) (a : Option Addr) (n c : Nat) (ps : List (Int × Int)) (w : World) (h : PenAt w b g0 192 L false) (hn : Nums .i64 w B a (fl2 ps)) (hB1 : B ≤ b) (hB2 : B ≤ g0) (hz : ps.length = n) (hok : ∀ q ∈ ps, ptOk q) (h16 : n ≤ 16) (hl : L.length + (Vi.enc n ++ dlt (0, 0) ps).length ≤ 192) :
    Calls Tryz.prog 72 #[.pointer (some ⟨b, 0, none⟩), .slice a n c] w fun e w' => (∃ x, e = .returned x) ∧ PenV w b g0 (L ++ (Vi.enc n ++ dlt (0, 0) ps)) w' := by
  have hBw : B ≤ w.heap.size := Nat.le_trans hB1 (Nat.le_of_lt h.lt)
  have hl2 := hl
  rw [List.length_append] at hl2
  have K0 := num1_any (PenV.start h) (n : Int) (by omega) (by omega) (by rw [Int.toNat_natCast]; omega)
  rw [Int.toNat_natCast] at K0
  have K0 := Lib.hid K0
  have HL := Lib.hid hl2
  have HN := Lib.hid hn
  have HZ := Lib.hid hz
  have HOK := Lib.hid hok
  clear hn hz hok hl hl2 h
  go_enter Tryz.func72, Tryz.ntmps72
  go_wp2_with (go_at_call 70; refine K0.out.mono ?_; rintro e w1 ⟨rfl, hv1, -⟩; have hs1 := hv1.size; have HV1 := Lib.hid hv1; clear hv1)
  have HQ1 := Lib.hid (World.alloc_heap_new w1 (.cells #[.int .i64 0, .int .i64 0] 76))
  go_loopw [15] (fun iv wr => ∃ j : Nat, j ≤ n ∧ iv = .int .i64 (j : Int) ∧ Hid (wr.heap[w1.heap.size]? = some (.cells #[.int .i64 (prevP ps j).1, .int .i64 (prevP ps j).2] 76 (0, 0))) ∧ Hid (PenV w b g0 (L ++ (Vi.enc n ++ dlt (0, 0) (ps.take j))) wr)) (fun iv _ => n - (intOf iv).toNat)
  case atStart => exact ⟨0, by omega, rfl, HQ1, by rw [List.take_zero, dlt, List.append_nil]; exact Lib.hid (HV1.out.later ((Below.refl _ w1).alloc (Nat.le_refl _) _))⟩
  case round =>
    obtain ⟨j, hj, rfl, HQ, HV⟩ := hrel
    rcases Nat.lt_or_ge j n with hlt | hge
    · obtain ⟨q, hq⟩ : ∃ q, ps[j]? = some q := ⟨_, List.getElem?_eq_getElem (by rw [HZ.out]; exact hlt)⟩
      obtain ⟨ga, off, rfl, hga, x0, x1⟩ := pts_two (HN.out.below (HV.out.below hB1 hB2 hBw)) hq
      have hqo := HOK.out q (List.mem_of_getElem? hq)
      have hpo : ptOk (prevP ps j) := by
        unfold prevP
        split
        · exact ⟨by simp, by simp, by simp, by simp⟩
        · obtain ⟨p, hp⟩ : ∃ p, ps[j - 1]? = some p := ⟨_, List.getElem?_eq_getElem (by rw [HZ.out]; omega)⟩
          rw [hp]
          exact HOK.out p (List.mem_of_getElem? hp)
      have hdt := dlt_take ps (0, 0) q j hq
      rw [show (if j = 0 then ((0 : Int), (0 : Int)) else (ps[j - 1]?).getD (0, 0)) = prevP ps j from rfl] at hdt
      have hnx : prevP ps (j + 1) = q := by unfold prevP; rw [if_neg (by omega), Nat.add_sub_cancel, hq]; rfl
      have hdl := dlt_le ps (0, 0) (j + 1)
      rw [hdt, List.length_append] at hdl
      have hll := HL.out
      obtain ⟨⟨p1, p2⟩, hpp⟩ : ∃ p, prevP ps j = p := ⟨_, rfl⟩
      rw [hpp] at hdt hpo hdl HQ
      obtain ⟨q1, q2⟩ := q
      obtain ⟨a1, a2, a3, a4⟩ := hqo
      obtain ⟨b1, b2, b3, b4⟩ := hpo
      simp only at a1 a2 a3 a4 b1 b2 b3 b4 hdt hdl x0 x1 HQ
      have hlr := (Array.getElem?_eq_some_iff.1 HQ.out).1
      have hb6 : Below wr.heap.size wr (wr.alloc (.cells #[.int .i64 q1, .int .i64 q2] 76)) := (Below.refl _ wr).alloc (Nat.le_refl _) _
      obtain ⟨w6, hw6⟩ : ∃ w6, wr.alloc (.cells #[.int .i64 q1, .int .i64 q2] 76) = w6 := ⟨_, rfl⟩
      rw [hw6] at hb6
      have hs6 : w6.heap.size = wr.heap.size + 1 := by rw [← hw6]; simp
      have r6 : w6.heap[wr.heap.size]? = some (.cells #[.int .i64 q1, .int .i64 q2] 76 (0, 0)) := by rw [← hw6]; exact World.alloc_heap_new _ _
      have r4 : w6.heap[w1.heap.size]? = some (.cells #[.int .i64 p1, .int .i64 p2] 76 (0, 0)) := (hb6.block _ hlr).trans HQ.out
      have K1 := sig2_any (HV.out.later hb6) (q1 - p1) (q2 - p2) (by omega) (by omega) (by omega) (by omega) (by rw [List.length_append, List.length_append]; omega)
      rw [List.append_assoc, List.append_assoc, ← hdt, hs6] at K1
      have K1 := Lib.hid K1
      have HR6 := Lib.hid r6
      have HR4 := Lib.hid r4
      have HNX := Lib.hid hnx
      have HW6 := Lib.hid hw6
      have y0 := row_cell HQ.out 0 _ rfl
      have y1 := row_cell HQ.out 1 _ rfl
      clear hdt hdl hll HV hq hnx hw6 r6 r4 hb6 hpp HQ
      go_wp2_with fail
      rw [HW6.out]
      refine K1.out.mono ?_
      rintro e w2 ⟨rfl, hv2, hk2⟩
      have r6 := hk2.row HR6.out (by decide) (by decide)
      have r4 := hk2.row HR4.out (by decide) (by decide)
      have z0 := row_cell r6 0 _ rfl
      have z1 := row_cell r6 1 _ rfl
      have o0 := row_cell r4 0 _ rfl
      have o1 := row_cell r4 1 _ rfl
      have f0 := frozen_of_row w2 w1.heap.size 0 _ _ r4
      have f1 := frozen_of_row w2 w1.heap.size 1 _ _ r4
      have r5 := setCell_at (j := 0) (u := .int .i64 q1) r4
      have r5' := setCell_at (j := 1) (u := .int .i64 q2) r5
      have hv3 := (hv2.setBox (j := 0) r4 (by decide) (by decide) hs1 (.int .i64 q1)).setBox (j := 1) r5 (by decide) (by decide) hs1 (.int .i64 q2)
      have HV3 := Lib.hid hv3
      have HR5 : Hid (((w2.setCell ⟨w1.heap.size, 0, none⟩ (.int .i64 q1)).setCell ⟨w1.heap.size, 1, none⟩ (.int .i64 q2)).heap[w1.heap.size]? = some (.cells #[.int .i64 (prevP ps (j + 1)).1, .int .i64 (prevP ps (j + 1)).2] 76 (0, 0))) := by
        show _ = _
        rw [r5', HNX.out]
        rfl
      clear hv2 hk2 r6 r4 r5 r5' hv3 y0 y1 x0 x1 K1
      go_wp2_with fail
      go_roundw
      case rel => exact ⟨j + 1, by omega, by go_num, HR5, HV3⟩
      case measure => simp [intOf]; omega
    · obtain rfl : j = n := by omega
      have HF := HV.out
      rw [List.take_of_length_le (by rw [HZ.out]; omega)] at HF
      have HF := Lib.hid HF
      go_wp2
      go_end0
      exact ⟨⟨_, rfl⟩, HF.out⟩
end Go.Proofs.YtlbfibnfmijahaaGreat

namespace Go.Proofs.YtlbfibnfmijahaaGreat
open Go.RowKit Go.Shelf
set_option maxRecDepth 100000
attribute [local go_sem] Oper.semAt_some

theorem bytesWorld_below (w : World) (e : TypeId) (s : ByteArray) : Below w.heap.size w (Lib.bytesWorld w e s) := ⟨rfl, rfl, rfl, by rw [Lib.bytesWorld_size]; omega, fun j hj => Lib.bytesWorld_at_old w e s j hj⟩
theorem bts_cells (w : World) (e : TypeId) (s : ByteArray) : Nums .u8 (Lib.bytesWorld w e s) (Lib.bytesWorld w e s).heap.size (some ⟨w.heap.size, 0, none⟩) (bts s) := fun _ => by
  refine ⟨_, _, rfl, by rw [Lib.bytesWorld_size]; omega, fun j c hj => ?_⟩
  have hlt : j < s.size := by rw [← bts_len]; exact (List.getElem?_eq_some_iff.1 hj).1
  rw [Nat.zero_add, Lib.bytesWorld_cell w e s j hlt]
  unfold bts at hj
  rw [List.getElem?_map] at hj
  have hlt2 : j < s.data.toList.length := by rw [Array.length_toList]; exact hlt
  rw [List.getElem?_eq_getElem hlt2] at hj
  simp only [Option.map_some, Option.some.injEq] at hj
  rw [List.getD, List.getElem?_eq_getElem hlt2, ← hj]
  rfl
theorem bts_frozen (w : World) (e : TypeId) (s : ByteArray) : ∀ q, blockOf (some (⟨w.heap.size, 0, none⟩ : Addr)) q → ∀ t cs, (Lib.bytesWorld w e s).heap[q]? ≠ some (.cells cs t (0, 0)) := by
  rintro q ⟨o, s', hq⟩ t cs h
  injection hq with hq
  injection hq with hq
  subst hq
  rw [Lib.bytesWorld_at_new] at h
  injection h with h
  injection h with _ _ h
  injection h with _ h
  omega
set_option maxHeartbeats 8000000 in
theorem bwrite_any (M : Mg) (f : Fd) (P C : Value) (b g0 B : Nat) (L : List Int) (w : World) (h : PenAt w b g0 192 L false) (h1 : MAt w B M P C) (hB1 : B ≤ b) (hB2 : B ≤ g0) (hf : FdX f) (he : fE M f = 0) (hl : L.length + (mpart M f).length ≤ 192) :
    Calls Tryz.prog 55 #[.pointer (some ⟨b, 0, none⟩), mV M P C, f.v] w fun e w' => (∃ x, e = .returned x) ∧ PenV w b g0 (L ++ mpart M f) w' := by
  have hBw : B ≤ w.heap.size := Nat.le_trans hB1 (Nat.le_of_lt h.lt)
  obtain ⟨w2, hw2⟩ : ∃ w2, (w.alloc (.cells (mC M P C) 26)).alloc (.cells f.cs 87) = w2 := ⟨_, rfl⟩
  have hb2 : Below w.heap.size w w2 := by rw [← hw2]; exact ((Below.refl _ w).alloc (Nat.le_refl _) _).alloc (by simp) _
  have hs2 : w2.heap.size = w.heap.size + 2 := by rw [← hw2]; simp
  have q0 : w2.heap[w.heap.size]? = some (.cells (mC M P C) 26 (0, 0)) := by rw [← hw2, Below.heap_alloc _ _ _ (by simp)]; exact World.alloc_heap_new _ _
  have q1 : w2.heap[w.heap.size + 1]? = some (.cells f.cs 87 (0, 0)) := by
    have := World.alloc_heap_new (w.alloc (.cells (mC M P C) 26)) (.cells f.cs 87)
    rw [World.size_alloc] at this
    rw [← hw2]; exact this
  have hp2 := h.below hb2
  obtain ⟨⟨pa, pc, rfl, p1, p2⟩, ⟨ca, cc, rfl, c1, c2⟩⟩ := h1.below (hb2.mono hBw)
  obtain ⟨d0, d1, d2, -, -, -, -⟩ := fd_block q1
  obtain ⟨m0, m1, m2, m3, m4, m5, m6, m7, m8, m9, m10⟩ := mg_block q0
  have HW2 := Lib.hid hw2
  have HB2 := Lib.hid hb2
  have HS2 := Lib.hid hs2
  have hso := so_ways hf
  by_cases hnum : f.so = 1 ∨ f.so = 2
  · obtain ⟨jj, hj6, hjj⟩ := hf.pl (by omega)
    have htn : f.pl.toNat = jj := by rw [hjj]; exact Int.toNat_natCast _
    rw [hjj] at d2
    have k1 := mg_at q0 hj6
    have hz6 : (jj : Int) < 6 := by omega
    have hle := hf.le
    have hwn : wN (M.at' jj) f.le f.mo = 0 := by
      unfold fE at he
      rw [htn] at he
      rcases hnum with e | e <;> simpa [e] using he
    have hb := wN_zero hwn
    obtain ⟨x, hx⟩ : ∃ x, M.at' jj = x := ⟨_, rfl⟩
    rw [hx] at k1 hb
    rcases hnum with e | e
    · have h0 := hf.one e
      have hpt : mpart M f = Vi.enc x.toNat := by unfold mpart; simp [e, htn, hx]
      have xx : 0 ≤ x := by omega
      have x0 : -1000000 ≤ x := by omega
      have x1 : x ≤ 1000000 := by omega
      rw [hpt] at hl ⊢
      have K := num1_any (PenV.start hp2) x (by omega) (by omega) hl
      rw [hs2] at K
      have K := Lib.hid K
      rw [e] at d1
      rw [← hw2] at d1 d2 k1
      clear hw2 hb2 q0 q1 d0 htn hx hwn hle hpt hjj he hf h hp2 h1 hB1 hB2 hBw m0 m1 m2 m3 m4 m5 m6 m7 m8 m9 m10 p1 p2 c1 c2 hs2 hso hl
      unfold mV Fd.v
      go_enter Tryz.func55, Tryz.ntmps55
      go_wp2_with fail
      rw [HW2.out]
      refine K.out.mono ?_
      rintro e w3 ⟨rfl, hv3, -⟩
      have HF := Lib.hid (hv3.since HB2.out)
      clear hv3 d1 d2 k1
      go_wp2
      go_end0
      exact ⟨⟨_, rfl⟩, HF.out⟩
    · have hpt : mpart M f = Vi.enc (zg x) := by unfold mpart; simp [e, htn, hx]
      have x0 : -1000000 ≤ x := by omega
      have x1 : x ≤ 1000000 := by omega
      rw [hpt] at hl ⊢
      have K := sig1_any (PenV.start hp2) x (by omega) (by omega) hl
      rw [hs2] at K
      have K := Lib.hid K
      rw [e] at d1
      rw [← hw2] at d1 d2 k1
      clear hw2 hb2 q0 q1 d0 htn hx hwn hle hpt hjj he hf h hp2 h1 hB1 hB2 hBw m0 m1 m2 m3 m4 m5 m6 m7 m8 m9 m10 p1 p2 c1 c2 hs2 hso hl
      unfold mV Fd.v
      go_enter Tryz.func55, Tryz.ntmps55
      go_wp2_with fail
      rw [HW2.out]
      refine K.out.mono ?_
      rintro e w3 ⟨rfl, hv3, -⟩
      have HF := Lib.hid (hv3.since HB2.out)
      clear hv3 d1 d2 k1
      go_wp2
      go_end0
      exact ⟨⟨_, rfl⟩, HF.out⟩
  by_cases h3 : f.so = 3
  · have e := h3
    have hx : fE M f = wP M.p f.mo := by unfold fE; simp [e]
    rw [hx] at he
    obtain ⟨r1, r2, r3⟩ := wP_zero he
    have hmo := hf.mo.1 e
    have hpt : mpart M f = Vi.enc M.p.length ++ dlt (0, 0) M.p := by unfold mpart; simp [e]
    rw [hpt] at hl ⊢
    have K := wpath18_any b g0 B L pa M.p.length pc M.p w2 hp2 p2 hB1 hB2 rfl r3 (by omega) hl
    have K := Lib.hid K
    rw [e] at d1
    rw [← hw2] at d1 m7
    have hDC := Lib.hid m7
    clear hw2 hb2 q0 q1 d0 d2 hpt he hf h hp2 h1 hB1 hB2 hBw m0 m1 m2 m3 m4 m5 m6 m9 m10 p1 p2 c1 c2 hs2 hso hl hnum m8
    unfold mV Fd.v
    go_enter Tryz.func55, Tryz.ntmps55
    go_wp2_with fail
    rw [HW2.out]
    refine K.out.mono ?_
    rintro e w3 ⟨⟨x, rfl⟩, hv3⟩
    have HF := Lib.hid (hv3.since HB2.out)
    clear hv3 d1 m7
    go_wp2
    go_end0
    exact ⟨⟨_, rfl⟩, HF.out⟩
  by_cases h4 : f.so = 4
  · have e := h4
    have hx : fE M f = wC M.c f.mo := by unfold fE; simp [e]
    rw [hx] at he
    obtain ⟨r1, r2, r3⟩ := wC_zero he
    have hmo := hf.mo.2.1 e
    have hpt : mpart M f = Vi.enc M.c.length ++ gaps (-1) M.c := by unfold mpart; simp [e]
    rw [hpt] at hl ⊢
    have K := wcells18_any b g0 B L ca M.c.length cc M.c w2 hp2 c2 hB1 hB2 rfl r3 (by omega) hl
    have K := Lib.hid K
    rw [e] at d1
    rw [← hw2] at d1 m8
    have hDC := Lib.hid m8
    clear hw2 hb2 q0 q1 d0 d2 hpt he hf h hp2 h1 hB1 hB2 hBw m0 m1 m2 m3 m4 m5 m6 m9 m10 p1 p2 c1 c2 hs2 hso hl hnum m7
    unfold mV Fd.v
    go_enter Tryz.func55, Tryz.ntmps55
    go_wp2_with fail
    rw [HW2.out]
    refine K.out.mono ?_
    rintro e w3 ⟨⟨x, rfl⟩, hv3⟩
    have HF := Lib.hid (hv3.since HB2.out)
    clear hv3 d1 m8
    go_wp2
    go_end0
    exact ⟨⟨_, rfl⟩, HF.out⟩
  by_cases h5 : f.so = 5
  · have e := h5
    have hx : fE M f = wT M.tx f.mo := by unfold fE; simp [e]
    rw [hx] at he
    obtain ⟨r1, r2⟩ := wT_zero he
    have hpt : mpart M f = Vi.enc M.tx.size ++ bts M.tx := by unfold mpart; simp [e]
    rw [hpt] at hl ⊢
    obtain ⟨s, hs⟩ : ∃ s, M.tx = s := ⟨_, rfl⟩
    rw [hs] at hl r1 m9 ⊢
    have hlb := bts_len s
    have HCV := fun W => Lib.run_convert_string_bytes (P := Tryz.prog) W 9 49 5 s Tryz.underlying9 Tryz.underlying49 Tryz.underlying5
    have hbw := bytesWorld_below w2 5 s
    have K := fld1_any ((PenV.start hp2).later hbw) (some ⟨w2.heap.size, 0, none⟩) s.size (grownCap w2 s.size 0 5) (bts s) hlb (bts_cells w2 5 s) (fun _ => bts_frozen w2 5 s) hl
    rw [hs2] at K
    have K := Lib.hid K
    rw [e] at d1
    rw [← hw2] at d1 m9
    clear hw2 hb2 q0 q1 d0 d2 hpt he hf h hp2 h1 hB1 hB2 hBw m0 m1 m2 m3 m4 m5 m6 m10 m7 m8 p1 p2 c1 c2 hs2 hso hl hnum hs r1 r2 hlb hbw
    unfold mV Fd.v
    go_enter Tryz.func55, Tryz.ntmps55
    go_wp2_with fail
    rw [HW2.out]
    refine K.out.mono ?_
    rintro e w3 ⟨rfl, hv3, -⟩
    have HF := Lib.hid (hv3.since HB2.out)
    clear hv3 d1 m9 HCV
    go_wp2
    go_end0
    exact ⟨⟨_, rfl⟩, HF.out⟩
  · have e : f.so = 6 := by omega
    have hx : fE M f = wT M.tg f.mo := by unfold fE; simp [e]
    rw [hx] at he
    obtain ⟨r1, r2⟩ := wT_zero he
    have hpt : mpart M f = Vi.enc M.tg.size ++ bts M.tg := by unfold mpart; simp [e]
    rw [hpt] at hl ⊢
    obtain ⟨s, hs⟩ : ∃ s, M.tg = s := ⟨_, rfl⟩
    rw [hs] at hl r1 m10 ⊢
    have hlb := bts_len s
    have HCV := fun W => Lib.run_convert_string_bytes (P := Tryz.prog) W 9 49 5 s Tryz.underlying9 Tryz.underlying49 Tryz.underlying5
    have hbw := bytesWorld_below w2 5 s
    have K := fld1_any ((PenV.start hp2).later hbw) (some ⟨w2.heap.size, 0, none⟩) s.size (grownCap w2 s.size 0 5) (bts s) hlb (bts_cells w2 5 s) (fun _ => bts_frozen w2 5 s) hl
    rw [hs2] at K
    have K := Lib.hid K
    rw [e] at d1
    rw [← hw2] at d1 m10
    clear hw2 hb2 q0 q1 d0 d2 hpt he hf h hp2 h1 hB1 hB2 hBw m0 m1 m2 m3 m4 m5 m6 m9 m7 m8 p1 p2 c1 c2 hs2 hso hl hnum hs r1 r2 hlb hbw
    unfold mV Fd.v
    go_enter Tryz.func55, Tryz.ntmps55
    go_wp2_with fail
    rw [HW2.out]
    refine K.out.mono ?_
    rintro e w3 ⟨rfl, hv3, -⟩
    have HF := Lib.hid (hv3.since HB2.out)
    clear hv3 d1 m10 HCV
    go_wp2
    go_end0
    exact ⟨⟨_, rfl⟩, HF.out⟩
end Go.Proofs.YtlbfibnfmijahaaGreat

namespace Go.Proofs.YtlbfibnfmijahaaGreat
open Go.RowKit Go.Shelf
set_option maxRecDepth 100000
attribute [local go_sem] Oper.semAt_some

theorem strCells_bts (s : ByteArray) : Lib.strCells s = (bts s).map (Value.int .u8) := by
  unfold Lib.strCells bts
  rw [List.map_map]
  rfl
set_option maxHeartbeats 8000000 in
theorem rpart_text (M : Mg) (f : Fd) (P C : Value) (w : World) (hf : FdX f) (e : f.so = 5) (he : fE M f = 0) : Calls Tryz.prog 37 #[mV M P C, f.v] w fun e w' => ∃ v, e = .returned v ∧ Made w w' (mpart M f) v := by
  obtain ⟨i0, hi, hz0, hz1, hz2⟩ := info_parts byteInfo
  obtain ⟨w2, hw2⟩ : ∃ w2, (w.alloc (.cells (mC M P C) 38)).alloc (.cells f.cs 81) = w2 := ⟨_, rfl⟩
  have hb2 : Below w.heap.size w w2 := by rw [← hw2]; exact ((Below.refl _ w).alloc (Nat.le_refl _) _).alloc (by simp) _
  have q0 : w2.heap[w.heap.size]? = some (.cells (mC M P C) 38 (0, 0)) := by rw [← hw2, Below.heap_alloc _ _ _ (by simp)]; exact World.alloc_heap_new _ _
  have q1 : w2.heap[w.heap.size + 1]? = some (.cells f.cs 81 (0, 0)) := by
    have := World.alloc_heap_new (w.alloc (.cells (mC M P C) 38)) (.cells f.cs 81)
    rw [World.size_alloc] at this
    rw [← hw2]; exact this
  obtain ⟨-, d1, -, -, -, -, -⟩ := fd_block q1
  rw [e] at d1
  have hx : fE M f = wT M.tx f.mo := by unfold fE; simp [e]
  rw [hx] at he
  obtain ⟨p1, p2⟩ := wT_zero he
  have hm64 := hf.mo.2.2.1 e
  have hpt : mpart M f = Vi.enc M.tx.size ++ bts M.tx := by unfold mpart; simp [e]
  rw [hpt]
  have c7 := row_cell q0 9 (.string M.tx) rfl
  obtain ⟨X0, hX0⟩ : ∃ X0, mC M P C = X0 := ⟨_, rfl⟩
  obtain ⟨s, hs⟩ : ∃ s, M.tx = s := ⟨_, rfl⟩
  rw [hs] at c7 p1 ⊢
  have hs64 : s.size ≤ 64 := by omega
  obtain ⟨zx, hzx⟩ : ∃ zx, Vi.enc s.size = zx := ⟨_, rfl⟩
  have hlx : zx.length ≤ 10 := by rw [← hzx]; exact Vi.enc_le10 (by omega)
  have KX : Hid (∀ W, Below w2.heap.size w2 W → Calls Tryz.prog 57 #[.int .i64 (s.size : Int)] W fun e w' => ∃ v, e = .returned v ∧ w'.ownsRow w2.heap.size 5 1 v zx.length (zx.map (Value.int .u8)) ∧ Below W.heap.size W w') := Lib.hid fun W hW => by
    refine (rplain_any (s.size : Int) W (by omega) (by omega)).mono fun e w' h => ?_
    obtain ⟨v, h1, h2⟩ := h
    rw [Int.toNat_natCast, hzx] at h2
    exact ⟨v, h1, (h2.since (w0 := w2) (by exact ⟨hW.os, hW.tape, hW.output, hW.size, hW.block⟩)).1, h2.2⟩
  have hwl : w.heap.size < w2.heap.size := (Array.getElem?_eq_some_iff.1 q0).1
  have L7 : ∀ W, Below w2.heap.size w2 W → (Instr.loadAt 9 (.pointer (some ⟨w.heap.size, 9, none⟩))).run Tryz.prog W = .ok (.string s) W := fun W hW => by
    have k1 := (hW.cell (p := ⟨w.heap.size, 9, none⟩) hwl).trans c7
    simp [Instr.loadAt, go_sem, k1]
  have HW2 := Lib.hid hw2
  have HB2 := Lib.hid hb2
  have HZX := Lib.hid hzx
  rw [hX0] at HW2
  rw [← hw2, hX0] at d1
  unfold mV Fd.v
  rw [hX0]
  clear hX0 hw2 hb2 q0 q1 hx he p1 p2 hm64 hpt c7 hs hzx e hf
  go_enter Tryz.func37, Tryz.ntmps37
  go_wp2_with fail
  rw [HW2.out]
  refine wp_region_FT 137 6 [123] (fun _ x W => W.ownsRow w2.heap.size 5 1 x zx.length (zx.map (Value.int .u8))) (fun W => Below w2.heap.size w2 W) (by kernel_rfl) (by kernel_rfl) (by rfl) (by kernel_rfl) (by kernel_rfl) (by kernel_rfl) (by rfl) (by simp) (fun W W' h hb => h.trans (hb.mono h.size)) (fun _ x W W' h hb => own_below7 h hb) (Below.refl _ _).drew ?_
  simp only [List.take_succ_cons, List.take_zero, List.drop_succ_cons, List.drop_zero]
  repeat (refine wpF_pure rfl rfl ?_; go_big_quiet_step (fail); refine wpQuiet_nil ?_)
  refine wpF_load (ad := ⟨w.heap.size, 9, none⟩) (.string s) rfl (by rfl) (by rfl) (by rfl) L7 ?_
  simp only [Act.put, List.setIfInBounds_toArray, List.set_cons_succ, List.set_cons_zero]
  repeat (refine wpF_pure rfl rfl ?_; go_big_quiet_step (fail); refine wpQuiet_nil ?_)
  refine wpF_callsrc 123 (f := 57) (args := #[.int .i64 (s.size : Int)]) (by simp) rfl rfl rfl (fun x => by first | rfl | (simp [go_sem]; done)) (fun W hW => KX.out W hW) ?_
  simp only [Act.put, List.setIfInBounds_toArray, List.set_cons_succ, List.set_cons_zero]
  repeat (refine wpF_pure rfl rfl ?_; go_big_quiet_step (fail); refine wpQuiet_nil ?_)
  refine wpF_load (ad := ⟨w.heap.size, 9, none⟩) (.string s) rfl (by rfl) (by rfl) (by rfl) L7 ?_
  simp only [Act.put, List.setIfInBounds_toArray, List.set_cons_succ, List.set_cons_zero]
  intro xs w4 hb4 hxs
  have hx1 := hxs 123 (by simp)
  simp only [fill]
  generalize xs 123 = xv at *
  simp only [Act.put, List.setIfInBounds_toArray, List.set_cons_succ, List.set_cons_zero]
  have HM4 := Lib.hid hx1
  have hb4s := hb4.size
  have HB4 := Lib.hid hb4
  have HX1 : Hid (zx.length + s.size ≤ maxLen) := by show _ ≤ _; unfold maxLen; omega
  have HX2 : Hid (zx.length + s.size ≤ 140737488355328) := by show _ ≤ _; omega
  clear hx1 hxs hb4 KX L7 d1
  refine Lib.wpList_append_own_string _ rfl (.tmp 123) (.tmp 125) 49 9 rfl w2.heap.size 5 i0 Tryz.underlying49 Tryz.underlying9 hi hz0 hz1 hz2 _ _ _ rfl HM4.out s rfl HX1.out HX2.out hb4s ?_
  intro v7 w7 hown hgr _
  have hm7 := Made.more (w := w2) (zs := bts s) (v' := v7) ⟨HM4.out, HB4.out⟩ (by rw [bts_len, ← strCells_bts]; exact hown) hgr
  have HF := Lib.hid (hm7.since HB2.out)
  clear hm7 hown hgr HX1 HX2 HM4 HB4 hb4s
  simp only [Act.put]
  go_wp2
  go_ret
  rw [HZX.out]
  exact ⟨_, rfl, HF.out⟩
set_option maxHeartbeats 8000000 in
theorem rpart_tag (M : Mg) (f : Fd) (P C : Value) (w : World) (hf : FdX f) (e : f.so = 6) (he : fE M f = 0) : Calls Tryz.prog 37 #[mV M P C, f.v] w fun e w' => ∃ v, e = .returned v ∧ Made w w' (mpart M f) v := by
  obtain ⟨i0, hi, hz0, hz1, hz2⟩ := info_parts byteInfo
  obtain ⟨w2, hw2⟩ : ∃ w2, (w.alloc (.cells (mC M P C) 38)).alloc (.cells f.cs 81) = w2 := ⟨_, rfl⟩
  have hb2 : Below w.heap.size w w2 := by rw [← hw2]; exact ((Below.refl _ w).alloc (Nat.le_refl _) _).alloc (by simp) _
  have q0 : w2.heap[w.heap.size]? = some (.cells (mC M P C) 38 (0, 0)) := by rw [← hw2, Below.heap_alloc _ _ _ (by simp)]; exact World.alloc_heap_new _ _
  have q1 : w2.heap[w.heap.size + 1]? = some (.cells f.cs 81 (0, 0)) := by
    have := World.alloc_heap_new (w.alloc (.cells (mC M P C) 38)) (.cells f.cs 81)
    rw [World.size_alloc] at this
    rw [← hw2]; exact this
  obtain ⟨-, d1, -, -, -, -, -⟩ := fd_block q1
  rw [e] at d1
  have hx : fE M f = wT M.tg f.mo := by unfold fE; simp [e]
  rw [hx] at he
  obtain ⟨p1, p2⟩ := wT_zero he
  have hm64 := hf.mo.2.2.2 e
  have hpt : mpart M f = Vi.enc M.tg.size ++ bts M.tg := by unfold mpart; simp [e]
  rw [hpt]
  have c7 := row_cell q0 10 (.string M.tg) rfl
  obtain ⟨X0, hX0⟩ : ∃ X0, mC M P C = X0 := ⟨_, rfl⟩
  obtain ⟨s, hs⟩ : ∃ s, M.tg = s := ⟨_, rfl⟩
  rw [hs] at c7 p1 ⊢
  have hs64 : s.size ≤ 64 := by omega
  obtain ⟨zx, hzx⟩ : ∃ zx, Vi.enc s.size = zx := ⟨_, rfl⟩
  have hlx : zx.length ≤ 10 := by rw [← hzx]; exact Vi.enc_le10 (by omega)
  have KX : Hid (∀ W, Below w2.heap.size w2 W → Calls Tryz.prog 57 #[.int .i64 (s.size : Int)] W fun e w' => ∃ v, e = .returned v ∧ w'.ownsRow w2.heap.size 5 1 v zx.length (zx.map (Value.int .u8)) ∧ Below W.heap.size W w') := Lib.hid fun W hW => by
    refine (rplain_any (s.size : Int) W (by omega) (by omega)).mono fun e w' h => ?_
    obtain ⟨v, h1, h2⟩ := h
    rw [Int.toNat_natCast, hzx] at h2
    exact ⟨v, h1, (h2.since (w0 := w2) (by exact ⟨hW.os, hW.tape, hW.output, hW.size, hW.block⟩)).1, h2.2⟩
  have hwl : w.heap.size < w2.heap.size := (Array.getElem?_eq_some_iff.1 q0).1
  have L7 : ∀ W, Below w2.heap.size w2 W → (Instr.loadAt 9 (.pointer (some ⟨w.heap.size, 10, none⟩))).run Tryz.prog W = .ok (.string s) W := fun W hW => by
    have k1 := (hW.cell (p := ⟨w.heap.size, 10, none⟩) hwl).trans c7
    simp [Instr.loadAt, go_sem, k1]
  have HW2 := Lib.hid hw2
  have HB2 := Lib.hid hb2
  have HZX := Lib.hid hzx
  rw [hX0] at HW2
  rw [← hw2, hX0] at d1
  unfold mV Fd.v
  rw [hX0]
  clear hX0 hw2 hb2 q0 q1 hx he p1 p2 hm64 hpt c7 hs hzx e hf
  go_enter Tryz.func37, Tryz.ntmps37
  go_wp2_with fail
  rw [HW2.out]
  refine wp_region_FT 137 6 [132] (fun _ x W => W.ownsRow w2.heap.size 5 1 x zx.length (zx.map (Value.int .u8))) (fun W => Below w2.heap.size w2 W) (by kernel_rfl) (by kernel_rfl) (by rfl) (by kernel_rfl) (by kernel_rfl) (by kernel_rfl) (by rfl) (by simp) (fun W W' h hb => h.trans (hb.mono h.size)) (fun _ x W W' h hb => own_below7 h hb) (Below.refl _ _).drew ?_
  simp only [List.take_succ_cons, List.take_zero, List.drop_succ_cons, List.drop_zero]
  repeat (refine wpF_pure rfl rfl ?_; go_big_quiet_step (fail); refine wpQuiet_nil ?_)
  refine wpF_load (ad := ⟨w.heap.size, 10, none⟩) (.string s) rfl (by rfl) (by rfl) (by rfl) L7 ?_
  simp only [Act.put, List.setIfInBounds_toArray, List.set_cons_succ, List.set_cons_zero]
  repeat (refine wpF_pure rfl rfl ?_; go_big_quiet_step (fail); refine wpQuiet_nil ?_)
  refine wpF_callsrc 132 (f := 57) (args := #[.int .i64 (s.size : Int)]) (by simp) rfl rfl rfl (fun x => by first | rfl | (simp [go_sem]; done)) (fun W hW => KX.out W hW) ?_
  simp only [Act.put, List.setIfInBounds_toArray, List.set_cons_succ, List.set_cons_zero]
  repeat (refine wpF_pure rfl rfl ?_; go_big_quiet_step (fail); refine wpQuiet_nil ?_)
  refine wpF_load (ad := ⟨w.heap.size, 10, none⟩) (.string s) rfl (by rfl) (by rfl) (by rfl) L7 ?_
  simp only [Act.put, List.setIfInBounds_toArray, List.set_cons_succ, List.set_cons_zero]
  intro xs w4 hb4 hxs
  have hx1 := hxs 132 (by simp)
  simp only [fill]
  generalize xs 132 = xv at *
  simp only [Act.put, List.setIfInBounds_toArray, List.set_cons_succ, List.set_cons_zero]
  have HM4 := Lib.hid hx1
  have hb4s := hb4.size
  have HB4 := Lib.hid hb4
  have HX1 : Hid (zx.length + s.size ≤ maxLen) := by show _ ≤ _; unfold maxLen; omega
  have HX2 : Hid (zx.length + s.size ≤ 140737488355328) := by show _ ≤ _; omega
  clear hx1 hxs hb4 KX L7 d1
  refine Lib.wpList_append_own_string _ rfl (.tmp 132) (.tmp 134) 49 9 rfl w2.heap.size 5 i0 Tryz.underlying49 Tryz.underlying9 hi hz0 hz1 hz2 _ _ _ rfl HM4.out s rfl HX1.out HX2.out hb4s ?_
  intro v7 w7 hown hgr _
  have hm7 := Made.more (w := w2) (zs := bts s) (v' := v7) ⟨HM4.out, HB4.out⟩ (by rw [bts_len, ← strCells_bts]; exact hown) hgr
  have HF := Lib.hid (hm7.since HB2.out)
  clear hm7 hown hgr HX1 HX2 HM4 HB4 hb4s
  simp only [Act.put]
  go_wp2
  go_ret
  rw [HZX.out]
  exact ⟨_, rfl, HF.out⟩
/-- a field's bytes -/
theorem rpart_any (M : Mg) (f : Fd) (P C : Value) (w : World) (h1 : MAt w w.heap.size M P C) (hf : FdX f) (he : fE M f = 0) : Calls Tryz.prog 37 #[mV M P C, f.v] w fun e w' => ∃ v, e = .returned v ∧ Made w w' (mpart M f) v := by
  rcases so_ways hf with e | e | e | e | e | e
  · exact rpart_num M f P C w hf (.inl e) he
  · exact rpart_num M f P C w hf (.inr e) he
  · exact rpart_path M f P C w h1 hf e he
  · exact rpart_cells M f P C w h1 hf e he
  · exact rpart_text M f P C w hf e he
  · exact rpart_tag M f P C w hf e he
end Go.Proofs.YtlbfibnfmijahaaGreat

namespace Go.Proofs.YtlbfibnfmijahaaGreat
open Go.RowKit Go.Shelf
set_option maxRecDepth 100000
attribute [local go_sem] Oper.semAt_some

set_option maxHeartbeats 2000000 in
theorem rtext_any (s : ByteArray) (mo : Int) (hs : s.size ≤ maxLen) (w : World) : Calls Tryz.prog 50 #[.string s, .int .i64 mo] w fun e w' => e = .returned (.int .i64 (wT s mo)) ∧ w = w' := by
  obtain ⟨n, hn⟩ : ∃ n, s.size = n := ⟨_, rfl⟩
  have hl : n ≤ 9223372036854775807 := by unfold maxLen at hs; omega
  clear hs
  by_cases h1 : mo < (n : Int)
  · rw [show wT s mo = 6 by unfold wT; rw [hn]; exact if_pos h1]
    go_enter Tryz.func50, Tryz.ntmps50
    go_wp2
    go_ret
    exact ⟨rfl, rfl⟩
  · obtain ⟨R, hR⟩ : ∃ R, wT s mo = R := ⟨_, rfl⟩
    rw [hR]
    have HR := Lib.hid hR
    clear hR
    go_enter Tryz.func50, Tryz.ntmps50
    go_wp2
    go_loopw [5] (fun iv wr => ∃ j : Nat, j ≤ n ∧ iv = .int .i64 (j : Int) ∧ Hid (∀ b ∈ s.data.toList.take j, byOk b) ∧ wr = w) (fun iv _ => n - (intOf iv).toNat)
    case atStart => exact ⟨0, by omega, rfl, Lib.hid (by simp), rfl⟩
    case round =>
      obtain ⟨j, hj, rfl, HB, rfl⟩ := hrel
      rcases Nat.lt_or_ge j n with hlt | hge
      · have hg : s.data.toList[j]? = some (s[j]'(by omega)) := byte_at s j (by omega)
        by_cases hb : byOk (s[j]'(by omega))
        · have HB2 : Hid (∀ b ∈ s.data.toList.take (j + 1), byOk b) := Lib.hid (fun b hb2 => by
            rw [List.take_add_one, hg, List.mem_append] at hb2
            rcases hb2 with hb2 | hb2
            · exact HB.out b hb2
            · simp at hb2; subst hb2; exact hb)
          unfold byOk at hb
          clear hg
          go_wp2
          exact ⟨⟨j + 1, by omega, by go_num, HB2, trivial⟩, by simp only [intOf]; omega⟩
        · obtain rfl : R = 19 := by
            rw [← HR.out]
            unfold wT
            rw [hn, if_neg (by omega), if_neg (fun h => hb (h _ (List.mem_of_getElem? hg)))]
          unfold byOk at hb
          clear hg
          go_wp2
          all_goals
            go_ret
            exact ⟨rfl, rfl⟩
      · obtain rfl : j = n := by omega
        obtain rfl : R = 0 := by
          rw [← HR.out]
          unfold wT
          rw [hn, if_neg (by omega), if_pos]
          have h2 := HB.out
          rwa [List.take_of_length_le (by show s.data.toList.length ≤ j; rw [Array.length_toList]; exact Nat.le_of_eq hn)] at h2
        go_wp2
        go_ret
        exact ⟨rfl, rfl⟩

set_option maxHeartbeats 4000000 in
theorem rpath_any (A : Option Addr) (n cp : Nat) (l : List (Int × Int)) (w : World) (hn : l.length = n) (hcp : n ≤ cp) (hA : Nums .i64 w w.heap.size A (fl2 l)) :
    Calls Tryz.prog 48 #[.slice A n cp] w fun e w' => e = .returned (.int .i64 (wP l 16)) ∧ w = w' := by
  obtain ⟨R, hR⟩ : ∃ R, wP l 16 = R := ⟨_, rfl⟩
  rw [hR]
  unfold wP wS at hR
  rw [hn] at hR
  have HN := Lib.hid hn
  have HA := Lib.hid hA
  clear hn hA
  by_cases h0 : n = 0
  · subst h0
    obtain rfl : R = 13 := by rw [← hR]; rfl
    clear hR
    go_enter Tryz.func48, Tryz.ntmps48
    go_wp2
    go_ret
    exact ⟨rfl, rfl⟩
  · have hz : ¬ (n : Int) = 0 := by omega
    have hz2 : ((n : Int) == 0) = false := by simpa using h0
    rw [if_neg hz] at hR
    by_cases h16 : 16 < (n : Int)
    · rw [if_pos h16, if_pos (by omega)] at hR
      subst hR
      go_enter Tryz.func48, Tryz.ntmps48
      go_wp2
      go_ret
      exact ⟨rfl, rfl⟩
    · rw [if_neg h16, if_neg (by omega)] at hR
      have HR := Lib.hid hR
      have hn16 : n ≤ 16 := by omega
      clear hR
      go_enter Tryz.func48, Tryz.ntmps48
      go_wp2
      go_loopw [3] (fun iv wr => ∃ j : Nat, j ≤ n ∧ iv = .int .i64 (j : Int) ∧ Hid (∀ q ∈ l.take j, ptOk q) ∧ wr = w) (fun iv _ => n - (intOf iv).toNat)
      case atStart => exact ⟨0, by omega, rfl, Lib.hid (by simp), rfl⟩
      case round =>
        obtain ⟨j, hj, rfl, HP, rfl⟩ := hrel
        rcases Nat.lt_or_ge j n with hlt | hge
        · obtain ⟨⟨x, y⟩, hq⟩ : ∃ q, l[j]? = some q := ⟨_, List.getElem?_eq_getElem (by rw [HN.out]; exact hlt)⟩
          obtain ⟨b, off, rfl, hb, c0, c1⟩ := pts_two HA.out hq
          have HQ := Lib.hid hq
          dsimp only at c0 c1
          clear hq
          go_wp2
          go_loopw [4] (fun iv wr' => ∃ i : Nat, i ≤ 2 ∧ iv = .int .i64 (i : Int) ∧ Hid ((0 < i → -1000000 ≤ x ∧ x ≤ 1000000) ∧ (1 < i → -1000000 ≤ y ∧ y ≤ 1000000)) ∧ wr' = wr) (fun iv _ => 2 - (intOf iv).toNat)
          case atStart => exact ⟨0, by omega, rfl, Lib.hid (by omega), rfl⟩
          case round =>
            obtain ⟨i, hi, rfl, HI, rfl⟩ := hrel
            obtain rfl | rfl | rfl : i = 0 ∨ i = 1 ∨ i = 2 := by omega
            · by_cases hv : -1000000 ≤ x ∧ x ≤ 1000000
              · have HI2 : Hid ((0 < 0 + 1 → -1000000 ≤ x ∧ x ≤ 1000000) ∧ (1 < 0 + 1 → -1000000 ≤ y ∧ y ≤ 1000000)) := Lib.hid ⟨fun _ => hv, fun h => by omega⟩
                go_wp2
                exact ⟨⟨0 + 1, by omega, rfl, HI2, trivial⟩, by simp only [intOf]; omega⟩
              · obtain rfl : R = 5 := by
                  rw [← HR.out, if_neg (fun h => hv ⟨(h _ (List.mem_of_getElem? HQ.out)).1, (h _ (List.mem_of_getElem? HQ.out)).2.1⟩)]
                have hv2 : x < -1000000 ∨ (-1000000 ≤ x ∧ 1000000 < x) := by omega
                clear hv
                rcases hv2 with hv | ⟨hv, hv3⟩
                all_goals
                  go_wp2
                  go_ret
                  exact ⟨rfl, rfl⟩
            · by_cases hv : -1000000 ≤ y ∧ y ≤ 1000000
              · have HI2 : Hid ((0 < 1 + 1 → -1000000 ≤ x ∧ x ≤ 1000000) ∧ (1 < 1 + 1 → -1000000 ≤ y ∧ y ≤ 1000000)) := Lib.hid ⟨fun _ => HI.out.1 (by omega), fun _ => hv⟩
                go_wp2
                exact ⟨⟨1 + 1, by omega, rfl, HI2, trivial⟩, by simp only [intOf]; omega⟩
              · obtain rfl : R = 5 := by
                  rw [← HR.out, if_neg (fun h => hv ⟨(h _ (List.mem_of_getElem? HQ.out)).2.2.1, (h _ (List.mem_of_getElem? HQ.out)).2.2.2⟩)]
                have hv2 : y < -1000000 ∨ (-1000000 ≤ y ∧ 1000000 < y) := by omega
                clear hv
                rcases hv2 with hv | ⟨hv, hv3⟩
                all_goals
                  go_wp2
                  go_ret
                  exact ⟨rfl, rfl⟩
            · have HP2 : Hid (∀ q ∈ l.take (j + 1), ptOk q) := Lib.hid (fun q hq => by
                rw [List.take_add_one, HQ.out, List.mem_append] at hq
                rcases hq with hq | hq
                · exact HP.out q hq
                · simp at hq
                  subst hq
                  have h1 := HI.out.1 (by omega)
                  have h2 := HI.out.2 (by omega)
                  exact ⟨h1.1, h1.2, h2.1, h2.2⟩)
              go_wp2
              go_roundw
              case rel => exact ⟨j + 1, by omega, by go_num, HP2, trivial⟩
              case measure => simp [intOf]; omega
        · obtain rfl : j = n := by omega
          obtain rfl : R = 0 := by
            rw [← HR.out, if_pos]
            have h1 := HP.out
            rwa [List.take_of_length_le (by rw [HN.out]; exact Nat.le_refl _)] at h1
          go_wp2
          go_ret
          exact ⟨rfl, rfl⟩

theorem cE_full {l : List Int} {j : Nat} {c : Int} (h : l[j]? = some c) (h0 : cE (-1) (l.take j) = 0) (h1 : 0 ≤ c) (h2 : c ≤ 65535) (h3 : ahd l j < c) : cE (-1) (l.take (j + 1)) = 0 := cE_next l (-1) j c h h0 h1 h2 h3
set_option maxHeartbeats 4000000 in
theorem rcells_any (A : Option Addr) (n cp : Nat) (l : List Int) (w : World) (hn : l.length = n) (hcp : n ≤ cp) (hA : Nums .i64 w w.heap.size A l) :
    Calls Tryz.prog 49 #[.slice A n cp] w fun e w' => e = .returned (.int .i64 (wC l 32)) ∧ Below w.heap.size w w' := by
  obtain ⟨R, hR⟩ : ∃ R, wC l 32 = R := ⟨_, rfl⟩
  rw [hR]
  unfold wC wS at hR
  rw [hn] at hR
  have HN := Lib.hid hn
  have HA := Lib.hid hA
  clear hn hA
  by_cases h0 : n = 0
  · subst h0
    obtain rfl : R = 13 := by rw [← hR]; rfl
    clear hR
    go_enter Tryz.func49, Tryz.ntmps49
    go_wp2
    go_ret
    exact ⟨rfl, Below.refl _ _⟩
  · have hz : ¬ (n : Int) = 0 := by omega
    have hz2 : ((n : Int) == 0) = false := by simpa using h0
    rw [if_neg hz] at hR
    by_cases h16 : 32 < (n : Int)
    · rw [if_pos h16, if_pos (by omega)] at hR
      subst hR
      go_enter Tryz.func49, Tryz.ntmps49
      go_wp2
      go_ret
      exact ⟨rfl, Below.refl _ _⟩
    · rw [if_neg h16, if_neg (by omega)] at hR
      have HR := Lib.hid hR
      have hn16 : n ≤ 32 := by omega
      clear hR
      go_enter Tryz.func49, Tryz.ntmps49
      go_wp2
      go_loopw [3] (fun iv wr => ∃ j : Nat, j ≤ n ∧ iv = .int .i64 (j : Int) ∧ Hid (cE (-1) (l.take j) = 0) ∧ Hid (Below w.heap.size w wr)) (fun iv _ => n - (intOf iv).toNat)
      case atStart => exact ⟨0, by omega, rfl, Lib.hid (by simp [cE]), Lib.hid (Below.refl _ _)⟩
      case round =>
        obtain ⟨j, hj, rfl, HP, HW⟩ := hrel
        rcases Nat.lt_or_ge j n with hlt | hge
        · obtain ⟨c, hq⟩ : ∃ c, l[j]? = some c := ⟨_, List.getElem?_eq_getElem (by rw [HN.out]; exact hlt)⟩
          have HQ := Lib.hid hq
          have HB := Lib.hid (cE_bad hq HP.out)
          rw [HR.out] at HB
          by_cases hv : c < 0 ∨ 65535 < c
          · rw [if_pos hv] at HB
            obtain rfl : R = 5 := HB.out
            obtain ⟨b, off, rfl, hb, c0⟩ := (HA.out.below HW.out).open hq
            have hv2 : c < 0 ∨ (0 ≤ c ∧ 65535 < c) := by omega
            clear hv hq
            rcases hv2 with hv | ⟨hv, hv3⟩
            all_goals
              go_wp2
              go_ret
              exact ⟨rfl, HW.out⟩
          · rw [if_neg hv] at HB
            have hv2 : 0 ≤ c ∧ c ≤ 65535 := by omega
            clear hv
            rcases Nat.eq_zero_or_pos j with hj0 | hj0
            · subst hj0
              have HP2 : Hid (cE (-1) (l.take (0 + 1)) = 0) := Lib.hid (cE_full hq HP.out hv2.1 hv2.2 (by unfold ahd; rw [if_pos rfl]; omega))
              obtain ⟨b, off, rfl, hb, c0⟩ := (HA.out.below HW.out).open hq
              rw [Nat.add_zero] at c0
              clear hq HB
              go_wp2
              go_quiet (fail)
              go_wp2
              exact ⟨⟨0 + 1, by omega, by go_num, HP2, Lib.hid (below_drewN HW.out _)⟩, by simp only [intOf]; omega⟩
            · obtain ⟨a, ha⟩ : ∃ a, l[j - 1]? = some a := ⟨_, List.getElem?_eq_getElem (by rw [HN.out]; omega)⟩
              have had : ahd l j = a := by unfold ahd; rw [if_neg (by omega), List.getD, ha]; rfl
              rw [had] at HB
              obtain ⟨b, off, hAe, hb, c0⟩ := (HA.out.below HW.out).open hq
              obtain ⟨b', off', hAe', _, c1⟩ := (HA.out.below HW.out).open ha
              rw [hAe] at hAe'
              injection hAe' with hAe'
              injection hAe' with e1 e2
              subst e1 e2 hAe
              have hj1 : 0 < (j : Int) := by omega
              have hjj : ((j : Int) - 1).toNat = j - 1 := by omega
              by_cases hc : c ≤ a
              · rw [if_pos hc] at HB
                obtain rfl : R = 3 := HB.out
                clear hq ha had
                go_wp2
                go_quiet (fail)
                go_wp2
                go_ret
                exact ⟨rfl, below_drewN HW.out _⟩
              · have HP2 : Hid (cE (-1) (l.take (j + 1)) = 0) := Lib.hid (cE_full hq HP.out hv2.1 hv2.2 (by omega))
                clear hq ha had HB
                go_wp2
                go_quiet (fail)
                go_wp2
                exact ⟨⟨j + 1, by omega, by go_num, HP2, Lib.hid (below_drewN HW.out _)⟩, by simp only [intOf]; omega⟩
        · obtain rfl : j = n := by omega
          obtain rfl : R = 0 := by
            rw [← HR.out]
            have h1 := HP.out
            rwa [List.take_of_length_le (by rw [HN.out]; exact Nat.le_refl _)] at h1
          go_wp2
          go_ret
          exact ⟨rfl, HW.out⟩
end Go.Proofs.YtlbfibnfmijahaaGreat

namespace Go.Proofs.YtlbfibnfmijahaaGreat
open Go.RowKit Go.Shelf
set_option maxRecDepth 100000
attribute [local go_sem] Oper.semAt_some

set_option maxHeartbeats 8000000 in
theorem rmsame_any (M M' : Mg) (P C P' C' : Value) (w : World) (hs : Msm M) (h1 : MAt w w.heap.size M P C) (h2 : MAt w w.heap.size M' P' C') :
    Calls Tryz.prog 20 #[mV M P C, mV M' P' C'] w fun e w' => e = .returned (.bool (decide (M = M'))) ∧ Below w.heap.size w w' := by
  obtain ⟨w2, hw2⟩ : ∃ w2, w2 = (w.alloc (.cells (mC M P C) 38)).alloc (.cells (mC M' P' C') 38) := ⟨_, rfl⟩
  have hb2 : Below w.heap.size w w2 := by rw [hw2]; exact ((Below.refl _ w).alloc (Nat.le_refl _) _).alloc (by simp) _
  have HW := Lib.hid hw2
  have g1 := (h1.below hb2).mono hb2.size
  have g2 := (h2.below hb2).mono hb2.size
  obtain ⟨k, n0, n1, n2, n3, n4, n5, p, c, tx, tg⟩ := M
  obtain ⟨k', n0', n1', n2', n3', n4', n5', p', c', tx', tg'⟩ := M'
  obtain ⟨⟨a, cp, rfl, hcp, ha⟩, ⟨b, cb, rfl, hcb, hb⟩⟩ := g1
  obtain ⟨⟨a', cp', rfl, hcp', ha'⟩, ⟨b', cb', rfl, hcb', hb'⟩⟩ := g2
  dsimp only at *
  have hl1 := hs.p
  have hl2 := hs.c
  dsimp only at hl1 hl2
  obtain ⟨np, hnp⟩ : ∃ np, p.length = np := ⟨_, rfl⟩
  obtain ⟨nc, hnc⟩ : ∃ nc, c.length = nc := ⟨_, rfl⟩
  obtain ⟨np', hnp'⟩ : ∃ np', p'.length = np' := ⟨_, rfl⟩
  obtain ⟨nc', hnc'⟩ : ∃ nc', c'.length = nc' := ⟨_, rfl⟩
  rw [hnp] at hcp hl1
  rw [hnc] at hcb hl2
  rw [hnp'] at hcp'
  rw [hnc'] at hcb'
  have KC := rints_any w2.heap.size b b' nc nc' cb cb' c c' w2 hnc hnc' (by omega) hb hb'
  obtain ⟨DC, hDC⟩ : ∃ DC, decide (c = c') = DC := ⟨_, rfl⟩
  rw [hDC] at KC
  have KC := Lib.hid KC
  have HA := Lib.hid (And.intro ha ha')
  unfold mV
  unfold mC at HW ⊢
  dsimp only at HW ⊢
  rw [hnp, hnc, hnp', hnc'] at HW ⊢
  have HNP := Lib.hid (And.intro hnp hnp')
  clear hw2 h1 h2 hb2 ha ha' hb hb' hs hnp hnc hnp' hnc'
  have hfin : ∀ W, Below w2.heap.size w2 W → Hid (Below w.heap.size w W) := fun W hW => by
    have hb2 : Below w.heap.size w w2 := by rw [HW.out]; exact ((Below.refl _ w).alloc (Nat.le_refl _) _).alloc (by simp) _
    exact Lib.hid (hb2.trans (hW.mono hb2.size))
  obtain ⟨D, hD⟩ : ∃ D, decide ((⟨k, n0, n1, n2, n3, n4, n5, p, c, tx, tg⟩ : Mg) = ⟨k', n0', n1', n2', n3', n4', n5', p', c', tx', tg'⟩) = D := ⟨_, rfl⟩
  rw [hD]
  by_cases hk : k = k'
  case neg =>
    have hk1 : (k != k') = true := by simpa using hk
    obtain rfl : D = false := by rw [← hD, decide_eq_false (fun e => hk (congrArg Mg.k e))]
    have HB := hfin w2 (Below.refl _ _)
    rw [HW.out] at HB
    clear hD KC hfin HW
    go_enter Tryz.func20, Tryz.ntmps20
    go_wp2
    go_ret
    exact ⟨rfl, HB.out⟩
  subst hk
  by_cases hN : [n0, n1, n2, n3, n4, n5] = [n0', n1', n2', n3', n4', n5']
  case neg =>
    have he : ∀ W, (binOp .neq 22 (.agg #[.int .i64 n0, .int .i64 n1, .int .i64 n2, .int .i64 n3, .int .i64 n4, .int .i64 n5]) (.agg #[.int .i64 n0', .int .i64 n1', .int .i64 n2', .int .i64 n3', .int .i64 n4', .int .i64 n5'])).run Tryz.prog W = .ok (.bool true) W := fun W => by rw [neq_six, decide_eq_false hN]; rfl
    obtain rfl : D = false := by
      rw [← hD, decide_eq_false (fun e => hN (by injection e with e0 e1 e2 e3 e4 e5 e6; rw [e1, e2, e3, e4, e5, e6]))]
    have HB := hfin w2 (Below.refl _ _)
    rw [HW.out] at HB
    clear hD KC hfin HW hN
    go_enter Tryz.func20, Tryz.ntmps20
    go_wp2
    go_ret
    exact ⟨rfl, HB.out⟩
  simp only [List.cons.injEq, and_true] at hN
  obtain ⟨rfl, rfl, rfl, rfl, rfl, rfl⟩ := hN
  have he : ∀ W, (binOp .neq 22 (.agg #[.int .i64 n0, .int .i64 n1, .int .i64 n2, .int .i64 n3, .int .i64 n4, .int .i64 n5]) (.agg #[.int .i64 n0, .int .i64 n1, .int .i64 n2, .int .i64 n3, .int .i64 n4, .int .i64 n5])).run Tryz.prog W = .ok (.bool false) W := fun W => by rw [neq_six, decide_eq_true rfl]; rfl
  by_cases hnn : np = np'
  case neg =>
    have hnn2 : ((np : Int) != (np' : Int)) = true := by simp; omega
    have hnn3 : ¬ (np : Int) = (np' : Int) := by omega
    obtain rfl : D = false := by
      rw [← hD, decide_eq_false (fun e => hnn (by rw [← HNP.out.1, ← HNP.out.2]; injection e with _ _ _ _ _ _ _ e7; rw [e7]))]
    have HB := hfin w2 (Below.refl _ _)
    rw [HW.out] at HB
    clear hD KC hfin HW
    go_enter Tryz.func20, Tryz.ntmps20
    go_wp2
    go_ret
    exact ⟨rfl, HB.out⟩
  subst hnn
  have q1 : w2.heap[w.heap.size]? = some (.cells #[.int .i64 k, .int .i64 n0, .int .i64 n1, .int .i64 n2, .int .i64 n3, .int .i64 n4, .int .i64 n5, .slice a np cp, .slice b nc cb, .string tx, .string tg] 38 (0, 0)) := by
    rw [HW.out, Below.heap_alloc _ _ _ (by simp)]; exact World.alloc_heap_new _ _
  have q2 : w2.heap[w.heap.size + 1]? = some (.cells #[.int .i64 k, .int .i64 n0, .int .i64 n1, .int .i64 n2, .int .i64 n3, .int .i64 n4, .int .i64 n5, .slice a' np cp', .slice b' nc' cb', .string tx', .string tg'] 38 (0, 0)) := by
    rw [HW.out, show w.heap.size + 1 = (w.alloc (.cells #[.int .i64 k, .int .i64 n0, .int .i64 n1, .int .i64 n2, .int .i64 n3, .int .i64 n4, .int .i64 n5, .slice a np cp, .slice b nc cb, .string tx, .string tg] 38)).heap.size by simp]; exact World.alloc_heap_new _ _
  have k1 := fun j x hx => row_cell q1 j x hx
  have k2 := fun j x hx => row_cell q2 j x hx
  have c7 := k1 7 _ rfl; have c9 := k1 9 _ rfl; have c10 := k1 10 _ rfl
  have d7 := k2 7 _ rfl; have d9 := k2 9 _ rfl; have d10 := k2 10 _ rfl
  clear k1 k2 q1 q2
  by_cases hc : c = c'
  case neg =>
    obtain rfl : DC = false := by rw [← hDC, decide_eq_false hc]
    obtain rfl : D = false := by rw [← hD, decide_eq_false (fun e => hc (congrArg Mg.c e))]
    clear hD hc hDC
    go_enter Tryz.func20, Tryz.ntmps20
    go_wp2_with fail
    rw [← HW.out]
    refine KC.out.mono ?_
    rintro e W1 ⟨rfl, m1, rfl⟩
    go_wp2
    go_ret
    exact ⟨rfl, (hfin _ (below_of_drewN _ _)).out⟩
  obtain rfl : DC = true := by rw [← hDC, decide_eq_true hc]
  subst hc
  clear hDC
  by_cases ht : tx = tx'
  case neg =>
    have hs := str_ne ht
    obtain rfl : D = false := by rw [← hD, decide_eq_false (fun e => ht (congrArg Mg.tx e))]
    clear hD ht
    go_enter Tryz.func20, Tryz.ntmps20
    go_wp2_with fail
    rw [← HW.out]
    refine KC.out.mono ?_
    rintro e W1 ⟨rfl, m1, rfl⟩
    go_wp2
    go_ret
    exact ⟨rfl, (hfin _ (below_of_drewN _ _)).out⟩
  subst ht
  by_cases hg : tg = tg'
  case neg =>
    have hs := str_ne hg
    obtain rfl : D = false := by rw [← hD, decide_eq_false (fun e => hg (congrArg Mg.tg e))]
    clear hD hg
    go_enter Tryz.func20, Tryz.ntmps20
    go_wp2_with fail
    rw [← HW.out]
    refine KC.out.mono ?_
    rintro e W1 ⟨rfl, m1, rfl⟩
    go_wp2
    go_ret
    exact ⟨rfl, (hfin _ (below_of_drewN _ _)).out⟩
  subst hg
  obtain rfl : D = decide (p = p') := by
    rw [← hD]
    exact decide_eq_decide.2 ⟨fun e => congrArg Mg.p e, fun e => by rw [e]⟩
  obtain ⟨E, hE⟩ : ∃ E, decide (p = p') = E := ⟨_, rfl⟩
  rw [hE]
  have HE := Lib.hid hE
  clear hD hE
  go_enter Tryz.func20, Tryz.ntmps20
  go_wp2_with fail
  rw [← HW.out]
  refine KC.out.mono ?_
  rintro e W1 ⟨rfl, m1, rfl⟩
  clear HW KC
  go_wp2
  go_loopw [5] (fun iv wr => ∃ j : Nat, j ≤ np ∧ iv = .int .i64 (j : Int) ∧ Hid (p.take j = p'.take j) ∧ ∃ n, wr = w2.drewN n) (fun iv _ => np - (intOf iv).toNat)
  case atStart => exact ⟨0, by omega, rfl, Lib.hid rfl, m1, rfl⟩
  case round =>
    obtain ⟨j, hj, rfl, HT, n, rfl⟩ := hrel
    rcases Nat.lt_or_ge j np with hlt | hge
    · obtain ⟨⟨x, x2⟩, hx⟩ : ∃ q, p[j]? = some q := ⟨_, List.getElem?_eq_getElem (by rw [HNP.out.1]; exact hlt)⟩
      obtain ⟨⟨y, y2⟩, hy⟩ : ∃ q, p'[j]? = some q := ⟨_, List.getElem?_eq_getElem (by rw [HNP.out.2]; exact hlt)⟩
      obtain ⟨g1, o1, rfl, hg1, x0, x1⟩ := pts_two HA.out.1 hx
      obtain ⟨g2, o2, rfl, hg2, y0, y1⟩ := pts_two HA.out.2 hy
      dsimp only at x0 x1 y0 y1
      have HX := Lib.hid hx
      have HY := Lib.hid hy
      clear hx hy
      by_cases hxy : x = y ∧ x2 = y2
      · obtain ⟨rfl, rfl⟩ := hxy
        have hnp2 : ∀ W, (binOp .neq 77 (.agg #[.int .i64 x, .int .i64 x2]) (.agg #[.int .i64 x, .int .i64 x2])).run Tryz.prog W = .ok (.bool false) W := fun W => by rw [neq_two]; simp
        have HQ : Hid (p.take (j + 1) = p'.take (j + 1)) := by
          show _ = _
          rw [List.take_add_one, List.take_add_one, HT.out, HX.out, HY.out]
        go_wp2
        go_quiet (fail)
        go_wp2
        exact ⟨⟨j + 1, by omega, by go_num, HQ, _, rfl⟩, by simp only [intOf]; omega⟩
      · have hnp2 : ∀ W, (binOp .neq 77 (.agg #[.int .i64 x, .int .i64 x2]) (.agg #[.int .i64 y, .int .i64 y2])).run Tryz.prog W = .ok (.bool true) W := fun W => by rw [neq_two, decide_eq_false (by simpa using hxy)]; rfl
        obtain rfl : E = false := by
          rw [← HE.out]
          refine decide_eq_false (fun e => hxy ?_)
          have h3 := HX.out
          rw [e, HY.out] at h3
          simp at h3
          exact ⟨h3.1.symm, h3.2.symm⟩
        clear hxy
        go_wp2
        go_quiet (fail)
        go_wp2
        go_ret
        exact ⟨rfl, (hfin _ (below_drewN (below_of_drewN _ _) _)).out⟩
    · obtain rfl : j = np := by omega
      obtain rfl : E = true := by
        rw [← HE.out]
        have h3 := HT.out
        rw [List.take_of_length_le (by rw [HNP.out.1]; omega), List.take_of_length_le (by rw [HNP.out.2]; omega)] at h3
        exact decide_eq_true h3
      go_wp2
      go_ret
      exact ⟨rfl, (hfin _ (below_of_drewN _ _)).out⟩
end Go.Proofs.YtlbfibnfmijahaaGreat

namespace Go.Proofs.YtlbfibnfmijahaaGreat
open Go.RowKit Go.Shelf
set_option maxRecDepth 100000
attribute [local go_sem] Oper.semAt_some

def hasC (L : List Fd) : Array Value := #[.bool (isS L 0), .bool (isS L 1), .bool (isS L 2), .bool (isS L 3), .bool (isS L 4), .bool (isS L 5), .bool (isS L 6)]
def numC (L : List Fd) : Array Value := #[.bool (isN L 0), .bool (isN L 1), .bool (isN L 2), .bool (isN L 3), .bool (isN L 4), .bool (isN L 5)]
theorem isS_app (L : List Fd) (f : Fd) (s : Int) : isS (L ++ [f]) s = (isS L s || decide (f.so = s)) := by simp [isS]
theorem isN_app (L : List Fd) (f : Fd) (i : Nat) : isN (L ++ [f]) i = (isN L i || (decide (f.so < 3) && decide (f.pl.toNat = i))) := by simp [isN]
theorem hasC_set {L : List Fd} {f : Fd} {s : Nat} (hs : s < 7) (h : f.so = (s : Int)) : (hasC L).setIfInBounds s (.bool true) = hasC (L ++ [f]) := by
  unfold hasC
  simp only [isS_app, h]
  rcases s with _ | _ | _ | _ | _ | _ | _ | s
  all_goals first
    | omega
    | simp
theorem numC_set {L : List Fd} {f : Fd} {i : Nat} (hi : i < 6) (h3 : f.so < 3) (h : f.pl = (i : Int)) : (numC L).setIfInBounds i (.bool true) = numC (L ++ [f]) := by
  unfold numC
  simp only [isN_app, h3, h, Int.toNat_natCast]
  rcases i with _ | _ | _ | _ | _ | _ | i
  all_goals first
    | omega
    | simp
theorem numC_same {L : List Fd} {f : Fd} (h3 : ¬ f.so < 3) : numC (L ++ [f]) = numC L := by
  unfold numC
  simp [isN_app, h3]
theorem numC_at {L : List Fd} {i : Nat} (hi : i < 6) : (numC L)[i]? = some (.bool (isN L i)) := by
  rcases i with _ | _ | _ | _ | _ | _ | i <;> first | rfl | omega
theorem hasC_at {L : List Fd} {s : Nat} (hs : s < 7) : (hasC L)[s]? = some (.bool (isS L s)) := by
  rcases s with _ | _ | _ | _ | _ | _ | _ | s <;> first | rfl | omega
/-- the two arrays of flags, bh and the next -/
structure FlB (bh : Nat) (w4 : World) (L : List Fd) (V : World) : Prop where
  has : V.heap[bh]? = some (.cells (hasC L) 103 (0, 0))
  num : V.heap[bh + 1]? = some (.cells (numC L) 104 (0, 0))
  off : Off (fun q => q = bh ∨ q = bh + 1) w4 V
theorem FlB.later {bh : Nat} {w4 V V' : World} {L : List Fd} (h : FlB bh w4 L V) (hb : Below V.heap.size V V') : FlB bh w4 L V' :=
  ⟨(hb.block _ (Array.getElem?_eq_some_iff.1 h.has).1).trans h.has, (hb.block _ (Array.getElem?_eq_some_iff.1 h.num).1).trans h.num, off_below h.off (hb.mono h.off.size)⟩
theorem str_emp {x : ByteArray} (h : x ≠ ⟨#[]⟩) : x.toList.isEmpty = false := by simpa using str_nil h
theorem str_emp0 : (ByteArray.mk #[]).toList.isEmpty = true := by rw [ByteArray.toList_eq]; rfl

set_option maxHeartbeats 32000000 in
theorem rmcheck_any (M : Mg) (P C : Value) (w : World) (hs : Msm M) (h1 : MAt w w.heap.size M P C) : Calls Tryz.prog 28 #[mV M P C] w fun e w' => e = .returned (.int .i64 (mck M)) ∧ Below w.heap.size w w' := by
  have KR := Lib.hid (rall_any M.k)
  obtain ⟨R, hR⟩ : ∃ R, mck M = R := ⟨_, rfl⟩
  rw [hR]
  unfold mck at hR
  have hRI := rest_iff M
  have h16 := FD_few M.k
  have KF := Lib.hid (FD_fdok M.k)
  obtain ⟨⟨ap, cp, rfl, hcp, ha⟩, ⟨ac, cc, rfl, hcc, hc⟩⟩ := h1
  obtain ⟨w1, hw1⟩ : ∃ w1, w1 = w.alloc (.cells (mC M (.slice ap M.p.length cp) (.slice ac M.c.length cc)) 38) := ⟨_, rfl⟩
  have hb1 : Below w.heap.size w w1 := by rw [hw1]; exact (Below.refl _ w).alloc (Nat.le_refl _) _
  have hs1 : w1.heap.size = w.heap.size + 1 := by rw [hw1]; simp
  have q0 : w1.heap[w.heap.size]? = some (.cells (mC M (.slice ap M.p.length cp) (.slice ac M.c.length cc)) 38 (0, 0)) := by rw [hw1]; exact World.alloc_heap_new _ _
  obtain ⟨np, hnp⟩ : ∃ np, M.p.length = np := ⟨_, rfl⟩
  obtain ⟨nc, hnc⟩ : ∃ nc, M.c.length = nc := ⟨_, rfl⟩
  unfold mV
  simp only [mC, hnp, hnc] at hw1 q0 hcp hcc ⊢
  have HW := Lib.hid hw1
  have HNN := Lib.hid (And.intro hnp hnc)
  clear hw1 hnp hnc
  go_enter Tryz.func28, Tryz.ntmps28
  go_wp2_with fail
  rw [← HW.out]
  refine (KR.out w1).mono ?_
  intro e w2 hOf
  obtain ⟨A, cA, rfl, hcA, hA, hb2⟩ := hOf
  clear KR HW
  obtain ⟨L, hL⟩ : ∃ L, FD M.k = L := ⟨_, rfl⟩
  rw [hL] at hR hRI h16 KF hcA hA ⊢
  obtain ⟨n, hn⟩ : ∃ n, L.length = n := ⟨_, rfl⟩
  rw [hn] at h16 hcA ⊢
  have HN := Lib.hid hn
  have p0 := (hb2.block _ (by omega)).trans q0
  have hb02 := hb1.trans (hb2.mono (by omega))
  have hs2 := hb2.size
  by_cases h0 : n = 0
  · subst h0
    rw [if_pos (List.eq_nil_of_length_eq_zero hn)] at hR
    subst hR
    clear hn hL hA hb1 hb2 q0 p0 hRI
    go_wp2
    go_ret
    exact ⟨rfl, hb02⟩
  rw [if_neg (fun e => h0 (by rw [← hn, e]; rfl))] at hR
  have hn0 : ((n : Int) == 0) = false := by simpa using h0
  obtain ⟨w4, hw4⟩ : ∃ w4, w4 = (w2.alloc (.cells (hasC []) 103)).alloc (.cells (numC []) 104) := ⟨_, rfl⟩
  have hs4 : w4.heap.size = w2.heap.size + 2 := by rw [hw4]; simp
  have hb24 : Below w2.heap.size w2 w4 := by rw [hw4]; exact ((Below.refl _ w2).alloc (Nat.le_refl _) _).alloc (by simp) _
  have hF4 : FlB w2.heap.size w4 [] w4 := by
    refine ⟨?_, ?_, Off.refl _ _⟩
    · rw [hw4, Below.heap_alloc _ _ _ (by simp)]; exact World.alloc_heap_new _ _
    · have := World.alloc_heap_new (w2.alloc (.cells (hasC []) 103)) (.cells (numC []) 104)
      rw [World.size_alloc] at this
      rw [hw4]; exact this
  have p4 := (hb24.block _ (by omega)).trans p0
  have hA4 : FdsIn w1.heap.size w4 A L := fun j f hj => by
    obtain ⟨g, h1, h2, h3, h4⟩ := hA j f hj
    exact ⟨g, h1, h2, by omega, fun q u hq => (hb24.cell (p := ⟨g, j * 7 + q, none⟩) h3).trans (h4 q u hq)⟩
  have hAlt : ∀ (j : Nat) f, L[j]? = some f → ∃ g, A = some ⟨g, 0, none⟩ ∧ g < w2.heap.size := fun j f hj => by
    obtain ⟨g, h1, _, h3, _⟩ := hA j f hj
    exact ⟨g, h1, h3⟩
  have HA4 := Lib.hid (And.intro hA4 hAlt)
  have HP4 := Lib.hid p4
  have HB4 := Lib.hid (hb02.trans (hb24.mono (by omega)))
  have HR := Lib.hid (And.intro hR hRI)
  have HM := Lib.hid (And.intro ha hc)
  have HF4 := Lib.hid hF4
  obtain ⟨bh, hbh⟩ : ∃ bh, w2.heap.size = bh := ⟨_, rfl⟩
  have hs14 : w.heap.size < bh := by omega
  rw [hbh] at HF4 HA4 hs4
  simp only [hasC, numC, isS, isN, List.any_nil] at hw4
  have HW4 := Lib.hid hw4
  have HBH := Lib.hid hbh
  clear hw4 hn hL hR hRI h0 hA hA4 hAlt hb1 hb2 hb24 hb02 q0 p0 p4 ha hc hF4 hs1 hs2
  go_wp2_with fail
  rw [← HW4.out]
  clear HW4 HBH hbh
  go_loopw [6] (fun iv wr => ∃ j : Nat, j ≤ n ∧ iv = .int .i64 (j : Int) ∧ Hid (∀ g ∈ L.take j, fE M g = 0) ∧ Hid (FlB bh w4 (L.take j) wr)) (fun iv _ => n - (intOf iv).toNat)
  case atStart => exact ⟨0, by omega, rfl, Lib.hid (by simp), HF4⟩
  case round =>
    obtain ⟨j, hj, rfl, HZ, HF⟩ := hrel
    have hbw : Below w.heap.size w wr := HB4.out.trans (HF.out.off.below (fun k hk => by omega) (by have := HB4.out.size; omega))
    have m0 := (HF.out.off.block w.heap.size (by omega) (by omega)).trans HP4.out
    rcases Nat.lt_or_ge j n with hlt | hge
    · obtain ⟨f, hf⟩ : ∃ f, L[j]? = some f := ⟨_, List.getElem?_eq_getElem (by rw [HN.out]; exact hlt)⟩
      obtain ⟨g, rfl, hgl, _, d0, d1, d2, d3, d4, d5, d6⟩ := HA4.out.1.seven hf
      obtain ⟨g', hg', hgb⟩ := HA4.out.2 j f hf
      injection hg' with hg'
      injection hg' with hg'
      subst hg'
      have k := fun q x (hx : w4.cell? ⟨g, q, none⟩ = some x) => HF.out.off.cell hx (by show ¬ (g = bh ∨ g = bh + 1); omega)
      have d1 := k _ _ d1
      have d2 := k _ _ d2
      have d3 := k _ _ d3
      have d4 := k _ _ d4
      clear k d0 d5 d6
      have ok := KF.out f (List.mem_of_getElem? hf)
      have hso := ok.so
      obtain ⟨E, hE⟩ : ∃ E, fE M f = E := ⟨_, rfl⟩
      have HEd := Lib.hid hE
      have hsL : (L.take (j + 1)) = L.take j ++ [f] := by rw [List.take_add_one, hf]; rfl
      have hj2 : (j : Int) < (n : Int) := by omega
      have hnA : (n : Int) ≤ (cA : Int) := by omega
      have HFf := Lib.hid hf
      have hFh := HF.out.has
      have hFn := HF.out.num
      have hblt := (Array.getElem?_eq_some_iff.1 hFn).1
      have hw4s := HF.out.off.size
      have hgwr : g < wr.heap.size := by omega
      clear hf
      by_cases h3 : f.so = 3
      · have hfe : fE M f = wP M.p 16 := by unfold fE; rw [if_pos h3, ok.mo.1 h3]
        rw [h3] at d1
        have hh := row_cell hFh 3 _ rfl
        have zh := frozen_of_row wr bh 3 _ _ hFh
        obtain ⟨V1, hV1⟩ : ∃ V1, wr.setCell ⟨bh, 3, none⟩ (.bool true) = V1 := ⟨_, rfl⟩
        have ho1 : Off (fun q => q = bh ∨ q = bh + 1) wr V1 := by rw [← hV1]; exact (Off.refl (fun q => q = bh ∨ q = bh + 1) wr).setCell (p := ⟨bh, 3, none⟩) (.inl rfl) _
        have hF1 : FlB bh w4 (L.take (j + 1)) V1 := by
          rw [hsL]
          refine ⟨by rw [← hV1, setCell_at hFh, hasC_set (s := 3) (by omega) h3], ?_, HF.out.off.trans ho1 (fun _ _ h => h)⟩
          rw [numC_same (by omega), ← hV1]
          exact (Below.heap_setCell _ _ _ _ (by show bh + 1 ≠ bh; omega)).trans hFn
        have hbV1 : Below w.heap.size w V1 := hbw.trans (ho1.below (fun k hk => by omega) hbw.size)
        have hm1 := (ho1.block w.heap.size (by omega) (by omega)).trans m0
        have ccl := row_cell hm1 7 _ rfl
        have KW := Lib.hid ((rpath_any ap np cp M.p V1 HNN.out.1 hcp ((HM.out.1.below hbV1).mono hbV1.size)).mono (fun e w' h => (⟨h.1, h.2 ▸ Below.refl _ _⟩ : e = .returned (.int .i64 (wP M.p 16)) ∧ Below V1.heap.size V1 w')))
        rw [← hfe, hE] at KW
        have HV1 := Lib.hid hV1
        have HX1 := Lib.hid hF1
        have HB1 := Lib.hid hbV1
        rw [← hV1] at ccl
        clear hfe hsL hV1 ho1 hF1 hbV1 hm1 m0 hE hFh hFn d2 d3 d4 ok
        go_wp2_with fail
        rw [HV1.out]
        refine KW.out.mono ?_
        rintro e V2 ⟨rfl, hb2⟩
        have HX2 := Lib.hid (HX1.out.later hb2)
        have HBX := Lib.hid (HB1.out.trans (hb2.mono HB1.out.size))
        clear KW HX1 HB1 hb2 HV1 hbw hh zh ccl
        by_cases hE0 : E = 0
        · subst hE0
          have HZ2 : Hid (∀ g ∈ L.take (j + 1), fE M g = 0) := Lib.hid (take_zero HFf.out HZ.out HEd.out)
          go_wp2
          exact ⟨⟨j + 1, by omega, by go_num, HZ2, HX2⟩, by simp only [intOf]; omega⟩
        · have hEn : (E != 0) = true := by simpa using hE0
          have hfe := (firstE_at L M j f HFf.out HZ.out (by rw [HEd.out]; exact hE0)).trans HEd.out
          have hR1 := HR.out.1
          rw [hfe, if_pos hE0] at hR1
          subst hR1
          clear hfe
          go_wp2
          go_ret
          exact ⟨rfl, HBX.out⟩
      by_cases h4 : f.so = 4
      · have hfe : fE M f = wC M.c 32 := by unfold fE; rw [if_neg (by omega), if_pos h4, ok.mo.2.1 h4]
        rw [h4] at d1
        have hh := row_cell hFh 4 _ rfl
        have zh := frozen_of_row wr bh 4 _ _ hFh
        obtain ⟨V1, hV1⟩ : ∃ V1, wr.setCell ⟨bh, 4, none⟩ (.bool true) = V1 := ⟨_, rfl⟩
        have ho1 : Off (fun q => q = bh ∨ q = bh + 1) wr V1 := by rw [← hV1]; exact (Off.refl (fun q => q = bh ∨ q = bh + 1) wr).setCell (p := ⟨bh, 4, none⟩) (.inl rfl) _
        have hF1 : FlB bh w4 (L.take (j + 1)) V1 := by
          rw [hsL]
          refine ⟨by rw [← hV1, setCell_at hFh, hasC_set (s := 4) (by omega) h4], ?_, HF.out.off.trans ho1 (fun _ _ h => h)⟩
          rw [numC_same (by omega), ← hV1]
          exact (Below.heap_setCell _ _ _ _ (by show bh + 1 ≠ bh; omega)).trans hFn
        have hbV1 : Below w.heap.size w V1 := hbw.trans (ho1.below (fun k hk => by omega) hbw.size)
        have hm1 := (ho1.block w.heap.size (by omega) (by omega)).trans m0
        have ccl := row_cell hm1 8 _ rfl
        have KW := Lib.hid (rcells_any ac nc cc M.c V1 HNN.out.2 hcc ((HM.out.2.below hbV1).mono hbV1.size))
        rw [← hfe, hE] at KW
        have HV1 := Lib.hid hV1
        have HX1 := Lib.hid hF1
        have HB1 := Lib.hid hbV1
        rw [← hV1] at ccl
        clear hfe hsL hV1 ho1 hF1 hbV1 hm1 m0 hE hFh hFn d2 d3 d4 ok
        go_wp2_with fail
        rw [HV1.out]
        refine KW.out.mono ?_
        rintro e V2 ⟨rfl, hb2⟩
        have HX2 := Lib.hid (HX1.out.later hb2)
        have HBX := Lib.hid (HB1.out.trans (hb2.mono HB1.out.size))
        clear KW HX1 HB1 hb2 HV1 hbw hh zh ccl
        by_cases hE0 : E = 0
        · subst hE0
          have HZ2 : Hid (∀ g ∈ L.take (j + 1), fE M g = 0) := Lib.hid (take_zero HFf.out HZ.out HEd.out)
          go_wp2
          exact ⟨⟨j + 1, by omega, by go_num, HZ2, HX2⟩, by simp only [intOf]; omega⟩
        · have hEn : (E != 0) = true := by simpa using hE0
          have hfe := (firstE_at L M j f HFf.out HZ.out (by rw [HEd.out]; exact hE0)).trans HEd.out
          have hR1 := HR.out.1
          rw [hfe, if_pos hE0] at hR1
          subst hR1
          clear hfe
          go_wp2
          go_ret
          exact ⟨rfl, HBX.out⟩
      by_cases h5 : f.so = 5
      · have hfe : fE M f = wT M.tx 64 := by unfold fE; rw [if_neg (by omega), if_neg (by omega), if_pos h5, ok.mo.2.2.1 h5]
        rw [h5] at d1
        have hh := row_cell hFh 5 _ rfl
        have zh := frozen_of_row wr bh 5 _ _ hFh
        obtain ⟨V1, hV1⟩ : ∃ V1, wr.setCell ⟨bh, 5, none⟩ (.bool true) = V1 := ⟨_, rfl⟩
        have ho1 : Off (fun q => q = bh ∨ q = bh + 1) wr V1 := by rw [← hV1]; exact (Off.refl (fun q => q = bh ∨ q = bh + 1) wr).setCell (p := ⟨bh, 5, none⟩) (.inl rfl) _
        have hF1 : FlB bh w4 (L.take (j + 1)) V1 := by
          rw [hsL]
          refine ⟨by rw [← hV1, setCell_at hFh, hasC_set (s := 5) (by omega) h5], ?_, HF.out.off.trans ho1 (fun _ _ h => h)⟩
          rw [numC_same (by omega), ← hV1]
          exact (Below.heap_setCell _ _ _ _ (by show bh + 1 ≠ bh; omega)).trans hFn
        have hbV1 : Below w.heap.size w V1 := hbw.trans (ho1.below (fun k hk => by omega) hbw.size)
        have hm1 := (ho1.block w.heap.size (by omega) (by omega)).trans m0
        have ccl := row_cell hm1 9 _ rfl
        have KW := Lib.hid ((rtext_any M.tx 64 (by have := hs.tx; unfold maxLen; omega) V1).mono (fun e w' h => (⟨h.1, h.2 ▸ Below.refl _ _⟩ : e = .returned (.int .i64 (wT M.tx 64)) ∧ Below V1.heap.size V1 w')))
        rw [← hfe, hE] at KW
        have HV1 := Lib.hid hV1
        have HX1 := Lib.hid hF1
        have HB1 := Lib.hid hbV1
        rw [← hV1] at ccl
        clear hfe hsL hV1 ho1 hF1 hbV1 hm1 m0 hE hFh hFn d2 d3 d4 ok
        go_wp2_with fail
        rw [HV1.out]
        refine KW.out.mono ?_
        rintro e V2 ⟨rfl, hb2⟩
        have HX2 := Lib.hid (HX1.out.later hb2)
        have HBX := Lib.hid (HB1.out.trans (hb2.mono HB1.out.size))
        clear KW HX1 HB1 hb2 HV1 hbw hh zh ccl
        by_cases hE0 : E = 0
        · subst hE0
          have HZ2 : Hid (∀ g ∈ L.take (j + 1), fE M g = 0) := Lib.hid (take_zero HFf.out HZ.out HEd.out)
          go_wp2
          exact ⟨⟨j + 1, by omega, by go_num, HZ2, HX2⟩, by simp only [intOf]; omega⟩
        · have hEn : (E != 0) = true := by simpa using hE0
          have hfe := (firstE_at L M j f HFf.out HZ.out (by rw [HEd.out]; exact hE0)).trans HEd.out
          have hR1 := HR.out.1
          rw [hfe, if_pos hE0] at hR1
          subst hR1
          clear hfe
          go_wp2
          go_ret
          exact ⟨rfl, HBX.out⟩
      by_cases h6 : f.so = 6
      · have hfe : fE M f = wT M.tg 16 := by unfold fE; rw [if_neg (by omega), if_neg (by omega), if_neg (by omega), if_pos h6, ok.mo.2.2.2 h6]
        rw [h6] at d1
        have hh := row_cell hFh 6 _ rfl
        have zh := frozen_of_row wr bh 6 _ _ hFh
        obtain ⟨V1, hV1⟩ : ∃ V1, wr.setCell ⟨bh, 6, none⟩ (.bool true) = V1 := ⟨_, rfl⟩
        have ho1 : Off (fun q => q = bh ∨ q = bh + 1) wr V1 := by rw [← hV1]; exact (Off.refl (fun q => q = bh ∨ q = bh + 1) wr).setCell (p := ⟨bh, 6, none⟩) (.inl rfl) _
        have hF1 : FlB bh w4 (L.take (j + 1)) V1 := by
          rw [hsL]
          refine ⟨by rw [← hV1, setCell_at hFh, hasC_set (s := 6) (by omega) h6], ?_, HF.out.off.trans ho1 (fun _ _ h => h)⟩
          rw [numC_same (by omega), ← hV1]
          exact (Below.heap_setCell _ _ _ _ (by show bh + 1 ≠ bh; omega)).trans hFn
        have hbV1 : Below w.heap.size w V1 := hbw.trans (ho1.below (fun k hk => by omega) hbw.size)
        have hm1 := (ho1.block w.heap.size (by omega) (by omega)).trans m0
        have ccl := row_cell hm1 10 _ rfl
        have KW := Lib.hid ((rtext_any M.tg 16 (by have := hs.tg; unfold maxLen; omega) V1).mono (fun e w' h => (⟨h.1, h.2 ▸ Below.refl _ _⟩ : e = .returned (.int .i64 (wT M.tg 16)) ∧ Below V1.heap.size V1 w')))
        rw [← hfe, hE] at KW
        have HV1 := Lib.hid hV1
        have HX1 := Lib.hid hF1
        have HB1 := Lib.hid hbV1
        rw [← hV1] at ccl
        clear hfe hsL hV1 ho1 hF1 hbV1 hm1 m0 hE hFh hFn d2 d3 d4 ok
        go_wp2_with fail
        rw [HV1.out]
        refine KW.out.mono ?_
        rintro e V2 ⟨rfl, hb2⟩
        have HX2 := Lib.hid (HX1.out.later hb2)
        have HBX := Lib.hid (HB1.out.trans (hb2.mono HB1.out.size))
        clear KW HX1 HB1 hb2 HV1 hbw hh zh ccl
        by_cases hE0 : E = 0
        · subst hE0
          have HZ2 : Hid (∀ g ∈ L.take (j + 1), fE M g = 0) := Lib.hid (take_zero HFf.out HZ.out HEd.out)
          go_wp2
          exact ⟨⟨j + 1, by omega, by go_num, HZ2, HX2⟩, by simp only [intOf]; omega⟩
        · have hEn : (E != 0) = true := by simpa using hE0
          have hfe := (firstE_at L M j f HFf.out HZ.out (by rw [HEd.out]; exact hE0)).trans HEd.out
          have hR1 := HR.out.1
          rw [hfe, if_pos hE0] at hR1
          subst hR1
          clear hfe
          go_wp2
          go_ret
          exact ⟨rfl, HBX.out⟩
      obtain ⟨sn, hsn⟩ : ∃ sn : Nat, f.so = (sn : Int) := ⟨f.so.toNat, by omega⟩
      obtain ⟨jn, hjn, hpl⟩ := ok.pl (by omega)
      have hfe : fE M f = wN (M.at' jn) f.le f.mo := by unfold fE; rw [if_neg h3, if_neg h4, if_neg h5, if_neg h6, hpl, Int.toNat_natCast]
      have hs7 : sn < 7 := by omega
      have hh := row_cell hFh sn _ (hasC_at hs7)
      have zh := frozen_of_row wr bh sn _ _ hFh
      obtain ⟨V1, hV1⟩ : ∃ V1, wr.setCell ⟨bh, sn, none⟩ (.bool true) = V1 := ⟨_, rfl⟩
      have hFn1 : V1.heap[bh + 1]? = some (.cells (numC (L.take j)) 104 (0, 0)) := by rw [← hV1]; exact (Below.heap_setCell _ _ _ _ (by show bh + 1 ≠ bh; omega)).trans hFn
      have hn1 := row_cell hFn1 jn _ (numC_at hjn)
      have zn := frozen_of_row V1 (bh + 1) jn _ _ hFn1
      obtain ⟨V2, hV2⟩ : ∃ V2, V1.setCell ⟨bh + 1, jn, none⟩ (.bool true) = V2 := ⟨_, rfl⟩
      have ho2 : Off (fun q => q = bh ∨ q = bh + 1) wr V2 := by rw [← hV2, ← hV1]; exact ((Off.refl (fun q => q = bh ∨ q = bh + 1) wr).setCell (p := ⟨bh, sn, none⟩) (.inl rfl) _).setCell (p := ⟨bh + 1, jn, none⟩) (.inr rfl) _
      have hF2 : FlB bh w4 (L.take (j + 1)) V2 := by
        rw [hsL]
        refine ⟨?_, by rw [← hV2, setCell_at hFn1, numC_set hjn (by omega) hpl], HF.out.off.trans ho2 (fun _ _ h => h)⟩
        rw [← hV2, Below.heap_setCell _ _ _ _ (by show bh ≠ bh + 1; omega), ← hV1, setCell_at hFh, hasC_set hs7 hsn]
      have hbV2 : Below w.heap.size w V2 := hbw.trans (ho2.below (fun k hk => by omega) hbw.size)
      have cn := mg_at (M := M) (P := .slice ap np cp) (C := .slice ac nc cc) ((ho2.block w.heap.size (by omega) (by omega)).trans m0) hjn
      have k2 := fun q x (hx : wr.cell? ⟨g, q, none⟩ = some x) => ho2.cell hx (by show ¬ (g = bh ∨ g = bh + 1); omega)
      have e2 := k2 _ _ d2
      have e3 := k2 _ _ d3
      have e4 := k2 _ _ d4
      obtain ⟨nv, hnv⟩ : ∃ nv, M.at' jn = nv := ⟨_, rfl⟩
      rw [hnv] at cn hfe
      rw [hsn] at d1
      rw [hpl] at d2 e2
      have d2' : V1.cell? ⟨g, j * 7 + 2, none⟩ = some (.int .i64 (jn : Int)) := by
        rw [← hV1]
        exact ((Off.refl (fun q => q = bh) wr).setCell (p := ⟨bh, sn, none⟩) rfl _).cell d2 (by show ¬ g = bh; omega)
      have q3 : ((sn : Int) == 3) = false := by simp; omega
      have q4 : ((sn : Int) == 4) = false := by simp; omega
      have q5 : ((sn : Int) == 5) = false := by simp; omega
      have q6 : ((sn : Int) == 6) = false := by simp; omega
      have hs7i : (sn : Int) < 7 := by omega
      have hj6 : (jn : Int) < 6 := by omega
      have d1' : V1.cell? ⟨g, j * 7 + 1, none⟩ = some (.int .i64 (sn : Int)) := by
        rw [← hV1]
        exact ((Off.refl (fun q => q = bh) wr).setCell (p := ⟨bh, sn, none⟩) rfl _).cell d1 (by show ¬ g = bh; omega)
      rw [← hV1] at d1' d2' hn1 zn
      have HV2 : Hid ((wr.setCell ⟨bh, sn, none⟩ (.bool true)).setCell ⟨bh + 1, jn, none⟩ (.bool true) = V2) := Lib.hid (by rw [hV1]; exact hV2)
      have HX2 := Lib.hid hF2
      have HBX := Lib.hid hbV2
      have HWN := Lib.hid (hfe.symm.trans hE)
      clear hfe hsL hV1 hV2 ho2 hF2 hbV2 m0 hE hFh hFn hFn1 k2 ok hsn hpl hnv d3 d4 hbw hso
      go_wp2
      rw [HV2.out]
      clear HV2 hh zh hn1 zn d1' d2' d1 d2
      by_cases hv1 : nv < f.le
      · have hEv : E = 5 := by rw [← HWN.out]; unfold wN; exact if_pos (.inl hv1)
        subst hEv
        have hfe := (firstE_at L M j f HFf.out HZ.out (by rw [HEd.out]; omega)).trans HEd.out
        have hR1 := HR.out.1
        rw [hfe, if_pos (by omega)] at hR1
        subst hR1
        clear hfe
        go_quiet (fail)
        go_wp2
        go_ret
        exact ⟨rfl, below_drewN HBX.out _⟩
      · by_cases hv2 : f.mo < nv
        · have hEv : E = 5 := by rw [← HWN.out]; unfold wN; exact if_pos (.inr hv2)
          subst hEv
          have hfe := (firstE_at L M j f HFf.out HZ.out (by rw [HEd.out]; omega)).trans HEd.out
          have hR1 := HR.out.1
          rw [hfe, if_pos (by omega)] at hR1
          subst hR1
          clear hfe
          go_quiet (fail)
          go_wp2
          go_ret
          exact ⟨rfl, below_drewN HBX.out _⟩
        · have hEv : E = 0 := by rw [← HWN.out]; unfold wN; exact if_neg (by omega)
          subst hEv
          have HZ2 : Hid (∀ g ∈ L.take (j + 1), fE M g = 0) := Lib.hid (take_zero HFf.out HZ.out HEd.out)
          go_quiet (fail)
          have HX3 := Lib.hid (HX2.out.later (below_of_drewN V2 nq))
          clear HX2 HBX
          go_wp2
          exact ⟨⟨j + 1, by omega, rfl, HZ2, HX3⟩, by simp only [intOf]; omega⟩
    · obtain rfl : j = n := by omega
      have hz := HZ.out
      have hF := HF.out
      rw [List.take_of_length_le (by rw [HN.out]; exact Nat.le_refl _)] at hz hF
      have hf0 := (firstE_zero L M).1 hz
      obtain ⟨hR1, hRI⟩ := HR.out
      rw [hf0, if_neg (by simp)] at hR1
      have HR2 := Lib.hid hR1
      have HRI := Lib.hid hRI
      have HFL := Lib.hid hF
      have HBW := Lib.hid hbw
      have HM0 := Lib.hid m0
      clear hz hf0 hR1 hRI hF hbw m0 HZ HF HR
      go_wp2
      go_loopw [8] (fun iv wr' => ∃ i : Nat, i ≤ 6 ∧ iv = .int .i64 (i : Int) ∧ Hid (∀ i' : Nat, i' < i → isN L i' = false → M.at' i' = 0) ∧ wr' = wr) (fun iv _ => 6 - (intOf iv).toNat)
      case atStart => exact ⟨0, by omega, rfl, Lib.hid (fun i h => by omega), rfl⟩
      case round =>
        obtain ⟨i, hi, rfl, HI, rfl⟩ := hrel
        rcases Nat.lt_or_ge i 6 with hlt6 | hge6
        · have cb := row_cell HFL.out.num i _ (numC_at hlt6)
          have cn := mg_at (M := M) (P := .slice ap np cp) (C := .slice ac nc cc) HM0.out hlt6
          have hi6 : (i : Int) < 6 := by omega
          cases hb : isN L i
          · rw [hb] at cb
            by_cases hz : M.at' i = 0
            · rw [hz] at cn
              have HI2 : Hid (∀ i' : Nat, i' < i + 1 → isN L i' = false → M.at' i' = 0) := Lib.hid (fun i' h hn => by
                rcases Nat.lt_or_ge i' i with h1 | h1
                · exact HI.out i' h1 hn
                · obtain rfl : i' = i := by omega
                  exact hz)
              clear hz hb
              go_wp2
              exact ⟨⟨i + 1, by omega, rfl, HI2, trivial⟩, by simp only [intOf]; omega⟩
            · have hzn : (M.at' i != 0) = true := by simpa using hz
              have hbad : ¬ (L.foldl strip M = Mg.zero M.k) := fun e => hz ((HRI.out.1 e).1 i hlt6 hb)
              have hR1 := HR2.out
              rw [if_neg hbad] at hR1
              subst hR1
              clear hbad hb
              go_wp2
              go_ret
              exact ⟨rfl, HBW.out⟩
          · rw [hb] at cb
            have HI2 : Hid (∀ i' : Nat, i' < i + 1 → isN L i' = false → M.at' i' = 0) := Lib.hid (fun i' h hn => by
              rcases Nat.lt_or_ge i' i with h1 | h1
              · exact HI.out i' h1 hn
              · obtain rfl : i' = i := by omega
                rw [hb] at hn
                cases hn)
            clear cn hb
            go_wp2
            exact ⟨⟨i + 1, by omega, rfl, HI2, trivial⟩, by simp only [intOf]; omega⟩
        · obtain rfl : i = 6 := by omega
          have h3 := row_cell HFL.out.has 3 (.bool (isS L 3)) rfl
          have h4 := row_cell HFL.out.has 4 (.bool (isS L 4)) rfl
          have h5 := row_cell HFL.out.has 5 (.bool (isS L 5)) rfl
          have h6 := row_cell HFL.out.has 6 (.bool (isS L 6)) rfl
          obtain ⟨_, _, _, _, _, _, _, c7, c8, c9, c10⟩ := mg_block (M := M) HM0.out
          have hnp := HNN.out.1
          have hnc := HNN.out.2
          have HI6 := Lib.hid HI.out
          have HRI2 := Lib.hid HRI.out
          obtain ⟨s3, hs3⟩ : ∃ s3, isS L 3 = s3 := ⟨_, rfl⟩
          obtain ⟨s4, hs4'⟩ : ∃ s4, isS L 4 = s4 := ⟨_, rfl⟩
          obtain ⟨s5, hs5⟩ : ∃ s5, isS L 5 = s5 := ⟨_, rfl⟩
          obtain ⟨s6, hs6⟩ : ∃ s6, isS L 6 = s6 := ⟨_, rfl⟩
          rw [hs3] at h3 HRI2
          rw [hs4'] at h4 HRI2
          rw [hs5] at h5 HRI2
          rw [hs6] at h6 HRI2
          have e7 : M.p = [] ↔ np = 0 := by rw [← hnp]; exact ⟨fun e => by rw [e]; rfl, fun e => List.eq_nil_of_length_eq_zero e⟩
          have e8 : M.c = [] ↔ nc = 0 := by rw [← hnc]; exact ⟨fun e => by rw [e]; rfl, fun e => List.eq_nil_of_length_eq_zero e⟩
          rw [e7, e8] at HRI2
          obtain ⟨tx, htx⟩ : ∃ tx, M.tx = tx := ⟨_, rfl⟩
          obtain ⟨tg, htg⟩ : ∃ tg, M.tg = tg := ⟨_, rfl⟩
          rw [htx] at c9 HRI2
          rw [htg] at c10 HRI2
          have hnd := fun (h : ¬ (L.foldl strip M = Mg.zero M.k)) => (show R = 3 by have hR1 := HR2.out; rw [if_neg h] at hR1; exact hR1.symm)
          have hyd := fun (h : L.foldl strip M = Mg.zero M.k) => (show R = 0 by have hR1 := HR2.out; rw [if_pos h] at hR1; exact hR1.symm)
          have HND := Lib.hid hnd
          have HYD := Lib.hid hyd
          clear hnp hnc hs3 hs4' hs5 hs6 e7 e8 htx htg hnd hyd HR2 HRI HFL HM0
          cases s3
          · by_cases e0 : np = 0
            · have z0 : false = false → np = 0 := fun _ => e0
              subst e0
              cases s4
              · by_cases e1 : nc = 0
                · have z1 : false = false → nc = 0 := fun _ => e1
                  subst e1
                  cases s5
                  · by_cases e2 : tx = ⟨#[]⟩
                    · have z2 : false = false → tx = ⟨#[]⟩ := fun _ => e2
                      subst e2
                      have u2 := str_emp0
                      cases s6
                      · by_cases e3 : tg = ⟨#[]⟩
                        · have z3 : false = false → tg = ⟨#[]⟩ := fun _ => e3
                          subst e3
                          have u3 := str_emp0
                          obtain rfl : R = 0 := HYD.out (HRI2.out.2 ⟨HI6.out, z0, z1, z2, z3⟩)
                          go_wp2
                          go_ret
                          exact ⟨rfl, HBW.out⟩
                        · obtain rfl : R = 3 := HND.out (fun e => e3 (by have h := HRI2.out.1 e; exact h.2.2.2.2 rfl))
                          have u3 := str_emp e3
                          have w3 := str_nil e3
                          go_wp2
                          go_ret
                          exact ⟨rfl, HBW.out⟩
                      · have z3 : true = false → tg = ⟨#[]⟩ := fun h => by cases h
                        obtain rfl : R = 0 := HYD.out (HRI2.out.2 ⟨HI6.out, z0, z1, z2, z3⟩)
                        go_wp2
                        go_ret
                        exact ⟨rfl, HBW.out⟩
                    · obtain rfl : R = 3 := HND.out (fun e => e2 (by have h := HRI2.out.1 e; exact h.2.2.2.1 rfl))
                      have u2 := str_emp e2
                      have w2 := str_nil e2
                      go_wp2
                      go_ret
                      exact ⟨rfl, HBW.out⟩
                  · have z2 : true = false → tx = ⟨#[]⟩ := fun h => by cases h
                    cases s6
                    · by_cases e3 : tg = ⟨#[]⟩
                      · have z3 : false = false → tg = ⟨#[]⟩ := fun _ => e3
                        subst e3
                        have u3 := str_emp0
                        obtain rfl : R = 0 := HYD.out (HRI2.out.2 ⟨HI6.out, z0, z1, z2, z3⟩)
                        go_wp2
                        go_ret
                        exact ⟨rfl, HBW.out⟩
                      · obtain rfl : R = 3 := HND.out (fun e => e3 (by have h := HRI2.out.1 e; exact h.2.2.2.2 rfl))
                        have u3 := str_emp e3
                        have w3 := str_nil e3
                        go_wp2
                        go_ret
                        exact ⟨rfl, HBW.out⟩
                    · have z3 : true = false → tg = ⟨#[]⟩ := fun h => by cases h
                      obtain rfl : R = 0 := HYD.out (HRI2.out.2 ⟨HI6.out, z0, z1, z2, z3⟩)
                      go_wp2
                      go_ret
                      exact ⟨rfl, HBW.out⟩
                · obtain rfl : R = 3 := HND.out (fun e => e1 (by have h := HRI2.out.1 e; exact h.2.2.1 rfl))
                  have u1 : 0 < (nc : Int) := by omega
                  go_wp2
                  go_ret
                  exact ⟨rfl, HBW.out⟩
              · have z1 : true = false → nc = 0 := fun h => by cases h
                cases s5
                · by_cases e2 : tx = ⟨#[]⟩
                  · have z2 : false = false → tx = ⟨#[]⟩ := fun _ => e2
                    subst e2
                    have u2 := str_emp0
                    cases s6
                    · by_cases e3 : tg = ⟨#[]⟩
                      · have z3 : false = false → tg = ⟨#[]⟩ := fun _ => e3
                        subst e3
                        have u3 := str_emp0
                        obtain rfl : R = 0 := HYD.out (HRI2.out.2 ⟨HI6.out, z0, z1, z2, z3⟩)
                        go_wp2
                        go_ret
                        exact ⟨rfl, HBW.out⟩
                      · obtain rfl : R = 3 := HND.out (fun e => e3 (by have h := HRI2.out.1 e; exact h.2.2.2.2 rfl))
                        have u3 := str_emp e3
                        have w3 := str_nil e3
                        go_wp2
                        go_ret
                        exact ⟨rfl, HBW.out⟩
                    · have z3 : true = false → tg = ⟨#[]⟩ := fun h => by cases h
                      obtain rfl : R = 0 := HYD.out (HRI2.out.2 ⟨HI6.out, z0, z1, z2, z3⟩)
                      go_wp2
                      go_ret
                      exact ⟨rfl, HBW.out⟩
                  · obtain rfl : R = 3 := HND.out (fun e => e2 (by have h := HRI2.out.1 e; exact h.2.2.2.1 rfl))
                    have u2 := str_emp e2
                    have w2 := str_nil e2
                    go_wp2
                    go_ret
                    exact ⟨rfl, HBW.out⟩
                · have z2 : true = false → tx = ⟨#[]⟩ := fun h => by cases h
                  cases s6
                  · by_cases e3 : tg = ⟨#[]⟩
                    · have z3 : false = false → tg = ⟨#[]⟩ := fun _ => e3
                      subst e3
                      have u3 := str_emp0
                      obtain rfl : R = 0 := HYD.out (HRI2.out.2 ⟨HI6.out, z0, z1, z2, z3⟩)
                      go_wp2
                      go_ret
                      exact ⟨rfl, HBW.out⟩
                    · obtain rfl : R = 3 := HND.out (fun e => e3 (by have h := HRI2.out.1 e; exact h.2.2.2.2 rfl))
                      have u3 := str_emp e3
                      have w3 := str_nil e3
                      go_wp2
                      go_ret
                      exact ⟨rfl, HBW.out⟩
                  · have z3 : true = false → tg = ⟨#[]⟩ := fun h => by cases h
                    obtain rfl : R = 0 := HYD.out (HRI2.out.2 ⟨HI6.out, z0, z1, z2, z3⟩)
                    go_wp2
                    go_ret
                    exact ⟨rfl, HBW.out⟩
            · obtain rfl : R = 3 := HND.out (fun e => e0 (by have h := HRI2.out.1 e; exact h.2.1 rfl))
              have u0 : 0 < (np : Int) := by omega
              go_wp2
              go_ret
              exact ⟨rfl, HBW.out⟩
          · have z0 : true = false → np = 0 := fun h => by cases h
            cases s4
            · by_cases e1 : nc = 0
              · have z1 : false = false → nc = 0 := fun _ => e1
                subst e1
                cases s5
                · by_cases e2 : tx = ⟨#[]⟩
                  · have z2 : false = false → tx = ⟨#[]⟩ := fun _ => e2
                    subst e2
                    have u2 := str_emp0
                    cases s6
                    · by_cases e3 : tg = ⟨#[]⟩
                      · have z3 : false = false → tg = ⟨#[]⟩ := fun _ => e3
                        subst e3
                        have u3 := str_emp0
                        obtain rfl : R = 0 := HYD.out (HRI2.out.2 ⟨HI6.out, z0, z1, z2, z3⟩)
                        go_wp2
                        go_ret
                        exact ⟨rfl, HBW.out⟩
                      · obtain rfl : R = 3 := HND.out (fun e => e3 (by have h := HRI2.out.1 e; exact h.2.2.2.2 rfl))
                        have u3 := str_emp e3
                        have w3 := str_nil e3
                        go_wp2
                        go_ret
                        exact ⟨rfl, HBW.out⟩
                    · have z3 : true = false → tg = ⟨#[]⟩ := fun h => by cases h
                      obtain rfl : R = 0 := HYD.out (HRI2.out.2 ⟨HI6.out, z0, z1, z2, z3⟩)
                      go_wp2
                      go_ret
                      exact ⟨rfl, HBW.out⟩
                  · obtain rfl : R = 3 := HND.out (fun e => e2 (by have h := HRI2.out.1 e; exact h.2.2.2.1 rfl))
                    have u2 := str_emp e2
                    have w2 := str_nil e2
                    go_wp2
                    go_ret
                    exact ⟨rfl, HBW.out⟩
                · have z2 : true = false → tx = ⟨#[]⟩ := fun h => by cases h
                  cases s6
                  · by_cases e3 : tg = ⟨#[]⟩
                    · have z3 : false = false → tg = ⟨#[]⟩ := fun _ => e3
                      subst e3
                      have u3 := str_emp0
                      obtain rfl : R = 0 := HYD.out (HRI2.out.2 ⟨HI6.out, z0, z1, z2, z3⟩)
                      go_wp2
                      go_ret
                      exact ⟨rfl, HBW.out⟩
                    · obtain rfl : R = 3 := HND.out (fun e => e3 (by have h := HRI2.out.1 e; exact h.2.2.2.2 rfl))
                      have u3 := str_emp e3
                      have w3 := str_nil e3
                      go_wp2
                      go_ret
                      exact ⟨rfl, HBW.out⟩
                  · have z3 : true = false → tg = ⟨#[]⟩ := fun h => by cases h
                    obtain rfl : R = 0 := HYD.out (HRI2.out.2 ⟨HI6.out, z0, z1, z2, z3⟩)
                    go_wp2
                    go_ret
                    exact ⟨rfl, HBW.out⟩
              · obtain rfl : R = 3 := HND.out (fun e => e1 (by have h := HRI2.out.1 e; exact h.2.2.1 rfl))
                have u1 : 0 < (nc : Int) := by omega
                go_wp2
                go_ret
                exact ⟨rfl, HBW.out⟩
            · have z1 : true = false → nc = 0 := fun h => by cases h
              cases s5
              · by_cases e2 : tx = ⟨#[]⟩
                · have z2 : false = false → tx = ⟨#[]⟩ := fun _ => e2
                  subst e2
                  have u2 := str_emp0
                  cases s6
                  · by_cases e3 : tg = ⟨#[]⟩
                    · have z3 : false = false → tg = ⟨#[]⟩ := fun _ => e3
                      subst e3
                      have u3 := str_emp0
                      obtain rfl : R = 0 := HYD.out (HRI2.out.2 ⟨HI6.out, z0, z1, z2, z3⟩)
                      go_wp2
                      go_ret
                      exact ⟨rfl, HBW.out⟩
                    · obtain rfl : R = 3 := HND.out (fun e => e3 (by have h := HRI2.out.1 e; exact h.2.2.2.2 rfl))
                      have u3 := str_emp e3
                      have w3 := str_nil e3
                      go_wp2
                      go_ret
                      exact ⟨rfl, HBW.out⟩
                  · have z3 : true = false → tg = ⟨#[]⟩ := fun h => by cases h
                    obtain rfl : R = 0 := HYD.out (HRI2.out.2 ⟨HI6.out, z0, z1, z2, z3⟩)
                    go_wp2
                    go_ret
                    exact ⟨rfl, HBW.out⟩
                · obtain rfl : R = 3 := HND.out (fun e => e2 (by have h := HRI2.out.1 e; exact h.2.2.2.1 rfl))
                  have u2 := str_emp e2
                  have w2 := str_nil e2
                  go_wp2
                  go_ret
                  exact ⟨rfl, HBW.out⟩
              · have z2 : true = false → tx = ⟨#[]⟩ := fun h => by cases h
                cases s6
                · by_cases e3 : tg = ⟨#[]⟩
                  · have z3 : false = false → tg = ⟨#[]⟩ := fun _ => e3
                    subst e3
                    have u3 := str_emp0
                    obtain rfl : R = 0 := HYD.out (HRI2.out.2 ⟨HI6.out, z0, z1, z2, z3⟩)
                    go_wp2
                    go_ret
                    exact ⟨rfl, HBW.out⟩
                  · obtain rfl : R = 3 := HND.out (fun e => e3 (by have h := HRI2.out.1 e; exact h.2.2.2.2 rfl))
                    have u3 := str_emp e3
                    have w3 := str_nil e3
                    go_wp2
                    go_ret
                    exact ⟨rfl, HBW.out⟩
                · have z3 : true = false → tg = ⟨#[]⟩ := fun h => by cases h
                  obtain rfl : R = 0 := HYD.out (HRI2.out.2 ⟨HI6.out, z0, z1, z2, z3⟩)
                  go_wp2
                  go_ret
                  exact ⟨rfl, HBW.out⟩
end Go.Proofs.YtlbfibnfmijahaaGreat
