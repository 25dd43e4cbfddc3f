/-
  A part of the texts of one proof, put together: MsgU, MsgNw, Q17, MsgL0, BdyE, BdyX, SamA, BdyKn, Read, ReadRef, Zag, BdyF, MsgH, BdyG, Q13, BdyH, BdyI.
-/
import Derived.Test.YtmjbimmbphofjaaRows
import Derived.WalkLawsBesides
import Derived.BigQuiet
import Derived.Deep.QuietTactic
import Derived.Deep.LoopGhost
import Derived.Lib.Hide
import Derived.WalkMore
import Derived.ArgAppend
import Derived.Deep.Upon
import Derived.Maps.AppendAt
import Derived.Test.YtmjbimmbphofjaaMDecDecodesProof3
namespace Go.Proofs.Ytmjbimmbphofjaa
open Go.RowKit Go.Shelf
set_option maxRecDepth 100000
attribute [local go_sem] Oper.semAt_some

set_option maxHeartbeats 16000000 in
theorem rmproject_any (M : Mg) (ap ac : Option Addr) (np nc cp cc : Nat) (v : Int) (w : World) : Calls Try.prog 19 #[mV M (.slice ap np cp) (.slice ac nc cc), .int .i64 v] w fun e w' => e = .returned (mV (mproj M v) (.slice ap np cp) (.slice ac nc cc)) ∧ Below w.heap.size w w' := by
  obtain ⟨G, hG⟩ : ∃ G, mproj M v = G := ⟨_, rfl⟩
  rw [hG]
  unfold mproj at hG
  obtain ⟨w2, hw2⟩ : ∃ w2, w2 = (w.alloc (.cells (mC M (.slice ap np cp) (.slice ac nc cc)) 36)).alloc (.cells (mC (Mg.zero 0) (.slice none 0 0) (.slice none 0 0)) 36) := ⟨_, rfl⟩
  have hs2 : w2.heap.size = w.heap.size + 2 := by rw [hw2]; simp
  have hb2 : Below w.heap.size w w2 := by rw [hw2]; exact ((Below.refl _ w).alloc (Nat.le_refl _) _).alloc (by simp) _
  have q0 : w2.heap[w.heap.size]? = some (.cells (mC M (.slice ap np cp) (.slice ac nc cc)) 36 (0, 0)) := by
    rw [hw2, Below.heap_alloc _ _ _ (by simp)]; exact World.alloc_heap_new _ _
  have q1 : w2.heap[w.heap.size + 1]? = some (.cells (mC (Mg.zero 0) (.slice none 0 0) (.slice none 0 0)) 36 (0, 0)) := by
    have := World.alloc_heap_new (w.alloc (.cells (mC M (.slice ap np cp) (.slice ac nc cc)) 36)) (.cells (mC (Mg.zero 0) (.slice none 0 0) (.slice none 0 0)) 36)
    rw [World.size_alloc] at this
    rw [hw2]; exact this
  have KR := Lib.hid (rall_any M.k)
  unfold mV
  simp only [mC, Mg.zero] at hw2 ⊢
  have HW := Lib.hid hw2
  by_cases hv : v = 1
  case neg =>
    have hvn : (v != 1) = true := by simpa using hv
    rw [if_neg hv] at hG
    subst hG
    obtain ⟨f0, f1, f2, f3, f4, f5, f6, f7, f8, f9, f10⟩ := mg_block q0
    have HR1 := Lib.hid q1
    have HB2 := Lib.hid hb2
    have HR1' := Lib.hid (hw2 ▸ q1)
    clear f0 f1 f2 f3 f4 f5 f6 f7 f8 f9 f10 q0 q1 hb2 hw2 hs2 hv KR
    go_enter Try.func19, Try.ntmps19
    go_wp2_with (refine wpList_store_row rfl 36 (.tmp 4) (.tmp 9) rfl (w.heap.size + 1) #[.int .i64 M.k, .int .i64 M.n0, .int .i64 M.n1, .int .i64 M.n2, .int .i64 M.n3, .int .i64 M.n4, .int .i64 M.n5, .slice ap np cp, .slice ac nc cc, .string M.tx, .string M.tg] rfl rfl 36 _ HR1'.out rmInfo rfl (by simp [Value.oneCell']) ?_)
    rw [← HW.out]
    have hfin := setRow_heap w2 (w.heap.size + 1) _ #[.int .i64 M.k, .int .i64 M.n0, .int .i64 M.n1, .int .i64 M.n2, .int .i64 M.n3, .int .i64 M.n4, .int .i64 M.n5, .slice ap np cp, .slice ac nc cc, .string M.tx, .string M.tg] _ _ HR1.out
    have hoff := Off.setRow (S := fun k => k = w.heap.size + 1) (Off.refl _ w2) rfl #[.int .i64 M.k, .int .i64 M.n0, .int .i64 M.n1, .int .i64 M.n2, .int .i64 M.n3, .int .i64 M.n4, .int .i64 M.n5, .slice ap np cp, .slice ac nc cc, .string M.tx, .string M.tg]
    have hbf := HB2.out.trans (hoff.below (B := w.heap.size) (fun k hk => by omega) HB2.out.size)
    generalize w2.setRow (w.heap.size + 1) _ = Wf at *
    obtain ⟨y0, y1, y2, y3, y4, y5, y6, y7, y8, y9, y10⟩ := mg_block hfin
    refine bodyPost_ret (v := .agg #[.int .i64 M.k, .int .i64 M.n0, .int .i64 M.n1, .int .i64 M.n2, .int .i64 M.n3, .int .i64 M.n4, .int .i64 M.n5, .slice ap np cp, .slice ac nc cc, .string M.tx, .string M.tg]) (by simp [results, Try.results19, go_sem, y0, y1, y2, y3, y4, y5, y6, y7, y8, y9, y10]) rfl ?_
    exact ⟨rfl, hbf⟩
  subst hv
  rw [if_pos rfl] at hG
  have KF := Lib.hid (FD_fdok M.k)
  have h6 := FD_few M.k
  have kk := row_cell q0 0 (.int .i64 M.k) rfl
  rw [hw2] at kk
  have HQ := Lib.hid (And.intro q0 q1)
  have HB2 := Lib.hid hb2
  clear hw2 q0 q1 hb2
  go_enter Try.func19, Try.ntmps19
  go_wp2_with fail
  rw [← HW.out]
  refine (KR.out w2).mono ?_
  intro e w3 hOf
  obtain ⟨A, cA, rfl, hcA, hA, hb3⟩ := hOf
  have p0 := (hb3.block _ (by omega)).trans HQ.out.1
  have p1 := (hb3.block _ (by omega)).trans HQ.out.2
  have hs3 := hb3.size
  have HB3 := Lib.hid (HB2.out.trans (hb3.mono HB2.out.size))
  obtain ⟨L, hL⟩ : ∃ L, FD M.k = L := ⟨_, rfl⟩
  rw [hL] at hG KF h6 hcA hA ⊢
  obtain ⟨n, hn⟩ : ∃ n, L.length = n := ⟨_, rfl⟩
  rw [hn] at h6 hcA ⊢
  have HN := Lib.hid hn
  have HG := Lib.hid hG
  have HA := Lib.hid hA
  have HGE : Hid (∀ g, A = some ⟨g, 0, none⟩ → L ≠ [] → w.heap.size + 2 ≤ g) := Lib.hid (fun g hg hne => by
    obtain ⟨f, r, rfl⟩ := List.exists_cons_of_ne_nil hne
    obtain ⟨g', h1, h2, _⟩ := hA 0 f rfl
    rw [hg] at h1
    injection h1 with h1
    injection h1 with h1
    omega)
  have HP := Lib.hid (And.intro p0 p1)
  clear hL hn hG hA hb3 p0 p1 kk HQ HB2 KR HW
  go_wp2
  go_loopw [6] (fun iv wr => ∃ j : Nat, j ≤ n ∧ iv = .int .i64 (j : Int) ∧ Hid (wr.heap[w.heap.size]? = some (.cells (mC ((L.take j).foldl prj M) (.slice ap np cp) (.slice ac nc cc)) 36 (0, 0))) ∧ Hid (Off (fun q => q = w.heap.size) w3 wr)) (fun iv _ => n - (intOf iv).toNat)
  case atStart => exact ⟨0, by omega, rfl, Lib.hid HP.out.1, Lib.hid (Off.refl _ _)⟩
  case round =>
    obtain ⟨j, hj, rfl, HM, HO⟩ := hrel
    rcases Nat.lt_or_ge j n with hlt | hge
    · obtain ⟨f, hf⟩ : ∃ f, L[j]? = some f := ⟨_, List.getElem?_eq_getElem (by rw [HN.out]; exact hlt)⟩
      obtain ⟨g, rfl, _, hgl, d0, d1, d2, d3, d4, d5, d6⟩ := HA.out.seven hf
      have k := fun q x (hx : w3.cell? ⟨g, q, none⟩ = some x) => HO.out.cell hx (by show ¬ (g = w.heap.size); have := HGE.out g rfl (fun e => by rw [e] at hf; simp at hf); omega)
      have d1 := k _ _ d1
      have d2 := k _ _ d2
      have d3 := k _ _ d3
      have d5 := k _ _ d5
      have d6 := k _ _ d6
      clear k d0 d4
      have ok := KF.out f (List.mem_of_getElem? hf)
      have hst := fold_take hf prj M
      have HST := Lib.hid hst
      have hj2 : (j : Int) < (n : Int) := by omega
      have hnA : (n : Int) ≤ (cA : Int) := by omega
      obtain ⟨Mj, hMj⟩ : ∃ Mj, (L.take j).foldl prj M = Mj := ⟨_, rfl⟩
      rw [hMj] at HM HST
      have hgw : g ≠ w.heap.size := by have := HGE.out g rfl (fun e => by rw [e] at hf; simp at hf); omega
      clear hf hst hMj d3
      by_cases hsi : f.si ≤ 1
      · have hp : prj Mj f = Mj := if_pos hsi
        have q2 : (f.si == 2) = false := by simp; omega
        rw [hp] at HST
        clear hp ok hsi d1 d2 d6
        go_wp2
        exact ⟨⟨j + 1, by omega, by go_num, by rw [HST.out]; exact HM, HO⟩, by simp only [intOf]; omega⟩
      · have hs2' : f.si = 2 := by rcases ok.si with h | h <;> omega
        rw [hs2'] at d5
        by_cases h6 : f.so = 6
        · have hp : prj Mj f = { Mj with tg := ⟨#[]⟩ } := by unfold prj; rw [if_neg hsi, if_pos h6]
          have hno := ok.no (by omega)
          rw [h6] at d1
          rw [hno] at d2
          have c10 := (mg_block HM.out).2.2.2.2.2.2.2.2.2.2
          have z10 := frozen_of_row wr w.heap.size 10 _ _ HM.out
          have HM2 : Hid ((wr.setCell ⟨w.heap.size, 10, none⟩ (.string ⟨#[]⟩)).heap[w.heap.size]? = some (.cells (mC (prj Mj f) (.slice ap np cp) (.slice ac nc cc)) 36 (0, 0))) := Lib.hid (by rw [setCell_at HM.out, hp]; rfl)
          have HO2 := Lib.hid (HO.out.setCell (p := ⟨w.heap.size, 10, none⟩) rfl (.string ⟨#[]⟩))
          clear hp ok hsi hno hs2' d6
          go_wp2
          exact ⟨⟨j + 1, by omega, by go_num, by rw [HST.out]; exact HM2, HO2⟩, by simp only [intOf]; omega⟩
        · have q6 : (f.so == 6) = false := by simpa using h6
          by_cases h3 : f.so < 3
          · obtain ⟨jn, hjn, hpl⟩ := ok.pl h3
            have hp : prj Mj f = Mj.put jn f.ab := by unfold prj; rw [if_neg hsi, if_neg h6, if_pos (by omega), hpl, Int.toNat_natCast]
            rw [hpl] at d2
            have cn := mg_at HM.out hjn
            have zn := frozen_of_row wr w.heap.size (1 + jn) _ _ HM.out
            have HM2 : Hid ((wr.setCell ⟨w.heap.size, 1 + jn, none⟩ (.int .i64 f.ab)).heap[w.heap.size]? = some (.cells (mC (prj Mj f) (.slice ap np cp) (.slice ac nc cc)) 36 (0, 0))) := Lib.hid (by rw [setCell_at HM.out, mC_put hjn, hp])
            have HO2 := Lib.hid (HO.out.setCell (p := ⟨w.heap.size, 1 + jn, none⟩) rfl (.int .i64 f.ab))
            have hj6 : (jn : Int) < 6 := by omega
            clear hp ok hsi hpl hs2' h3 h6
            go_wp2
            go_region
            go_wp2
            exact ⟨⟨j + 1, by omega, by go_num, by rw [HST.out]; exact HM2, Lib.hid (off_below HO2.out ((Below.refl _ _).drew))⟩, by simp only [intOf]; omega⟩
          · have hno := ok.no h3
            have hp : prj Mj f = Mj := by unfold prj; rw [if_neg hsi, if_neg h6, if_neg (by omega)]
            rw [hp] at HST
            rw [hno] at d2
            clear hp ok hsi hno hs2' h3 d6
            go_wp2
            exact ⟨⟨j + 1, by omega, by go_num, by rw [HST.out]; exact HM, HO⟩, by simp only [intOf]; omega⟩
    · obtain rfl : j = n := by omega
      have hm := HM.out
      rw [List.take_of_length_le (by rw [HN.out]; exact Nat.le_refl _), HG.out] at hm
      obtain ⟨f0, f1, f2, f3, f4, f5, f6, f7, f8, f9, f10⟩ := mg_block hm
      have HR1 := Lib.hid ((HO.out.block (w.heap.size + 1) (by omega) (by omega)).trans HP.out.2)
      have HBW := Lib.hid (HB3.out.trans (HO.out.below (B := w.heap.size) (fun k hk => by omega) HB3.out.size))
      clear hm
      go_wp2_with (refine wpList_store_row rfl 36 (.tmp 4) (.tmp 60) rfl (w.heap.size + 1) #[.int .i64 G.k, .int .i64 G.n0, .int .i64 G.n1, .int .i64 G.n2, .int .i64 G.n3, .int .i64 G.n4, .int .i64 G.n5, .slice ap np cp, .slice ac nc cc, .string G.tx, .string G.tg] rfl rfl 36 _ HR1.out rmInfo rfl (by simp [Value.oneCell']) ?_)
      have hfin := setRow_heap wr (w.heap.size + 1) _ #[.int .i64 G.k, .int .i64 G.n0, .int .i64 G.n1, .int .i64 G.n2, .int .i64 G.n3, .int .i64 G.n4, .int .i64 G.n5, .slice ap np cp, .slice ac nc cc, .string G.tx, .string G.tg] _ _ HR1.out
      have hoff := Off.setRow (S := fun k => k = w.heap.size + 1) (Off.refl _ wr) rfl #[.int .i64 G.k, .int .i64 G.n0, .int .i64 G.n1, .int .i64 G.n2, .int .i64 G.n3, .int .i64 G.n4, .int .i64 G.n5, .slice ap np cp, .slice ac nc cc, .string G.tx, .string G.tg]
      have hbf := HBW.out.trans (hoff.below (B := w.heap.size) (fun k hk => by omega) HBW.out.size)
      generalize wr.setRow (w.heap.size + 1) _ = Wf at *
      obtain ⟨y0, y1, y2, y3, y4, y5, y6, y7, y8, y9, y10⟩ := mg_block hfin
      refine bodyPost_ret (v := .agg #[.int .i64 G.k, .int .i64 G.n0, .int .i64 G.n1, .int .i64 G.n2, .int .i64 G.n3, .int .i64 G.n4, .int .i64 G.n5, .slice ap np cp, .slice ac nc cc, .string G.tx, .string G.tg]) (by simp [results, Try.results19, go_sem, y0, y1, y2, y3, y4, y5, y6, y7, y8, y9, y10]) rfl ?_
      exact ⟨rfl, hbf⟩
end Go.Proofs.Ytmjbimmbphofjaa

namespace Go.Proofs.Ytmjbimmbphofjaa
open Go.RowKit Go.Shelf
set_option maxRecDepth 100000
attribute [local go_sem] Oper.semAt_some

/-- a message's box b2 of the document's, its lists in rows of its own at base or above -/
structure RnB (b2 base : Nat) (w4 : World) (M : Mg) (V : World) : Prop where
  m : ∃ P C, V.heap[b2]? = some (.cells (mC M P C) 36 (0, 0)) ∧ V.ownsRow base 74 2 P M.p.length ((fl2 M.p).map (Value.int .i64)) ∧ V.ownsRow base 3 1 C M.c.length (M.c.map (Value.int .i64))
  off : Off (fun q => q = b2) w4 V
section
variable {b2 base : Nat} {w4 V V' : World} {M M' : Mg}
theorem RnB.later (h : RnB b2 base w4 M V) (hb : Below V.heap.size V V') : RnB b2 base w4 M V' := by
  obtain ⟨P, C, h1, h2, h3⟩ := h.m
  exact ⟨⟨P, C, (hb.block _ (Array.getElem?_eq_some_iff.1 h1).1).trans h1, own_below7 h2 hb, own_below7 h3 hb⟩, off_below h.off (hb.mono h.off.size)⟩
theorem RnB.set (h : RnB b2 base w4 M V) (hb : b2 < base) (j : Nat) (u : Value) (hM : ∀ P C, V.ownsRow base 74 2 P M.p.length ((fl2 M.p).map (Value.int .i64)) → V.ownsRow base 3 1 C M.c.length (M.c.map (Value.int .i64)) → ∃ P' C', (mC M P C).setIfInBounds j u = mC M' P' C' ∧ V.ownsRow base 74 2 P' M'.p.length ((fl2 M'.p).map (Value.int .i64)) ∧ V.ownsRow base 3 1 C' M'.c.length (M'.c.map (Value.int .i64))) : RnB b2 base w4 M' (V.setCell ⟨b2, j, none⟩ u) := by
  obtain ⟨P, C, h1, h2, h3⟩ := h.m
  obtain ⟨P', C', h4, h5, h6⟩ := hM P C h2 h3
  exact ⟨⟨P', C', by rw [setCell_at h1, h4], ownsRow_setCell_below h5 (a := ⟨b2, j, none⟩) hb _, ownsRow_setCell_below h6 (a := ⟨b2, j, none⟩) hb _⟩, h.off.setCell (p := ⟨b2, j, none⟩) rfl _⟩
theorem RnB.num (h : RnB b2 base w4 M V) (hb : b2 < base) {j : Nat} (hj : j < 6) (v : Int) : RnB b2 base w4 (M.put j v) (V.setCell ⟨b2, 1 + j, none⟩ (.int .i64 v)) :=
  h.set hb (1 + j) (.int .i64 v) (fun P C h1 h2 => ⟨P, C, mC_put hj .., by rw [Mg.put_p]; exact h1, by rw [Mg.put_c]; exact h2⟩)
theorem RnB.at (h : RnB b2 base w4 M V) {j : Nat} (hj : j < 6) : V.cell? ⟨b2, 1 + j, none⟩ = some (.int .i64 (M.at' j)) ∧ V.frozen? ⟨b2, 1 + j, none⟩ = false := by
  obtain ⟨P, C, h1, _⟩ := h.m
  exact ⟨mg_at h1 hj, frozen_of_row V b2 (1 + j) _ _ h1⟩
end
end Go.Proofs.Ytmjbimmbphofjaa

namespace Go.Proofs.Ytmjbimmbphofjaa
open Go.RowKit
section
variable {P : Program} {l : List Oper} {I : World → Prop} {fs : List Tmp} {FS : Tmp → Value → World → Prop} {E : Act → Prop} {o : Oper} {rest : List Oper} {a : Act}
/-- an operation that enters no function and looks at a value that is known by what it is good for alone -/
theorem wpF_useval (s : Tmp) (j : Nat) (v : Value) (hs : s ∈ fs) (hj : (l[j]?).bind (·.dst) = some s) (hje : (o.after.any fun e => Region.binds .any e && e.on == j) = true)
    (hn : ((o.looksAt l.toArray).all fun d => !fs.contains d || d == s) = true) (hdst : (match o.dst with | some d => !fs.contains d | none => true) = true) (hw : ∀ x, Region.wanted o (yielded l.toArray (a.put (some s) x).tmps) = true)
    (hrun : ∀ x w, I w → FS s x w → (execOp (a.put (some s) x).eval o).run P w = .ok (.value v) w) (h : wpF P l.toArray I fs FS E rest (a.put o.dst v)) : wpF P l.toArray I fs FS E (o :: rest) a := by
  refine ⟨v, .inr (.inr (.inl ⟨s, hs, ⟨j, by simpa using hj, hje⟩, fun d hd hf => ?_, fun d hd hf => ?_, fun x w hI hx => ⟨hw x, ?_⟩⟩)), h⟩
  · rw [List.all_eq_true] at hn
    have := hn d hd
    simpa [hf] using this
  · rw [hd] at hdst
    simp [hf] at hdst
  · rw [hrun x w hI hx]
    exact ⟨rfl, rfl⟩
end
end Go.Proofs.Ytmjbimmbphofjaa

namespace Go.Proofs.Ytmjbimmbphofjaa
open Go.RowKit Go.Shelf
set_option maxRecDepth 100000
attribute [local go_sem] Oper.semAt_some

theorem mproj_p (M : Mg) (v : Int) : (mproj M v).p = M.p := by
  unfold mproj
  split
  · exact fold_prj_p _ _
  · rfl
theorem mproj_c (M : Mg) (v : Int) : (mproj M v).c = M.c := by
  unfold mproj
  split
  · exact fold_prj_c _ _
  · rfl
/-- a message that a call has made -/
def FMs (M : Mg) (x : Value) (W : World) : Prop := ∃ P C, x = mV M P C ∧ MAt W W.heap.size M P C
theorem FMs.later {M : Mg} {x : Value} {W W' : World} (h : FMs M x W) (hb : Below W.heap.size W W') : FMs M x W' := by
  obtain ⟨P, C, h1, h2⟩ := h
  exact ⟨P, C, h1, h2.later hb⟩
section
variable {M M' : Mg} {x y : Value} {W : World}
theorem of_F (hs : Msm M) (h : FMs M x W) : Calls Try.prog 10 #[x] W fun e w' => ∃ u, e = .returned u ∧ FMs M u w' ∧ Below W.heap.size W w' := by
  obtain ⟨P, C, rfl, h1⟩ := h
  refine (mof_any M P C W hs h1).mono fun e w' h => ?_
  obtain ⟨P', rfl, ho, hb⟩ := h
  obtain ⟨a, c, g1, g2, g3⟩ := nums_of_own ho (by omega)
  exact ⟨_, rfl, ⟨P', C, rfl, ⟨a, c, g1, g2, g3⟩, (h1.later hb).c⟩, hb⟩
theorem chk_F (hs : Msm M) (h : FMs M x W) : Calls Try.prog 21 #[x] W fun e w' => e = .returned (.int .i64 (mck M)) ∧ Below W.heap.size W w' := by
  obtain ⟨P, C, rfl, h1⟩ := h
  exact mcheck_any M P C W hs h1
theorem rsame_F (hs : Msm M) (h : FMs M x W) (h' : FMs M' y W) : Calls Try.prog 18 #[x, y] W fun e w' => e = .returned (.bool (decide (M = M'))) ∧ Below W.heap.size W w' := by
  obtain ⟨P, C, rfl, h1⟩ := h
  obtain ⟨P', C', rfl, h2⟩ := h'
  exact rmsame_any M M' P C P' C' W hs h1 h2
end
/-- a message's box, read -/
theorem mg_read {W : World} {b : Nat} {M : Mg} {P C : Value} {t : TypeId} (h : W.heap[b]? = some (.cells (mC M P C) t (0, 0))) :
    (Instr.loadAt 26 (.pointer (some ⟨b, 0, none⟩))).run Try.prog W = .ok (mV M P C) W := by
  obtain ⟨f0, f1, f2, f3, f4, f5, f6, f7, f8, f9, f10⟩ := mg_block h
  simp [Instr.loadAt, go_sem, f0, f1, f2, f3, f4, f5, f6, f7, f8, f9, f10, mV, mC]
end Go.Proofs.Ytmjbimmbphofjaa

namespace Go.Proofs.Ytmjbimmbphofjaa
open Go.RowKit Go.Shelf
set_option maxRecDepth 100000
attribute [local go_sem] Oper.semAt_some

theorem FdsIn.up {lo : Nat} {w w' : World} {A : Option Addr} {L : List Fd} (h : FdsIn lo w A L) (hb : Below w.heap.size w w') : FdsIn lo w' A L := fun j f hj => by
  obtain ⟨g, h1, h2, h3, h4⟩ := h j f hj
  exact ⟨g, h1, h2, Nat.lt_of_lt_of_le h3 hb.size, fun q u hq => (hb.cell (p := ⟨g, j * 7 + q, none⟩) h3).trans (h4 q u hq)⟩
/-- a box of the document's message, read -/
theorem mr_look {W : World} {b : Nat} {M : Mg} {P C : Value} {t : TypeId} (h : W.heap[b]? = some (.cells (mC M P C) t (0, 0))) :
    (Instr.loadAt 36 (.pointer (some ⟨b, 0, none⟩))).run Try.prog W = .ok (.agg (mC M P C)) W := by
  obtain ⟨f0, f1, f2, f3, f4, f5, f6, f7, f8, f9, f10⟩ := mg_block h
  simp [Instr.loadAt, go_sem, f0, f1, f2, f3, f4, f5, f6, f7, f8, f9, f10, mC]
/-- what Encode answers -/
def EncR (w : World) (r : List Int × Int) (e : Ending) (w' : World) : Prop := ∃ x, e = .returned (.tuple #[x, .int .i64 r.2]) ∧ Made w w' r.1 x
end Go.Proofs.Ytmjbimmbphofjaa

namespace Go.Proofs.Ytmjbimmbphofjaa
open Go.RowKit Go.Shelf
set_option maxRecDepth 100000
attribute [local go_sem] Oper.semAt_some

theorem bknown_any (v : Int) (w : World) : Calls Try.prog 35 #[.int .i64 v] w fun e w' => e = .returned (.bool (decide (v = 1 ∨ v = 2))) ∧ w = w' := by
  by_cases h1 : v = 1
  · rw [decide_eq_true (.inl h1)]
    subst h1
    go_enter Try.func35, Try.ntmps35
    go_wp2
    go_ret
    exact ⟨rfl, rfl⟩
  · have e1 : (v == 1) = false := by simpa using h1
    by_cases h2 : v = 2
    · rw [decide_eq_true (.inr h2)]
      subst h2
      go_enter Try.func35, Try.ntmps35
      go_wp2
      go_ret
      exact ⟨rfl, rfl⟩
    · rw [decide_eq_false (by omega)]
      have e2 : (v == 2) = false := by simpa using h2
      go_enter Try.func35, Try.ntmps35
      go_wp2
      go_ret
      exact ⟨rfl, rfl⟩
/-- why a message has no body in a version -/
def bwr (M : Mg) (v : Int) : Int := if v ≠ 1 ∧ v ≠ 2 then 10 else mck M
theorem bwrong_any (M : Mg) (P C : Value) (v : Int) (w : World) (hs : Msm M) (h1 : MAt w w.heap.size M P C) : Calls Try.prog 24 #[mV M P C, .int .i64 v] w fun e w' => e = .returned (.int .i64 (bwr M v)) ∧ Below w.heap.size w w' := by
  obtain ⟨w2, hw2⟩ : ∃ w2, w.alloc (.cells (mC M P C) 26) = w2 := ⟨_, rfl⟩
  have hb2 : Below w.heap.size w w2 := by rw [← hw2]; exact (Below.refl _ w).alloc (Nat.le_refl _) _
  have q0 : w2.heap[w.heap.size]? = some (.cells (mC M P C) 26 (0, 0)) := by rw [← hw2]; exact World.alloc_heap_new _ _
  have KC := mcheck_any M P C w2 hs (h1.later hb2)
  have KK := Lib.hid (bknown_any v w2)
  have HLD := Lib.hid (mg_read q0)
  have HW2 := Lib.hid hw2
  have HB2 := Lib.hid hb2
  have hlt := Nat.le_of_lt (Array.getElem?_eq_some_iff.1 q0).1
  unfold bwr
  unfold mV at KC HLD ⊢
  have KC := Lib.hid KC
  clear hw2 hb2 q0 h1
  by_cases hv : v = 1 ∨ v = 2
  · rw [decide_eq_true hv] at KK
    rw [if_neg (by omega)]
    go_enter Try.func24, Try.ntmps24
    go_wp2_with fail
    rw [HW2.out]
    refine KK.out.mono ?_
    rintro e w3 ⟨rfl, rfl⟩
    go_wp2_with (refine wpList_load_run rfl 26 (.tmp 2) rfl (some ⟨w.heap.size, 0, none⟩) rfl (.agg (mC M P C)) HLD.out ?_)
    refine KC.out.mono ?_
    rintro e w3 ⟨rfl, hb3⟩
    have HB3 := Lib.hid (HB2.out.trans (hb3.mono hlt))
    clear hb3
    go_wp2
    go_ret
    exact ⟨rfl, HB3.out⟩
  · rw [decide_eq_false hv] at KK
    rw [if_pos (by omega)]
    go_enter Try.func24, Try.ntmps24
    go_wp2_with fail
    rw [HW2.out]
    refine KK.out.mono ?_
    rintro e w3 ⟨rfl, rfl⟩
    go_wp2
    go_ret
    exact ⟨rfl, HB2.out⟩
theorem PenV.putObj {w4 V : World} {b g0 l : Nat} {L : List Int} {o o' : Obj} (h : PenV w4 b g0 L V) (hl : w4.heap.size ≤ l) (ho : V.heap[l]? = some o) (hc : o.isCells = false) : PenV w4 b g0 L (V.putObj l o') := by
  obtain ⟨g, hp, hg, hof, hk⟩ := h
  have hoff : Off (fun k => k = l) V (V.putObj l o') := ⟨rfl, rfl, rfl, by simp [World.putObj], fun k _ hn => World.putObj_heap_other hn⟩
  have hn : ¬ penS b g l := by
    obtain ⟨A, cap, cur, hb, hkr, -, -, hA⟩ := hp
    rintro (rfl | rfl)
    · rw [hb] at ho
      injection ho with ho
      subst ho
      cases hc
    · rcases hA with ⟨-, rfl⟩ | ⟨rfl, -⟩
      · rw [hb] at ho
        injection ho with ho
        subst ho
        cases hc
      · rw [(hkr.cells rfl).2] at ho
        injection ho with ho
        subst ho
        cases hc
  refine ⟨g, hp.off hoff (fun e => hn (.inl e.symm)) (fun e => hn (.inr e.symm)), hg, hof.trans hoff (fun k hk e => by omega), ⟨Nat.le_trans hk.size hoff.size, fun k cs t h3 h4 h5 => ?_⟩⟩
  have h6 := hk.same k cs t h3 h4 h5
  rw [← h6]
  exact hoff.block k (Array.getElem?_eq_some_iff.1 (h6.trans h5)).1 (by have := (Array.getElem?_eq_some_iff.1 h5).1; omega)
theorem PenK.ket {W W' : World} (h : PenK W W') (lo : Nat) : KeT 68 3 lo W W' := ⟨h.size, fun q cs t _ ht hq => h.same q cs t (by rcases ht with rfl | rfl <;> decide) (by rcases ht with rfl | rfl <;> decide) hq⟩
theorem PenAt.kf {V V' : World} {b g s : Nat} {room : Int} {L : List Int} {full : Bool} (h : PenAt V b g room L full) (ho : Off (penS b g) V V') : KeepsFrom s V V' := ⟨ho.size, fun q o _ hq hc => (ho.block q (Array.getElem?_eq_some_iff.1 hq).1 (by
  obtain ⟨A, cap, cur, hb, hkr, -, -, hA⟩ := h
  rintro (rfl | rfl)
  · rw [hb] at hq
    injection hq with hq
    subst hq
    cases hc
  · rcases hA with ⟨-, rfl⟩ | ⟨rfl, -⟩
    · rw [hb] at hq
      injection hq with hq
      subst hq
      cases hc
    · rw [(hkr.cells rfl).2] at hq
      injection hq with hq
      subst hq
      cases hc)).trans hq⟩
theorem PenV.join {w4 V V' : World} {b g g0 : Nat} {L' : List Int} (hg : g = g0 ∨ w4.heap.size ≤ g) (ho : Off (penS b g0) w4 V) (hk : PenK w4 V) (hw : PenV V b g L' V') : PenV w4 b g0 L' V' := by
  obtain ⟨g', h1, h2, h3, h4⟩ := hw
  have := ho.size
  refine ⟨g', h1, by omega, ho.trans h3 ?_, hk.trans h4⟩
  rintro j hj (rfl | rfl)
  · exact .inl rfl
  · rcases hg with rfl | hg
    · exact .inr rfl
    · omega
theorem PenV.row {w4 V : World} {b g0 q : Nat} {L : List Int} {cs : Array Value} (h : PenV w4 b g0 L V) (hq : w4.heap[q]? = some (.cells cs 3 (0, 0))) : V.heap[q]? = some (.cells cs 3 (0, 0)) := by
  obtain ⟨g, -, -, -, hk⟩ := h
  exact hk.row hq (by decide) (by decide)
theorem part_take {M : Mg} {L : List Fd} {j : Nat} {f : Fd} (hf : L[j]? = some f) : ((L.take (j + 1)).map (mpart M)).flatten = ((L.take j).map (mpart M)).flatten ++ mpart M f := by
  rw [List.take_add_one, hf]
  simp
theorem parts_sub (M : Mg) : ∀ (l : List Fd) (j : Nat), (((l.take j).map (mpart M)).flatten).length ≤ ((l.map (mpart M)).flatten).length
  | [], _ => by simp
  | f :: r, 0 => by simp
  | f :: r, j + 1 => by
    have ih := parts_sub M r j
    rw [List.take_succ_cons, List.map_cons, List.flatten_cons, List.map_cons, List.flatten_cons, List.length_append, List.length_append]
    omega
set_option maxHeartbeats 16000000 in
theorem bencode_any (M : Mg) (P C : Value) (v : Int) (w : World) (hs : Msm M) (h1 : MAt w w.heap.size M P C) : Calls Try.prog 8 #[mV M P C, .int .i64 v] w fun e w' => EncR w (benc M v) e w' := by
  obtain ⟨w2, hw2⟩ : ∃ w2, w.alloc (.cells (mC M P C) 26) = w2 := ⟨_, rfl⟩
  have hb2 : Below w.heap.size w w2 := by rw [← hw2]; exact (Below.refl _ w).alloc (Nat.le_refl _) _
  have q0 : w2.heap[w.heap.size]? = some (.cells (mC M P C) 26 (0, 0)) := by rw [← hw2]; exact World.alloc_heap_new _ _
  have KC := bwrong_any M P C v w2 hs (h1.later hb2)
  have HLD := Lib.hid (mg_read q0)
  have HW2 := Lib.hid hw2
  have hlt := Nat.le_of_lt (Array.getElem?_eq_some_iff.1 q0).1
  unfold mV at KC HLD ⊢
  have KC := Lib.hid KC
  by_cases hE : bwr M v = 0
  · have hv : v = 1 ∨ v = 2 := by
      unfold bwr at hE
      by_cases h : v ≠ 1 ∧ v ≠ 2
      · rw [if_pos h] at hE; omega
      · omega
    have hmk : mck M = 0 := by
      unfold bwr at hE
      rwa [if_neg (by omega)] at hE
    have hr : benc M v = (body M v, 0) := by unfold benc; rw [if_neg (by omega), hmk, if_neg (by simp)]
    rw [hr]
    rw [hE] at KC
    have hbl := body_len hv hmk
    have HFE := Lib.hid (show ∀ f ∈ FDv M.k v, FdX f ∧ fE M f = 0 from fun f hf => ⟨FD_fdx M.k f (FDv_sub hf), ((mck_zero M).1 hmk).2.1 f (FDv_sub hf)⟩)
    have HM := Lib.hid h1
    have HB2 := Lib.hid hb2
    have HQ0 := Lib.hid q0
    have HBD : Hid (body M v = ((FDv M.k v).map (mpart M)).flatten) := Lib.hid rfl
    obtain ⟨Bd, hBd⟩ : ∃ Bd, body M v = Bd := ⟨_, rfl⟩
    rw [hBd] at HBD hbl ⊢
    obtain ⟨FL, hFL⟩ : ∃ FL, FDv M.k v = FL := ⟨_, rfl⟩
    rw [hFL] at HFE HBD
    have HFL := Lib.hid hFL
    clear hw2 hb2 q0 h1 hE hr hmk hFL hBd
    refine (callsIn_wide (n := 9)).1 ?_
    refine callsIn_of_wp_marks Try.func8 rfl trivial ?_ rfl
    simp only [Try.ntmps8, List.size_toArray, List.length_cons, List.length_nil, Nat.reduceAdd, Nat.reduceSub, Array.replicate_succ, Array.replicate_zero, List.push_toArray, List.append_toArray, List.nil_append, List.cons_append]
    gi_wp2_with (rw [HW2.out]; refine wpListIn_load_run rfl 26 (.tmp 2) rfl (some ⟨w.heap.size, 0, none⟩) rfl (.agg (mC M P C)) HLD.out ?_)
    refine ⟨trivial, (callsIn_wide.2 KC.out).mono ?_⟩
    rintro e w3 ⟨rfl, hb3⟩
    have hs3 := hb3.size
    have HB3 := Lib.hid hb3
    clear KC hb3
    gi_wp2_with fail
    refine ⟨trivial, (callsIn_wide.2 (new_any 192 w3 (by omega) (by omega))).mono ?_⟩
    rintro e w4 ⟨rfl, hp4, hb4⟩
    rw [show max (192 : Int) 0 = 192 from rfl] at hp4
    obtain ⟨b, hb⟩ : ∃ b, w3.heap.size = b := ⟨_, rfl⟩
    have hs4 := hb4.size
    have hlt0 := (Array.getElem?_eq_some_iff.1 HQ0.out).1
    have q4 := (hb4.block _ (by omega)).trans ((HB3.out.block _ hlt0).trans HQ0.out)
    rw [hb] at hs4 hs3 hp4 hb4 ⊢
    have hbl4 := hp4.lt
    have c0 := row_cell q4 0 (.int .i64 M.k) rfl
    have hlt4 := (Array.getElem?_eq_some_iff.1 q4).1
    obtain ⟨w5, hw5⟩ : ∃ w5, w4.alloc (.cells #[.pointer (some ⟨b, 0, none⟩)] 63) = w5 := ⟨_, rfl⟩
    have hb5 : Below w4.heap.size w4 w5 := by rw [← hw5]; exact (Below.refl _ w4).alloc (Nat.le_refl _) _
    have r5 : w5.heap[w4.heap.size]? = some (.cells #[.pointer (some ⟨b, 0, none⟩)] 63 (0, 0)) := by rw [← hw5]; exact World.alloc_heap_new _ _
    have hs5 : w4.heap.size < w5.heap.size := by rw [← hw5]; simp
    have HW5 := Lib.hid hw5
    have HP5 := Lib.hid (hp4.below hb5)
    have HQ5 := Lib.hid ((hb5.block _ hlt4).trans q4)
    have HR5 := Lib.hid r5
    have HB05 := Lib.hid (HB2.out.trans ((HB3.out.trans ((hb4.mono (by omega)).trans (hb5.mono (by omega)))).mono hlt))
    clear hw5 hb5 r5 hp4 hb4 q4 hb HB3
    gi_wp2_with fail
    rw [HW5.out]
    refine ⟨trivial, (callsIn_wide.2 (fall_any M.k v w5)).mono ?_⟩
    rintro e w6 ⟨rfl, hg0, hg1, hb6⟩
    have hs6 := (Array.getElem?_eq_some_iff.1 hg1).1
    have hC6 : PenV w6 b b [] w6 := PenV.start (HP5.out.below hb6)
    have m6 := (hb6.block _ (Array.getElem?_eq_some_iff.1 HQ5.out).1).trans HQ5.out
    have r6 := (hb6.block _ (Array.getElem?_eq_some_iff.1 HR5.out).1).trans HR5.out
    have hb06 := HB05.out.trans (hb6.mono (by omega))
    have HM6 := Lib.hid m6
    have HR6 := Lib.hid r6
    have HB06 := Lib.hid hb06
    clear hb6 m6 r6 hb06 c0 HP5 HQ5 HR5 HW5
    gi_wp2_with fail
    refine range_stopb rfl (by omega) (gf := 48) (lb := #[.pointer (some ⟨w5.heap.size, 0, none⟩), .pointer (some ⟨w5.heap.size + 1, 0, none⟩)]) rfl trivial (enters_of Try.func48 (by kernel_rfl) rfl)
      (fun f : Fd => #[f.v]) (fun _ => rfl)
      (fun j f V => FL[j]? = some f ∧ PenV w6 b b ((FL.take j).map (mpart M)).flatten V)
      (fun j f q V => (FL[j]? = some f ∧ PenV w6 b b ((FL.take j).map (mpart M)).flatten V) ∧ w6.heap.size ≤ q ∧ V.heap[q]? = some (.cells f.cs 68 (0, 0)))
      (fun j V => PenV w6 b b ((FL.take j).map (mpart M)).flatten V)
      (fun _ _ => False)
      (KeT 68 3 w5.heap.size) FL.length
      (fun j f q V l o o' h hl ho hc' => ⟨⟨h.1.1, h.1.2.putObj hl ho hc'⟩, h.2.1, (World.putObj_heap_other (fun e => by subst e; rw [h.2.2] at ho; injection ho with ho; subst ho; cases hc')).trans h.2.2⟩)
      (fun j V l o o' h hl ho hc' => h.putObj hl ho hc')
      (fun cd V l o o' h hl ho hc' => h)
      (fun _ _ _ h k => h.trans k) (fun V l o o' hl ho hc' => KeT.putObj ho hc')
      (fun o => by rw [List.take_zero]; exact (hC6.later ((Below.refl _ w6).alloc (Nat.le_refl _) _)).later ((Below.refl _ _).alloc (Nat.le_refl _) _)) ?round ?iter ?done ?stop
    case round =>
      rintro l j f V K ⟨hf, hC⟩ hj hK
      have HK := Lib.hid hK
      have hsz := hC.size
      clear hK
      unfold Fd.v Fd.cs
      gi_wp2_with fail
      refine HK.out _ V.heap.size _ ⟨⟨hf, hC.later ((Below.refl _ V).alloc (Nat.le_refl _) _)⟩, hsz, World.alloc_heap_new _ _⟩ ⟨by simp, fun q o _ ho _ => (Below.heap_alloc _ _ _ (Array.getElem?_eq_some_iff.1 ho).1).trans ho⟩ (KeT.of_below ((Below.refl _ V).alloc (Nat.le_refl _) _)) ?_
      clear HK hC
      rintro l V2 hl ⟨⟨_, hC⟩, hq, hc⟩
      obtain ⟨qb, hqb⟩ : ∃ qb, V.heap.size = qb := ⟨_, rfl⟩
      rw [hqb] at hq hc ⊢
      clear hqb
      obtain ⟨g, hp, hg, hof, hk⟩ := hC
      obtain ⟨hfx, hfe⟩ := HFE.out f (List.mem_of_getElem? hf)
      have htk := part_take (M := M) hf
      have hsb := parts_sub M FL (j + 1)
      rw [← HBD.out, htk, List.length_append] at hsb
      have m7 := hk.row HM6.out (by decide) (by decide)
      have r7 := row_cell (hk.row HR6.out (by decide) (by decide)) 0 _ rfl
      have LM := Lib.hid (mg_read m7)
      have LF : Hid ((Instr.loadAt 68 (.pointer (some ⟨qb, 0, none⟩))).run Try.prog V2 = .ok f.v V2) := by
        obtain ⟨t0, t1, t2, t3, t4, t5, t6⟩ := fd_block hc
        exact Lib.hid (by simp [Instr.loadAt, go_sem, t0, t1, t2, t3, t4, t5, t6, Fd.v, Fd.cs])
      have hbv : Below w.heap.size w6 V2 := hof.below (fun k hk => by rcases hk with rfl | rfl <;> omega) (by omega)
      have KW := bwrite_any M f P C b g w.heap.size _ V2 hp (HM.out.below (HB06.out.trans hbv)) (by omega) (by omega) hfx hfe (by omega)
      rw [← htk] at KW
      unfold mV at KW LM
      have KW := Lib.hid KW
      have HP := Lib.hid hp
      have HG := Lib.hid hg
      have HOF := Lib.hid hof
      have HKK := Lib.hid hk
      have HHC := Lib.hid hc
      clear hp hg hof hk m7 hbv htk hsb hc hfx hfe hf
      gi_wp2_with (first | refine wpListIn_load_run rfl 26 (.tmp 2) rfl (some ⟨w.heap.size, 0, none⟩) rfl (.agg (mC M P C)) LM.out ?_ | refine wpListIn_load_run rfl 68 (.tmp 8) rfl (some ⟨qb, 0, none⟩) rfl f.v LF.out ?_)
      refine ⟨trivial, ((callsIn_wide.2 KW.out).inRound l).mono ?_⟩
      rintro e V3 ⟨⟨x, rfl⟩, hv3⟩
      have hj2 := hv3.join HG.out HOF.out HKK.out
      obtain ⟨g', -, -, hof3, hk3⟩ := hv3
      have HKF := Lib.hid (HP.out.kf (s := w6.heap.size) hof3)
      have HKE := Lib.hid (hk3.ket w5.heap.size)
      have HJ := Lib.hid hj2
      clear hof3 hk3 hj2 r7 KW
      gi_wp2
      exact ⟨HKF.out, HJ.out, HKE.out⟩
    case iter =>
      intro Bk X l V hBk hBlt hX hl hD hB hY
      have h := fall_in 8 (by omega) 7 l w5.heap.size M.k v (fun j V => PenV w6 b b ((FL.take j).map (mpart M)).flatten V ∧ Bk V) X
        (fun j A B h hb => ⟨h.1.later hb, hBk A _ h.2 hb.size (fun q h1 h2 => by have := hBlt A h.2; exact hb.block q (by omega))⟩)
        (fun j f W h hf => by
          rw [HFL.out] at hf
          exact (hY j f W ⟨hf, h.1⟩ h.2 (List.getElem?_eq_some_iff.1 hf).1).mono (fun e W2 h => h.elim (fun h => .inl ⟨h.1, h.2.1, h.2.2.1⟩) (fun h => .inr ⟨h.1, h.2.1⟩)))
        V (hD.row hg0) (hD.row hg1) ⟨hD, hB⟩
      rw [HFL.out] at h
      exact h
    case done =>
      rintro D V hD hC hK
      rw [List.take_length, ← HBD.out] at hC
      obtain ⟨g, hp, -, hof, hk⟩ := hC
      have r7 := row_cell (hk.row HR6.out (by decide) (by decide)) 0 _ rfl
      have KB := Lib.hid (Bytes_any b g 192 Bd false V hp (by omega))
      have HB0 := Lib.hid (HB06.out.trans (hof.below (B := w.heap.size) (fun k hk => by rcases hk with rfl | rfl <;> omega) (by omega)))
      have HKD := Lib.hid hK
      have hDlt := (Array.getElem?_eq_some_iff.1 hK).1
      clear hp hof hk hK
      gi_wp2_with fail
      refine ⟨trivial, (callsIn_wide.2 KB.out).mono ?_⟩
      rintro e V2 ⟨x, rfl, hm⟩
      have HK2 := Lib.hid ((hm.2.block _ hDlt).trans HKD.out)
      have HM2 : Hid (Made w (V2.putObj D (.deferred none)) Bd x) := Lib.hid ⟨own_offM (S := fun k => k = D) (hm.since HB0.out).1 ⟨rfl, rfl, rfl, by simp [World.putObj], fun k _ hn => World.putObj_heap_other hn⟩ (fun g hg e => by have := (hm.1.lt g hg).1; omega), ((hm.since HB0.out).2).trans (below_put _ _ (by omega))⟩
      clear hm KB HB0 HKD
      gi_wp2
      refine ⟨by simp, .inl ⟨_, _, rfl, run_takeDeferred HK2.out, ?_⟩⟩
      refine ⟨_, ?_, x, rfl, HM2.out⟩
      simp [results, Try.f8, go_sem]
    case stop =>
      rintro D cd V hD h hK
      exact h.elim
  · have hr : benc M v = ([], bwr M v) := by
      unfold benc bwr at *
      by_cases h : v ≠ 1 ∧ v ≠ 2
      · rw [if_pos h, if_pos h]
      · rw [if_neg h] at hE ⊢
        rw [if_neg h, if_pos hE]
    rw [hr]
    obtain ⟨E, hEE⟩ : ∃ E, bwr M v = E := ⟨_, rfl⟩
    rw [hEE] at KC hE ⊢
    have e3 : (E != 0) = true := by simpa using hE
    have HB2 := Lib.hid hb2
    clear hw2 hb2 q0 h1 hEE hr
    go_enter Try.func8, Try.ntmps8
    go_wp2_with (rw [HW2.out]; refine wpList_load_run rfl 26 (.tmp 2) rfl (some ⟨w.heap.size, 0, none⟩) rfl (.agg (mC M P C)) HLD.out ?_)
    refine KC.out.mono ?_
    rintro e w3 ⟨rfl, hb3⟩
    have HB3 := Lib.hid (HB2.out.trans (hb3.mono hlt))
    clear hb3 KC
    go_wp2
    go_ret2
    exact ⟨_, rfl, World.ownsRow_nil _ _ _ _, HB3.out⟩
end Go.Proofs.Ytmjbimmbphofjaa

namespace Go.Proofs.Ytmjbimmbphofjaa
open Go.RowKit
set_option maxRecDepth 100000

theorem same_lens (a1 a2 : Option Addr) (n1 n2 c1 c2 : Nat) (w : World) (h : n1 ≠ n2) :
    Calls Try.prog 11 #[.slice a1 n1 c1, .slice a2 n2 c2] w fun e w' => e = .returned (.bool false) ∧ ∃ n, w' = w.drewN n := by
  have h2 : ((n1 : Int) != (n2 : Int)) = true := by simp; omega
  have h3 : ¬ (n1 : Int) = (n2 : Int) := by omega
  go_enter Try.func11, Try.ntmps11
  go_wp2
  go_ret
  exact ⟨rfl, 0, rfl⟩

/-- Same of any two lists -/
theorem same_any (B : Nat) (a1 a2 : Option Addr) (n1 n2 c1 c2 : Nat) (xs ys : List Int) (w : World) (e1 : xs.length = n1) (e2 : ys.length = n2) (l1 : n1 ≤ 9223372036854775807) (h1 : Nums .u8 w B a1 xs) (h2 : Nums .u8 w B a2 ys) :
    Calls Try.prog 11 #[.slice a1 n1 c1, .slice a2 n2 c2] w fun e w' => e = .returned (.bool (decide (xs = ys))) ∧ ∃ n, w' = w.drewN n := by
  by_cases hl : n1 = n2
  · subst hl
    have HE1 := Lib.hid e1
    have HE2 := Lib.hid e2
    clear e1 e2
    go_enter Try.func11, Try.ntmps11
    go_wp2
    go_loopw [5] (fun i wr => ∃ k : Nat, k ≤ n1 ∧ i = .int .i64 k ∧ Hid (xs.take k = ys.take k) ∧ ∃ n, wr = w.drewN n) (fun i _ => n1 - (intOf i).toNat)
    case atStart => exact ⟨0, by omega, rfl, rfl, 0, rfl⟩
    case round =>
      obtain ⟨k, hk, rfl, HT, n, rfl⟩ := hrel
      by_cases hlt : k < n1
      · obtain ⟨x, hx⟩ : ∃ x, xs[k]? = some x := ⟨_, List.getElem?_eq_getElem (by rw [HE1.out]; exact hlt)⟩
        obtain ⟨y, hy⟩ : ∃ y, ys[k]? = some y := ⟨_, List.getElem?_eq_getElem (by rw [HE2.out]; exact hlt)⟩
        obtain ⟨b1, o1, rfl, hb1, hc1⟩ := h1.open hx
        obtain ⟨b2, o2, rfl, hb2, hc2⟩ := h2.open hy
        have HX := Lib.hid hx
        have HY := Lib.hid hy
        clear h1 h2 hx hy
        have hlt' : (k : Int) < (n1 : Int) := by omega
        by_cases hxy : x = y
        · have hq : (x != y) = false := by simp [hxy]
          have HQ : Hid (xs.take (k + 1) = ys.take (k + 1)) := by
            show _ = _
            rw [List.take_add_one, List.take_add_one, HT.out, HX.out, HY.out, hxy]
          subst hxy
          go_wp2
          go_quiet (fail)
          go_wp2
          go_roundw
          case rel => exact ⟨k + 1, by omega, by go_num, HQ, _, rfl⟩
          case measure => simp [intOf]; omega
        · have hq : (x != y) = true := by simp [hxy]
          have HQ : Hid (¬ xs = ys) := fun e => hxy (by
            have h3 := HX.out
            rw [e, HY.out] at h3
            exact (Option.some.inj h3).symm)
          have HN := Lib.hid hxy
          clear hxy
          go_wp2
          go_quiet (fail)
          go_wp2
          go_ret
          exact ⟨by rw [decide_eq_false HQ.out]; rfl, n + nq, by simp [World.drewN, Nat.add_assoc]⟩
      · have hk' : k = n1 := by omega
        have HQ : Hid (xs = ys) := by
          have h3 := HT.out
          rw [List.take_of_length_le (by rw [HE1.out]; omega), List.take_of_length_le (by rw [HE2.out]; omega)] at h3
          exact h3
        go_wp2
        go_ret
        exact ⟨by rw [decide_eq_true HQ.out]; rfl, n, rfl⟩
  · refine (same_lens a1 a2 n1 n2 c1 c2 w hl).mono ?_
    rintro e w' ⟨rfl, hd⟩
    exact ⟨by rw [decide_eq_false (fun e => hl (by rw [← e1, ← e2, e]))], hd⟩
end Go.Proofs.Ytmjbimmbphofjaa

namespace Go.Proofs.Ytmjbimmbphofjaa
open Go.RowKit Go.Shelf
set_option maxRecDepth 100000
attribute [local go_sem] Oper.semAt_some

def exM : Mg := ⟨2, 300, 2, 9, 0, 0, 0, [], [], ⟨#[]⟩, ⟨#[]⟩⟩
theorem exM_ck : mck exM = 0 := by decide
theorem exM_enc : Vi.enc 300 = [172, 2] ∧ Vi.enc 2 = [2] ∧ Vi.enc 9 = [9] := by
  refine ⟨?_, ?_, ?_⟩
  · rw [Vi.enc, if_neg (by decide), Vi.enc, if_pos (by decide)]
    rfl
  · rw [Vi.enc, if_pos (by decide)]
    rfl
  · rw [Vi.enc, if_pos (by decide)]
    rfl
theorem exM_one : benc exM 1 = ([172, 2, 2], 0) := by
  obtain ⟨e1, e2, e3⟩ := exM_enc
  unfold benc
  rw [if_neg (by decide), if_neg (by rw [exM_ck]; decide)]
  show (Vi.enc 300 ++ (Vi.enc 2 ++ []), _) = _
  rw [e1, e2]
  rfl
theorem exM_two : benc exM 2 = ([172, 2, 2, 9], 0) := by
  obtain ⟨e1, e2, e3⟩ := exM_enc
  unfold benc
  rw [if_neg (by decide), if_neg (by rw [exM_ck]; decide)]
  show (Vi.enc 300 ++ (Vi.enc 2 ++ (Vi.enc 9 ++ [])), _) = _
  rw [e1, e2, e3]
  rfl
theorem exM_small : Msm exM := ⟨by decide, by decide, by decide, by decide⟩
theorem nums_lit {w : World} {T : TypeId} (zs : List Int) (cs : Array Value) (hcs : cs = (zs.map (Value.int .u8)).toArray) {b : Nat} (h : w.heap[b]? = some (.cells cs T (0, 0))) : Nums .u8 w w.heap.size (some ⟨b, 0, none⟩) zs := fun _ => by
  refine ⟨b, 0, rfl, (Array.getElem?_eq_some_iff.1 h).1, fun j c hj => ?_⟩
  rw [Nat.zero_add]
  refine row_cell h j _ ?_
  rw [hcs]
  simp [hj]
set_option maxHeartbeats 4000000 in
theorem bdknown_any (w : World) : Calls Try.prog 16 #[] w fun e w' => e = .returned (.bool true) ∧ Below w.heap.size w w' := by
  obtain ⟨w2, hw2⟩ : ∃ w2, w.alloc (.cells #[.int .i64 2, .int .i64 300, .int .i64 2, .int .i64 9, .int .i64 0, .int .i64 0, .int .i64 0, .slice none 0 0, .slice none 0 0, .string ⟨#[]⟩, .string ⟨#[]⟩] 26) = w2 := ⟨_, rfl⟩
  have hb2 : Below w.heap.size w w2 := by rw [← hw2]; exact (Below.refl _ w).alloc (Nat.le_refl _) _
  have q0 : w2.heap[w.heap.size]? = some (.cells (mC exM (.slice none 0 0) (.slice none 0 0)) 26 (0, 0)) := by rw [← hw2]; exact World.alloc_heap_new _ _
  have hlt := (Array.getElem?_eq_some_iff.1 q0).1
  have LM : ∀ W, Below w2.heap.size w2 W → (Instr.loadAt 26 (.pointer (some ⟨w.heap.size, 0, none⟩))).run Try.prog W = .ok (.agg (mC exM (.slice none 0 0) (.slice none 0 0))) W := fun W hW => mg_read ((hW.block _ hlt).trans q0)
  have hat : ∀ W : World, MAt W W.heap.size exM (.slice none 0 0) (.slice none 0 0) := fun W => ⟨⟨none, 0, rfl, Nat.le_refl _, Nums.nil⟩, ⟨none, 0, rfl, Nat.le_refl _, Nums.nil⟩⟩
  have K1 : Hid (∀ W, Calls Try.prog 8 #[.agg (mC exM (.slice none 0 0) (.slice none 0 0)), .int .i64 1] W fun e w' => EncR W ([172, 2, 2], 0) e w') := Lib.hid fun W => by
    have := bencode_any exM (.slice none 0 0) (.slice none 0 0) 1 W exM_small (hat W)
    rw [exM_one] at this
    exact this
  have K2 : Hid (∀ W, Calls Try.prog 8 #[.agg (mC exM (.slice none 0 0) (.slice none 0 0)), .int .i64 2] W fun e w' => EncR W ([172, 2, 2, 9], 0) e w') := Lib.hid fun W => by
    have := bencode_any exM (.slice none 0 0) (.slice none 0 0) 2 W exM_small (hat W)
    rw [exM_two] at this
    exact this
  have HW2 := Lib.hid hw2
  have HB2 := Lib.hid hb2
  have HLM := Lib.hid LM
  clear hw2 hb2 q0 LM hat
  go_enter Try.func16, Try.ntmps16
  go_wp2_with (rw [HW2.out]; refine wpList_load_run rfl 26 (.tmp 1) rfl (some ⟨w.heap.size, 0, none⟩) rfl (.agg (mC exM (.slice none 0 0) (.slice none 0 0))) (HLM.out w2 (Below.refl _ _)) ?_)
  refine (K1.out w2).mono ?_
  rintro e w3 ⟨x, rfl, hm3⟩
  obtain ⟨A1, c1, rfl, h1, h2⟩ := hm3.slice
  simp only [List.length_cons, List.length_nil, Nat.reduceAdd] at h1 h2 ⊢
  have L3 := Lib.hid (HLM.out w3 hm3.2)
  have HN1 := Lib.hid h2
  have HB3 := Lib.hid hm3.2
  clear hm3 h2 K1
  go_wp2_with (refine wpList_load_run rfl 26 (.tmp 1) rfl (some ⟨w.heap.size, 0, none⟩) rfl (.agg (mC exM (.slice none 0 0) (.slice none 0 0))) L3.out ?_)
  refine (K2.out w3).mono ?_
  rintro e w4 ⟨x, rfl, hm4⟩
  obtain ⟨A2, c2, rfl, h3, h4⟩ := hm4.slice
  simp only [List.length_cons, List.length_nil, Nat.reduceAdd] at h3 h4 ⊢
  have HN14 := Lib.hid ((HN1.out.below hm4.2).mono hm4.2.size)
  have HN2 := Lib.hid h4
  have HB4 := Lib.hid (HB2.out.trans ((HB3.out.trans (hm4.2.mono HB3.out.size)).mono HB2.out.size))
  clear hm4 h4 K2 L3 HN1 HB3 HLM HW2 HB2
  go_wp2_with fail
  obtain ⟨w5, hw5⟩ : ∃ w5, w4.alloc (.cells #[.int .u8 172, .int .u8 2, .int .u8 2] 5) = w5 := ⟨_, rfl⟩
  have hb5 : Below w4.heap.size w4 w5 := by rw [← hw5]; exact (Below.refl _ w4).alloc (Nat.le_refl _) _
  have r5 : w5.heap[w4.heap.size]? = some (.cells #[.int .u8 172, .int .u8 2, .int .u8 2] 5 (0, 0)) := by rw [← hw5]; exact World.alloc_heap_new _ _
  have S1 := same_any w5.heap.size A1 (some ⟨w4.heap.size, 0, none⟩) 3 3 c1 3 [172, 2, 2] [172, 2, 2] w5 rfl rfl (by omega) ((HN14.out.below hb5).mono hb5.size) (nums_lit [172, 2, 2] _ rfl r5)
  rw [decide_eq_true rfl] at S1
  have HN25 := Lib.hid ((HN2.out.below hb5).mono hb5.size)
  have HB5 := Lib.hid (HB4.out.trans (hb5.mono HB4.out.size))
  rw [hw5]
  clear hw5 hb5 r5 HN14 HN2 HB4
  refine S1.mono ?_
  rintro e w6 ⟨rfl, n6, rfl⟩
  have hb6 := below_of_drewN (B := w5.heap.size) w5 n6
  obtain ⟨w6, hw6⟩ : ∃ w6, w5.drewN n6 = w6 := ⟨_, rfl⟩
  rw [hw6] at hb6 ⊢
  have HN26 := Lib.hid ((HN25.out.below hb6).mono hb6.size)
  have HB6 := Lib.hid (HB5.out.trans (hb6.mono HB5.out.size))
  clear hb6 hw6 S1 HN25 HB5
  go_wp2_with fail
  obtain ⟨w7, hw7⟩ : ∃ w7, w6.alloc (.cells #[.int .u8 172, .int .u8 2, .int .u8 2, .int .u8 9] 5) = w7 := ⟨_, rfl⟩
  have hb7 : Below w6.heap.size w6 w7 := by rw [← hw7]; exact (Below.refl _ w6).alloc (Nat.le_refl _) _
  have r7 : w7.heap[w6.heap.size]? = some (.cells #[.int .u8 172, .int .u8 2, .int .u8 2, .int .u8 9] 5 (0, 0)) := by rw [← hw7]; exact World.alloc_heap_new _ _
  have S2 := same_any w7.heap.size A2 (some ⟨w6.heap.size, 0, none⟩) 4 4 c2 4 [172, 2, 2, 9] [172, 2, 2, 9] w7 rfl rfl (by omega) ((HN26.out.below hb7).mono hb7.size) (nums_lit [172, 2, 2, 9] _ rfl r7)
  rw [decide_eq_true rfl] at S2
  have HB7 := Lib.hid (HB6.out.trans (hb7.mono HB6.out.size))
  rw [hw7]
  clear hw7 hb7 r7 HN26 HB6
  refine S2.mono ?_
  rintro e w8 ⟨rfl, n8, rfl⟩
  have HB8 := Lib.hid (HB7.out.trans (below_of_drewN (B := w.heap.size) w7 n8))
  clear S2 HB7
  go_wp2
  go_ret
  exact ⟨rfl, HB8.out⟩
end Go.Proofs.Ytmjbimmbphofjaa

namespace Go.Proofs.Ytmjbimmbphofjaa
open Go.RowKit
set_option maxRecDepth 100000

/-- what Get answers -/
def GetR (r : Nat × Nat × Nat) (e : Ending) : Prop := e = .returned (.tuple #[.int .u64 r.1, .int .i64 r.2.1, .int .i64 r.2.2])
theorem GetR.of {r : Nat × Nat × Nat} {a b c : Int} (ha : a = r.1) (hb : b = r.2.1) (hc : c = r.2.2) : GetR r (.returned (.tuple #[.int .u64 a, .int .i64 b, .int .i64 c])) := by
  subst ha hb hc; rfl

theorem split_at {zs p r : List Int} {k : Nat} {c : Int} (hs : zs = p ++ r) (hp : p.length = k) (hc : zs[k]? = some c) : ∃ r', r = c :: r' ∧ zs = (p ++ [c]) ++ r' := by
  subst hs hp
  rw [List.getElem?_append_right (Nat.le_refl _), Nat.sub_self] at hc
  cases r with
  | nil => simp at hc
  | cons d r => simp at hc; subst hc; exact ⟨r, rfl, by simp⟩

/-- the bytes p have come, all of them high -/
def Come (zs : List Int) (k : Nat) (X : Int) : Prop := ∃ p r, zs = p ++ r ∧ p.length = k ∧ (∀ c ∈ p, 128 ≤ c) ∧ X = Vi.val p
theorem come_nil (zs : List Int) : Come zs 0 0 := ⟨[], zs, rfl, rfl, by simp, rfl⟩
theorem come_more {zs : List Int} {k : Nat} {X c : Int} (hz : ∀ c ∈ zs, 0 ≤ c ∧ c ≤ 255) (h : Come zs k X) (hk : k ≤ 8) (hc : zs[k]? = some c) (h1 : 128 ≤ c) : Come zs (k + 1) (bits .or .u64 X (IntKind.u64.wrap (c % 128 * 2 ^ (7 * k)))) := by
  obtain ⟨p, r, hs, hp, ha, rfl⟩ := h
  obtain ⟨r', rfl, hs'⟩ := split_at hs hp hc
  have hv := Vi.val_lt p
  have hcb := hz c (by rw [hs]; simp)
  refine ⟨p ++ [c], r', hs', by simp [hp], ?_, ?_⟩
  · intro d hd
    simp only [List.mem_append, List.mem_singleton] at hd
    rcases hd with hd | rfl
    · exact ha d hd
    · exact h1
  · have hj := Vi.or_join (Vi.val p) (c.toNat % 128) k (by rw [← hp]; exact hv) (by omega) (by omega) (by omega)
    rw [show ((c.toNat % 128 : Nat) : Int) = c % 128 by omega] at hj
    rw [hj, Vi.val_append, hp]
    simp [Vi.val]
/-- the last byte -/
theorem come_last {zs : List Int} {k : Nat} {X c : Int} (hz : ∀ c ∈ zs, 0 ≤ c ∧ c ≤ 255) (h : Come zs k X) (hk : k ≤ 9) (hc : zs[k]? = some c) (h1 : c < 128) (h9 : k = 9 → c ≤ 1) (h0 : k = 0 ∨ c ≠ 0) :
    ((Vi.get zs).1 : Int) = bits .or .u64 X (IntKind.u64.wrap (c % 128 * 2 ^ (7 * k))) ∧ (Vi.get zs).2.1 = k + 1 ∧ (Vi.get zs).2.2 = 0 := by
  obtain ⟨p, r, hs, hp, ha, rfl⟩ := h
  obtain ⟨r', rfl, hs'⟩ := split_at hs hp hc
  have hv := Vi.val_lt p
  have hcb := hz c (by rw [hs]; simp)
  have hj := Vi.or_join (Vi.val p) (c.toNat % 128) k (by rw [← hp]; exact hv) hk (by omega) (by omega)
  rw [show ((c.toNat % 128 : Nat) : Int) = c % 128 by omega] at hj
  have hva : Vi.val (p ++ [c]) = Vi.val p + 128 ^ k * (c.toNat % 128) := by rw [Vi.val_append, hp]; simp [Vi.val]
  have hlt : Vi.val (p ++ [c]) < 18446744073709551616 := by
    by_cases h : k = 9
    · have := h9 h
      subst h
      rw [hp] at hv
      rw [hva]
      have e9 : (128 : Nat) ^ 9 = 9223372036854775808 := by decide
      rw [e9] at hv ⊢
      omega
    · have hv2 := Vi.val_lt (p ++ [c])
      have hle : (p ++ [c]).length ≤ 9 := by simp; omega
      have h9' : 128 ^ (p ++ [c]).length ≤ 128 ^ 9 := Nat.pow_le_pow_right (by decide) hle
      have e9 : (128 : Nat) ^ 9 = 9223372036854775808 := by decide
      omega
  rw [hs, Vi.get_ok ha (by omega) h1 hlt (by omega), hj, hva, hp]
  exact ⟨rfl, rfl, rfl⟩
theorem come_bad {zs : List Int} {k : Nat} {X c : Int} (h : Come zs k X) (hk : k ≤ 9) (hc : zs[k]? = some c) (h1 : c < 128) (hb : (k = 9 ∧ 1 < c) ∨ (0 < k ∧ c = 0)) : Vi.get zs = (0, 0, 3) := by
  obtain ⟨p, r, hs, hp, ha, rfl⟩ := h
  obtain ⟨r', rfl, hs'⟩ := split_at hs hp hc
  rw [hs]
  refine Vi.get_bad ha (by omega) h1 ?_
  rcases hb with ⟨h9, hc1⟩ | ⟨hk0, hc0⟩
  · left
    rw [Vi.val_append, hp, h9]
    have e9 : (128 : Nat) ^ 9 = 9223372036854775808 := by decide
    rw [e9]
    simp only [Vi.val]
    omega
  · exact .inr ⟨by omega, hc0⟩
theorem come_long {zs : List Int} {X c : Int} (h : Come zs 9 X) (hc : zs[9]? = some c) (h1 : 128 ≤ c) : Vi.get zs = (0, 0, 3) := by
  obtain ⟨p, r, hs, hp, ha, rfl⟩ := h
  obtain ⟨r', rfl, hs'⟩ := split_at hs hp hc
  rw [hs']
  refine Vi.get_long ?_ (by simp [hp])
  intro d hd
  simp only [List.mem_append, List.mem_singleton] at hd
  rcases hd with hd | rfl
  · exact ha d hd
  · exact h1
theorem come_end {zs : List Int} {X : Int} {k : Nat} (h : Come zs k X) (hk : k ≤ 9) (hl : k = zs.length) : Vi.get zs = (0, 0, 4) := by
  obtain ⟨p, r, hs, hp, ha, rfl⟩ := h
  have : r = [] := by
    apply List.eq_nil_of_length_eq_zero
    have := congrArg List.length hs
    simp at this; omega
  subst this
  rw [List.append_nil] at hs
  subst hs
  exact Vi.get_end ha (by omega)

set_option maxHeartbeats 400000 in
theorem get_any (B : Nat) (a : Option Addr) (cap : Nat) (zs : List Int) (w : World) (hl : zs.length ≤ 9223372036854775807) (hz : ∀ c ∈ zs, 0 ≤ c ∧ c ≤ 255) (h1 : Nums .u8 w B a zs) :
    Calls Try.prog 101 #[.slice a zs.length cap] w fun e w' => GetR (Vi.get zs) e ∧ w = w' := by
  have HZ := Lib.hid hz
  clear hz
  go_enter Try.func101, Try.ntmps101
  go_wp2
  go_step3
  go_wp2
  go_step3
  go_wp2
  go_loop [5, 6, 7, 12] (fun x l s i => ∃ (k : Nat) (X : Int), k ≤ zs.length ∧ k ≤ 9 ∧ i = .int .i64 k ∧ x = .int .u64 X ∧ l = .int .u8 0 ∧ s = .int .i64 0 ∧ Come zs k X) (fun _ _ _ i => zs.length - (intOf i).toNat)
  case atStart => exact ⟨0, 0, by omega, by omega, rfl, rfl, rfl, rfl, come_nil zs⟩
  case round =>
    obtain ⟨k, X, hk, hk9, rfl, rfl, rfl, rfl, hcome⟩ := hrel
    by_cases hlt : k < zs.length
    · obtain ⟨c, hc⟩ : ∃ c, zs[k]? = some c := ⟨_, List.getElem?_eq_getElem hlt⟩
      obtain ⟨b1, o1, rfl, hb1, hc1⟩ := h1.open hc
      have hcb := HZ.out c (List.mem_of_getElem? hc)
      have HC := Lib.hid hc
      clear h1 hc
      have hlt' : (k : Int) < (zs.length : Int) := by omega
      by_cases h128 : c < 128
      · by_cases hbad : (k = 9 ∧ 1 < c) ∨ (0 < k ∧ c = 0)
        · have HB := Lib.hid (come_bad hcome hk9 HC.out h128 hbad)
          have h00 : ((k : Int) + 1 == 0) = false := by simp; omega
          have h10 : ((k : Int) + 1 == 10) = decide (k = 9) := by rw [Bool.eq_iff_iff]; simp; omega
          rcases hbad with ⟨h9, hc1⟩ | ⟨hk0, hc0⟩
          · have hc0 : (c == 0) = false := by simp; omega
            have h10' : ((k : Int) + 1 == 10) = true := by simp; omega
            have hk1 : 1 < (k : Int) + 1 := by omega
            clear h10 hcome
            have H9 := Lib.hid h9
            clear h9
            go_wp2
            go_ret3
            exact ⟨by rw [HB.out]; exact GetR.of rfl rfl rfl, rfl⟩
          · have hc0' : (c == 0) = true := by simp; omega
            have hk1 : 1 < (k : Int) + 1 := by omega
            have H0 := Lib.hid hc0
            clear h10 hcome hc0
            go_wp2
            go_ret3
            exact ⟨by rw [HB.out]; exact GetR.of rfl rfl rfl, rfl⟩
        · have HO := Lib.hid (come_last HZ.out hcome hk9 HC.out h128 (by omega) (by omega))
          have h00 : ((k : Int) + 1 == 0) = false := by simp; omega
          by_cases hc0 : c = 0
          · have hc0' : (c == 0) = true := by simp; omega
            have hk1 : ¬ 1 < (k : Int) + 1 := by omega
            have h10' : ((k : Int) + 1 == 10) = false := by simp; omega
            have H0 := Lib.hid hc0
            clear hcome hc0 hbad
            go_wp2
            go_ret3
            exact ⟨GetR.of HO.out.1.symm (by rw [HO.out.2.1]; rfl) (by rw [HO.out.2.2]; rfl), rfl⟩
          · have hc0' : (c == 0) = false := by simp; omega
            by_cases h9 : k = 9
            · have h10' : ((k : Int) + 1 == 10) = true := by simp; omega
              have hc1 : ¬ 1 < c := by omega
              have hk1 : 1 < (k : Int) + 1 := by omega
              have H9 := Lib.hid h9
              clear hcome hc0 hbad h9
              go_wp2
              go_ret3
              exact ⟨GetR.of HO.out.1.symm (by rw [HO.out.2.1]; rfl) (by rw [HO.out.2.2]; rfl), rfl⟩
            · have h10' : ((k : Int) + 1 == 10) = false := by simp; omega
              clear hcome hbad
              go_wp2
              all_goals go_ret3
              all_goals exact ⟨GetR.of HO.out.1.symm (by rw [HO.out.2.1]; rfl) (by rw [HO.out.2.2]; rfl), rfl⟩
      · by_cases h9 : k = 9
        · have HB : Hid (Vi.get zs = (0, 0, 3)) := by subst h9; exact come_long hcome HC.out (by omega)
          have h9' : ((k : Int) == 9) = true := by simp; omega
          clear hcome h9
          go_wp2
          go_ret3
          exact ⟨by rw [HB.out]; exact GetR.of rfl rfl rfl, rfl⟩
        · have h9' : ((k : Int) == 9) = false := by simp; omega
          have HM := Lib.hid (come_more HZ.out hcome (by omega) HC.out (by omega))
          clear hcome
          go_wp2
          go_round
          case rel => exact ⟨k + 1, _, by omega, by omega, by go_num, rfl, rfl, rfl, HM.out⟩
          case measure => simp [intOf]; omega
    · have HB := Lib.hid (come_end hcome hk9 (by omega))
      clear hcome
      go_wp2
      go_ret3
      exact ⟨by rw [HB.out]; exact GetR.of rfl rfl rfl, rfl⟩

/-- .. the length under a name of its own -/
theorem get_len (B : Nat) (a : Option Addr) (n cap : Nat) (zs : List Int) (w : World) (hn : zs.length = n) (hl : n ≤ 9223372036854775807) (hz : ∀ c ∈ zs, 0 ≤ c ∧ c ≤ 255) (h1 : Nums .u8 w B a zs) :
    Calls Try.prog 101 #[.slice a n cap] w fun e w' => GetR (Vi.get zs) e ∧ w = w' := by
  subst hn; exact get_any B a cap zs w hl hz h1

end Go.Proofs.Ytmjbimmbphofjaa

namespace Go.Proofs.Ytmjbimmbphofjaa
open Go.RowKit
set_option maxRecDepth 100000

/-- what the document's Get answers: the number, where it ends, the error -/
def RGetR (s : Int) (r : Nat × Nat × Nat) (e : Ending) : Prop := e = .returned (.tuple #[.int .u64 r.1, .int .i64 (s + r.2.1), .int .i64 r.2.2])
theorem RGetR.of {s : Int} {r : Nat × Nat × Nat} {a b c : Int} (ha : a = r.1) (hb : b = s + r.2.1) (hc : c = r.2.2) : RGetR s r (.returned (.tuple #[.int .u64 a, .int .i64 b, .int .i64 c])) := by
  subst ha hb hc; rfl

/-- from t on k high bytes have come -/
def Run (zs : List Int) (t k : Nat) : Prop := ∃ p r, zs.drop t = p ++ r ∧ p.length = k ∧ ∀ c ∈ p, 128 ≤ c
theorem run_nil (zs : List Int) (t : Nat) : Run zs t 0 := ⟨[], zs.drop t, rfl, rfl, by simp⟩
theorem run_more {zs : List Int} {t k : Nat} {c : Int} (h : Run zs t k) (hc : zs[t + k]? = some c) (h1 : 128 ≤ c) : Run zs t (k + 1) := by
  obtain ⟨p, r, hs, hp, ha⟩ := h
  obtain ⟨r', rfl, hs'⟩ := split_at hs hp (c := c) (by rw [List.getElem?_drop]; exact hc)
  refine ⟨p ++ [c], r', hs', by simp [hp], ?_⟩
  intro d hd
  simp only [List.mem_append, List.mem_singleton] at hd
  rcases hd with hd | rfl
  · exact ha d hd
  · exact h1
theorem run_long {zs : List Int} {t : Nat} (h : Run zs t 10) : Vi.get (zs.drop t) = (0, 0, 3) := by
  obtain ⟨p, r, hs, hp, ha⟩ := h
  rw [hs]; exact Vi.get_long ha (by omega)
theorem run_end {zs : List Int} {t k : Nat} (h : Run zs t k) (hk : k ≤ 9) (hl : t + k = zs.length) : Vi.get (zs.drop t) = (0, 0, 4) := by
  obtain ⟨p, r, hs, hp, ha⟩ := h
  have : r = [] := by
    apply List.eq_nil_of_length_eq_zero
    have := congrArg List.length hs
    simp at this; omega
  subst this
  rw [hs, List.append_nil]
  exact Vi.get_end ha (by omega)

/-- the bytes q of a number: high ones, and a last one; they lie in zs from t on -/
def Whole (zs : List Int) (t k : Nat) (c : Int) (q : List Int) : Prop := ∃ p r, q = p ++ [c] ∧ p.length = k ∧ (∀ d ∈ p, 128 ≤ d) ∧ c < 128 ∧ zs.drop t = p ++ c :: r
theorem whole_of {zs : List Int} {t k : Nat} {c : Int} (h : Run zs t k) (hc : zs[t + k]? = some c) (h1 : c < 128) : ∃ q, Whole zs t k c q ∧ q.length = k + 1 := by
  obtain ⟨p, r, hs, hp, ha⟩ := h
  obtain ⟨r', rfl, hs'⟩ := split_at hs hp (c := c) (by rw [List.getElem?_drop]; exact hc)
  exact ⟨p ++ [c], ⟨p, r', rfl, hp, ha, h1, hs⟩, by simp [hp]⟩
theorem whole_at {zs q : List Int} {t k : Nat} {c : Int} (h : Whole zs t k c q) {j : Nat} (hj : j < k + 1) : zs[t + j]? = q[j]? := by
  obtain ⟨p, r, rfl, hp, ha, hc, hs⟩ := h
  rw [← List.getElem?_drop, hs, show p ++ c :: r = (p ++ [c]) ++ r by simp, List.getElem?_append_left (by simp; omega)]
theorem whole_bad {zs q : List Int} {t k : Nat} {c : Int} (h : Whole zs t k c q) (hk : k ≤ 9) (hb : 18446744073709551616 ≤ Vi.val q ∨ (0 < k ∧ c = 0)) : Vi.get (zs.drop t) = (0, 0, 3) := by
  obtain ⟨p, r, rfl, hp, ha, hc, hs⟩ := h
  rw [hs]; exact Vi.get_bad ha (by omega) hc (by rw [hp]; exact hb)
theorem whole_ok {zs q : List Int} {t k : Nat} {c : Int} (h : Whole zs t k c q) (hk : k ≤ 9) (hb : Vi.val q < 18446744073709551616) (h0 : k = 0 ∨ c ≠ 0) : Vi.get (zs.drop t) = (Vi.val q, k + 1, 0) := by
  obtain ⟨p, r, rfl, hp, ha, hc, hs⟩ := h
  rw [hs, Vi.get_ok ha (by omega) hc hb (by omega), hp]
theorem val_drop {q : List Int} {j : Nat} {d : Int} (hd : q[j]? = some d) : Vi.val (q.drop j) = d.toNat % 128 + 128 * Vi.val (q.drop (j + 1)) := by
  have hj : j < q.length := by
    rcases Nat.lt_or_ge j q.length with h | h
    · exact h
    · rw [List.getElem?_eq_none h] at hd; simp at hd
  rw [List.getElem?_eq_getElem hj] at hd
  rw [List.drop_eq_getElem_cons hj]
  injection hd with hd
  rw [hd]; rfl
theorem val_drop_le (q : List Int) (j : Nat) : 128 ^ j * Vi.val (q.drop j) ≤ Vi.val q := by
  rcases Nat.lt_or_ge q.length j with h | h
  · rw [List.drop_eq_nil_of_le (by omega)]; simp [Vi.val]
  · have e := Vi.val_append (q.take j) (q.drop j)
    rw [List.take_append_drop, List.length_take, Nat.min_eq_left h] at e
    omega
theorem val_over {q : List Int} {j : Nat} (hj : 1 ≤ j) (h : 144115188075855872 ≤ Vi.val (q.drop j)) : 18446744073709551616 ≤ Vi.val q := by
  have h1 := val_drop_le q j
  have h2 : 128 ^ 1 ≤ 128 ^ j := Nat.pow_le_pow_right (by decide) hj
  have h3 := Nat.mul_le_mul h2 h
  omega

set_option maxHeartbeats 800000 in
theorem rget_any (B : Nat) (a : Option Addr) (cap : Nat) (zs : List Int) (s : Int) (w : World) (hl : zs.length ≤ 9223372036854775000) (hs0 : 0 ≤ s) (hs1 : s ≤ zs.length) (hz : ∀ c ∈ zs, 0 ≤ c ∧ c ≤ 255) (h1 : Nums .u8 w B a zs) :
    Calls Try.prog 71 #[.slice a zs.length cap, .int .i64 s] w fun e w' => RGetR s (Vi.get (zs.drop s.toNat)) e ∧ w = w' := by
  have HZ := Lib.hid hz
  clear hz
  obtain ⟨t, rfl⟩ := Int.eq_ofNat_of_zero_le hs0
  rw [Int.toNat_natCast]
  go_enter Try.func71, Try.ntmps71
  go_wp2
  go_loop [7] (fun i => ∃ (k : Nat), t + k ≤ zs.length ∧ k ≤ 10 ∧ i = .int .i64 ((t : Int) + (k : Int)) ∧ Run zs t k) (fun i => zs.length - (intOf i).toNat)
  case atStart => exact ⟨0, by omega, by omega, by simp, run_nil zs t⟩
  case round =>
    obtain ⟨k, hk, hk10, rfl, hrun⟩ := hrel
    have hdiff : (t : Int) + (k : Int) - (t : Int) = k := by omega
    by_cases h10 : k = 10
    · have HB : Hid (Vi.get (zs.drop t) = (0, 0, 3)) := by subst h10; exact run_long hrun
      have hk1 : ((t : Int) + (k : Int) - (t : Int) == 10) = true := by simp; omega
      have hk2 : ¬ (t : Int) + (k : Int) - (t : Int) < 10 := by omega
      clear hrun h10 hdiff
      go_wp2
      all_goals go_ret3
      all_goals exact ⟨by rw [HB.out]; exact RGetR.of rfl (by simp) rfl, rfl⟩
    · have hk1 : ((t : Int) + (k : Int) - (t : Int) == 10) = false := by simp; omega
      have hk2 : (t : Int) + (k : Int) - (t : Int) < 10 := by omega
      by_cases hend : t + k = zs.length
      · have HB := Lib.hid (run_end hrun (by omega) hend)
        have hk3 : ¬ (t : Int) + (k : Int) < (zs.length : Int) := by omega
        clear hrun hdiff hend
        go_wp2
        all_goals go_ret3
        all_goals exact ⟨by rw [HB.out]; exact RGetR.of rfl (by simp) rfl, rfl⟩
      · have hk3 : (t : Int) + (k : Int) < (zs.length : Int) := by omega
        have hlt : t + k < zs.length := by omega
        obtain ⟨c, hc⟩ : ∃ c, zs[t + k]? = some c := ⟨_, List.getElem?_eq_getElem hlt⟩
        obtain ⟨b1, o1, rfl, hb1, hc1⟩ := h1.open hc
        have hcb := HZ.out c (List.mem_of_getElem? hc)
        by_cases h128 : 128 ≤ c
        · have HM := Lib.hid (run_more hrun hc h128)
          clear hrun h1 hc hdiff
          go_wp2
          go_round
          case rel => exact ⟨k + 1, by omega, by omega, by go_num, HM.out⟩
          case measure => simp [intOf]; omega
        · obtain ⟨q, hw, hql⟩ := whole_of hrun hc (by omega)
          have HH1 := Lib.hid h1
          have HW := Lib.hid hw
          have HQ := Lib.hid hql
          clear hrun h1 hc hw hql hdiff
          go_wp2
          go_loop [8, 9] (fun n i => ∃ (j : Nat) (z : Int), j ≤ k + 1 ∧ i = .int .i64 z ∧ z = (t : Int) + (j : Int) - 1 ∧ n = .int .u64 (Vi.val (q.drop j)) ∧ Vi.val (q.drop j) ≤ 18446744073709551615) (fun _ i => (intOf i + 1).toNat)
          case atStart => exact ⟨k + 1, _, by omega, rfl, by omega, by rw [List.drop_eq_nil_of_le (by have := HQ.out; omega)]; rfl, by rw [List.drop_eq_nil_of_le (by have := HQ.out; omega)]; simp [Vi.val]⟩
          case round =>
            obtain ⟨j, z, hj, rfl, hzj, rfl, hv⟩ := hrel
            cases j with
            | zero =>
              have hzt : z < (t : Int) := by omega
              have HZJ := Lib.hid hzj
              clear hzj
              have HV : Hid (Vi.val (q.drop 0) = Vi.val q) := rfl
              generalize hX : Vi.val (q.drop 0) = X at *
              have HX := Lib.hid hX
              clear hX
              by_cases hk0 : k = 0
              · have HO := Lib.hid (whole_ok HW.out (by omega) (by rw [← HV.out]; omega) (.inl hk0))
                have hk4 : ¬ (t : Int) < (t : Int) + (k : Int) := by omega
                clear hk0
                go_wp2
                go_ret3
                exact ⟨by rw [HO.out]; exact RGetR.of (by rw [HV.out]) (by simp; omega) rfl, rfl⟩
              · have hk4 : (t : Int) < (t : Int) + (k : Int) := by omega
                by_cases hc0 : c = 0
                · have HB := Lib.hid (whole_bad HW.out (by omega) (.inr ⟨by omega, hc0⟩))
                  have hc0' : (c == 0) = true := by simp; omega
                  have HC := Lib.hid hc0
                  clear hc0
                  go_wp2
                  go_ret3
                  exact ⟨by rw [HB.out]; exact RGetR.of rfl (by simp) rfl, rfl⟩
                · have HO := Lib.hid (whole_ok HW.out (by omega) (by rw [← HV.out]; omega) (.inr hc0))
                  have hc0' : (c == 0) = false := by simp; omega
                  go_wp2
                  go_ret3
                  exact ⟨by rw [HO.out]; exact RGetR.of (by rw [HV.out]) (by simp; omega) rfl, rfl⟩
            | succ j =>
              obtain rfl : z = ((t + j : Nat) : Int) := by omega
              obtain ⟨d, hd⟩ : ∃ d, q[j]? = some d := ⟨_, List.getElem?_eq_getElem (by have := HQ.out; omega)⟩
              have hd1 := hd
              rw [← whole_at HW.out (by omega)] at hd1
              obtain ⟨b2, o2, hb2, _, hc2⟩ := HH1.out.open hd1
              injection hb2 with hb2
              injection hb2 with hb2 ho2
              subst hb2 ho2
              have hdb := HZ.out d (List.mem_of_getElem? hd1)
              have HVD := Lib.hid (val_drop hd)
              have HOv : 144115188075855872 ≤ Vi.val (q.drop (j + 1)) → Hid (Vi.get (zs.drop t) = (0, 0, 3)) := fun h => whole_bad HW.out (by omega) (.inl (val_over (by omega) h))
              generalize hX : Vi.val (q.drop (j + 1)) = X at *
              have HX := Lib.hid hX
              have htl : ((t + j : Nat) : Int) < (zs.length : Int) := by omega
              clear hX hd hd1 hzj
              by_cases hov : 144115188075855872 ≤ X
              · have HB := HOv hov
                clear HOv
                have hov' : (144115188075855871 : Int) < (X : Int) := by omega
                go_wp2
                go_ret3
                exact ⟨by rw [HB.out]; exact RGetR.of rfl (by simp) rfl, rfl⟩
              · clear HOv
                have hov' : (X : Int) ≤ 144115188075855871 := by omega
                go_wp2
                go_round
                case rel => exact ⟨j, _, by omega, rfl, by omega, by rw [HVD.out]; go_num, by rw [HVD.out]; omega⟩
                case measure => simp [intOf]; omega

theorem rget_len (B : Nat) (a : Option Addr) (n cap : Nat) (zs : List Int) (s : Int) (w : World) (hn : zs.length = n) (hl : n ≤ 9223372036854775000) (hs0 : 0 ≤ s) (hs1 : s ≤ n) (hz : ∀ c ∈ zs, 0 ≤ c ∧ c ≤ 255) (h1 : Nums .u8 w B a zs) :
    Calls Try.prog 71 #[.slice a n cap, .int .i64 s] w fun e w' => RGetR s (Vi.get (zs.drop s.toNat)) e ∧ w = w' := by
  subst hn; exact rget_any B a cap zs s w hl hs0 hs1 hz h1

end Go.Proofs.Ytmjbimmbphofjaa

namespace Go.Proofs.Ytmjbimmbphofjaa
open Go.RowKit
set_option maxRecDepth 100000

theorem zag_any (n : Int) (w : World) (h0 : 0 ≤ n) (h1 : n ≤ 18446744073709551615) :
    Calls Try.prog 102 #[.int .u64 n] w fun e w' => e = .returned (.int .i64 (zagZ n)) ∧ w = w' := by
  by_cases h : n % 2 = 1
  · have ho : (n % 2 == 1) = true := by simp; omega
    rw [show zagZ n = -(n / 2) - 1 by unfold zagZ; rw [if_pos h]]
    clear h
    go_enter Try.func102, Try.ntmps102
    go_wp2
    go_ret
    exact ⟨ret_int (by omega), rfl⟩
  · have ho : (n % 2 == 1) = false := by simp; omega
    rw [show zagZ n = n / 2 by unfold zagZ; rw [if_neg h]]
    clear h
    go_enter Try.func102, Try.ntmps102
    go_wp2
    go_ret
    exact ⟨ret_int (by omega), rfl⟩
theorem rzag_any (n : Int) (w : World) (h0 : 0 ≤ n) (h1 : n ≤ 18446744073709551615) :
    Calls Try.prog 73 #[.int .u64 n] w fun e w' => e = .returned (.int .i64 (zagZ n)) ∧ w = w' := by
  by_cases h : n % 2 = 1
  · have ho : (n % 2 == 1) = true := by simp; omega
    rw [show zagZ n = -(n / 2) - 1 by unfold zagZ; rw [if_pos h]]
    clear h
    go_enter Try.func73, Try.ntmps73
    go_wp2
    go_ret
    exact ⟨ret_int (by omega), rfl⟩
  · have ho : (n % 2 == 1) = false := by simp; omega
    rw [show zagZ n = n / 2 by unfold zagZ; rw [if_neg h]]
    clear h
    go_enter Try.func73, Try.ntmps73
    go_wp2
    go_ret
    exact ⟨ret_int (by omega), rfl⟩
end Go.Proofs.Ytmjbimmbphofjaa

namespace Go.Proofs.Ytmjbimmbphofjaa
open Go.RowKit Go.Shelf
set_option maxRecDepth 100000
attribute [local go_sem] Oper.semAt_some

theorem rfar_any (n : Int) (w : World) : Calls Try.prog 72 #[.int .i64 n] w fun e w' => e = .returned (.bool (decide (n < -1000000 ∨ 1000000 < n))) ∧ w = w' := by
  by_cases h1 : n < -1000000
  · rw [decide_eq_true (.inl h1)]
    go_enter Try.func72, Try.ntmps72
    go_wp2
    go_ret
    exact ⟨rfl, rfl⟩
  · by_cases h2 : 1000000 < n
    · rw [decide_eq_true (.inr h2)]
      go_enter Try.func72, Try.ntmps72
      go_wp2
      go_ret
      exact ⟨rfl, rfl⟩
    · rw [decide_eq_false (by omega)]
      go_enter Try.func72, Try.ntmps72
      go_wp2
      go_ret
      exact ⟨rfl, rfl⟩
theorem rm_store (w : World) (R : Nat) (old cs : Array Value) (h : w.heap[R]? = some (.cells old 36 (0, 0))) (ho : old.size = 11) (hc : cs.size = 11) (h1 : cs.all (·.oneCell') = true) :
    (Instr.storeAt 36 (.pointer (some ⟨R, 0, none⟩)) (.agg cs)).run Try.prog w = .ok () (w.setRow R cs) := by
  simp only [Instr.storeAt, Instr.sureAddr, Sem.run_bind, Sem.run_pure, Result.andThen]
  exact run_storeVar_row w R 36 36 old cs h (by rw [hc]; exact rmInfo) (by omega) h1
/-- numbers that lie in neither of two boxes -/
def NuX (w : World) (b4 b8 : Nat) (a : Option Addr) (zs : List Int) : Prop := zs ≠ [] → ∃ b off, a = some ⟨b, off, none⟩ ∧ b ≠ b4 ∧ b ≠ b8 ∧ ∀ j c, zs[j]? = some c → w.cell? ⟨b, off + j, none⟩ = some (.int .i64 c)
section
variable {w w' : World} {b4 b8 B : Nat} {a : Option Addr} {zs : List Int}
theorem NuX.nums (h : NuX w b4 b8 a zs) : Nums .i64 w w.heap.size a zs := fun hn => by
  obtain ⟨b, off, e, _, _, hc⟩ := h hn
  obtain ⟨z, hz⟩ : ∃ z, zs[0]? = some z := by
    cases zs with
    | nil => exact absurd rfl hn
    | cons x r => exact ⟨x, rfl⟩
  have := block_of_cell (hc 0 z hz)
  exact ⟨b, off, e, this, hc⟩
theorem NuX.keep (h : NuX w b4 b8 a zs) (ho : Off (fun q => q = b4 ∨ q = b8) w w') : NuX w' b4 b8 a zs := fun hn => by
  obtain ⟨b, off, e, h1, h2, hc⟩ := h hn
  exact ⟨b, off, e, h1, h2, fun j c hj => ho.cell (hc j c hj) (by show ¬ (b = b4 ∨ b = b8); omega)⟩
theorem NuX.of (h : Nums .i64 w B a zs) (h4 : B ≤ b4) (h8 : B ≤ b8) : NuX w b4 b8 a zs := fun hn => by
  obtain ⟨b, off, e, hlt, hc⟩ := h hn
  exact ⟨b, off, e, by omega, by omega, hc⟩
theorem NuX.of_own {base T s n : Nat} {v : Value} (h : w.ownsRow base T s v n (zs.map (Value.int .i64))) (hs : 0 < s) (h4 : b4 < base) (h8 : b8 < base) : ∃ a c, v = .slice a n c ∧ n ≤ c ∧ NuX w b4 b8 a zs := by
  obtain ⟨A, c, rfl, hc, hn⟩ := nums_of_own h hs
  refine ⟨A, c, rfl, hc, fun hne => ?_⟩
  obtain ⟨b, off, e, hlt, hcl⟩ := hn hne
  subst e
  rcases h.2 with ⟨e0, _⟩ | ⟨g, cap, cur, e0, hg, _⟩
  · cases e0
  · injection e0 with e0
    injection e0 with e0
    injection e0 with e1 e2
    exact ⟨b, off, rfl, by omega, by omega, hcl⟩
end
/-- a message's box and the result's; its lists lie in neither -/
structure TwoM (w : World) (b4 b8 : Nat) (M : Mg) (W : World) (P C : Value) : Prop where
  m : W.heap[b4]? = some (.cells (mC M P C) 36 (0, 0))
  r : W.heap[b8]? = some (.cells (mC (Mg.zero 0) (.slice none 0 0) (.slice none 0 0)) 36 (0, 0))
  p : ∃ a c, P = .slice a M.p.length c ∧ M.p.length ≤ c ∧ NuX W b4 b8 a (fl2 M.p)
  c : ∃ a c, C = .slice a M.c.length c ∧ M.c.length ≤ c ∧ NuX W b4 b8 a M.c
  b : Below w.heap.size w W
  lo : w.heap.size ≤ b4 ∧ w.heap.size ≤ b8 ∧ b4 ≠ b8
section
variable {w W W' : World} {b4 b8 : Nat} {M : Mg} {P C : Value}
theorem TwoM.later (h : TwoM w b4 b8 M W P C) (hb : Below W.heap.size W W') : TwoM w b4 b8 M W' P C := by
  obtain ⟨⟨a, c, h1, h2, h3⟩, ⟨a', c', h4, h5, h6⟩⟩ := And.intro h.p h.c
  exact ⟨(hb.block _ (Array.getElem?_eq_some_iff.1 h.m).1).trans h.m, (hb.block _ (Array.getElem?_eq_some_iff.1 h.r).1).trans h.r, ⟨a, c, h1, h2, h3.keep (Off.of_below hb)⟩, ⟨a', c', h4, h5, h6.keep (Off.of_below hb)⟩, h.b.trans (hb.mono h.b.size), h.lo⟩
/-- the result is stored, and answered -/
theorem TwoM.ret (h : TwoM w b4 b8 M W P C) : ∃ W', (Instr.storeAt 36 (.pointer (some ⟨b8, 0, none⟩)) (.agg (mC M P C))).run Try.prog W = .ok () W' ∧ W'.heap[b8]? = some (.cells (mC M P C) 36 (0, 0)) ∧ MAt W' W'.heap.size M P C ∧ Below w.heap.size w W' := by
  obtain ⟨⟨a, c, rfl, h2, h3⟩, ⟨a', c', rfl, h5, h6⟩⟩ := And.intro h.p h.c
  have hst := rm_store W b8 _ (mC M (.slice a M.p.length c) (.slice a' M.c.length c')) h.r rfl rfl (by simp [mC, Value.oneCell'])
  have hoff := Off.setRow (S := fun q => q = b4 ∨ q = b8) (Off.refl _ W) (.inr rfl) (mC M (.slice a M.p.length c) (.slice a' M.c.length c'))
  have hl := h.lo
  refine ⟨_, hst, setRow_heap W b8 _ _ _ _ h.r, ⟨⟨a, c, rfl, h2, (h3.keep hoff).nums⟩, ⟨a', c', rfl, h5, (h6.keep hoff).nums⟩⟩, ?_⟩
  exact h.b.trans (hoff.below (B := w.heap.size) (fun q hq => by omega) h.b.size)
theorem TwoM.start {w : World} {M : Mg} {P C : Value} (h : MAt w w.heap.size M P C) : TwoM w w.heap.size (w.heap.size + 1) M ((w.alloc (.cells (mC M P C) 36)).alloc (.cells (mC (Mg.zero 0) (.slice none 0 0) (.slice none 0 0)) 36)) P C := by
  have hb : Below w.heap.size w ((w.alloc (.cells (mC M P C) 36)).alloc (.cells (mC (Mg.zero 0) (.slice none 0 0) (.slice none 0 0)) 36)) := ((Below.refl _ w).alloc (Nat.le_refl _) _).alloc (by simp) _
  obtain ⟨⟨a, c, h1, h2, h3⟩, ⟨a', c', h4, h5, h6⟩⟩ := h.below hb
  refine ⟨(Below.heap_alloc _ _ _ (by simp)).trans (World.alloc_heap_new _ _), ?_, ⟨a, c, h1, h2, NuX.of h3 (Nat.le_refl _) (by omega)⟩, ⟨a', c', h4, h5, NuX.of h6 (Nat.le_refl _) (by omega)⟩, hb, ⟨Nat.le_refl _, by omega, by omega⟩⟩
  have := World.alloc_heap_new (w.alloc (.cells (mC M P C) 36)) (.cells (mC (Mg.zero 0) (.slice none 0 0) (.slice none 0 0)) 36)
  rwa [World.size_alloc] at this
end
end Go.Proofs.Ytmjbimmbphofjaa

namespace Go.Proofs.Ytmjbimmbphofjaa
open Go.RowKit Go.Shelf
set_option maxRecDepth 100000
attribute [local go_sem] Oper.semAt_some

/-- the literal []int{} -/
theorem wp_build0 {o : Oper} {a : Act} {w : World} {K : Act → World → Prop} {Q : Exit → Act → World → Prop} (ho : o.op = .buildSlice 24 0 #[])
    (h : K (a.put o.dst (.slice (some ⟨w.heap.size, 0, none⟩) 0 0)) (w.alloc (.cells #[] 3))) : o.wp Try.prog a w K Q := by
  have hr : (execOp a.eval o).run Try.prog w = .ok (.value (.slice (some ⟨w.heap.size, 0, none⟩) 0 0)) (w.alloc (.cells #[] 3)) := by
    unfold execOp
    simp only [ho]
    simp [go_sem]
  unfold Oper.wp
  rw [hr]
  exact h
theorem wpList_build0 {ops : Array Oper} {rest : List Oper} {o : Oper} {a : Act} {w : World} {Q : Exit → Act → World → Prop} (hg : o.guard = none) (ho : o.op = .buildSlice 24 0 #[]) (d : Option Tmp) (hd : o.dst = d) (N : Nat) (hN : w.heap.size = N)
    (h : wpList Try.prog ops Q rest (a.put d (.slice (some ⟨N, 0, none⟩) 0 0)) (w.alloc (.cells #[] 3))) : wpList Try.prog ops Q (o :: rest) a w :=
  wpList_plain hg fun _ hK => wp_build0 ho (hK _ _ (by rw [hd, hN]; exact h))
/-- a row of numbers of the call's own, whatever they are -/
def Row (H : Nat) (V : World) (T : TypeId) (s n : Nat) (v : Value) : Prop := ∃ xs : List Int, V.ownsRow H T s v n (xs.map (Value.int .i64))
section
variable {H : Nat} {V V' : World} {T : TypeId} {s n : Nat} {v : Value}
theorem Row.set (h : Row H V T s n v) (b j : Nat) (z : Int) : Row H (V.setCell ⟨b, j, none⟩ (.int .i64 z)) T s n v := by
  obtain ⟨xs, h1, h2⟩ := h
  rcases h2 with ⟨rfl, h0⟩ | ⟨g, cap, cur, rfl, hg, hh, r1, r2, r3, r4⟩
  · exact ⟨xs, h1, .inl ⟨rfl, h0⟩⟩
  · by_cases e : g = b
    · subst e
      refine ⟨xs.set j z, by simpa using h1, .inr ⟨g, cap, _, rfl, hg, setCell_at hh, r1, r2, by simpa using r3, ?_⟩⟩
      rw [Array.toList_setIfInBounds, List.take_set, r4, List.map_set]
    · exact ⟨xs, ownsRow_setCell_other ⟨h1, .inr ⟨g, cap, cur, rfl, hg, hh, r1, r2, r3, r4⟩⟩ (by simp [Value.ownBlock]; exact e) _⟩
theorem Row.later (h : Row H V T s n v) (hb : Below V.heap.size V V') : Row H V' T s n v := by
  obtain ⟨xs, h1, h2⟩ := h
  refine ⟨xs, h1, ?_⟩
  rcases h2 with h2 | ⟨g, cap, cur, hv, hg, hh, r⟩
  · exact .inl h2
  · exact .inr ⟨g, cap, cur, hv, hg, (hb.block g (Array.getElem?_eq_some_iff.1 hh).1).trans hh, r⟩
/-- the block of a row of elements -/
theorem Row.open (h : Row H V T s n v) {i : Nat} (hi : i < n) : ∃ g cap cur, v = .slice (some ⟨g, 0, none⟩) n cap ∧ H ≤ g ∧ V.heap[g]? = some (.cells cur T (0, 0)) ∧ n * s ≤ cur.size := by
  obtain ⟨xs, h1, h2⟩ := h
  rcases h2 with ⟨rfl, h0⟩ | ⟨g, cap, cur, rfl, hg, hh, r1, r2, r3, r4⟩
  · omega
  · exact ⟨g, cap, cur, rfl, hg, hh, by rw [r3]; exact Nat.mul_le_mul_right s r1⟩
theorem Row.slice (h : Row H V T s n v) : ∃ a cap, v = .slice a n cap := by
  obtain ⟨xs, h1, h2⟩ := h
  rcases h2 with ⟨rfl, h0⟩ | ⟨g, cap, cur, rfl, hg, hh, r1, r2, r3, r4⟩
  · exact ⟨none, 0, by rw [h0]⟩
  · exact ⟨_, _, rfl⟩
/-- a row's block is no box -/
theorem Row.not_box (h : Row H V T s n v) {g : Nat} {cs : Array Value} (hb : V.heap[g]? = some (.cells cs 26 (0, 0))) (hT : T ≠ 26) : ∀ q, v.ownBlock = some q → q ≠ g := by
  obtain ⟨xs, h1, h2⟩ := h
  intro q hq e
  subst e
  rcases h2 with ⟨rfl, h0⟩ | ⟨g, cap, cur, rfl, hg, hh, _⟩
  · cases hq
  · injection hq with hq
    subst hq
    rw [hh] at hb
    injection hb with hb
    injection hb with _ hb
    exact hT hb
end
/-- boxes of messages, the rows that hang on them, and what lies below -/
structure ApI (H : Nat) (w5 : World) (Bx : List (Nat × Array Value)) (R : List (TypeId × Nat × Nat × Value)) (V : World) : Prop where
  box : ∀ q ∈ Bx, H ≤ q.1 ∧ V.heap[q.1]? = some (.cells q.2 26 (0, 0))
  row : ∀ q ∈ R, q.1 ≠ 26 ∧ Row H V q.1 q.2.1 q.2.2.1 q.2.2.2
  off : Off (fun k => H ≤ k) w5 V
section
variable {H : Nat} {w5 V V' : World} {Bx : List (Nat × Array Value)} {R : List (TypeId × Nat × Nat × Value)}
theorem ApI.set (h : ApI H w5 Bx R V) {b j : Nat} {cur : Array Value} {T : TypeId} (hb : V.heap[b]? = some (.cells cur T (0, 0))) (hT : T ≠ 26) (hH : H ≤ b) (z : Int) : ApI H w5 Bx R (V.setCell ⟨b, j, none⟩ (.int .i64 z)) := by
  refine ⟨fun q hq => ⟨(h.box q hq).1, ?_⟩, fun q hq => ⟨(h.row q hq).1, (h.row q hq).2.set b j z⟩, h.off.setCell (p := ⟨b, j, none⟩) hH _⟩
  have hq2 := (h.box q hq).2
  refine (Below.heap_setCell V ⟨b, j, none⟩ _ q.1 (fun e => ?_)).trans hq2
  rw [e] at hq2
  rw [hb] at hq2
  injection hq2 with hq2
  injection hq2 with _ hq2
  exact hT hq2
theorem ApI.drew (h : ApI H w5 Bx R V) : ApI H w5 Bx R V.drew := ⟨h.box, h.row, ⟨h.off.os, h.off.tape, h.off.output, h.off.size, h.off.block⟩⟩
theorem ApI.drewN (h : ApI H w5 Bx R V) (n : Nat) : ApI H w5 Bx R (V.drewN n) := ⟨h.box, h.row, ⟨h.off.os, h.off.tape, h.off.output, h.off.size, h.off.block⟩⟩
/-- one element's number is written -/
theorem ApI.store (h : ApI H w5 Bx R V) {T : TypeId} {s n : Nat} {v : Value} (hq : (T, s, n, v) ∈ R) {i d : Nat} (hi : i < n) (hd : d < s) {g cap : Nat} (hv : v = .slice (some ⟨g, 0, none⟩) n cap) (z : Int) :
    (Instr.storeAt 3 (.pointer (some ⟨g, i * s + d, none⟩)) (.int .i64 z)).run Try.prog V = .ok () (V.setCell ⟨g, i * s + d, none⟩ (.int .i64 z)) ∧ ApI H w5 Bx R (V.setCell ⟨g, i * s + d, none⟩ (.int .i64 z)) := by
  obtain ⟨hT, hr⟩ := h.row _ hq
  dsimp only at hT hr
  obtain ⟨g', cap', cur, e, hg, hh, hn⟩ := hr.open hi
  rw [hv] at e
  injection e with e
  injection e with e
  injection e with e
  subst e
  have hlt : i * s + d < cur.size := by
    have h1 : (i + 1) * s ≤ n * s := Nat.mul_le_mul_right s hi
    rw [Nat.succ_mul] at h1
    omega
  have hc : V.cell? ⟨g, i * s + d, none⟩ = some cur[i * s + d] := row_cell hh _ _ (Array.getElem?_eq_getElem hlt)
  have hz := frozen_of_row V g (i * s + d) _ _ hh
  exact ⟨by simp [Instr.storeAt, go_sem, hc, hz], h.set hh hT hg z⟩
end
/-- a box of a message, whose lists are the call's own -/
def BoxO (H g : Nat) (W : World) : Prop := H ≤ g ∧ ∃ M P C, W.heap[g]? = some (.cells (mC M P C) 26 (0, 0)) ∧ Msm M ∧ MOwn H W M P C
theorem mown_box {H g : Nat} {W : World} {M : Mg} {P C : Value} {cs : Array Value} (h : MOwn H W M P C) (hb : W.heap[g]? = some (.cells cs 26 (0, 0))) (arr : Array Value) : MOwn H (W.setRow g arr) M P C := by
  have hoff := Off.setRow (S := fun k => k = g) (Off.refl _ W) rfl arr
  exact ⟨own_offM h.p hoff (fun q hq e => Row.not_box ⟨_, h.p⟩ hb (by decide) q hq e), own_offM h.c hoff (fun q hq e => Row.not_box ⟨_, h.c⟩ hb (by decide) q hq e)⟩
theorem BoxO.store {H g g' : Nat} {W : World} {M : Mg} {P C : Value} {cs : Array Value} (h : BoxO H g' W) (hb : W.heap[g]? = some (.cells cs 26 (0, 0))) (hs : Msm M) (ho : MOwn H W M P C) : BoxO H g' (W.setRow g (mC M P C)) := by
  obtain ⟨hH, M', P', C', h1, h2, h3⟩ := h
  by_cases e : g' = g
  · subst e
    exact ⟨hH, M, P, C, setRow_heap W _ _ _ _ _ hb, hs, mown_box ho hb _⟩
  · exact ⟨hH, M', P', C', (setRow_other _ _ _ _ e).trans h1, h2, mown_box h3 hb _⟩
end Go.Proofs.Ytmjbimmbphofjaa

namespace Go.Proofs.Ytmjbimmbphofjaa
open Go.RowKit Go.Shelf
set_option maxRecDepth 100000
attribute [local go_sem] Oper.semAt_some

theorem rdC_step (m : Nat) (a : Int) (l : List Int) : rdC (m + 1) a l = if (rdG a l).1 ≠ 0 then ((rdG a l).1, 0, []) else ((rdC m (rdG a l).2.2 (l.drop (rdG a l).2.1)).1, (rdG a l).2.1 + (rdC m (rdG a l).2.2 (l.drop (rdG a l).2.1)).2.1, (rdG a l).2.2 :: (rdC m (rdG a l).2.2 (l.drop (rdG a l).2.1)).2.2) := rfl

/-- other cells are stored into the message's box -/
theorem TwoM.cells {w W W' : World} {b4 b8 : Nat} {M : Mg} {P C v : Value} {L : List Int} (h : TwoM w b4 b8 M W P C) (hm : MadeK 3 .i64 W W' L v) : ∃ a c, v = .slice a L.length c ∧ TwoM w b4 b8 { M with c := L } (W'.setCell ⟨b4, 8, none⟩ v) P v := by
  have h4 := (Array.getElem?_eq_some_iff.1 h.m).1
  have h8 := (Array.getElem?_eq_some_iff.1 h.r).1
  have hl := h.later hm.2
  obtain ⟨a, c, rfl, hc, hn⟩ := NuX.of_own hm.1 (by omega) h4 h8
  have hlo := h.lo
  have hoff : Off (fun q => q = b4 ∨ q = b8) W' (W'.setCell ⟨b4, 8, none⟩ (.slice a L.length c)) := Off.setCell (S := fun q => q = b4 ∨ q = b8) (p := ⟨b4, 8, none⟩) (Off.refl _ W') (.inl rfl) _
  have hof2 : Off (fun q => q = b4) W' (W'.setCell ⟨b4, 8, none⟩ (.slice a L.length c)) := Off.setCell (S := fun q => q = b4) (p := ⟨b4, 8, none⟩) (Off.refl _ W') rfl _
  obtain ⟨pa, pc, h1, h2, h3⟩ := hl.p
  refine ⟨a, c, rfl, by rw [setCell_at hl.m]; rfl, (hof2.block _ (Array.getElem?_eq_some_iff.1 hl.r).1 (by omega)).trans hl.r, ⟨pa, pc, h1, h2, h3.keep hoff⟩, ⟨a, c, rfl, hc, hn.keep hoff⟩, ?_, hlo⟩
  exact hl.b.trans (hoff.below (B := w.heap.size) (fun q hq => by omega) hl.b.size)
/-- numbers that lie in no message's box -/
def NoM (W : World) (a : Option Addr) (zs : List Int) : Prop := zs ≠ [] → ∃ b off cs t, a = some ⟨b, off, none⟩ ∧ W.heap[b]? = some (.cells cs t (0, 0)) ∧ t ≠ 36
theorem NoM.below {W W' : World} {A : Option Addr} {zs : List Int} (h : NoM W A zs) (hb : Below W.heap.size W W') : NoM W' A zs := fun hn => by
  obtain ⟨g, off, cs, t, e, hh, ht⟩ := h hn
  exact ⟨g, off, cs, t, e, (hb.block _ (Array.getElem?_eq_some_iff.1 hh).1).trans hh, ht⟩
theorem NoM.aside {W W' : World} {b4 b8 : Nat} {A : Option Addr} {zs : List Int} (h : NoM W A zs) (h2 : NuX W b4 b8 A zs) (ho : Off (fun q => q = b4 ∨ q = b8) W W') : NoM W' A zs := fun hn => by
  obtain ⟨g, off, cs, t, e, hh, ht⟩ := h hn
  obtain ⟨g', off', e', h3, h4, -⟩ := h2 hn
  rw [e] at e'
  injection e' with e'
  injection e' with e1 e2
  subst e1
  exact ⟨g, off, cs, t, e, (ho.block _ (Array.getElem?_eq_some_iff.1 hh).1 (by omega)).trans hh, ht⟩
theorem NoM.of_own {W : World} {base T s n : Nat} {v : Value} {zs : List Int} (h : W.ownsRow base T s v n (zs.map (Value.int .i64))) (ht : T ≠ 36) : ∀ a m c, v = .slice a m c → NoM W a zs := fun a m c e hn => by
  rcases h.2 with ⟨_, h0⟩ | ⟨g, cap, cur, rfl, -, hh, -⟩
  · have := h.1
    rw [h0, Nat.zero_mul, List.length_map] at this
    exact absurd (List.eq_nil_of_length_eq_zero this) hn
  · injection e with e
    exact ⟨g, 0, cur, T, e.symm, hh, ht⟩
/-- a message's lists lie in no block of S, and in no message's box -/
def Shun (S : Nat → Prop) (W : World) (M : Mg) (P C : Value) : Prop := (∀ x, S x → (∀ a n c, P = .slice a n c → NuX W x x a (fl2 M.p)) ∧ (∀ a n c, C = .slice a n c → NuX W x x a M.c)) ∧ (∀ a n c, P = .slice a n c → NoM W a (fl2 M.p)) ∧ (∀ a n c, C = .slice a n c → NoM W a M.c)
theorem Shun.later {S : Nat → Prop} {W W' : World} {M : Mg} {P C : Value} (h : Shun S W M P C) (hb : Below W.heap.size W W') : Shun S W' M P C :=
  ⟨fun x hx => ⟨fun a n c e => ((h.1 x hx).1 a n c e).keep (Off.of_below hb), fun a n c e => ((h.1 x hx).2 a n c e).keep (Off.of_below hb)⟩, fun a n c e => (h.2.1 a n c e).below hb, fun a n c e => (h.2.2 a n c e).below hb⟩
section
variable {S : Nat → Prop} {w W W' : World} {b4 b8 : Nat} {M : Mg} {P C : Value}
theorem NuX.aside {x : Nat} {A : Option Addr} {zs : List Int} (h : NuX W x x A zs) (h2 : NuX W b4 b8 A zs) (ho : Off (fun q => q = b4 ∨ q = b8) W W') : NuX W' x x A zs := fun hn => by
  obtain ⟨g, off, e, h1, -, hc⟩ := h hn
  obtain ⟨g', off', e', h3, h4, -⟩ := h2 hn
  rw [e] at e'
  injection e' with e'
  injection e' with e1 e2
  subst e1
  exact ⟨g, off, e, h1, h1, fun j c hj => ho.cell (hc j c hj) (by show ¬ (g = b4 ∨ g = b8); omega)⟩
theorem Shun.off (h : Shun S W M P C) (t : TwoM w b4 b8 M W P C) (ho : Off (fun q => q = b4 ∨ q = b8) W W') : Shun S W' M P C := by
  obtain ⟨pa, pc, e1, -, n1⟩ := t.p
  obtain ⟨ca, cc, e2, -, n2⟩ := t.c
  refine ⟨fun x hx => ?_, fun a n c e => ?_, fun a n c e => ?_⟩
  · obtain ⟨k1, k2⟩ := h.1 x hx
    exact ⟨fun a n c e => by have := k1 a n c e; rw [e1] at e; injection e with e; subst e; exact this.aside n1 ho, fun a n c e => by have := k2 a n c e; rw [e2] at e; injection e with e; subst e; exact this.aside n2 ho⟩
  · have := h.2.1 a n c e
    rw [e1] at e
    injection e with e
    subst e
    exact this.aside n1 ho
  · have := h.2.2 a n c e
    rw [e2] at e
    injection e with e
    subst e
    exact this.aside n2 ho
theorem TwoM.retS (h : TwoM w b4 b8 M W P C) (hs : Shun S W M P C) : ∃ W', (Instr.storeAt 36 (.pointer (some ⟨b8, 0, none⟩)) (.agg (mC M P C))).run Try.prog W = .ok () W' ∧ W'.heap[b8]? = some (.cells (mC M P C) 36 (0, 0)) ∧ MAt W' W'.heap.size M P C ∧ Below w.heap.size w W' ∧ Shun S W' M P C := by
  have t := h
  obtain ⟨⟨a, c, rfl, h2, h3⟩, ⟨a', c', rfl, h5, h6⟩⟩ := And.intro h.p h.c
  have hst := rm_store W b8 _ (mC M (.slice a M.p.length c) (.slice a' M.c.length c')) h.r rfl rfl (by simp [mC, Value.oneCell'])
  have hoff := Off.setRow (S := fun q => q = b4 ∨ q = b8) (Off.refl _ W) (.inr rfl) (mC M (.slice a M.p.length c) (.slice a' M.c.length c'))
  have hl := h.lo
  refine ⟨_, hst, setRow_heap W b8 _ _ _ _ h.r, ⟨⟨a, c, rfl, h2, (h3.keep hoff).nums⟩, ⟨a', c', rfl, h5, (h6.keep hoff).nums⟩⟩, ?_, hs.off t hoff⟩
  exact h.b.trans (hoff.below (B := w.heap.size) (fun q hq => by omega) h.b.size)
end
/-- what reading on leaves: the error; if there is none, the message and where it ends; its lists lie in no block of S -/
def RdS (S : Nat → Prop) (w : World) (r : Nat × Nat × Mg) (at' : Nat) (e : Ending) (w' : World) : Prop :=
  ∃ (M' : Mg) (P C : Value) (a' : Int), e = .returned (.tuple #[mV M' P C, .int .i64 a', .int .i64 (r.1 : Int)]) ∧ MAt w' w'.heap.size M' P C ∧ Below w.heap.size w w' ∧ Shun S w' M' P C ∧ (r.1 = 0 → M' = r.2.2 ∧ a' = ((at' + r.2.1 : Nat) : Int))
/-- other cells: no block of S either -/
theorem Shun.cells {S : Nat → Prop} {w W W' : World} {b4 b8 : Nat} {M : Mg} {P C v : Value} {L : List Int} (h : Shun S W M P C) (t : TwoM w b4 b8 M W P C) (hS : ∀ x, S x → x < w.heap.size) (hm : MadeK 3 .i64 W W' L v) : Shun S (W'.setCell ⟨b4, 8, none⟩ v) { M with c := L } P v := by
  have hoff : Off (fun q => q = b4 ∨ q = b8) W' (W'.setCell ⟨b4, 8, none⟩ v) := Off.setCell (S := fun q => q = b4 ∨ q = b8) (p := ⟨b4, 8, none⟩) (Off.refl _ W') (.inl rfl) _
  have hb := t.b.size
  have tl := t.later hm.2
  obtain ⟨pa, pc, e1, -, n1⟩ := tl.p
  obtain ⟨a2, c2, e3, -, n4⟩ := NuX.of_own hm.1 (by omega) (Array.getElem?_eq_some_iff.1 t.m).1 (Array.getElem?_eq_some_iff.1 t.r).1
  refine ⟨fun x hx => ⟨fun a5 n5 c5 e => ?_, fun a5 n5 c5 e => ?_⟩, fun a5 n5 c5 e => ?_, fun a5 n5 c5 e => ?_⟩
  · have := ((h.1 x hx).1 a5 n5 c5 e).keep (Off.of_below hm.2)
    rw [e1] at e
    injection e with e
    subst e
    exact this.aside n1 hoff
  · have hlt := hS x hx
    obtain ⟨a, c, e4, -, n3⟩ := NuX.of_own hm.1 (by omega) (b4 := x) (b8 := x) (by omega) (by omega)
    rw [e3] at e4
    injection e4 with e4
    subst e4
    rw [e3] at e
    injection e with e
    subst e
    exact n3.aside n4 hoff
  · have := (h.2.1 a5 n5 c5 e).below hm.2
    rw [e1] at e
    injection e with e
    subst e
    exact this.aside n1 hoff
  · have := NoM.of_own hm.1 (by decide) a5 n5 c5 e
    rw [e3] at e
    injection e with e
    subst e
    exact this.aside n4 hoff
set_option maxHeartbeats 8000000 in
theorem rcells18_any (S : Nat → Prop) (M : Mg) (P C : Value) (n : Nat) (A : Option Addr) (len cap : Nat) (l : List Int) (at' : Nat) (w : World) (hlen : l.length = len) (hll : len ≤ 1000000) (hby : Bys l) (hA : Nums .u8 w w.heap.size A l) (hat : at' ≤ len) (hn : n ≤ 40) (hm : M.c.length ≤ 40) (h1 : MAt w w.heap.size M P C) (hS : ∀ x, S x → x < w.heap.size) (hsh : Shun S w M P C) :
    Calls Try.prog 75 #[mV M P C, .int .i64 (n : Int), .slice A len cap, .int .i64 (at' : Int)] w fun e w' => RdS S w ((rdC n (-1) (l.drop at')).1, (rdC n (-1) (l.drop at')).2.1, { M with c := M.c ++ (rdC n (-1) (l.drop at')).2.2 }) at' e w' := by
  obtain ⟨ii, hii, hzi, hzi1, hzi2⟩ := info_parts i64Info
  obtain ⟨w2, hw2⟩ : ∃ w2, (w.alloc (.cells (mC M P C) 36)).alloc (.cells #[.int .i64 0, .int .i64 0, .int .i64 0, .int .i64 0, .int .i64 0, .int .i64 0, .int .i64 0, .slice none 0 0, .slice none 0 0, .string ⟨#[]⟩, .string ⟨#[]⟩] 36) = w2 := ⟨_, rfl⟩
  have hT : TwoM w w.heap.size (w.heap.size + 1) M w2 P C := by rw [← hw2]; exact TwoM.start h1
  have hsb : Shun S w2 M P C := hsh.later hT.b
  have HSB := Lib.hid hsb
  clear hsh hsb
  have HW2 := Lib.hid hw2
  have HT := Lib.hid hT
  have HA := Lib.hid hA
  have HLEN := Lib.hid hlen
  have HBY := Lib.hid hby
  have KG : Hid (∀ (q : Nat) W, q ≤ len → Below w.heap.size w W → Calls Try.prog 71 #[.slice A len cap, .int .i64 (q : Int)] W fun e w' => RGetR (q : Int) (Vi.get (l.drop q)) e ∧ W = w') := Lib.hid fun q W hq hW => by
    have := rget_len w.heap.size A len cap l (q : Int) W hlen (by omega) (by omega) (by omega) hby (hA.below hW)
    rwa [Int.toNat_natCast] at this
  obtain ⟨R, hR⟩ : ∃ R, rdC n (-1) (l.drop at') = R := ⟨_, rfl⟩
  rw [hR]
  have HR := Lib.hid hR
  clear hw2 hT hA hlen hby h1 hR
  unfold mV
  go_enter Try.func75, Try.ntmps75
  go_wp2_with fail
  rw [HW2.out]
  go_loopw [3, 11, 12, 13, 14, 15] (fun sa sl si _ _ _ wr => ∃ (j u : Nat) (a : Int) (L : List Int) (Cj : Value), j ≤ n ∧ sa = .int .i64 ((at' + u : Nat) : Int) ∧ sl = .int .i64 a ∧ si = .int .i64 (j : Int) ∧ at' + u ≤ len ∧ -1 ≤ a ∧ a ≤ 65535 ∧ L.length = j ∧
    Hid (R = ((rdC (n - j) a (l.drop (at' + u))).1, u + (rdC (n - j) a (l.drop (at' + u))).2.1, L ++ (rdC (n - j) a (l.drop (at' + u))).2.2)) ∧ Hid (TwoM w w.heap.size (w.heap.size + 1) { M with c := M.c ++ L } wr P Cj) ∧ Hid (Shun S wr { M with c := M.c ++ L } P Cj)) (fun _ _ si _ _ _ _ => n - (intOf si).toNat)
  case atStart => exact ⟨0, 0, -1, [], C, by omega, rfl, rfl, rfl, by omega, by omega, by omega, rfl, by rw [Nat.add_zero, Nat.sub_zero, HR.out]; exact Lib.hid (by simp), by rw [List.append_nil]; exact HT, by rw [List.append_nil]; exact HSB⟩
  case round =>
    obtain ⟨j, u, a, L, Cj, hj, rfl, rfl, rfl, hu, ha0, ha1, hL, HE, HM, HSH⟩ := hrel
    obtain ⟨q, hq⟩ : ∃ q, at' + u = q := ⟨_, rfl⟩
    rw [hq] at hu HE ⊢
    rcases Nat.lt_or_ge j n with hlt | hge
    · have hj2 : (j : Int) < (n : Int) := by omega
      have K := KG.out q wr hu HM.out.b
      have hle := Vi.get_le (l.drop q)
      have hrd := rdC_step (n - j - 1) a (l.drop q)
      rw [show n - j - 1 + 1 = n - j by omega] at hrd
      unfold rdG at hrd
      obtain ⟨⟨z, k, er⟩, hg⟩ : ∃ g, Vi.get (l.drop q) = g := ⟨_, rfl⟩
      rw [hg] at K hle hrd
      simp only at hle hrd
      unfold RGetR at K
      simp only at K
      rw [List.length_drop, HLEN.out] at hle
      have HRD := Lib.hid hrd
      have K := Lib.hid K
      clear hrd hg
      go_wp2_with fail
      refine K.out.mono ?_
      rintro e w3 ⟨rfl, rfl⟩
      clear K
      by_cases her : er = 0
      · subst her
        simp only [ne_eq, not_true_eq_false, if_false] at HRD
        by_cases hfar : 65535 < a + 1 + (z : Int)
        · have hrd := HRD.out
          rw [if_pos hfar] at hrd
          rw [if_pos (by decide)] at hrd
          have HRD5 := Lib.hid hrd
          clear hrd HRD
          by_cases hz5 : 65535 < (z : Int)
          · obtain ⟨W', hst, hres, hmat, hbel, hshu⟩ := HM.out.retS HSH.out
            have HLD := Lib.hid (mr_look HM.out.m)
            have HST := Lib.hid hst
            have HFI := Lib.hid (And.intro hmat (And.intro hbel hshu))
            have HRS := Lib.hid hres
            clear hst hres hmat hbel hshu
            go_wp2_with (first | refine wpList_load_run rfl 36 (.tmp 4) rfl (some ⟨w.heap.size, 0, none⟩) rfl (.agg (mC { M with c := M.c ++ L } P Cj)) HLD.out ?_ | refine wpList_store_run rfl 36 (.tmp 8) (.tmp 43) rfl (some ⟨w.heap.size + 1, 0, none⟩) rfl (.agg (mC { M with c := M.c ++ L } P Cj)) rfl HST.out ?_)
            obtain ⟨y0, y1, y2, y3, y4, y5, y6, y7, y8, y9, y10⟩ := mg_block HRS.out
            refine bodyPost_ret (v := .tuple #[.agg (mC { M with c := M.c ++ L } P Cj), .int .i64 ((q : Int)), .int .i64 (5)]) (by simp [results, Try.results75, go_sem, y0, y1, y2, y3, y4, y5, y6, y7, y8, y9, y10, mC]) rfl ?_
            have hE := HE.out
            rw [HRD5.out] at hE
            rw [hE]
            exact ⟨_, P, Cj, _, rfl, HFI.out.1, HFI.out.2.1, HFI.out.2.2, fun h => by simp at h⟩
          · have hz6 : (z : Int) ≤ 65535 := by omega
            obtain ⟨W', hst, hres, hmat, hbel, hshu⟩ := HM.out.retS HSH.out
            have HLD := Lib.hid (mr_look HM.out.m)
            have HST := Lib.hid hst
            have HFI := Lib.hid (And.intro hmat (And.intro hbel hshu))
            have HRS := Lib.hid hres
            clear hst hres hmat hbel hshu
            go_wp2_with (first | refine wpList_load_run rfl 36 (.tmp 4) rfl (some ⟨w.heap.size, 0, none⟩) rfl (.agg (mC { M with c := M.c ++ L } P Cj)) HLD.out ?_ | refine wpList_store_run rfl 36 (.tmp 8) (.tmp 43) rfl (some ⟨w.heap.size + 1, 0, none⟩) rfl (.agg (mC { M with c := M.c ++ L } P Cj)) rfl HST.out ?_)
            obtain ⟨y0, y1, y2, y3, y4, y5, y6, y7, y8, y9, y10⟩ := mg_block HRS.out
            refine bodyPost_ret (v := .tuple #[.agg (mC { M with c := M.c ++ L } P Cj), .int .i64 ((q : Int)), .int .i64 (5)]) (by simp [results, Try.results75, go_sem, y0, y1, y2, y3, y4, y5, y6, y7, y8, y9, y10, mC]) rfl ?_
            have hE := HE.out
            rw [HRD5.out] at hE
            rw [hE]
            exact ⟨_, P, Cj, _, rfl, HFI.out.1, HFI.out.2.1, HFI.out.2.2, fun h => by simp at h⟩
        · have hz6 : (z : Int) ≤ 65535 := by omega
          have hrd := HRD.out
          rw [if_neg hfar] at hrd
          simp only [not_true_eq_false, if_false] at hrd
          have HRD7 := Lib.hid hrd
          clear hrd HRD
          obtain ⟨ca, cc, hcj, hcc, hcn⟩ := HM.out.c
          simp only at hcj hcc hcn
          subst hcj
          obtain ⟨w5, hw5⟩ : ∃ w5, wr.alloc (.cells #[] 3) = w5 := ⟨_, rfl⟩
          have hb5 : Below wr.heap.size wr w5 := by rw [← hw5]; exact (Below.refl _ wr).alloc (Nat.le_refl _) _
          have hlo := HM.out.lo
          have hlt4 := (Array.getElem?_eq_some_iff.1 HM.out.m).1
          have hlt8 := (Array.getElem?_eq_some_iff.1 HM.out.r).1
          have HM5 := Lib.hid (HM.out.later hb5)
          have HB5 := Lib.hid hb5
          have HOW := Lib.hid (show w5.ownsRow wr.heap.size 3 1 (.slice (some ⟨wr.heap.size, 0, none⟩) 0 0) 0 (([] : List Int).map (Value.int .i64)) by rw [← hw5]; exact World.ownsRow_made wr #[] 0 (Nat.le_refl _) (by unfold maxLen; omega) rfl)
          obtain ⟨nc, hnc⟩ : ∃ nc, (M.c ++ L).length = nc := ⟨_, rfl⟩
          rw [hnc] at hcc
          have e8 := row_cell HM5.out.m 8 (.slice ca nc cc) (by rw [← hnc]; rfl)
          have hs5 : wr.heap.size ≤ w5.heap.size := hb5.size
          have HNC := Lib.hid (hcn.keep (Off.of_below hb5)).nums
          have hcl : nc ≤ 80 := by rw [← hnc, List.length_append]; omega
          have HLN := Lib.hid hnc
          have HW5 := Lib.hid hw5
          clear hcn hw5 hb5 hnc
          skip
          go_wp2_with (first | (refine wpList_build0 rfl rfl (some 51) rfl wr.heap.size rfl ?_; rw [HW5.out]; simp only [Act.put, List.setIfInBounds_toArray, List.set_cons_succ, List.set_cons_zero]) | (at_builtin; refine wpList_append_any rfl (.tmp 51) (.tmp 53) 24 rfl wr.heap.size 3 ii (.int .i64 0) 8 Try.underlying24 hii hzi hzi1 hzi2 rfl .i64 [] (M.c ++ L) _ rfl HOW.out _ _ _ _ rfl HLN.out HNC.out (by unfold maxLen; simp only [List.length_nil]; omega) (by simp only [List.length_nil]; omega) hs5 ?_))
          clear e8
          intro v6 w6 hown6 hgr6
          have hgs : w5.grownBy w6 (some wr.heap.size) := hgr6
          have ho6 : Off (fun k => k = wr.heap.size) w5 w6 := ⟨hgs.os, hgs.tape, hgs.output, hgs.size, fun k hk hn => hgs.block k hk (fun e => hn (by injection e))⟩
          have hb6 : Below wr.heap.size wr w6 := HB5.out.trans (ho6.below (B := wr.heap.size) (fun k hk => by omega) HB5.out.size)
          have hm6 : MadeK 3 .i64 wr w6 (M.c ++ L) v6 := ⟨by simpa [hL] using hown6, hb6⟩
          have HM6 := Lib.hid hm6
          have hs6 : wr.heap.size ≤ w6.heap.size := hb6.size
          have HX := Lib.hid (show (M.c ++ L).length + 1 ≤ maxLen by rw [HLN.out]; unfold maxLen; omega)
          have HX2 := Lib.hid (show ((M.c ++ L).length + 1) * 8 ≤ 140737488355328 by rw [HLN.out]; omega)
          clear hown6 hgr6 hgs ho6 hb6 hm6
          go_wp2_with (at_builtin; refine wpList_append_own_at _ rfl (.tmp 54) (.tmp 56) 24 rfl wr.heap.size 3 ii (.int .i64 0) 1 8 Try.underlying24 hii hzi hzi1 hzi2 rfl (by decide) _ _ _ rfl (HM6.out.1.alloc _) ⟨w6.heap.size, 0, none⟩ 1 1 [_] rfl rfl (cell_one_new _ _ _) (by intro u hu; simp at hu; subst hu; rfl) HX.out HX2.out (by rw [World.size_alloc]; exact Nat.le_succ_of_le hs6) ?_)
          intro v7 w7 hown7 hgr7 _ _
          have hm7 : MadeK 3 .i64 wr w7 ((M.c ++ L) ++ [a + 1 + (z : Int)]) v7 := HM6.out.app (by simpa [hL] using hown7) hgr7 rfl
          have hmm := HM.out.later hm7.2
          have e8 := row_cell hmm.m 8 (.slice ca nc cc) (by rw [← HLN.out]; rfl)
          have z8 := frozen_of_row w7 w.heap.size 8 _ _ hmm.m
          obtain ⟨a7, c7, rfl, hT7⟩ := HM.out.cells hm7
          have HT7 := Lib.hid hT7
          have HS7 := Lib.hid (HSH.out.cells HM.out hS hm7)
          clear hm7 hmm hT7 hown7 hgr7
          go_wp2_with fail
          have hT := HT7.out
          have hsT := HS7.out
          rw [show (M.c ++ L ++ [a + 1 + (z : Int)]).length = M.c.length + (j + 1) by simp [hL]] at hT hsT
          have hE := HE.out
          rw [HRD7.out] at hE
          refine ⟨⟨j + 1, u + k, a + 1 + (z : Int), L ++ [a + 1 + (z : Int)], .slice a7 (M.c.length + (j + 1)) c7, by omega, by congr 1; omega, rfl, by go_num, by omega, by omega, by omega, by simp [hL], ?_, ?_, ?_⟩, by simp only [intOf]; omega⟩
          · refine Lib.hid ?_
            rw [hE, List.drop_drop, show q + k = at' + (u + k) by omega, Nat.sub_sub, Nat.add_assoc, List.append_assoc]
            rfl
          · refine Lib.hid ?_
            rw [← List.append_assoc]
            exact hT
          · refine Lib.hid ?_
            rw [← List.append_assoc]
            exact hsT
      · have her' : ((er : Nat) : Int) ≠ 0 := by omega
        have hrd := HRD.out
        rw [if_pos her] at hrd
        simp only [ne_eq, her, not_false_eq_true, if_true] at hrd
        have HRD5 := Lib.hid hrd
        clear hrd
        obtain ⟨W', hst, hres, hmat, hbel, hshu⟩ := HM.out.retS HSH.out
        have HLD := Lib.hid (mr_look HM.out.m)
        have HST := Lib.hid hst
        have HFI := Lib.hid (And.intro hmat (And.intro hbel hshu))
        have HRS := Lib.hid hres
        clear hst hres hmat hbel hshu
        go_wp2_with (first | refine wpList_load_run rfl 36 (.tmp 4) rfl (some ⟨w.heap.size, 0, none⟩) rfl (.agg (mC { M with c := M.c ++ L } P Cj)) HLD.out ?_ | refine wpList_store_run rfl 36 (.tmp 8) (.tmp 30) rfl (some ⟨w.heap.size + 1, 0, none⟩) rfl (.agg (mC { M with c := M.c ++ L } P Cj)) rfl HST.out ?_)
        obtain ⟨y0, y1, y2, y3, y4, y5, y6, y7, y8, y9, y10⟩ := mg_block HRS.out
        refine bodyPost_ret (v := .tuple #[.agg (mC { M with c := M.c ++ L } P Cj), .int .i64 ((q : Int)), .int .i64 ((er : Int))]) (by simp [results, Try.results75, go_sem, y0, y1, y2, y3, y4, y5, y6, y7, y8, y9, y10, mC]) rfl ?_
        have hE := HE.out
        rw [HRD5.out] at hE
        rw [hE]
        exact ⟨_, P, Cj, _, rfl, HFI.out.1, HFI.out.2.1, HFI.out.2.2, fun h => absurd h her⟩
    · obtain rfl : j = n := by omega
      obtain ⟨W', hst, hres, hmat, hbel, hshu⟩ := HM.out.retS HSH.out
      have HLD := Lib.hid (mr_look HM.out.m)
      have HST := Lib.hid hst
      have HFI := Lib.hid (And.intro hmat (And.intro hbel hshu))
      have HRS := Lib.hid hres
      clear hst hres hmat hbel hshu
      go_wp2_with (first | refine wpList_load_run rfl 36 (.tmp 4) rfl (some ⟨w.heap.size, 0, none⟩) rfl (.agg (mC { M with c := M.c ++ L } P Cj)) HLD.out ?_ | refine wpList_store_run rfl 36 (.tmp 8) (.tmp 59) rfl (some ⟨w.heap.size + 1, 0, none⟩) rfl (.agg (mC { M with c := M.c ++ L } P Cj)) rfl HST.out ?_)
      obtain ⟨y0, y1, y2, y3, y4, y5, y6, y7, y8, y9, y10⟩ := mg_block HRS.out
      refine bodyPost_ret (v := .tuple #[.agg (mC { M with c := M.c ++ L } P Cj), .int .i64 ((q : Int)), .int .i64 (0)]) (by simp [results, Try.results75, go_sem, y0, y1, y2, y3, y4, y5, y6, y7, y8, y9, y10, mC]) rfl ?_
      have hE := HE.out
      rw [Nat.sub_self, rdC] at hE
      simp only [Nat.add_zero, List.append_nil] at hE
      rw [hE]
      exact ⟨_, P, Cj, _, rfl, HFI.out.1, HFI.out.2.1, HFI.out.2.2, fun _ => ⟨rfl, by rw [hq]⟩⟩
end Go.Proofs.Ytmjbimmbphofjaa

namespace Go.Proofs.Ytmjbimmbphofjaa
open Go.RowKit
section
variable {P : Program} {l : List Oper} {vs : List Value} {fs : List Tmp} {FS : Tmp → Value → World → Prop} {I : World → Prop} {a0 : Act}
def midUpon (S : Value → World → Prop) : Result Next → Prop
  | .ok (.value u) w' => S u w'
  | _ => False
/-- the operation that turns: its value goes to slot m, it looks at sources of fs but m -/
def MidOb (P : Program) (ops : Array Oper) (I : World → Prop) (fs : List Tmp) (FS : Tmp → Value → World → Prop) (m : Tmp) (St : (Tmp → Value) → World → Value → World → Prop) (o : Oper) (a : Act) : Prop :=
  o.dst = some m ∧ m ∉ o.looksAt ops ∧ ∀ xs w, I w → (∀ s ∈ fs, s ≠ m → FS s (xs s) w) → Region.wanted o (yielded ops (fill fs xs a).tmps) = true ∧ midUpon (St xs w) ((execOp (fill fs xs a).eval o).run P w)
/-- the store behind it -/
def EndOb (P : Program) (ops : Array Oper) (I : World → Prop) (fs : List Tmp) (FS : Tmp → Value → World → Prop) (m : Tmp) (St : (Tmp → Value) → World → Value → World → Prop) (Sf : World → Prop) (o : Oper) (a : Act) : Prop :=
  o.dst = none ∧ ∀ xs W w, I W → (∀ s ∈ fs, s ≠ m → FS s (xs s) W) → St xs W (xs m) w → Region.wanted o (yielded ops (fill fs xs a).tmps) = true ∧ stUpon Sf ((execOp (fill fs xs a).eval o).run P w)
theorem any_of_FM {N k k2 f : Nat} {m : Tmp} {late : Nat → Bool} {Q' : Exit → Act → World → Prop} {St : (Tmp → Value) → World → Value → World → Prop} {Sf : World → Prop} (hR : RG .any l.toArray N) (hN : N ≤ a0.tmps.size) (hlen : vs.length = l.length) (hI : Closed I) (hF : ∀ s x w w', FS s x w → Below w.heap.size w w' → FS s x w')
    (hm : m ∈ fs) (hmF : ∀ x w, FS m x w) (hSt : ∀ xs ys W u w, (∀ s ∈ fs, s ≠ m → xs s = ys s) → St xs W u w → St ys W u w)
    (hob : ∀ (j : Nat) o v, l[j]? = some o → vs[j]? = some v → (j < k → Ob P l.toArray I fs FS o v (lex l vs a0 j)) ∧ (j = k → MidOb P l.toArray I fs FS m St o (lex l vs a0 j)) ∧ (j = k2 → EndOb P l.toArray I fs FS m St Sf o (lex l vs a0 j)) ∧ ((k < j ∧ j ≠ k2) ∨ late j = true → PureOb P l.toArray fs o v (lex l vs a0 j)))
    (hk : k < k2) (hk2 : k2 < l.length) (hreach : ∀ j, j < k → late j = false → reachB .any l.toArray f k j = true) (hreach2 : reachB .any l.toArray f k2 k = true) (hfs : ∀ s ∈ fs, s ≠ m → ∃ (j : Nat) (o : Oper), j < k ∧ late j = false ∧ l[j]? = some o ∧ o.dst = some s)
    (hmk : ∃ o, l[k]? = some o ∧ o.dst = some m)
    (hQ : ∀ (listed : Array Bool) b W w (xs : Tmp → Value), (∀ j, listed.getD j true = true) → Inv l vs fs FS I a0 listed b W → (∀ s ∈ fs, b.tmps[s]? = some (xs s)) → Sf w → Q' .normal b w) :
    ∀ (fuel : Nat) (listed : Array Bool) (b : Act) (W w : World), listed.toList.count false ≤ fuel → Inv l vs fs FS I a0 listed b W →
      ((listed.getD k true = false ∧ listed.getD k2 true = false ∧ w = W) ∨ (listed.getD k true = true ∧ ∃ xs, (∀ s ∈ fs, b.tmps[s]? = some (xs s) ∧ (s ≠ m → FS s (xs s) W)) ∧ ((listed.getD k2 true = false ∧ St xs W (xs m) w) ∨ (listed.getD k2 true = true ∧ Sf w)))) → wpAny P .any l.toArray Q' fuel listed b w
  | 0, listed, b, W, w, hc, h, hp => by
    have hall := count_zero (L := listed) (by omega)
    rcases hp with ⟨h0, _⟩ | ⟨_, xs, hx, ⟨h0, _⟩ | ⟨_, hst⟩⟩
    · rw [hall k] at h0; cases h0
    · rw [hall k2] at h0; cases h0
    refine ⟨?_, hQ listed b W w xs hall h (fun s hs => (hx s hs).1) hst⟩
    rw [List.eq_nil_iff_forall_not_mem]
    intro i hi
    have := (mem_ready.1 hi).1
    rw [hall i] at this
    cases this
  | fuel + 1, listed, b, W, w, hc, h, hph => by
    refine ⟨fun h0 => ?_, fun i hi => ?_⟩
    · have hall := ready_all hR h.lsize h0
      rcases hph with ⟨h0, _⟩ | ⟨_, xs, hx, ⟨h0, _⟩ | ⟨_, hst⟩⟩
      · rw [hall k] at h0; cases h0
      · rw [hall k2] at h0; cases h0
      · exact hQ listed b W w xs hall h (fun s hs => (hx s hs).1) hst
    obtain ⟨hun, o, ho, hall⟩ := mem_ready.1 hi
    have ho2 : l[i]? = some o := by simpa using ho
    have hp : ∀ e ∈ o.after, Region.binds .any e = true → listed.getD e.on true = true := fun e he hb => by
      have h1 := hall e he hb
      rw [Array.getD_eq_getD_getElem?] at h1 ⊢
      cases hx : listed[e.on]? with
      | none => rfl
      | some y => rw [hx] at h1; simpa using h1
    obtain ⟨v, hv⟩ : ∃ v, vs[i]? = some v := ⟨_, List.getElem?_eq_getElem (by rw [hlen]; exact (List.getElem?_eq_some_iff.1 ho2).1)⟩
    obtain ⟨q1, q2, q4, q3⟩ := hob i o v ho2 hv
    have hcnt := count_set hun
    have hsel : ∀ cs c, o.op ≠ .select cs c := fun cs c => hR.sel i o cs c ho
    have ag : ∀ d ∈ o.looksAt l.toArray, d ∉ fs → (lex l vs a0 i).tmps[d]? = b.tmps[d]? := fun d hd hf => h.agree hR hN hlen ho2 hun hp hd hf
    -- a pure operation, at whatever time
    have hpure : ∀ (hpu : PureOb P l.toArray fs o v (lex l vs a0 i)) (hne : i ≠ k) (hne2 : i ≠ k2), (∀ b', (b' = b.put o.dst v) → wpAny P .any l.toArray Q' fuel (listed.setIfInBounds i true) b' w) → Go.wpOp P l.toArray Q' i (fun a' w' => wpAny P .any l.toArray Q' fuel (listed.setIfInBounds i true) a' w') b w := fun hpu _ _ kv0 => by
      have kv := kv0 _ rfl
      obtain ⟨h1, h2, h3⟩ := hpu
      have he := exec_agree (ops := l.toArray) hsel fun d hd => ag d hd (h1 d hd)
      have hw := wanted_agree (ops := l.toArray) fun d hd => ag d hd (h1 d hd)
      unfold Go.wpOp
      simp only [ho]
      rcases h3 with ⟨hwt, hval⟩ | ⟨hwf, rfl⟩
      · rw [hw] at hwt
        rw [if_pos hwt]
        left
        have h4 := hval w
        rw [he] at h4
        unfold Oper.wp
        generalize (execOp b.eval o).run P w = r at h4
        cases r with
        | ok n w' =>
          cases n <;> simp only [purUpon] at h4 <;> simp only [Oper.upon]
          case value u => obtain ⟨rfl, rfl⟩ := h4; exact kv
          case skip => obtain ⟨rfl, rfl⟩ := h4; exact kv
        | halt x w' => simp only [purUpon] at h4
      · rw [hw] at hwf
        rw [hwf, if_neg (by simp)]
        exact kv
    rcases hph with ⟨hk0, hk20, rfl⟩ | ⟨hk1, xs, hx, hst⟩
    · by_cases hik : i = k
      · subst hik
        obtain ⟨hdst, hlook, hmid⟩ := q2 rfl
        have got : ∀ s ∈ fs, s ≠ m → ∃ x, b.tmps[s]? = some x ∧ FS s x w ∧ s < (lex l vs a0 i).tmps.size := fun s hs hsm => by
          obtain ⟨j, oj, hji, hlj, hoj, hdj⟩ := hfs s hs hsm
          obtain ⟨vj, hvj⟩ : ∃ v, vs[j]? = some v := ⟨_, List.getElem?_eq_getElem (by rw [hlen]; exact (List.getElem?_eq_some_iff.1 hoj).1)⟩
          obtain ⟨x, hbx, hfx⟩ := (h.ins j oj s vj hoj (reach_ready h ho2 hp f j (hreach j hji hlj)) hdj hvj).1 hs
          exact ⟨x, hbx, hfx, by rw [(lex_size l vs a0 i).1]; exact Nat.lt_of_lt_of_le (hR.small j oj s (by simpa using hoj) hdj) hN⟩
        have hxs : ∀ s ∈ fs, s ≠ m → b.tmps[s]? = some (b.tmps.getD s undef) ∧ FS s (b.tmps.getD s undef) w := fun s hs hsm => by
          obtain ⟨x, hbx, hfx, _⟩ := got s hs hsm
          simpa [hbx] using hfx
        have ag2 : ∀ d ∈ o.looksAt l.toArray, (fill fs (fun s => b.tmps.getD s undef) (lex l vs a0 i)).tmps[d]? = b.tmps[d]? := fun d hd => by
          by_cases hdf : d ∈ fs
          · have hdm : d ≠ m := fun e => hlook (e ▸ hd)
            obtain ⟨x, hbx, _, hlt⟩ := got d hdf hdm
            rw [fill_in fs _ _ d hdf hlt, hbx]
            simp [hbx]
          · rw [fill_out fs _ _ d hdf]
            exact ag d hd hdf
        obtain ⟨hwt, h3⟩ := hmid (fun s => b.tmps.getD s undef) w h.cls fun s hs hsm => (hxs s hs hsm).2
        rw [wanted_agree (ops := l.toArray) ag2] at hwt
        rw [exec_agree (ops := l.toArray) hsel ag2] at h3
        have hmlt : m < b.tmps.size := by rw [h.size]; exact Nat.lt_of_lt_of_le (hR.small i o m ho hdst) hN
        have hin : ∀ u, Inv l vs fs FS I a0 (listed.setIfInBounds i true) (b.put o.dst u) w := fun u => h.next hR hN hI hF ho2 hp (Below.refl _ _) fun d hd => by
          rw [hdst] at hd
          obtain rfl := Option.some.inj hd
          exact ⟨fun _ => hmF _ _, fun hnf => absurd hm hnf⟩
        have kk : ∀ u w', St (fun s => b.tmps.getD s undef) w u w' → wpAny P .any l.toArray Q' fuel (listed.setIfInBounds i true) (b.put o.dst u) w' := fun u w' hs => by
          obtain ⟨ys, hy1, hy2⟩ : ∃ ys : Tmp → Value, ys m = u ∧ ∀ s, s ≠ m → ys s = b.tmps.getD s undef := ⟨fun s => if s = m then u else b.tmps.getD s undef, if_pos rfl, fun s h => if_neg h⟩
          refine any_of_FM hR hN hlen hI hF hm hmF hSt hob hk hk2 hreach hreach2 hfs hmk hQ fuel _ _ w w' (by omega) (hin u) (.inr ⟨getD_set_same _ _, ys, fun s hs => ?_, .inl ⟨by rw [getD_set_far _ (by omega)]; exact hk20, ?_⟩⟩)
          · rw [hdst]
            by_cases hsm : s = m
            · subst hsm
              rw [hy1]
              exact ⟨put_same u hmlt, fun hne => absurd rfl hne⟩
            · rw [hy2 s hsm]
              exact ⟨by rw [put_other u (fun e => hsm (Option.some.inj e).symm)]; exact (hxs s hs hsm).1, fun _ => (hxs s hs hsm).2⟩
          · rw [hy1]
            exact hSt _ _ _ _ _ (fun s _ hsm => (hy2 s hsm).symm) hs
        unfold Go.wpOp
        simp only [ho]
        rw [if_pos hwt]
        left
        unfold Oper.wp
        generalize (execOp b.eval o).run P w = r at h3
        cases r with
        | ok n w' =>
          cases n <;> simp only [midUpon] at h3 <;> simp only [Oper.upon]
          case value u => exact kk _ _ h3
        | halt x w' => simp only [midUpon] at h3
      · have hik2 : i ≠ k2 := fun e => by
          subst e
          have := reach_ready h ho2 hp f k hreach2
          rw [hk0] at this; cases this
        have hob' : Ob P l.toArray I fs FS o v (lex l vs a0 i) := by
          rcases Nat.lt_or_gt_of_ne hik with hlt | hgt
          · exact q1 hlt
          · exact (q3 (.inl ⟨hgt, hik2⟩)).ob
        exact op_of_F hR hN hlen h ho2 hun hp hv hob' fun u w' hb hu =>
          any_of_FM hR hN hlen hI hF hm hmF hSt hob hk hk2 hreach hreach2 hfs hmk hQ fuel _ _ w' w' (by omega) (h.next hR hN hI hF ho2 hp hb hu) (.inl ⟨by rw [getD_set_far _ hik]; exact hk0, by rw [getD_set_far _ hik2]; exact hk20, rfl⟩)
    · by_cases hik2 : i = k2
      · subst hik2
        obtain ⟨hdst, hstore⟩ := q4 rfl
        have hst := (hst.resolve_right fun h0 => by rw [hun] at h0; cases h0.1).2
        have hlt : ∀ s ∈ fs, s < (lex l vs a0 i).tmps.size := fun s hs => by
          rw [(lex_size l vs a0 i).1, ← h.size]
          exact (Array.getElem?_eq_some_iff.1 (hx s hs).1).1
        have ag2 : ∀ d ∈ o.looksAt l.toArray, (fill fs xs (lex l vs a0 i)).tmps[d]? = b.tmps[d]? := fun d hd => by
          by_cases hdf : d ∈ fs
          · rw [fill_in fs _ _ d hdf (hlt d hdf), (hx d hdf).1]
          · rw [fill_out fs _ _ d hdf]
            exact ag d hd hdf
        obtain ⟨hwt, h3⟩ := hstore xs W w h.cls (fun s hs hsm => (hx s hs).2 hsm) hst
        rw [wanted_agree (ops := l.toArray) ag2] at hwt
        rw [exec_agree (ops := l.toArray) hsel ag2] at h3
        have hput : ∀ u, b.put o.dst u = b := fun u => by rw [hdst]; rfl
        have hin : ∀ u, Inv l vs fs FS I a0 (listed.setIfInBounds i true) (b.put o.dst u) W := fun u => h.next hR hN hI hF ho2 hp (Below.refl _ _) fun d hd => by rw [hdst] at hd; cases hd
        have kk : ∀ u w', Sf w' → wpAny P .any l.toArray Q' fuel (listed.setIfInBounds i true) (b.put o.dst u) w' := fun u w' hs =>
          any_of_FM hR hN hlen hI hF hm hmF hSt hob hk hk2 hreach hreach2 hfs hmk hQ fuel _ _ W w' (by omega) (hin u) (.inr ⟨getD_set_up _ hk1, xs, by rw [hput u]; exact hx, .inr ⟨getD_set_same _ _, hs⟩⟩)
        unfold Go.wpOp
        simp only [ho]
        rw [if_pos hwt]
        left
        unfold Oper.wp
        generalize (execOp b.eval o).run P w = r at h3
        cases r with
        | ok n w' =>
          cases n <;> simp only [stUpon] at h3 <;> simp only [Oper.upon]
          case value u => exact kk _ _ h3
          case skip => exact kk _ _ h3
        | halt x w' => simp only [stUpon] at h3
      · have hik : i ≠ k := fun e => by subst e; rw [hun] at hk1; cases hk1
        have hpu : PureOb P l.toArray fs o v (lex l vs a0 i) := q3 (by
          rcases Nat.lt_or_gt_of_ne hik with hlt | hgt
          · cases hla : late i with
            | true => exact .inr rfl
            | false => rw [reach_listed h f k i hk1 (hreach i hlt hla)] at hun; cases hun
          · exact .inl ⟨hgt, hik2⟩)
        have h2 := hpu.2.1
        exact hpure hpu hik hik2 fun b' hb' => by
          subst hb'
          exact any_of_FM hR hN hlen hI hF hm hmF hSt hob hk hk2 hreach hreach2 hfs hmk hQ fuel _ _ W w (by omega) (h.next hR hN hI hF ho2 hp (Below.refl _ _) fun d hd => ⟨fun hf => absurd hf (h2 d hd), fun _ => hv⟩)
            (.inr ⟨getD_set_up _ hk1, xs, fun s hs => ⟨by rw [put_other v (fun e => h2 s e hs)]; exact (hx s hs).1, (hx s hs).2⟩, hst.imp (fun h => ⟨by rw [getD_set_far _ hik2]; exact h.1, h.2⟩) fun h => ⟨getD_set_up _ h.1, h.2⟩⟩)

/-- the walk behind that operation: what looks at no memory, and the store -/
def wpFMe (P : Program) (ops : Array Oper) (I : World → Prop) (fs : List Tmp) (FS : Tmp → Value → World → Prop) (m : Tmp) (St : (Tmp → Value) → World → Value → World → Prop) (Sf : World → Prop) (E : Act → Prop) : List Oper → Act → Prop
  | [], _ => False
  | [o], a => EndOb P ops I fs FS m St Sf o a ∧ E a
  | o :: o2 :: r, a => ∃ v, PureOb P ops fs o v a ∧ wpFMe P ops I fs FS m St Sf E (o2 :: r) (a.put o.dst v)
/-- the walk in the text's order: so many operations, the one that turns, the rest -/
def wpFM (P : Program) (ops : Array Oper) (I : World → Prop) (fs : List Tmp) (FS : Tmp → Value → World → Prop) (m : Tmp) (St : (Tmp → Value) → World → Value → World → Prop) (Sf : World → Prop) (E : Act → Prop) : Nat → List Oper → Act → Prop
  | _, [], _ => False
  | 0, o :: r, a => MidOb P ops I fs FS m St o a ∧ wpFMe P ops I fs FS m St Sf E r (a.put o.dst undef)
  | c + 1, o :: r, a => ∃ v, Ob P ops I fs FS o v a ∧ wpFM P ops I fs FS m St Sf E c r (a.put o.dst v)
section
variable {ops : Array Oper} {m : Tmp} {St : (Tmp → Value) → World → Value → World → Prop} {Sf : World → Prop} {E : Act → Prop}
theorem wpFMe_vals : ∀ (l : List Oper) (a : Act), wpFMe P ops I fs FS m St Sf E l a → l ≠ [] ∧ ∃ vs : List Value, vs.length = l.length ∧
    (∀ (j : Nat) o v, l[j]? = some o → vs[j]? = some v → (j + 1 = l.length → EndOb P ops I fs FS m St Sf o (lex l vs a j)) ∧ (j + 1 ≠ l.length → PureOb P ops fs o v (lex l vs a j))) ∧ E (lex l vs a l.length)
  | [], _, h => h.elim
  | [o], a, ⟨hob, hE⟩ => by
    have hput : a.put o.dst undef = a := by rw [hob.1]; rfl
    refine ⟨by simp, [undef], rfl, fun j o' v' ho hv => ?_, ?_⟩
    · cases j with
      | zero =>
        simp only [List.getElem?_cons_zero, Option.some.injEq] at ho
        subst ho
        exact ⟨fun _ => hob, fun h => absurd rfl h⟩
      | succ j => simp at ho
    · show E (a.put o.dst undef)
      rw [hput]
      exact hE
  | o :: o2 :: r, a, ⟨v, hob, hr⟩ => by
    obtain ⟨_, vs, h1, h2, h3⟩ := wpFMe_vals (o2 :: r) _ hr
    refine ⟨by simp, v :: vs, by simp [h1], fun j o' v' ho hv => ?_, h3⟩
    cases j with
    | zero =>
      simp only [List.getElem?_cons_zero, Option.some.injEq] at ho hv
      subst ho hv
      exact ⟨fun h => by simp at h, fun _ => hob⟩
    | succ j =>
      simp only [List.getElem?_cons_succ] at ho hv
      obtain ⟨q1, q2⟩ := h2 j o' v' ho hv
      exact ⟨fun h => q1 (by simp at h ⊢; omega), fun h => q2 (by simp at h ⊢; omega)⟩
theorem wpFM_vals : ∀ (k : Nat) (l : List Oper) (a : Act), wpFM P ops I fs FS m St Sf E k l a → k + 1 < l.length ∧ (∃ o, l[k]? = some o ∧ o.dst = some m) ∧ ∃ vs : List Value, vs.length = l.length ∧
    (∀ (j : Nat) o v, l[j]? = some o → vs[j]? = some v → (j < k → Ob P ops I fs FS o v (lex l vs a j)) ∧ (j = k → MidOb P ops I fs FS m St o (lex l vs a j)) ∧ (j + 1 = l.length → EndOb P ops I fs FS m St Sf o (lex l vs a j)) ∧ (k < j → j + 1 ≠ l.length → PureOb P ops fs o v (lex l vs a j))) ∧ E (lex l vs a l.length)
  | 0, [], _, h => h.elim
  | _ + 1, [], _, h => h.elim
  | 0, o :: r, a, ⟨hob, hr⟩ => by
    obtain ⟨h0, vs, h1, h2, h3⟩ := wpFMe_vals r _ hr
    have hpos : 0 < r.length := List.length_pos_iff.2 h0
    refine ⟨by simp; omega, ⟨o, rfl, hob.1⟩, undef :: vs, by simp [h1], fun j o' v' ho hv => ?_, h3⟩
    cases j with
    | zero =>
      simp only [List.getElem?_cons_zero, Option.some.injEq] at ho hv
      subst ho hv
      exact ⟨by omega, fun _ => hob, fun h => by rw [List.length_cons] at h; omega, by omega⟩
    | succ j =>
      simp only [List.getElem?_cons_succ] at ho hv
      obtain ⟨q1, q2⟩ := h2 j o' v' ho hv
      exact ⟨by omega, by omega, fun h => q1 (by simp at h ⊢; omega), fun _ h => q2 (by simp at h ⊢; omega)⟩
  | k + 1, o :: r, a, ⟨v, hob, hr⟩ => by
    obtain ⟨h0, hm, vs, h1, h2, h3⟩ := wpFM_vals k r _ hr
    refine ⟨by simp; omega, hm, v :: vs, by simp [h1], fun j o' v' ho hv => ?_, h3⟩
    cases j with
    | zero =>
      simp only [List.getElem?_cons_zero, Option.some.injEq] at ho hv
      subst ho hv
      exact ⟨fun _ => hob, by omega, fun h => by rw [List.length_cons] at h; omega, by omega⟩
    | succ j =>
      simp only [List.getElem?_cons_succ] at ho hv
      obtain ⟨q1, q2, q3, q4⟩ := h2 j o' v' ho hv
      exact ⟨fun h => q1 (by omega), fun h => q2 (by omega), fun h => q3 (by simp at h ⊢; omega), fun h h' => q4 (by omega) (by simp at h' ⊢; omega)⟩
end
/-- ONE WALK IN THE TEXT's ORDER SERVES EVERY ORDER: the operation that turns at place k, its value in slot m, the store last -/
theorem wp_region_FM {id : Nat} {Q : Exit → Act → World → Prop} {a : Act} {w : World} {l : List Oper} (N k f : Nat) (m : Tmp) (fs : List Tmp) (FS : Tmp → Value → World → Prop) (I : World → Prop) (St : (Tmp → Value) → World → Value → World → Prop) (Sf : World → Prop) (hmo : P.follows .mixedOrders = true) (hB : rgB .any l.toArray N = true)
    (hreach : ((List.range k).all fun j => reachB .any l.toArray f k j) = true) (hreach2 : reachB .any l.toArray f (l.length - 1) k = true) (hfs : (fs.all fun s => s == m || (l.take k).any fun o => o.dst == some s) = true) (hm : m ∈ fs) (hN : N ≤ a.tmps.size) (hI : Closed I) (hF : ∀ s x w w', FS s x w → Below w.heap.size w w' → FS s x w')
    (hmF : ∀ x w, FS m x w) (hSt : ∀ xs ys W u w, (∀ s ∈ fs, s ≠ m → xs s = ys s) → St xs W u w → St ys W u w) (hC : I w.drew)
    (h : wpFM P l.toArray I fs FS m St Sf (fun a' => ∀ xs w', Sf w' → Q .normal (fill fs xs a') w') k l a) : (Code.region id l.toArray true).wp P Q a w := by
  have hR := rgB_spec hB
  obtain ⟨hkl, hmk, vs, hlen, hob, hE⟩ := wpFM_vals k l a h
  have hfs' : ∀ s ∈ fs, s ≠ m → ∃ (j : Nat) (o : Oper), j < k ∧ (fun _ : Nat => false) j = false ∧ l[j]? = some o ∧ o.dst = some s := fun s hs hsm => by
    rw [List.all_eq_true] at hfs
    have h1 := hfs s hs
    rw [Bool.or_eq_true] at h1
    have h2 := h1.resolve_left (by simpa using hsm)
    rw [List.any_eq_true] at h2
    obtain ⟨o, ho, hd⟩ := h2
    obtain ⟨j, hj, rfl⟩ := List.getElem_of_mem ho
    have hj1 : j < k := by rw [List.length_take] at hj; omega
    have hj2 : j < l.length := by rw [List.length_take] at hj; omega
    exact ⟨j, l[j], hj1, rfl, List.getElem?_eq_getElem hj2, by simpa using hd⟩
  refine wp_region_any hmo ?_
  refine any_of_FM (l := l) (vs := vs) (fs := fs) (FS := FS) (I := I) (a0 := a) (St := St) (Sf := Sf) (k := k) (k2 := l.length - 1) (f := f) (m := m) (late := fun _ => false) hR hN hlen hI hF hm hmF hSt (fun j o v h1 h2 => ?_) (by omega) (by omega) (fun j hj _ => by rw [List.all_eq_true] at hreach; exact hreach j (List.mem_range.2 hj)) hreach2 hfs' hmk ?_ _ _ _ w.drew _ ?_ ?_ ?_
  · obtain ⟨q1, q2, q3, q4⟩ := hob j o v h1 h2
    exact ⟨q1, q2, fun h => q3 (by omega), fun h => h.elim (fun h => q4 h.1 (by omega)) fun h => absurd h Bool.false_ne_true⟩
  · intro listed b W w' xs hall hinv hx hst
    have hb : b = fill fs xs (lex l vs a l.length) := by
      have ht : b.tmps = (fill fs xs (lex l vs a l.length)).tmps := by
        apply Array.ext_getElem?
        intro d
        by_cases hd : d ∈ fs
        · have hlt : d < (lex l vs a l.length).tmps.size := by
            rw [(lex_size l vs a l.length).1, ← hinv.size]
            exact (Array.getElem?_eq_some_iff.1 (hx d hd)).1
          rw [fill_in fs _ _ d hd hlt, hx d hd]
        · rw [fill_out fs _ _ d hd]
          by_cases hwr : ∃ (j : Nat) (oj : Oper), l[j]? = some oj ∧ oj.dst = some d
          · obtain ⟨j, oj, hj, hdj⟩ := hwr
            obtain ⟨v, hv⟩ : ∃ v, vs[j]? = some v := ⟨_, List.getElem?_eq_getElem (by rw [hlen]; exact (List.getElem?_eq_some_iff.1 hj).1)⟩
            have hj' : l.toArray[j]? = some oj := by simpa using hj
            rw [(hinv.ins j oj d v hj (hall j) hdj hv).2 hd]
            exact (lex_in l vs a l.length j oj d v hj (List.getElem?_eq_some_iff.1 hj).1 hv hdj (Nat.lt_of_lt_of_le (hR.small _ _ _ hj' hdj) hN) fun i oi hi _ hne => hR.once i j oi oj d (by simpa using hi) hj' hdj hne).symm
          · rw [lex_out l vs a l.length d fun i oi hi _ hdi => hwr ⟨i, oi, hi, hdi⟩]
            exact hinv.out d fun i oi hi _ hdi => hwr ⟨i, oi, hi, hdi⟩
      have hd : b.defers = (fill fs xs (lex l vs a l.length)).defers := by
        rw [(fill_size ..).2, (lex_size ..).2]
        exact hinv.defers
      cases b
      simp only at ht hd
      rw [Act.mk.injEq]
      exact ⟨ht, hd⟩
    rw [hb]
    exact hE xs w' hst
  · simp
  · refine ⟨hC, rfl, rfl, fun _ _ => rfl, fun j o d v hj hlj => ?_, fun j o hj hlj => ?_, by simp⟩
    all_goals
      have hlt := (List.getElem?_eq_some_iff.1 hj).1
      rw [Array.getD_eq_getD_getElem?] at hlj
      simp [hlt] at hlj
  · refine .inl ⟨?_, ?_, rfl⟩
    all_goals
      have h1 : k < l.length := by omega
      have h2 : l.length - 1 < l.length := by omega
      rw [Array.getD_eq_getD_getElem?]
      simp [h1, h2]

/-! ### its steps -/
section
variable {m : Tmp} {St : (Tmp → Value) → World → Value → World → Prop} {Sf : World → Prop} {E : Act → Prop} {o : Oper} {rest : List Oper} {a : Act}
/-- any of XQ6's steps -/
theorem wpFM_step {k : Nat} (h : wpF P l.toArray I fs FS (fun a' => wpFM P l.toArray I fs FS m St Sf E k rest a') [o] a) : wpFM P l.toArray I fs FS m St Sf E (k + 1) (o :: rest) a := by
  obtain ⟨v, hob, hr⟩ := h
  exact ⟨v, hob, hr⟩
theorem wpFM_mid (hd : o.dst = some m) (hn : decide (m ∈ o.looksAt l.toArray) = false) (hw : ∀ xs, Region.wanted o (yielded l.toArray (fill fs xs a).tmps) = true)
    (hrun : ∀ xs w, I w → (∀ s ∈ fs, s ≠ m → FS s (xs s) w) → ∃ u w', (execOp (fill fs xs a).eval o).run P w = .ok (.value u) w' ∧ St xs w u w') (h : wpFMe P l.toArray I fs FS m St Sf E rest (a.put o.dst undef)) : wpFM P l.toArray I fs FS m St Sf E 0 (o :: rest) a := by
  refine ⟨⟨hd, by simpa using hn, fun xs w hI hs => ⟨hw xs, ?_⟩⟩, h⟩
  obtain ⟨u, w', hr, hst⟩ := hrun xs w hI hs
  rw [hr]
  exact hst
theorem wpFMe_pure {o2 : Oper} (h : wpFS P l.toArray I fs FS (fun _ _ _ => True) (fun a' => wpFMe P l.toArray I fs FS m St Sf E (o2 :: rest) a') none [o] a) : wpFMe P l.toArray I fs FS m St Sf E (o :: o2 :: rest) a := by
  obtain ⟨v, hob, hr⟩ := h
  exact ⟨v, hob, hr⟩
theorem wpFMe_store {t : TypeId} {x y : Operand} (ho : o.op = .store t x y) (hd : o.dst = none) (hg : o.guard = none)
    (hrun : ∀ xs W w, I W → (∀ s ∈ fs, s ≠ m → FS s (xs s) W) → St xs W (xs m) w → ∃ w', (Instr.storeAt t ((fill fs xs a).eval x) ((fill fs xs a).eval y)).run P w = .ok () w' ∧ Sf w') (h : E a) : wpFMe P l.toArray I fs FS m St Sf E [o] a := by
  refine ⟨⟨hd, fun xs W w hI hs hst => ⟨by simp [Region.wanted, hg], ?_⟩⟩, h⟩
  obtain ⟨w', hr, hst⟩ := hrun xs W w hI hs hst
  unfold execOp
  simp only [ho]
  rw [Sem.run_bind, hr]
  exact hst
end
end
end Go.Proofs.Ytmjbimmbphofjaa

namespace Go.Proofs.Ytmjbimmbphofjaa
open Go.RowKit Go.Shelf
set_option maxRecDepth 100000
attribute [local go_sem] Oper.semAt_some

/-- a message's box, the result's and a box of two numbers; the message's lists lie in none of them -/
structure ThreeM (w : World) (b4 b8 b11 : Nat) (M : Mg) (W : World) (P C : Value) (x y : Int) : Prop where
  t : TwoM w b4 b8 M W P C
  bx : W.heap[b11]? = some (.cells #[.int .i64 x, .int .i64 y] 74 (0, 0))
  hi : w.heap.size ≤ b11 ∧ b11 ≠ b4 ∧ b11 ≠ b8
  p : ∀ a n c, P = .slice a n c → NuX W b11 b11 a (fl2 M.p)
  c : ∀ a n c, C = .slice a n c → NuX W b11 b11 a M.c
section
variable {w W W' : World} {b4 b8 b11 : Nat} {M : Mg} {P C : Value} {x y : Int}
theorem NuX.past {b : Nat} {A : Option Addr} {zs : List Int} {V V' : World} (h : NuX V b4 b8 A zs) (hb : NuX V b b A zs) (ho : Off (fun q => q = b) V V') : NuX V' b4 b8 A zs := fun hn => by
  obtain ⟨g, off, e, h1, h2, hc⟩ := h hn
  obtain ⟨g', off', e', h1', -, -⟩ := hb hn
  rw [e] at e'
  injection e' with e'
  injection e' with e1 e2
  subst e1
  exact ⟨g, off, e, h1, h2, fun j c hj => ho.cell (hc j c hj) h1'⟩
theorem TwoM.past {b : Nat} (h : TwoM w b4 b8 M W P C) (ho : Off (fun q => q = b) W W') (h4 : b4 ≠ b) (h8 : b8 ≠ b) (hb : w.heap.size ≤ b) (hp : ∀ a n c, P = .slice a n c → NuX W b b a (fl2 M.p)) (hc : ∀ a n c, C = .slice a n c → NuX W b b a M.c) : TwoM w b4 b8 M W' P C := by
  obtain ⟨⟨a, c, h1, h2, h3⟩, ⟨a', c', h5, h6, h7⟩⟩ := And.intro h.p h.c
  exact ⟨(ho.block _ (Array.getElem?_eq_some_iff.1 h.m).1 h4).trans h.m, (ho.block _ (Array.getElem?_eq_some_iff.1 h.r).1 h8).trans h.r, ⟨a, c, h1, h2, h3.past (hp _ _ _ h1) ho⟩, ⟨a', c', h5, h6, h7.past (hc _ _ _ h5) ho⟩, h.b.trans (ho.below (B := w.heap.size) (fun q hq => by omega) h.b.size), h.lo⟩
theorem NuX.keep1 {b : Nat} {A : Option Addr} {zs : List Int} {V V' : World} (h : NuX V b b A zs) (ho : Off (fun q => q = b) V V') : NuX V' b b A zs := h.keep (ho.mono fun _ _ h => .inl h)
theorem ThreeM.later (h : ThreeM w b4 b8 b11 M W P C x y) (hb : Below W.heap.size W W') : ThreeM w b4 b8 b11 M W' P C x y :=
  ⟨h.t.later hb, (hb.block _ (Array.getElem?_eq_some_iff.1 h.bx).1).trans h.bx, h.hi, fun a n c e => (h.p a n c e).keep1 (Off.of_below hb), fun a n c e => (h.c a n c e).keep1 (Off.of_below hb)⟩
theorem ThreeM.set (h : ThreeM w b4 b8 b11 M W P C x y) {j : Nat} {z x' y' : Int} (hz : (#[Value.int .i64 x, .int .i64 y] : Array Value).setIfInBounds j (.int .i64 z) = #[.int .i64 x', .int .i64 y']) : ThreeM w b4 b8 b11 M (W.setCell ⟨b11, j, none⟩ (.int .i64 z)) P C x' y' := by
  have ho : Off (fun q => q = b11) W (W.setCell ⟨b11, j, none⟩ (.int .i64 z)) := Off.setCell (S := fun q => q = b11) (p := ⟨b11, j, none⟩) (Off.refl _ W) rfl _
  have hi := h.hi
  exact ⟨h.t.past ho (by omega) (by omega) (by omega) h.p h.c, by rw [setCell_at h.bx, hz], h.hi, fun a n c e => (h.p a n c e).keep1 ho, fun a n c e => (h.c a n c e).keep1 ho⟩
end
theorem rdP_step (m : Nat) (a : Int × Int) (l : List Int) : rdP (m + 1) a l = if (rdX a.1 l).1 ≠ 0 then ((rdX a.1 l).1, 0, [])
    else if (rdX a.2 (l.drop (rdX a.1 l).2.1)).1 ≠ 0 then ((rdX a.2 (l.drop (rdX a.1 l).2.1)).1, 0, [])
    else ((rdP m ((rdX a.1 l).2.2, (rdX a.2 (l.drop (rdX a.1 l).2.1)).2.2) ((l.drop (rdX a.1 l).2.1).drop (rdX a.2 (l.drop (rdX a.1 l).2.1)).2.1)).1, (rdX a.1 l).2.1 + (rdX a.2 (l.drop (rdX a.1 l).2.1)).2.1 + (rdP m ((rdX a.1 l).2.2, (rdX a.2 (l.drop (rdX a.1 l).2.1)).2.2) ((l.drop (rdX a.1 l).2.1).drop (rdX a.2 (l.drop (rdX a.1 l).2.1)).2.1)).2.1, ((rdX a.1 l).2.2, (rdX a.2 (l.drop (rdX a.1 l).2.1)).2.2) :: (rdP m ((rdX a.1 l).2.2, (rdX a.2 (l.drop (rdX a.1 l).2.1)).2.2) ((l.drop (rdX a.1 l).2.1).drop (rdX a.2 (l.drop (rdX a.1 l).2.1)).2.1)).2.2) := rfl
/-- so many of a point's two numbers have been read -/
def PIn (x y : Int) (l : List Int) (k c : Nat) (x' y' : Int) : Prop :=
  (k = 0 → c = 0 ∧ x' = x ∧ y' = y) ∧ (k = 1 → rdX x l = (0, c, x') ∧ y' = y) ∧ (k = 2 → ∃ c1 c2, c = c1 + c2 ∧ rdX x l = (0, c1, x') ∧ rdX y (l.drop c1) = (0, c2, y'))
theorem PIn.err {x y x' y' : Int} {l : List Int} {k c : Nat} (h : PIn x y l k c x' y') (hk : k < 2) {e p : Nat} {v : Int} (hr : rdX (if k = 0 then x' else y') (l.drop c) = (e, p, v)) (he : e ≠ 0) (m : Nat) : rdP (m + 1) (x, y) l = (e, 0, []) := by
  obtain ⟨h0, h1, -⟩ := h
  rw [rdP_step]
  rcases (show k = 0 ∨ k = 1 by omega) with rfl | rfl
  · obtain ⟨rfl, rfl, rfl⟩ := h0 rfl
    rw [if_pos rfl, List.drop_zero] at hr
    rw [hr, if_pos he]
  · obtain ⟨h5, h6⟩ := h1 rfl
    subst h6
    rw [if_neg (by decide)] at hr
    rw [h5, if_neg (by simp)]
    simp only
    rw [hr, if_pos he]
theorem PIn.next {x y x' y' : Int} {l : List Int} {k c : Nat} (h : PIn x y l k c x' y') (hk : k < 2) {p : Nat} {v : Int} (hr : rdX (if k = 0 then x' else y') (l.drop c) = (0, p, v)) : PIn x y l (k + 1) (c + p) (if k = 0 then v else x') (if k = 0 then y' else v) := by
  obtain ⟨h0, h1, -⟩ := h
  rcases (show k = 0 ∨ k = 1 by omega) with rfl | rfl
  · obtain ⟨rfl, rfl, rfl⟩ := h0 rfl
    rw [if_pos rfl, List.drop_zero] at hr
    exact ⟨fun h => absurd h (by decide), fun _ => ⟨by rw [hr]; simp, rfl⟩, fun h => absurd h (by decide)⟩
  · obtain ⟨h5, h6⟩ := h1 rfl
    subst h6
    rw [if_neg (by decide)] at hr
    exact ⟨fun h => absurd h (by decide), fun h => absurd h (by decide), fun _ => ⟨c, p, rfl, h5, hr⟩⟩
theorem PIn.two {x y x' y' : Int} {l : List Int} {c : Nat} (h : PIn x y l 2 c x' y') (m : Nat) : rdP (m + 1) (x, y) l = ((rdP m (x', y') (l.drop c)).1, c + (rdP m (x', y') (l.drop c)).2.1, (x', y') :: (rdP m (x', y') (l.drop c)).2.2) := by
  obtain ⟨c1, c2, rfl, h1, h2⟩ := h.2.2 rfl
  rw [rdP_step]
  simp only
  rw [h1, if_neg (by simp)]
  simp only
  rw [h2, if_neg (by simp)]
  simp only
  rw [List.drop_drop]
/-- other points are stored into the message's box -/
theorem ThreeM.path {w V W : World} {b4 b8 b11 : Nat} {M : Mg} {P C v : Value} {x y : Int} {ps : List (Int × Int)} (h : ThreeM w b4 b8 b11 M V P C x y) (hb : Below V.heap.size V W) (hown : W.ownsRow V.heap.size 74 2 v ps.length ((fl2 ps).map (Value.int .i64))) : ∃ a c, v = .slice a ps.length c ∧ ThreeM w b4 b8 b11 { M with p := ps } (W.setCell ⟨b4, 7, none⟩ v) v C x y := by
  have h4 := (Array.getElem?_eq_some_iff.1 h.t.m).1
  have h8 := (Array.getElem?_eq_some_iff.1 h.t.r).1
  have h11 := (Array.getElem?_eq_some_iff.1 h.bx).1
  have hl := h.later hb
  obtain ⟨a, c, rfl, hc, hn⟩ := NuX.of_own hown (by omega) h4 h8
  obtain ⟨a', c', e', -, hn'⟩ := NuX.of_own hown (by omega) h11 h11
  injection e' with e1 e2 e3
  subst e1
  have hlo := h.t.lo
  have hi := h.hi
  have hoff : Off (fun q => q = b4 ∨ q = b8) W (W.setCell ⟨b4, 7, none⟩ (.slice a ps.length c)) := Off.setCell (S := fun q => q = b4 ∨ q = b8) (p := ⟨b4, 7, none⟩) (Off.refl _ W) (.inl rfl) _
  have hof2 : Off (fun q => q = b4) W (W.setCell ⟨b4, 7, none⟩ (.slice a ps.length c)) := Off.setCell (S := fun q => q = b4) (p := ⟨b4, 7, none⟩) (Off.refl _ W) rfl _
  obtain ⟨ca, cc, h1, h2, h3⟩ := hl.t.c
  have past : ∀ {A : Option Addr} {zs : List Int}, NuX W b11 b11 A zs → NuX W b4 b8 A zs → NuX (W.setCell ⟨b4, 7, none⟩ (.slice a ps.length c)) b11 b11 A zs := fun {A zs} q1 q2 hne => by
    obtain ⟨g, off, e, h1, h2, hc⟩ := q1 hne
    obtain ⟨g', off', e', h1', -, -⟩ := q2 hne
    rw [e] at e'
    injection e' with e'
    injection e' with e1 e2
    subst e1
    exact ⟨g, off, e, h1, h2, fun j c hj => hof2.cell (hc j c hj) h1'⟩
  refine ⟨a, c, rfl, ⟨by rw [setCell_at hl.t.m]; rfl, (hof2.block _ (Array.getElem?_eq_some_iff.1 hl.t.r).1 (by omega)).trans hl.t.r, ⟨a, c, rfl, hc, hn.keep hoff⟩, ⟨ca, cc, h1, h2, h3.keep hoff⟩, ?_, hlo⟩, (hof2.block _ (Array.getElem?_eq_some_iff.1 hl.bx).1 (by omega)).trans hl.bx, h.hi, fun a2 n2 c2 e => by injection e with e1 e2 e3; subst e1; exact past hn' hn, fun a2 n2 c2 e => by rw [h1] at e; injection e with e1 e2 e3; subst e1; exact past (hl.c _ _ _ h1) h3⟩
  exact hl.t.b.trans (hoff.below (B := w.heap.size) (fun q hq => by omega) hl.t.b.size)
theorem exec_appendH {P : Program} {w w' : World} {o : Oper} {b : Act} {v1 v2 v' : Value} (s x : Operand) (t : TypeId) (hop : o.op = Op.call { callee := Callee.builtin Builtin.append, args := #[s, x], argTypes := #[t, t] })
    (hs : b.eval s = v1) (hx : b.eval x = v2) (hrun : (Builtin.append_ #[t, t] o.type #[v1, v2]).run P w = .ok v' w') : (execOp b.eval o).run P w = .ok (.value v') w' := by
  simp [execOp, hop, resolve, invoke, builtin, hs, hx, hrun, Result.andThen]
/-- what the slots of a path's statement hold -/
def FPp (B : Nat) (zs : List Int) (np : Nat) (x y : Int) (q : Tmp) (v : Value) (W : World) : Prop :=
  if q = 66 then ∃ g, v = .slice (some ⟨g, 0, none⟩) 0 0 ∧ W.ownsRow B 74 2 v 0 []
  else if q = 69 then W.ownsRow B 74 2 v np (zs.map (Value.int .i64))
  else if q = 71 then ∃ g, v = .slice (some ⟨g, 0, none⟩) 1 1 ∧ W.heap[g]? = some (.cells #[.int .i64 x, .int .i64 y] 74 (0, 0))
  else True
theorem FPp.later {B : Nat} {zs : List Int} {np : Nat} {x y : Int} {q : Tmp} {v : Value} {W W' : World} (h : FPp B zs np x y q v W) (hb : Below W.heap.size W W') : FPp B zs np x y q v W' := by
  unfold FPp at h ⊢
  split
  · rename_i e
    rw [if_pos e] at h
    obtain ⟨g, e1, h1⟩ := h
    exact ⟨g, e1, own_below7 h1 hb⟩
  · rename_i e
    rw [if_neg e] at h
    split
    · rename_i e
      rw [if_pos e] at h
      exact own_below7 h hb
    · rename_i e
      rw [if_neg e] at h
      split
      · rename_i e
        rw [if_pos e] at h
        obtain ⟨g, e1, h1⟩ := h
        exact ⟨g, e1, (hb.block _ (Array.getElem?_eq_some_iff.1 h1).1).trans h1⟩
      · trivial

/-- other points: no block of S either -/
theorem Shun.path {S : Nat → Prop} {w V W : World} {b4 b8 b11 : Nat} {M : Mg} {P C v : Value} {x y : Int} {ps : List (Int × Int)} (h : Shun S V M P C) (t : ThreeM w b4 b8 b11 M V P C x y) (hS : ∀ x, S x → x < w.heap.size) (hb : Below V.heap.size V W) (hown : W.ownsRow V.heap.size 74 2 v ps.length ((fl2 ps).map (Value.int .i64))) : Shun S (W.setCell ⟨b4, 7, none⟩ v) { M with p := ps } v C := by
  have hoff : Off (fun q => q = b4 ∨ q = b8) W (W.setCell ⟨b4, 7, none⟩ v) := Off.setCell (S := fun q => q = b4 ∨ q = b8) (p := ⟨b4, 7, none⟩) (Off.refl _ W) (.inl rfl) _
  have hbs := t.t.b.size
  have tl := (t.later hb).t
  obtain ⟨ca, cc, e1, -, n1⟩ := tl.c
  obtain ⟨a2, c2, e3, -, n4⟩ := NuX.of_own hown (by omega) (Array.getElem?_eq_some_iff.1 t.t.m).1 (Array.getElem?_eq_some_iff.1 t.t.r).1
  refine ⟨fun z hz => ⟨fun a5 n5 c5 e => ?_, fun a5 n5 c5 e => ?_⟩, fun a5 n5 c5 e => ?_, fun a5 n5 c5 e => ?_⟩
  · have hlt := hS z hz
    obtain ⟨a, c, e4, -, n3⟩ := NuX.of_own hown (by omega) (b4 := z) (b8 := z) (by omega) (by omega)
    rw [e3] at e4
    injection e4 with e4
    subst e4
    rw [e3] at e
    injection e with e
    subst e
    exact n3.aside n4 hoff
  · have := ((h.1 z hz).2 a5 n5 c5 e).keep (Off.of_below hb)
    rw [e1] at e
    injection e with e
    subst e
    exact this.aside n1 hoff
  · have := NoM.of_own hown (by decide) a5 n5 c5 e
    rw [e3] at e
    injection e with e
    subst e
    exact this.aside n4 hoff
  · have := (h.2.2 a5 n5 c5 e).below hb
    rw [e1] at e
    injection e with e
    subst e
    exact this.aside n1 hoff
theorem Shun.set3 {S : Nat → Prop} {w W : World} {b4 b8 b11 : Nat} {M : Mg} {P C : Value} {x y : Int} (h : Shun S W M P C) (t : ThreeM w b4 b8 b11 M W P C x y) (j : Nat) (u : Value) : Shun S (W.setCell ⟨b11, j, none⟩ u) M P C := by
  have hoff : Off (fun q => q = b11 ∨ q = b11) W (W.setCell ⟨b11, j, none⟩ u) := Off.setCell (S := fun q => q = b11 ∨ q = b11) (p := ⟨b11, j, none⟩) (Off.refl _ W) (.inl rfl) _
  exact ⟨fun z hz => ⟨fun a n c e => ((h.1 z hz).1 a n c e).aside (t.p a n c e) hoff, fun a n c e => ((h.1 z hz).2 a n c e).aside (t.c a n c e) hoff⟩, fun a n c e => (h.2.1 a n c e).aside (t.p a n c e) hoff, fun a n c e => (h.2.2 a n c e).aside (t.c a n c e) hoff⟩
set_option maxHeartbeats 8000000 in
theorem rpath18_any (S : Nat → Prop) (M : Mg) (P C : Value) (n : Nat) (A : Option Addr) (len cap : Nat) (l : List Int) (at' : Nat) (w : World) (hlen : l.length = len) (hll : len ≤ 1000000) (hby : Bys l) (hA : Nums .u8 w w.heap.size A l) (hat : at' ≤ len) (hn : n ≤ 40) (hm : M.p.length ≤ 40) (h1 : MAt w w.heap.size M P C) (hS : ∀ x, S x → x < w.heap.size) (hsh : Shun S w M P C) :
    Calls Try.prog 74 #[mV M P C, .int .i64 (n : Int), .slice A len cap, .int .i64 (at' : Int)] w fun e w' => RdS S w ((rdP n (0, 0) (l.drop at')).1, (rdP n (0, 0) (l.drop at')).2.1, { M with p := M.p ++ (rdP n (0, 0) (l.drop at')).2.2 }) at' e w' := by
  obtain ⟨w2, hw2⟩ : ∃ w2, (w.alloc (.cells (mC M P C) 36)).alloc (.cells #[.int .i64 0, .int .i64 0, .int .i64 0, .int .i64 0, .int .i64 0, .int .i64 0, .int .i64 0, .slice none 0 0, .slice none 0 0, .string ⟨#[]⟩, .string ⟨#[]⟩] 36) = w2 := ⟨_, rfl⟩
  have hT : TwoM w w.heap.size (w.heap.size + 1) M w2 P C := by rw [← hw2]; exact TwoM.start h1
  have hs2 : w2.heap.size = w.heap.size + 2 := by rw [← hw2]; simp
  have HW2 := Lib.hid hw2
  have HT := Lib.hid hT
  have HA := Lib.hid hA
  have HLEN := Lib.hid hlen
  have HBY := Lib.hid hby
  have KG : Hid (∀ (q : Nat) W, q ≤ len → Below w.heap.size w W → Calls Try.prog 71 #[.slice A len cap, .int .i64 (q : Int)] W fun e w' => RGetR (q : Int) (Vi.get (l.drop q)) e ∧ W = w') := Lib.hid fun q W hq hW => by
    have := rget_len w.heap.size A len cap l (q : Int) W hlen (by omega) (by omega) (by omega) hby (hA.below hW)
    rwa [Int.toNat_natCast] at this
  obtain ⟨R, hR⟩ : ∃ R, rdP n (0, 0) (l.drop at') = R := ⟨_, rfl⟩
  rw [hR]
  have HR := Lib.hid hR
  have hT3 : ThreeM w w.heap.size (w.heap.size + 1) (w.heap.size + 1 + 1) { M with p := M.p ++ [] } (w2.alloc (.cells #[.int .i64 0, .int .i64 0] 74)) P C 0 0 := by
    have hb3 : Below w2.heap.size w2 (w2.alloc (.cells #[.int .i64 0, .int .i64 0] 74)) := (Below.refl _ w2).alloc (Nat.le_refl _) _
    obtain ⟨⟨pa, pc, e1, -, e2⟩, ⟨ca, cc, e3, -, e4⟩⟩ := h1
    have hb : Below w.heap.size w (w2.alloc (.cells #[.int .i64 0, .int .i64 0] 74)) := hT.b.trans (hb3.mono hT.b.size)
    have e2' := e2.below hb
    have e4' := e4.below hb
    have := World.alloc_heap_new w2 (.cells #[.int .i64 0, .int .i64 0] 74)
    rw [hs2] at this
    rw [List.append_nil]
    exact ⟨hT.later hb3, this, ⟨by omega, by omega, by omega⟩, fun a n c e => by rw [e1] at e; injection e with e; subst e; exact NuX.of e2' (by omega) (by omega), fun a n c e => by rw [e3] at e; injection e with e; subst e; exact NuX.of e4' (by omega) (by omega)⟩
  have HT3 := Lib.hid hT3
  have HSB : Hid (Shun S (w2.alloc (.cells #[.int .i64 0, .int .i64 0] 74)) { M with p := M.p ++ [] } P C) := Lib.hid (by rw [List.append_nil]; exact hsh.later hT3.t.b)
  clear hsh
  clear hT3 hw2 hT hA hlen hby h1 hR
  unfold mV
  go_enter Try.func74, Try.ntmps74
  go_wp2_with fail
  rw [HW2.out]
  go_loopw [3, 12, 13, 14, 15, 16, 17] (fun sa si _ _ _ _ _ wr => ∃ (j u : Nat) (x y : Int) (L : List (Int × Int)) (Pj : Value), j ≤ n ∧ sa = .int .i64 ((at' + u : Nat) : Int) ∧ si = .int .i64 (j : Int) ∧ at' + u ≤ len ∧ (-1000000 ≤ x ∧ x ≤ 1000000) ∧ (-1000000 ≤ y ∧ y ≤ 1000000) ∧ L.length = j ∧
    Hid (R = ((rdP (n - j) (x, y) (l.drop (at' + u))).1, u + (rdP (n - j) (x, y) (l.drop (at' + u))).2.1, L ++ (rdP (n - j) (x, y) (l.drop (at' + u))).2.2)) ∧ Hid (ThreeM w w.heap.size (w.heap.size + 1) (w.heap.size + 1 + 1) { M with p := M.p ++ L } wr Pj C x y) ∧ Hid (Shun S wr { M with p := M.p ++ L } Pj C)) (fun _ si _ _ _ _ _ _ => n - (intOf si).toNat)
  case atStart => exact ⟨0, 0, 0, 0, [], P, by omega, rfl, rfl, by omega, by omega, by omega, rfl, by rw [Nat.add_zero, Nat.sub_zero, HR.out]; exact Lib.hid (by simp), HT3, HSB⟩
  case round =>
    obtain ⟨j, u, x, y, L, Pj, hj, rfl, rfl, hu, hx, hy, hL, HE, HM, HSH⟩ := hrel
    rcases Nat.lt_or_ge j n with hlt | hge
    · have hj2 : (j : Int) < (n : Int) := by omega
      obtain ⟨q, hq⟩ : ∃ q, at' + u = q := ⟨_, rfl⟩
      rw [hq] at hu HE ⊢
      go_wp2_with fail
      go_loopw [3, 13, 14, 15, 16, 17] (fun sa sk _ _ _ _ wv => ∃ (k c : Nat) (x' y' : Int), k ≤ 2 ∧ sk = .int .i64 (k : Int) ∧ sa = .int .i64 ((q + c : Nat) : Int) ∧ q + c ≤ len ∧ (-1000000 ≤ x' ∧ x' ≤ 1000000) ∧ (-1000000 ≤ y' ∧ y' ≤ 1000000) ∧ Hid (PIn x y (l.drop q) k c x' y') ∧ Hid (ThreeM w w.heap.size (w.heap.size + 1) (w.heap.size + 1 + 1) { M with p := M.p ++ L } wv Pj C x' y') ∧ Hid (Shun S wv { M with p := M.p ++ L } Pj C)) (fun _ sk _ _ _ _ _ => 2 - (intOf sk).toNat)
      case atStart => exact ⟨0, 0, x, y, by omega, rfl, rfl, by omega, hx, hy, Lib.hid ⟨fun _ => ⟨rfl, rfl, rfl⟩, fun h => absurd h (by decide), fun h => absurd h (by decide)⟩, HM, HSH⟩
      case round =>
        obtain ⟨k, c, x', y', hk, rfl, rfl, hc, hx', hy', HPI, HV, HSI⟩ := hrel
        obtain ⟨qc, hqc⟩ : ∃ qc, q + c = qc := ⟨_, rfl⟩
        rw [hqc] at hc ⊢
        rcases Nat.lt_or_ge k 2 with hk2 | hk2
        · have hk3 : (k : Int) < 2 := by omega
          obtain ⟨v, hv⟩ : ∃ v, (if k = 0 then x' else y') = v := ⟨_, rfl⟩
          have hvb : -1000000 ≤ v ∧ v ≤ 1000000 := by rw [← hv]; split <;> omega
          have K := KG.out qc wr hc HV.out.t.b
          have hle := Vi.get_le (l.drop qc)
          obtain ⟨rx, hrx⟩ : ∃ rx, rdX v (l.drop qc) = rx := ⟨_, rfl⟩
          have hrd := hrx
          unfold rdX at hrd
          obtain ⟨⟨z, kk, er⟩, hg⟩ : ∃ g, Vi.get (l.drop qc) = g := ⟨_, rfl⟩
          rw [hg] at K hle hrd
          simp only at hle hrd
          unfold RGetR at K
          simp only at K
          rw [List.length_drop, HLEN.out] at hle
          have HRD := Lib.hid hrd
          have HRX := Lib.hid (show rdX (if k = 0 then x' else y') ((l.drop q).drop c) = rx by rw [hv, List.drop_drop, hqc]; exact hrx)
          have HVV := Lib.hid hv
          have e11 : wr.cell? ⟨w.heap.size + 1 + 1, k, none⟩ = some (.int .i64 v) := by
            rw [← hv]
            rcases (show k = 0 ∨ k = 1 by omega) with rfl | rfl
            · exact row_cell HV.out.bx 0 _ rfl
            · exact row_cell HV.out.bx 1 _ rfl
          have HE11 := Lib.hid e11
          have K := Lib.hid K
          clear hrd hg hrx hv e11
          go_wp2_with fail
          refine K.out.mono ?_
          rintro e w3 ⟨rfl, rfl⟩
          clear K
          by_cases her : er = 0
          · subst her
            have hrd := HRD.out
            simp only [ne_eq, not_true_eq_false, if_false] at hrd
            have KZ := Lib.hid (rzag_any (z : Int) wr (by omega) (by omega))
            clear HRD
            go_wp2_with fail
            refine KZ.out.mono ?_
            rintro e w3 ⟨rfl, rfl⟩
            clear KZ
            obtain ⟨d, hd⟩ : ∃ d, zagZ (z : Int) = d := ⟨_, rfl⟩
            rw [hd] at hrd ⊢
            have hdb : -9223372036854775808 ≤ d ∧ d ≤ 9223372036854775807 := by
              rw [← hd]
              unfold zagZ
              split <;> omega
            clear hd
            by_cases hf : v + d < -1000000 ∨ 1000000 < v + d
            · rw [if_pos hf] at hrd
              have HR5 := Lib.hid hrd.symm
              clear hrd
              by_cases hd1 : d < -2000000
              · obtain ⟨W', hst, hres, hmat, hbel, hshu⟩ := HV.out.t.retS HSI.out
                have HLD := Lib.hid (mr_look HV.out.t.m)
                have HST := Lib.hid hst
                have HFI := Lib.hid (And.intro hmat (And.intro hbel hshu))
                have HRS := Lib.hid hres
                clear hst hres hmat hbel hshu
                go_wp2_with (first | refine wpList_load_run rfl 36 (.tmp 4) rfl (some ⟨w.heap.size, 0, none⟩) rfl (.agg (mC { M with p := M.p ++ L } Pj C)) HLD.out ?_ | refine wpList_store_run rfl 36 (.tmp 8) (.tmp 56) rfl (some ⟨w.heap.size + 1, 0, none⟩) rfl (.agg (mC { M with p := M.p ++ L } Pj C)) rfl HST.out ?_)
                obtain ⟨y0, y1, y2, y3, y4, y5, y6, y7, y8, y9, y10⟩ := mg_block HRS.out
                refine bodyPost_ret (v := .tuple #[.agg (mC { M with p := M.p ++ L } Pj C), .int .i64 ((qc : Int)), .int .i64 (5)]) (by simp [results, Try.results74, go_sem, y0, y1, y2, y3, y4, y5, y6, y7, y8, y9, y10, mC]) rfl ?_
                have hE := HE.out
                have hp := HPI.out.err hk2 (HRX.out.trans HR5.out) (by decide) (n - j - 1)
                rw [show n - j - 1 + 1 = n - j by omega] at hp
                rw [hp] at hE
                rw [hE]
                exact ⟨_, Pj, C, _, rfl, HFI.out.1, HFI.out.2.1, HFI.out.2.2, fun h => by simp at h⟩
              · by_cases hd2 : 2000000 < d
                · obtain ⟨W', hst, hres, hmat, hbel, hshu⟩ := HV.out.t.retS HSI.out
                  have HLD := Lib.hid (mr_look HV.out.t.m)
                  have HST := Lib.hid hst
                  have HFI := Lib.hid (And.intro hmat (And.intro hbel hshu))
                  have HRS := Lib.hid hres
                  clear hst hres hmat hbel hshu
                  go_wp2_with (first | refine wpList_load_run rfl 36 (.tmp 4) rfl (some ⟨w.heap.size, 0, none⟩) rfl (.agg (mC { M with p := M.p ++ L } Pj C)) HLD.out ?_ | refine wpList_store_run rfl 36 (.tmp 8) (.tmp 56) rfl (some ⟨w.heap.size + 1, 0, none⟩) rfl (.agg (mC { M with p := M.p ++ L } Pj C)) rfl HST.out ?_)
                  obtain ⟨y0, y1, y2, y3, y4, y5, y6, y7, y8, y9, y10⟩ := mg_block HRS.out
                  refine bodyPost_ret (v := .tuple #[.agg (mC { M with p := M.p ++ L } Pj C), .int .i64 ((qc : Int)), .int .i64 (5)]) (by simp [results, Try.results74, go_sem, y0, y1, y2, y3, y4, y5, y6, y7, y8, y9, y10, mC]) rfl ?_
                  have hE := HE.out
                  have hp := HPI.out.err hk2 (HRX.out.trans HR5.out) (by decide) (n - j - 1)
                  rw [show n - j - 1 + 1 = n - j by omega] at hp
                  rw [hp] at hE
                  rw [hE]
                  exact ⟨_, Pj, C, _, rfl, HFI.out.1, HFI.out.2.1, HFI.out.2.2, fun h => by simp at h⟩
                · have KF := Lib.hid (rfar_any (v + d) wr)
                  have e11 := HE11.out
                  go_wp2_with fail
                  refine KF.out.mono ?_
                  rintro e w3 ⟨rfl, rfl⟩
                  rw [decide_eq_true hf]
                  clear KF e11
                  obtain ⟨W', hst, hres, hmat, hbel, hshu⟩ := HV.out.t.retS HSI.out
                  have HLD := Lib.hid (mr_look HV.out.t.m)
                  have HST := Lib.hid hst
                  have HFI := Lib.hid (And.intro hmat (And.intro hbel hshu))
                  have HRS := Lib.hid hres
                  clear hst hres hmat hbel hshu
                  go_wp2_with (first | refine wpList_load_run rfl 36 (.tmp 4) rfl (some ⟨w.heap.size, 0, none⟩) rfl (.agg (mC { M with p := M.p ++ L } Pj C)) HLD.out ?_ | refine wpList_store_run rfl 36 (.tmp 8) (.tmp 56) rfl (some ⟨w.heap.size + 1, 0, none⟩) rfl (.agg (mC { M with p := M.p ++ L } Pj C)) rfl HST.out ?_)
                  obtain ⟨y0, y1, y2, y3, y4, y5, y6, y7, y8, y9, y10⟩ := mg_block HRS.out
                  refine bodyPost_ret (v := .tuple #[.agg (mC { M with p := M.p ++ L } Pj C), .int .i64 ((qc : Int)), .int .i64 (5)]) (by simp [results, Try.results74, go_sem, y0, y1, y2, y3, y4, y5, y6, y7, y8, y9, y10, mC]) rfl ?_
                  have hE := HE.out
                  have hp := HPI.out.err hk2 (HRX.out.trans HR5.out) (by decide) (n - j - 1)
                  rw [show n - j - 1 + 1 = n - j by omega] at hp
                  rw [hp] at hE
                  rw [hE]
                  exact ⟨_, Pj, C, _, rfl, HFI.out.1, HFI.out.2.1, HFI.out.2.2, fun h => by simp at h⟩
            · rw [if_neg hf] at hrd
              have HR0 := Lib.hid hrd.symm
              have hd1 : ¬ d < -2000000 := by omega
              have hd2 : ¬ 2000000 < d := by omega
              have KF := Lib.hid (rfar_any (v + d) wr)
              have e11 := HE11.out
              have z11 := frozen_of_row wr (w.heap.size + 1 + 1) k _ _ HV.out.bx
              clear hrd
              go_wp2_with fail
              refine KF.out.mono ?_
              rintro e w3 ⟨rfl, rfl⟩
              rw [decide_eq_false hf]
              clear KF
              go_wp2_with fail
              refine ⟨⟨k + 1, c + kk, if k = 0 then v + d else x', if k = 0 then y' else v + d, by omega, by go_num, by congr 1; omega, by omega, by split <;> omega, by split <;> omega, Lib.hid (HPI.out.next hk2 (HRX.out.trans HR0.out)), Lib.hid (HV.out.set ?_), Lib.hid (HSI.out.set3 HV.out _ _)⟩, by simp only [intOf]; omega⟩
              rcases (show k = 0 ∨ k = 1 by omega) with rfl | rfl <;> rfl
          · have her' : ((er : Nat) : Int) ≠ 0 := by omega
            have hrd := HRD.out
            rw [if_pos her] at hrd
            have HR5 := Lib.hid hrd.symm
            clear hrd
            obtain ⟨W', hst, hres, hmat, hbel, hshu⟩ := HV.out.t.retS HSI.out
            have HLD := Lib.hid (mr_look HV.out.t.m)
            have HST := Lib.hid hst
            have HFI := Lib.hid (And.intro hmat (And.intro hbel hshu))
            have HRS := Lib.hid hres
            clear hst hres hmat hbel hshu
            go_wp2_with (first | refine wpList_load_run rfl 36 (.tmp 4) rfl (some ⟨w.heap.size, 0, none⟩) rfl (.agg (mC { M with p := M.p ++ L } Pj C)) HLD.out ?_ | refine wpList_store_run rfl 36 (.tmp 8) (.tmp 37) rfl (some ⟨w.heap.size + 1, 0, none⟩) rfl (.agg (mC { M with p := M.p ++ L } Pj C)) rfl HST.out ?_)
            obtain ⟨y0, y1, y2, y3, y4, y5, y6, y7, y8, y9, y10⟩ := mg_block HRS.out
            refine bodyPost_ret (v := .tuple #[.agg (mC { M with p := M.p ++ L } Pj C), .int .i64 ((qc : Int)), .int .i64 ((er : Int))]) (by simp [results, Try.results74, go_sem, y0, y1, y2, y3, y4, y5, y6, y7, y8, y9, y10, mC]) rfl ?_
            have hE := HE.out
            have hp := HPI.out.err hk2 (HRX.out.trans HR5.out) her (n - j - 1)
            rw [show n - j - 1 + 1 = n - j by omega] at hp
            rw [hp] at hE
            rw [hE]
            exact ⟨_, Pj, C, _, rfl, HFI.out.1, HFI.out.2.1, HFI.out.2.2, fun h => absurd h her⟩
        · obtain rfl : k = 2 := by omega
          go_wp2_with fail
          obtain ⟨pa, pc, hpj, hpc, hpn⟩ := HV.out.t.p
          simp only at hpj hpc hpn
          obtain ⟨np, hnp⟩ : ∃ np, (M.p ++ L).length = np := ⟨_, rfl⟩
          rw [hnp] at hpj hpc
          subst hpj
          obtain ⟨ip, hip, hzp, hzp1, hzp2⟩ := info_parts r2Info
          have hnl : (fl2 (M.p ++ L)).length = np * 2 := by rw [fl2_len, hnp]
          have hnb : np ≤ 80 := by rw [← hnp, List.length_append]; omega
          have HNP := Lib.hid hnp
          have HPN := Lib.hid hpn
          clear hpn hnp
          refine wp_region_FM 76 6 20 72 [66, 69, 71, 72] (FPp wr.heap.size (fl2 (M.p ++ L)) np x' y') (fun W => Below wr.heap.size wr W) (fun _ W u w' => w'.ownsRow wr.heap.size 74 2 u (np + 1) ((fl2 (M.p ++ L)).map (Value.int .i64) ++ [.int .i64 x', .int .i64 y']) ∧ Below wr.heap.size wr w') (fun w' => ∃ Pn, ThreeM w w.heap.size (w.heap.size + 1) (w.heap.size + 1 + 1) { M with p := M.p ++ (L ++ [(x', y')]) } w' Pn C x' y' ∧ Shun S w' { M with p := M.p ++ (L ++ [(x', y')]) } Pn C) (by kernel_rfl) (by kernel_rfl) (by kernel_rfl) (by kernel_rfl) (by kernel_rfl) (by simp) (by simp) (fun W W' h hb => h.trans (hb.mono h.size)) (fun q x W W' h hb => h.later hb) (fun _ _ => by unfold FPp; simp) (fun _ _ _ _ _ _ h => h) (Below.refl _ _).drew ?_
          refine wpFM_step (wpF_src 66 (by simp) rfl rfl rfl (fun W hW => ⟨.slice (some ⟨W.heap.size, 0, none⟩) 0 0, W.alloc (.cells #[] 74), by simp [go_sem], ?_, (Below.refl _ _).alloc (Nat.le_refl _) _⟩) ?_)
          · unfold FPp
            rw [if_pos rfl]
            exact ⟨_, rfl, World.ownsRow_made W #[] 0 hW.size (by unfold maxLen; omega) rfl⟩
          simp only [Act.put, List.setIfInBounds_toArray, List.set_cons_succ, List.set_cons_zero]
          refine wpFM_step (wpF_pure rfl rfl ?_); go_big_quiet_step (fail); refine wpQuiet_nil ?_
          refine wpFM_step (wpF_load (.slice pa np pc) rfl (by rfl) (by rfl) (by rfl) (fun W hW => by have e7 := row_cell (HV.out.later hW).t.m 7 (.slice pa np pc) rfl; simp [Instr.loadAt, go_sem, e7]) ?_)
          simp only [Act.put, List.setIfInBounds_toArray, List.set_cons_succ, List.set_cons_zero]
          refine wpFM_step (wpF_mix 69 [66] (by simp) rfl (by kernel_rfl) (by kernel_rfl) (fun xs => by rfl) (fun xs W hW hx => ?_) ?_)
          · have h66 := hx 66 (by simp)
            unfold FPp at h66
            rw [if_pos rfl] at h66
            obtain ⟨g, e66, hg⟩ := h66
            rw [e66] at hg
            by_cases hnil : np = 0
            · subst hnil
              have hz : fl2 (M.p ++ L) = [] := List.eq_nil_of_length_eq_zero (by omega)
              refine ⟨_, W, exec_appendH (v2 := .slice pa 0 pc) (.tmp 66) (.tmp 68) 34 rfl (by simp [fill, Act.put, Act.eval, e66]) (by simp [fill, Act.put, Act.eval]) (run_append_nothing W 34 34 _ 74 ip Try.underlying34 hip (some ⟨g, 0, none⟩) 0 0 (Nat.le_refl _) _ ?_), ?_, Below.refl _ _⟩
              · cases pa with
                | none => exact ⟨.inl ⟨74, Try.underlying34⟩, fun _ => rfl, run_firstCells_none W ip.size 0 0 pc, run_firstCells_none W.drew ip.size 0 0 pc, by simp, fun _ h => by cases h⟩
                | some ad => exact Src.ofSlice W Try.underlying34 ad 0 pc [] (by simp) (by simp) (fun _ h => by cases h)
              · unfold FPp
                rw [if_neg (by decide), if_pos rfl, hz]
                exact hg
            · obtain ⟨b1, o1, rfl, -, -, hcl⟩ := (HPN.out.keep (Off.of_below hW)) (fun h => by rw [h] at hnl; simp at hnl; omega)
              obtain ⟨x9, w9, hrun, hown, hgr⟩ := run_append_arg_grows (P := Try.prog) (w := W) 34 34 74 ip _ 2 16 Try.underlying34 hip hzp hzp1 hzp2 rfl (by decide)
                ⟨g, 0, none⟩ 0 0 [] (by rfl) (fun j u hj => by simp at hj) ⟨b1, o1, none⟩ np pc ((fl2 (M.p ++ L)).map (Value.int .i64)) (by rw [List.length_map, hnl])
                (fun j u hj => by
                  rw [List.getElem?_map] at hj
                  obtain ⟨y, hy, rfl⟩ := Option.map_eq_some_iff.1 hj
                  rw [Addr.add_lit]
                  exact hcl j y hy) (by omega) (by unfold maxLen; omega) (by omega)
              refine ⟨x9, w9, exec_appendH (.tmp 66) (.tmp 68) 34 rfl (by simp [fill, Act.put, Act.eval, e66]) (by simp [fill, Act.put, Act.eval]) hrun, ?_, ⟨hgr.os, hgr.tape, hgr.output, hgr.size, fun q hq => hgr.block q hq (by simp)⟩⟩
              unfold FPp
              rw [if_neg (by decide), if_pos rfl]
              rw [Nat.zero_add, List.nil_append] at hown
              exact ⟨hown.1, hown.2.imp id fun ⟨g, cap, cur, hv, hg, r⟩ => ⟨g, cap, cur, hv, Nat.le_trans hW.size hg, r⟩⟩
          simp only [Act.put, List.setIfInBounds_toArray, List.set_cons_succ, List.set_cons_zero]
          refine wpFM_step (wpF_load (.agg #[.int .i64 x', .int .i64 y']) rfl (by rfl) (by rfl) (by rfl) (fun W hW => by have e0 := row_cell (HV.out.later hW).bx 0 _ rfl; have e1 := row_cell (HV.out.later hW).bx 1 _ rfl; simp [Instr.loadAt, go_sem, e0, e1]) ?_)
          simp only [Act.put, List.setIfInBounds_toArray, List.set_cons_succ, List.set_cons_zero]
          refine wpFM_step (wpF_src 71 (by simp) rfl rfl rfl (fun W hW => ⟨.slice (some ⟨W.heap.size, 0, none⟩) 1 1, W.alloc (.cells #[.int .i64 x', .int .i64 y'] 74), by simp [go_sem], ?_, (Below.refl _ _).alloc (Nat.le_refl _) _⟩) ?_)
          · unfold FPp
            rw [if_neg (by decide), if_neg (by decide), if_pos rfl]
            exact ⟨_, rfl, World.alloc_heap_new _ _⟩
          simp only [Act.put, List.setIfInBounds_toArray, List.set_cons_succ, List.set_cons_zero]
          refine wpFM_mid rfl (by kernel_rfl) (fun xs => by rfl) (fun xs W hW hx => ?_) ?_
          · have h69 := hx 69 (by simp) (by decide)
            have h71 := hx 71 (by simp) (by decide)
            unfold FPp at h69 h71
            rw [if_neg (by decide), if_pos rfl] at h69
            rw [if_neg (by decide), if_neg (by decide), if_pos rfl] at h71
            obtain ⟨g, e71, hg⟩ := h71
            obtain ⟨x9, w9, hrun, hown, hgr, -, -⟩ := run_append_own_at (P := Try.prog) (w := W) wr.heap.size 34 34 74 ip _ 2 16 Try.underlying34 hip hzp hzp1 hzp2 rfl (by decide) (xs 69) np _ h69 ⟨g, 0, none⟩ 1 1 [.int .i64 x', .int .i64 y'] (by rfl) (fun j u hj => by rw [Addr.add_lit, Nat.zero_add]; simp [World.cell?, hg, ← hj]) (by simp [Value.oneCell']) (by unfold maxLen; omega) (by omega) hW.size
            refine ⟨x9, w9, exec_appendH (.tmp 69) (.tmp 71) 34 rfl (by simp [fill, Act.put, Act.eval]) (by simp [fill, Act.put, Act.eval, e71]) hrun, hown, ?_⟩
            refine hW.grown hgr hW.size (fun g hk => ?_)
            rcases h69.2 with ⟨e, _⟩ | ⟨g', cap, cur, e, hg', _⟩
            · rw [e] at hk; simp [Value.ownBlock] at hk
            · rw [e] at hk; simp [Value.ownBlock] at hk; omega
          simp only [Act.put, List.setIfInBounds_toArray, List.set_cons_succ, List.set_cons_zero]
          refine wpFMe_pure (wpFS_pure rfl rfl ?_); go_big_quiet_step (fail); refine wpQuiet_nil ?_
          show wpFMe _ _ _ _ _ _ _ _ _ _ _
          refine wpFMe_store (t := 34) (x := .tmp 73) (y := .tmp 72) (by rfl) (by rfl) (by rfl) (fun xs W W9 hW hx hst => ?_) ?_
          · obtain ⟨hown, hb9⟩ := hst
            have hfl : fl2 (M.p ++ (L ++ [(x', y')])) = fl2 (M.p ++ L) ++ [x', y'] := by rw [← List.append_assoc, fl2_app]; rfl
            have hln : (M.p ++ (L ++ [(x', y')])).length = np + 1 := by rw [← List.append_assoc, List.length_append, HNP.out]; rfl
            obtain ⟨a9, c9, e9, hT9⟩ := HV.out.path (W := W9) (v := xs 72) (ps := M.p ++ (L ++ [(x', y')])) hb9 (by rw [hln, hfl, List.map_append]; exact hown)
            have m9 := (HV.out.later hb9).t.m
            have c7 := row_cell m9 7 (.slice pa np pc) rfl
            have z7 := frozen_of_row W9 w.heap.size 7 _ _ m9
            have hs9 := HSI.out.path HV.out hS (W := W9) (v := xs 72) (ps := M.p ++ (L ++ [(x', y')])) hb9 (by rw [hln, hfl, List.map_append]; exact hown)
            refine ⟨_, ?_, ⟨_, hT9, hs9⟩⟩
            simp [fill, Act.put, Act.eval, e9, Instr.storeAt, go_sem, c7, z7]
          intro xs w9 hs9
          obtain ⟨Pn, hT9, hS9⟩ := hs9
          have HS9 := Lib.hid hS9
          clear hS9
          simp only [fill, Act.put, List.setIfInBounds_toArray, List.set_cons_succ, List.set_cons_zero]
          have HT9 := Lib.hid hT9
          clear hT9
          simp only [Exit.inBlock, Exit.then]
          go_wp2_with fail
          have hE := HE.out
          have hp := HPI.out.two (n - j - 1)
          rw [show n - j - 1 + 1 = n - j by omega] at hp
          rw [hp] at hE
          refine ⟨⟨j + 1, u + c, x', y', L ++ [(x', y')], Pn, by omega, by congr 1; omega, by go_num, by omega, by omega, by omega, by simp [hL], ?_, HT9, HS9⟩, by simp only [intOf]; omega⟩
          refine Lib.hid ?_
          rw [hE, List.drop_drop, show q + c = at' + (u + c) by omega, Nat.sub_sub, Nat.add_assoc, List.append_assoc]
          rfl
    · obtain rfl : j = n := by omega
      obtain ⟨W', hst, hres, hmat, hbel, hshu⟩ := HM.out.t.retS HSH.out
      have HLD := Lib.hid (mr_look HM.out.t.m)
      have HST := Lib.hid hst
      have HFI := Lib.hid (And.intro hmat (And.intro hbel hshu))
      have HRS := Lib.hid hres
      clear hst hres hmat hbel hshu
      go_wp2_with (first | refine wpList_load_run rfl 36 (.tmp 4) rfl (some ⟨w.heap.size, 0, none⟩) rfl (.agg (mC { M with p := M.p ++ L } Pj C)) HLD.out ?_ | refine wpList_store_run rfl 36 (.tmp 8) (.tmp 74) rfl (some ⟨w.heap.size + 1, 0, none⟩) rfl (.agg (mC { M with p := M.p ++ L } Pj C)) rfl HST.out ?_)
      obtain ⟨y0, y1, y2, y3, y4, y5, y6, y7, y8, y9, y10⟩ := mg_block HRS.out
      refine bodyPost_ret (v := .tuple #[.agg (mC { M with p := M.p ++ L } Pj C), .int .i64 (((at' + u : Nat) : Int)), .int .i64 (0)]) (by simp [results, Try.results74, go_sem, y0, y1, y2, y3, y4, y5, y6, y7, y8, y9, y10, mC]) rfl ?_
      have hE := HE.out
      rw [Nat.sub_self, rdP] at hE
      simp only [Nat.add_zero, List.append_nil] at hE
      rw [hE]
      exact ⟨_, Pj, C, _, rfl, HFI.out.1, HFI.out.2.1, HFI.out.2.2, fun _ => ⟨rfl, rfl⟩⟩
end Go.Proofs.Ytmjbimmbphofjaa

namespace Go.Proofs.Ytmjbimmbphofjaa
open Go.RowKit Go.Shelf
set_option maxRecDepth 100000
attribute [local go_sem] Oper.semAt_some

/-- a message's box, a field's and the result's -/
structure FldM (w : World) (M : Mg) (f : Fd) (W : World) (P C : Value) : Prop where
  t : TwoM w w.heap.size (w.heap.size + 2) M W P C
  f : W.heap[w.heap.size + 1]? = some (.cells f.cs 46 (0, 0))
theorem FldM.start {w : World} {M : Mg} {f : Fd} {P C : Value} (h : MAt w w.heap.size M P C) : FldM w M f (((w.alloc (.cells (mC M P C) 36)).alloc (.cells f.cs 46)).alloc (.cells #[.int .i64 0, .int .i64 0, .int .i64 0, .int .i64 0, .int .i64 0, .int .i64 0, .int .i64 0, .slice none 0 0, .slice none 0 0, .string ⟨#[]⟩, .string ⟨#[]⟩] 36)) P C := by
  obtain ⟨w1, hw1⟩ : ∃ w1, w.alloc (.cells (mC M P C) 36) = w1 := ⟨_, rfl⟩
  have hb1 : Below w.heap.size w w1 := by rw [← hw1]; exact (Below.refl _ w).alloc (Nat.le_refl _) _
  have hs1 : w1.heap.size = w.heap.size + 1 := by rw [← hw1]; simp
  have q1 : w1.heap[w.heap.size]? = some (.cells (mC M P C) 36 (0, 0)) := by rw [← hw1]; exact World.alloc_heap_new _ _
  rw [hw1]
  obtain ⟨w2, hw2⟩ : ∃ w2, w1.alloc (.cells f.cs 46) = w2 := ⟨_, rfl⟩
  have hb2 : Below w1.heap.size w1 w2 := by rw [← hw2]; exact (Below.refl _ w1).alloc (Nat.le_refl _) _
  have hs2 : w2.heap.size = w.heap.size + 2 := by rw [← hw2, World.size_alloc, hs1]
  have q2 : w2.heap[w.heap.size + 1]? = some (.cells f.cs 46 (0, 0)) := by rw [← hw2, ← hs1]; exact World.alloc_heap_new _ _
  rw [hw2]
  obtain ⟨w3, hw3⟩ : ∃ w3, w2.alloc (.cells #[.int .i64 0, .int .i64 0, .int .i64 0, .int .i64 0, .int .i64 0, .int .i64 0, .int .i64 0, .slice none 0 0, .slice none 0 0, .string ⟨#[]⟩, .string ⟨#[]⟩] 36) = w3 := ⟨_, rfl⟩
  have hb3 : Below w2.heap.size w2 w3 := by rw [← hw3]; exact (Below.refl _ w2).alloc (Nat.le_refl _) _
  have q3 : w3.heap[w.heap.size + 2]? = some (.cells (mC (Mg.zero 0) (.slice none 0 0) (.slice none 0 0)) 36 (0, 0)) := by rw [← hw3, ← hs2]; exact World.alloc_heap_new _ _
  rw [hw3]
  have hb : Below w.heap.size w w3 := hb1.trans ((hb2.mono hb1.size).trans (hb3.mono (by omega)))
  obtain ⟨⟨a, c, h1, h2, h3⟩, ⟨a', c', h4, h5, h6⟩⟩ := h.below hb
  exact ⟨⟨(hb3.block _ (by omega)).trans ((hb2.block _ (by omega)).trans q1), q3, ⟨a, c, h1, h2, NuX.of h3 (Nat.le_refl _) (by omega)⟩, ⟨a', c', h4, h5, NuX.of h6 (Nat.le_refl _) (by omega)⟩, hb, ⟨Nat.le_refl _, by omega, by omega⟩⟩, (hb3.block _ (by omega)).trans q2⟩
theorem FldM.later {w W W' : World} {M : Mg} {f : Fd} {P C : Value} (h : FldM w M f W P C) (hb : Below W.heap.size W W') : FldM w M f W' P C := ⟨h.t.later hb, (hb.block _ (Array.getElem?_eq_some_iff.1 h.f).1).trans h.f⟩
/-- a number is stored into the message's box -/
theorem TwoM.num {w W : World} {b4 b8 : Nat} {M : Mg} {P C : Value} (h : TwoM w b4 b8 M W P C) {j : Nat} (hj : j < 6) (v : Int) : TwoM w b4 b8 (M.put j v) (W.setCell ⟨b4, 1 + j, none⟩ (.int .i64 v)) P C := by
  have hlo := h.lo
  have hoff : Off (fun q => q = b4 ∨ q = b8) W (W.setCell ⟨b4, 1 + j, none⟩ (.int .i64 v)) := Off.setCell (S := fun q => q = b4 ∨ q = b8) (p := ⟨b4, 1 + j, none⟩) (Off.refl _ W) (.inl rfl) _
  have hof2 : Off (fun q => q = b4) W (W.setCell ⟨b4, 1 + j, none⟩ (.int .i64 v)) := Off.setCell (S := fun q => q = b4) (p := ⟨b4, 1 + j, none⟩) (Off.refl _ W) rfl _
  obtain ⟨⟨a, c, h1, h2, h3⟩, ⟨a', c', h4, h5, h6⟩⟩ := And.intro h.p h.c
  refine ⟨by rw [setCell_at h.m, mC_put hj], (hof2.block _ (Array.getElem?_eq_some_iff.1 h.r).1 (by omega)).trans h.r, ⟨a, c, by rw [Mg.put_p]; exact h1, by rw [Mg.put_p]; exact h2, by rw [Mg.put_p]; exact h3.keep hoff⟩, ⟨a', c', by rw [Mg.put_c]; exact h4, by rw [Mg.put_c]; exact h5, by rw [Mg.put_c]; exact h6.keep hoff⟩, ?_, hlo⟩
  exact h.b.trans (hoff.below (B := w.heap.size) (fun q hq => by omega) h.b.size)
theorem Shun.num {S : Nat → Prop} {w W : World} {b4 b8 : Nat} {M : Mg} {P C : Value} (h : Shun S W M P C) (t : TwoM w b4 b8 M W P C) (j i : Nat) (v : Int) (u : Value) : Shun S (W.setCell ⟨b4, i, none⟩ u) (M.put j v) P C := by
  have hoff : Off (fun q => q = b4 ∨ q = b8) W (W.setCell ⟨b4, i, none⟩ u) := Off.setCell (S := fun q => q = b4 ∨ q = b8) (p := ⟨b4, i, none⟩) (Off.refl _ W) (.inl rfl) _
  unfold Shun
  rw [Mg.put_p, Mg.put_c]
  exact h.off t hoff
set_option maxHeartbeats 8000000 in
theorem rfield_one (S : Nat → Prop) (M : Mg) (f : Fd) (P C : Value) (A : Option Addr) (len cap : Nat) (l : List Int) (at' : Nat) (w : World) (hf : FdX f) (hso : f.so = 1) (hmo : 0 ≤ f.mo) (hlen : l.length = len) (hll : len ≤ 1000000) (hby : Bys l) (hA : Nums .u8 w w.heap.size A l) (hat : at' ≤ len) (h1 : MAt w w.heap.size M P C) (hsh : Shun S w M P C) :
    Calls Try.prog 41 #[mV M P C, f.v, .slice A len cap, .int .i64 (at' : Int)] w fun e w' => RdS S w (rdF M f (l.drop at')) at' e w' := by
  obtain ⟨w2, hw2⟩ : ∃ w2, ((w.alloc (.cells (mC M P C) 36)).alloc (.cells f.cs 46)).alloc (.cells #[.int .i64 0, .int .i64 0, .int .i64 0, .int .i64 0, .int .i64 0, .int .i64 0, .int .i64 0, .slice none 0 0, .slice none 0 0, .string ⟨#[]⟩, .string ⟨#[]⟩] 36) = w2 := ⟨_, rfl⟩
  have hT : FldM w M f w2 P C := by rw [← hw2]; exact FldM.start h1
  have K := rget_len w.heap.size A len cap l (at' : Int) w2 hlen (by omega) (by omega) (by omega) hby (hA.below hT.t.b)
  rw [Int.toNat_natCast] at K
  have hle := Vi.get_le (l.drop at')
  obtain ⟨rx, hrx⟩ : ∃ rx, rdF M f (l.drop at') = rx := ⟨_, rfl⟩
  rw [hrx]
  unfold rdF at hrx
  rw [if_pos hso] at hrx
  obtain ⟨⟨z, kk, er⟩, hg⟩ : ∃ g, Vi.get (l.drop at') = g := ⟨_, rfl⟩
  rw [hg] at K hle hrx
  simp only at hle hrx
  unfold RGetR at K
  simp only at K
  obtain ⟨jj, hj6, hjj⟩ := hf.pl (by omega)
  rw [hjj, Int.toNat_natCast] at hrx
  have hz6 : (jj : Int) < 6 := by omega
  obtain ⟨d0, d1, d2, d3, d4, -, -⟩ := fd_block hT.f
  rw [hso] at d1
  rw [hjj] at d2
  have hlf := hf.le
  have h0 := hf.one hso
  have HW2 := Lib.hid hw2
  have HT := Lib.hid hT
  have HSB : Hid (Shun S w2 M P C) := Lib.hid (hsh.later hT.t.b)
  clear hsh
  have HRX := Lib.hid hrx
  have HD := Lib.hid (And.intro d1 (And.intro d2 (And.intro d3 d4)))
  have K := Lib.hid K
  obtain ⟨X0, hX0⟩ : ∃ X0, f.cs = X0 := ⟨_, rfl⟩
  rw [hX0] at HW2
  unfold mV Fd.v
  rw [hX0]
  clear hX0 hw2 hT hg hrx hA hby hlen h1 d0 d1 d2 d3 d4 hjj
  go_enter Try.func41, Try.ntmps41
  go_wp2_with fail
  rw [HW2.out]
  refine K.out.mono ?_
  rintro e w3 ⟨rfl, rfl⟩
  clear K
  by_cases her : er = 0
  · subst her
    have hrd := HRX.out
    simp only [ne_eq, not_true_eq_false, if_false] at hrd
    obtain ⟨d1, d2, d3, d4⟩ := HD.out
    clear HRX
    by_cases hb : f.mo < (z : Int) ∨ (z : Int) < f.le
    · rw [if_pos hb] at hrd
      have HR5 := Lib.hid hrd
      clear hrd
      by_cases hb1 : f.mo < (z : Int)
      · obtain ⟨W', hst, hres, hmat, hbel, hshu⟩ := HT.out.t.retS HSB.out
        have HLD := Lib.hid (mr_look HT.out.t.m)
        have HST := Lib.hid hst
        have HFI := Lib.hid (And.intro hmat (And.intro hbel hshu))
        have HRS := Lib.hid hres
        clear hst hres hmat hbel hshu
        go_wp2_with (first | refine wpList_load_run rfl 36 (.tmp 4) rfl (some ⟨w.heap.size, 0, none⟩) rfl (.agg (mC M P C)) HLD.out ?_ | refine wpList_store_run rfl 36 (.tmp 8) (.tmp 44) rfl (some ⟨w.heap.size + 2, 0, none⟩) rfl (.agg (mC M P C)) rfl HST.out ?_)
        obtain ⟨y0, y1, y2, y3, y4, y5, y6, y7, y8, y9, y10⟩ := mg_block HRS.out
        refine bodyPost_ret (v := .tuple #[.agg (mC M P C), .int .i64 ((at' : Int)), .int .i64 (5)]) (by simp [results, Try.results41, go_sem, y0, y1, y2, y3, y4, y5, y6, y7, y8, y9, y10, mC]) rfl ?_
        rw [← HR5.out]
        exact ⟨_, P, C, _, rfl, HFI.out.1, HFI.out.2.1, HFI.out.2.2, fun h => by simp at h⟩
      · have hb2 : (z : Int) < f.le := by omega
        obtain ⟨W', hst, hres, hmat, hbel, hshu⟩ := HT.out.t.retS HSB.out
        have HLD := Lib.hid (mr_look HT.out.t.m)
        have HST := Lib.hid hst
        have HFI := Lib.hid (And.intro hmat (And.intro hbel hshu))
        have HRS := Lib.hid hres
        clear hst hres hmat hbel hshu
        go_wp2_with (first | refine wpList_load_run rfl 36 (.tmp 4) rfl (some ⟨w.heap.size, 0, none⟩) rfl (.agg (mC M P C)) HLD.out ?_ | refine wpList_store_run rfl 36 (.tmp 8) (.tmp 44) rfl (some ⟨w.heap.size + 2, 0, none⟩) rfl (.agg (mC M P C)) rfl HST.out ?_)
        obtain ⟨y0, y1, y2, y3, y4, y5, y6, y7, y8, y9, y10⟩ := mg_block HRS.out
        refine bodyPost_ret (v := .tuple #[.agg (mC M P C), .int .i64 ((at' : Int)), .int .i64 (5)]) (by simp [results, Try.results41, go_sem, y0, y1, y2, y3, y4, y5, y6, y7, y8, y9, y10, mC]) rfl ?_
        rw [← HR5.out]
        exact ⟨_, P, C, _, rfl, HFI.out.1, HFI.out.2.1, HFI.out.2.2, fun h => by simp at h⟩
    · rw [if_neg hb] at hrd
      have HR0 := Lib.hid hrd
      have hb1 : ¬ f.mo < (z : Int) := by omega
      have hb2 : ¬ (z : Int) < f.le := by omega
      have m9 := HT.out.t.m
      have c7 := mg_at m9 hj6
      have z7 := frozen_of_row w2 w.heap.size (1 + jj) _ _ m9
      have HN := Lib.hid (HT.out.t.num hj6 (z : Int))
      have HSN := Lib.hid (HSB.out.num HT.out.t jj (1 + jj) (z : Int) (.int .i64 (z : Int)))
      clear hrd m9
      obtain ⟨W', hst, hres, hmat, hbel, hshu⟩ := HN.out.retS HSN.out
      have HLD := Lib.hid (mr_look HN.out.m)
      have HST := Lib.hid hst
      have HFI := Lib.hid (And.intro hmat (And.intro hbel hshu))
      have HRS := Lib.hid hres
      clear hst hres hmat hbel hshu
      go_wp2_with (first | refine wpList_load_run rfl 36 (.tmp 4) rfl (some ⟨w.heap.size, 0, none⟩) rfl (.agg (mC (M.put jj (z : Int)) P C)) HLD.out ?_ | refine wpList_store_run rfl 36 (.tmp 8) (.tmp 52) rfl (some ⟨w.heap.size + 2, 0, none⟩) rfl (.agg (mC (M.put jj (z : Int)) P C)) rfl HST.out ?_)
      obtain ⟨y0, y1, y2, y3, y4, y5, y6, y7, y8, y9, y10⟩ := mg_block HRS.out
      refine bodyPost_ret (v := .tuple #[.agg (mC (M.put jj (z : Int)) P C), .int .i64 ((at' : Int) + (kk : Int)), .int .i64 (0)]) (by simp [results, Try.results41, go_sem, y0, y1, y2, y3, y4, y5, y6, y7, y8, y9, y10, mC]) rfl ?_
      rw [← HR0.out]
      exact ⟨_, P, C, _, rfl, HFI.out.1, HFI.out.2.1, HFI.out.2.2, fun _ => ⟨rfl, by simp⟩⟩
  · have her' : ((er : Nat) : Int) ≠ 0 := by omega
    have hrd := HRX.out
    rw [if_pos her] at hrd
    have HR5 := Lib.hid hrd
    clear hrd
    obtain ⟨W', hst, hres, hmat, hbel, hshu⟩ := HT.out.t.retS HSB.out
    have HLD := Lib.hid (mr_look HT.out.t.m)
    have HST := Lib.hid hst
    have HFI := Lib.hid (And.intro hmat (And.intro hbel hshu))
    have HRS := Lib.hid hres
    clear hst hres hmat hbel hshu
    go_wp2_with (first | refine wpList_load_run rfl 36 (.tmp 4) rfl (some ⟨w.heap.size, 0, none⟩) rfl (.agg (mC M P C)) HLD.out ?_ | refine wpList_store_run rfl 36 (.tmp 8) (.tmp 25) rfl (some ⟨w.heap.size + 2, 0, none⟩) rfl (.agg (mC M P C)) rfl HST.out ?_)
    obtain ⟨y0, y1, y2, y3, y4, y5, y6, y7, y8, y9, y10⟩ := mg_block HRS.out
    refine bodyPost_ret (v := .tuple #[.agg (mC M P C), .int .i64 ((at' : Int)), .int .i64 ((er : Int))]) (by simp [results, Try.results41, go_sem, y0, y1, y2, y3, y4, y5, y6, y7, y8, y9, y10, mC]) rfl ?_
    rw [← HR5.out]
    exact ⟨_, P, C, _, rfl, HFI.out.1, HFI.out.2.1, HFI.out.2.2, fun h => absurd h her⟩
set_option maxHeartbeats 8000000 in
theorem rfield_two (S : Nat → Prop) (M : Mg) (f : Fd) (P C : Value) (A : Option Addr) (len cap : Nat) (l : List Int) (at' : Nat) (w : World) (hf : FdX f) (hso : f.so = 2) (hlen : l.length = len) (hll : len ≤ 1000000) (hby : Bys l) (hA : Nums .u8 w w.heap.size A l) (hat : at' ≤ len) (h1 : MAt w w.heap.size M P C) (hsh : Shun S w M P C) :
    Calls Try.prog 41 #[mV M P C, f.v, .slice A len cap, .int .i64 (at' : Int)] w fun e w' => RdS S w (rdF M f (l.drop at')) at' e w' := by
  obtain ⟨w2, hw2⟩ : ∃ w2, ((w.alloc (.cells (mC M P C) 36)).alloc (.cells f.cs 46)).alloc (.cells #[.int .i64 0, .int .i64 0, .int .i64 0, .int .i64 0, .int .i64 0, .int .i64 0, .int .i64 0, .slice none 0 0, .slice none 0 0, .string ⟨#[]⟩, .string ⟨#[]⟩] 36) = w2 := ⟨_, rfl⟩
  have hT : FldM w M f w2 P C := by rw [← hw2]; exact FldM.start h1
  have K := rget_len w.heap.size A len cap l (at' : Int) w2 hlen (by omega) (by omega) (by omega) hby (hA.below hT.t.b)
  rw [Int.toNat_natCast] at K
  have hle := Vi.get_le (l.drop at')
  obtain ⟨rx, hrx⟩ : ∃ rx, rdF M f (l.drop at') = rx := ⟨_, rfl⟩
  rw [hrx]
  unfold rdF at hrx
  rw [if_neg (show ¬ f.so = 1 by omega), if_pos hso] at hrx
  obtain ⟨⟨z, kk, er⟩, hg⟩ : ∃ g, Vi.get (l.drop at') = g := ⟨_, rfl⟩
  rw [hg] at K hle hrx
  simp only at hle hrx
  unfold RGetR at K
  simp only at K
  obtain ⟨jj, hj6, hjj⟩ := hf.pl (by omega)
  rw [hjj, Int.toNat_natCast] at hrx
  have hz6 : (jj : Int) < 6 := by omega
  obtain ⟨d0, d1, d2, d3, d4, -, -⟩ := fd_block hT.f
  rw [hso] at d1
  rw [hjj] at d2
  have hlf := hf.le
  have HW2 := Lib.hid hw2
  have HT := Lib.hid hT
  have HSB : Hid (Shun S w2 M P C) := Lib.hid (hsh.later hT.t.b)
  clear hsh
  have HRX := Lib.hid hrx
  have HD := Lib.hid (And.intro d1 (And.intro d2 (And.intro d3 d4)))
  have K := Lib.hid K
  obtain ⟨X0, hX0⟩ : ∃ X0, f.cs = X0 := ⟨_, rfl⟩
  rw [hX0] at HW2
  unfold mV Fd.v
  rw [hX0]
  clear hX0 hw2 hT hg hrx hA hby hlen h1 d0 d1 d2 d3 d4
  go_enter Try.func41, Try.ntmps41
  go_wp2_with fail
  rw [HW2.out]
  refine K.out.mono ?_
  rintro e w3 ⟨rfl, rfl⟩
  clear K
  by_cases her : er = 0
  · subst her
    have hrd := HRX.out
    simp only [ne_eq, not_true_eq_false, if_false] at hrd
    obtain ⟨d1, d2, -, -⟩ := HD.out
    have KZ := Lib.hid (rzag_any (z : Int) w2 (by omega) (by omega))
    clear HRX
    go_wp2_with fail
    refine KZ.out.mono ?_
    rintro e w3 ⟨rfl, rfl⟩
    clear KZ
    obtain ⟨d, hd⟩ : ∃ d, zagZ (z : Int) = d := ⟨_, rfl⟩
    rw [hd] at hrd ⊢
    have HDD := Lib.hid hd
    have hdb : -9223372036854775808 ≤ d ∧ d ≤ 9223372036854775807 := by
      rw [← hd]
      unfold zagZ
      split <;> omega
    clear hd
    have KF := Lib.hid (rfar_any d w2)
    go_wp2_with fail
    refine KF.out.mono ?_
    rintro e w3 ⟨rfl, rfl⟩
    clear KF
    by_cases hb : d < -1000000 ∨ 1000000 < d
    · rw [if_pos hb] at hrd
      rw [decide_eq_true hb]
      have HR5 := Lib.hid hrd
      clear hrd
      obtain ⟨W', hst, hres, hmat, hbel, hshu⟩ := HT.out.t.retS HSB.out
      have HLD := Lib.hid (mr_look HT.out.t.m)
      have HST := Lib.hid hst
      have HFI := Lib.hid (And.intro hmat (And.intro hbel hshu))
      have HRS := Lib.hid hres
      clear hst hres hmat hbel hshu
      go_wp2_with (first | refine wpList_load_run rfl 36 (.tmp 4) rfl (some ⟨w.heap.size, 0, none⟩) rfl (.agg (mC M P C)) HLD.out ?_ | refine wpList_store_run rfl 36 (.tmp 8) (.tmp 59) rfl (some ⟨w.heap.size + 2, 0, none⟩) rfl (.agg (mC M P C)) rfl HST.out ?_)
      obtain ⟨y0, y1, y2, y3, y4, y5, y6, y7, y8, y9, y10⟩ := mg_block HRS.out
      refine bodyPost_ret (v := .tuple #[.agg (mC M P C), .int .i64 ((at' : Int)), .int .i64 (5)]) (by simp [results, Try.results41, go_sem, y0, y1, y2, y3, y4, y5, y6, y7, y8, y9, y10, mC]) rfl ?_
      rw [← HR5.out]
      exact ⟨_, P, C, _, rfl, HFI.out.1, HFI.out.2.1, HFI.out.2.2, fun h => by simp at h⟩
    · rw [if_neg hb] at hrd
      rw [decide_eq_false hb]
      have HR0 := Lib.hid hrd
      clear hrd
      go_wp2_with fail
      have KC : ∀ W, Calls Try.prog 73 #[.int .u64 (z : Int)] W fun e w'' => e = .returned (.int .i64 d) ∧ Below W.heap.size W w'' := fun W => by
        refine (rzag_any (z : Int) W (by omega) (by omega)).mono fun e w'' h => ?_
        rw [HDD.out] at h
        exact ⟨h.1, by rw [← h.2]; exact Below.refl _ _⟩
      refine wp_region_FS 156 6 8 [] (fun _ _ _ => True) (fun W => Below w2.heap.size w2 W) (fun _ W W' => W' = W.setCell ⟨w.heap.size, 1 + jj, none⟩ (.int .i64 d)) (by kernel_rfl) (by kernel_rfl) (by rfl) (by kernel_rfl) (by rfl) (by simp) (fun W W' h hb => h.trans (hb.mono h.size)) (fun _ _ _ _ _ _ => trivial) (Below.refl _ _).drew ?_
      refine wpFS_step (wpF_pure rfl rfl ?_); go_big_quiet_step (fail); refine wpQuiet_nil ?_
      refine wpFS_step (wpF_load (.int .i64 (jj : Int)) rfl (by rfl) (by rfl) (by rfl) (fun W hW => by have e := (fd_block (HT.out.later hW).f).2.2.1; rw [hjj] at e; simp [Instr.loadAt, go_sem, e]) ?_)
      simp only [Act.put, List.setIfInBounds_toArray, List.set_cons_succ, List.set_cons_zero]
      refine wpFS_step (wpF_pure rfl rfl ?_); go_big_quiet_step (fail); refine wpQuiet_nil ?_
      refine wpFS_step (wpF_call (f := 73) (args := #[.int .u64 (z : Int)]) (.int .i64 d) rfl (by rfl) (fun W => by first | rfl | (simp [go_sem]; done)) (fun W hW => KC W) ?_)
      simp only [Act.put, List.setIfInBounds_toArray, List.set_cons_succ, List.set_cons_zero]
      refine wpFS_step (wpF_pure rfl rfl ?_); go_big_quiet_step (fail); refine wpQuiet_nil ?_
      refine wpFS_step (wpF_pure rfl rfl ?_); go_big_quiet_step (fail); refine wpQuiet_nil ?_
      refine wpFS_store (t := 3) (x := .tmp 66) (y := .tmp 64) (by rfl) (by rfl) (by rfl) ⟨w.heap.size, 1 + jj, none⟩ (fun _ => .int .i64 d) (fun xs => by simp [fill, Act.eval]) (fun xs => by simp [fill, Act.eval]) (fun xs W hW _ => ⟨_, ?_, rfl⟩) ?_
      · have m9 := (HT.out.later hW).t.m
        have c7 := mg_at m9 hj6
        have z7 := frozen_of_row W w.heap.size (1 + jj) _ _ m9
        simp [Instr.storeAt, go_sem, c7, z7]
      intro xs W w9 hW _ hst
      subst hst
      have HN := Lib.hid ((HT.out.later hW).t.num hj6 d)
      have HSN := Lib.hid ((HSB.out.later hW).num (HT.out.later hW).t jj (1 + jj) d (.int .i64 d))
      simp only [fill]
      simp only [Exit.then]
      obtain ⟨W', hst, hres, hmat, hbel, hshu⟩ := HN.out.retS HSN.out
      have HLD := Lib.hid (mr_look HN.out.m)
      have HST := Lib.hid hst
      have HFI := Lib.hid (And.intro hmat (And.intro hbel hshu))
      have HRS := Lib.hid hres
      clear hst hres hmat hbel hshu
      go_wp2_with (first | refine wpList_load_run rfl 36 (.tmp 4) rfl (some ⟨w.heap.size, 0, none⟩) rfl (.agg (mC (M.put jj d) P C)) HLD.out ?_ | refine wpList_store_run rfl 36 (.tmp 8) (.tmp 67) rfl (some ⟨w.heap.size + 2, 0, none⟩) rfl (.agg (mC (M.put jj d) P C)) rfl HST.out ?_)
      obtain ⟨y0, y1, y2, y3, y4, y5, y6, y7, y8, y9, y10⟩ := mg_block HRS.out
      refine bodyPost_ret (v := .tuple #[.agg (mC (M.put jj d) P C), .int .i64 ((at' : Int) + (kk : Int)), .int .i64 (0)]) (by simp [results, Try.results41, go_sem, y0, y1, y2, y3, y4, y5, y6, y7, y8, y9, y10, mC]) rfl ?_
      rw [← HR0.out]
      exact ⟨_, P, C, _, rfl, HFI.out.1, HFI.out.2.1, HFI.out.2.2, fun _ => ⟨rfl, by simp⟩⟩
  · have her' : ((er : Nat) : Int) ≠ 0 := by omega
    have hrd := HRX.out
    rw [if_pos her] at hrd
    have HR5 := Lib.hid hrd
    clear hrd
    obtain ⟨W', hst, hres, hmat, hbel, hshu⟩ := HT.out.t.retS HSB.out
    have HLD := Lib.hid (mr_look HT.out.t.m)
    have HST := Lib.hid hst
    have HFI := Lib.hid (And.intro hmat (And.intro hbel hshu))
    have HRS := Lib.hid hres
    clear hst hres hmat hbel hshu
    go_wp2_with (first | refine wpList_load_run rfl 36 (.tmp 4) rfl (some ⟨w.heap.size, 0, none⟩) rfl (.agg (mC M P C)) HLD.out ?_ | refine wpList_store_run rfl 36 (.tmp 8) (.tmp 25) rfl (some ⟨w.heap.size + 2, 0, none⟩) rfl (.agg (mC M P C)) rfl HST.out ?_)
    obtain ⟨y0, y1, y2, y3, y4, y5, y6, y7, y8, y9, y10⟩ := mg_block HRS.out
    refine bodyPost_ret (v := .tuple #[.agg (mC M P C), .int .i64 ((at' : Int)), .int .i64 ((er : Int))]) (by simp [results, Try.results41, go_sem, y0, y1, y2, y3, y4, y5, y6, y7, y8, y9, y10, mC]) rfl ?_
    rw [← HR5.out]
    exact ⟨_, P, C, _, rfl, HFI.out.1, HFI.out.2.1, HFI.out.2.2, fun h => absurd h her⟩
end Go.Proofs.Ytmjbimmbphofjaa
