/-
  A part of the texts of one proof, put together: BdyX, Read, ReadRef, Zag, BdyF, MsgH, BdyG, In, Lens, RdA, RdB, RdW, Back, Clos, WordC, Meth, Meths, Q23, BdyR, Q24, BdyS, Q13, BdyH, BdyK.
-/
import Derived.Test.YtlbfibnfmijahaaGreatRows
import Derived.WalkLawsBesides
import Derived.BigQuiet
import Derived.Deep.QuietTactic
import Derived.Deep.LoopGhost
import Derived.Lib.Hide
import Derived.WalkMore
import Derived.WalkSpells
import Derived.Lib.SliceRun
import Derived.Deep.OwnRows
import Derived.Deep.RegionWith
import Derived.RangeFuncNested
import Derived.RangeFuncBound
import Derived.RangeFuncCalls
import Derived.RangeFuncLeaves
import Derived.Shelf.Abstract
import Derived.Shelf.RegionOpen
import Derived.OwnWalkIn
import Derived.TacticsInMore
import Derived.LoopNIn
import Derived.LoopIn
import Derived.RangeFuncBox
import Derived.IntWalk
import Derived.RangeFuncWrites
import Derived.BigRegion
import Derived.ArgAppend
import Derived.Deep.Upon
import Derived.Maps.AppendAt
import Derived.Test.YtlbfibnfmijahaaGreatMPaPacksProof4
namespace Go.Proofs.YtlbfibnfmijahaaGreat
open Go.RowKit Go.Shelf
set_option maxRecDepth 100000
attribute [local go_sem] Oper.semAt_some

theorem bknown_any (v : Int) (w : World) : Calls Tryz.prog 59 #[.int .i64 v] w fun e w' => e = .returned (.bool (decide (v = 1 ∨ v = 2))) ∧ w = w' := by
  by_cases h1 : v = 1
  · rw [decide_eq_true (.inl h1)]
    subst h1
    go_enter Tryz.func59, Tryz.ntmps59
    go_wp2
    go_ret
    exact ⟨rfl, rfl⟩
  · have e1 : (v == 1) = false := by simpa using h1
    by_cases h2 : v = 2
    · rw [decide_eq_true (.inr h2)]
      subst h2
      go_enter Tryz.func59, Tryz.ntmps59
      go_wp2
      go_ret
      exact ⟨rfl, rfl⟩
    · rw [decide_eq_false (by omega)]
      have e2 : (v == 2) = false := by simpa using h2
      go_enter Tryz.func59, Tryz.ntmps59
      go_wp2
      go_ret
      exact ⟨rfl, rfl⟩
/-- why a message has no body in a version -/
def bwr (M : Mg) (v : Int) : Int := if v ≠ 1 ∧ v ≠ 2 then 10 else mck M
theorem bwrong_any (M : Mg) (P C : Value) (v : Int) (w : World) (hs : Msm M) (h1 : MAt w w.heap.size M P C) : Calls Tryz.prog 53 #[mV M P C, .int .i64 v] w fun e w' => e = .returned (.int .i64 (bwr M v)) ∧ Below w.heap.size w w' := by
  obtain ⟨w2, hw2⟩ : ∃ w2, w.alloc (.cells (mC M P C) 26) = w2 := ⟨_, rfl⟩
  have hb2 : Below w.heap.size w w2 := by rw [← hw2]; exact (Below.refl _ w).alloc (Nat.le_refl _) _
  have q0 : w2.heap[w.heap.size]? = some (.cells (mC M P C) 26 (0, 0)) := by rw [← hw2]; exact World.alloc_heap_new _ _
  have KC := mcheck_any M P C w2 hs (h1.later hb2)
  have KK := Lib.hid (bknown_any v w2)
  have HLD := Lib.hid (mg_read q0)
  have HW2 := Lib.hid hw2
  have HB2 := Lib.hid hb2
  have hlt := Nat.le_of_lt (Array.getElem?_eq_some_iff.1 q0).1
  unfold bwr
  unfold mV at KC HLD ⊢
  have KC := Lib.hid KC
  clear hw2 hb2 q0 h1
  by_cases hv : v = 1 ∨ v = 2
  · rw [decide_eq_true hv] at KK
    rw [if_neg (by omega)]
    go_enter Tryz.func53, Tryz.ntmps53
    go_wp2_with fail
    rw [HW2.out]
    refine KK.out.mono ?_
    rintro e w3 ⟨rfl, rfl⟩
    go_wp2_with (refine wpList_load_run rfl 26 (.tmp 2) rfl (some ⟨w.heap.size, 0, none⟩) rfl (.agg (mC M P C)) HLD.out ?_)
    refine KC.out.mono ?_
    rintro e w3 ⟨rfl, hb3⟩
    have HB3 := Lib.hid (HB2.out.trans (hb3.mono hlt))
    clear hb3
    go_wp2
    go_ret
    exact ⟨rfl, HB3.out⟩
  · rw [decide_eq_false hv] at KK
    rw [if_pos (by omega)]
    go_enter Tryz.func53, Tryz.ntmps53
    go_wp2_with fail
    rw [HW2.out]
    refine KK.out.mono ?_
    rintro e w3 ⟨rfl, rfl⟩
    go_wp2
    go_ret
    exact ⟨rfl, HB2.out⟩
theorem PenV.putObj {w4 V : World} {b g0 l : Nat} {L : List Int} {o o' : Obj} (h : PenV w4 b g0 L V) (hl : w4.heap.size ≤ l) (ho : V.heap[l]? = some o) (hc : o.isCells = false) : PenV w4 b g0 L (V.putObj l o') := by
  obtain ⟨g, hp, hg, hof, hk⟩ := h
  have hoff : Off (fun k => k = l) V (V.putObj l o') := ⟨rfl, rfl, rfl, by simp [World.putObj], fun k _ hn => World.putObj_heap_other hn⟩
  have hn : ¬ penS b g l := by
    obtain ⟨A, cap, cur, hb, hkr, -, -, hA⟩ := hp
    rintro (rfl | rfl)
    · rw [hb] at ho
      injection ho with ho
      subst ho
      cases hc
    · rcases hA with ⟨-, rfl⟩ | ⟨rfl, -⟩
      · rw [hb] at ho
        injection ho with ho
        subst ho
        cases hc
      · rw [(hkr.cells rfl).2] at ho
        injection ho with ho
        subst ho
        cases hc
  refine ⟨g, hp.off hoff (fun e => hn (.inl e.symm)) (fun e => hn (.inr e.symm)), hg, hof.trans hoff (fun k hk e => by omega), ⟨Nat.le_trans hk.size hoff.size, fun k cs t h3 h4 h5 => ?_⟩⟩
  have h6 := hk.same k cs t h3 h4 h5
  rw [← h6]
  exact hoff.block k (Array.getElem?_eq_some_iff.1 (h6.trans h5)).1 (by have := (Array.getElem?_eq_some_iff.1 h5).1; omega)
theorem PenK.ket {W W' : World} (h : PenK W W') (lo : Nat) : KeT 87 3 lo W W' := ⟨h.size, fun q cs t _ ht hq => h.same q cs t (by rcases ht with rfl | rfl <;> decide) (by rcases ht with rfl | rfl <;> decide) hq⟩
theorem PenAt.kf {V V' : World} {b g s : Nat} {room : Int} {L : List Int} {full : Bool} (h : PenAt V b g room L full) (ho : Off (penS b g) V V') : KeepsFrom s V V' := ⟨ho.size, fun q o _ hq hc => (ho.block q (Array.getElem?_eq_some_iff.1 hq).1 (by
  obtain ⟨A, cap, cur, hb, hkr, -, -, hA⟩ := h
  rintro (rfl | rfl)
  · rw [hb] at hq
    injection hq with hq
    subst hq
    cases hc
  · rcases hA with ⟨-, rfl⟩ | ⟨rfl, -⟩
    · rw [hb] at hq
      injection hq with hq
      subst hq
      cases hc
    · rw [(hkr.cells rfl).2] at hq
      injection hq with hq
      subst hq
      cases hc)).trans hq⟩
theorem PenV.join {w4 V V' : World} {b g g0 : Nat} {L' : List Int} (hg : g = g0 ∨ w4.heap.size ≤ g) (ho : Off (penS b g0) w4 V) (hk : PenK w4 V) (hw : PenV V b g L' V') : PenV w4 b g0 L' V' := by
  obtain ⟨g', h1, h2, h3, h4⟩ := hw
  have := ho.size
  refine ⟨g', h1, by omega, ho.trans h3 ?_, hk.trans h4⟩
  rintro j hj (rfl | rfl)
  · exact .inl rfl
  · rcases hg with rfl | hg
    · exact .inr rfl
    · omega
theorem PenV.row {w4 V : World} {b g0 q : Nat} {L : List Int} {cs : Array Value} (h : PenV w4 b g0 L V) (hq : w4.heap[q]? = some (.cells cs 3 (0, 0))) : V.heap[q]? = some (.cells cs 3 (0, 0)) := by
  obtain ⟨g, -, -, -, hk⟩ := h
  exact hk.row hq (by decide) (by decide)
theorem part_take {M : Mg} {L : List Fd} {j : Nat} {f : Fd} (hf : L[j]? = some f) : ((L.take (j + 1)).map (mpart M)).flatten = ((L.take j).map (mpart M)).flatten ++ mpart M f := by
  rw [List.take_add_one, hf]
  simp
theorem parts_sub (M : Mg) : ∀ (l : List Fd) (j : Nat), (((l.take j).map (mpart M)).flatten).length ≤ ((l.map (mpart M)).flatten).length
  | [], _ => by simp
  | f :: r, 0 => by simp
  | f :: r, j + 1 => by
    have ih := parts_sub M r j
    rw [List.take_succ_cons, List.map_cons, List.flatten_cons, List.map_cons, List.flatten_cons, List.length_append, List.length_append]
    omega
set_option maxHeartbeats 16000000 in
theorem bencode_any (M : Mg) (P C : Value) (v : Int) (w : World) (hs : Msm M) (h1 : MAt w w.heap.size M P C) : Calls Tryz.prog 36 #[mV M P C, .int .i64 v] w fun e w' => EncR w (benc M v) e w' := by
  obtain ⟨w2, hw2⟩ : ∃ w2, w.alloc (.cells (mC M P C) 26) = w2 := ⟨_, rfl⟩
  have hb2 : Below w.heap.size w w2 := by rw [← hw2]; exact (Below.refl _ w).alloc (Nat.le_refl _) _
  have q0 : w2.heap[w.heap.size]? = some (.cells (mC M P C) 26 (0, 0)) := by rw [← hw2]; exact World.alloc_heap_new _ _
  have KC := bwrong_any M P C v w2 hs (h1.later hb2)
  have HLD := Lib.hid (mg_read q0)
  have HW2 := Lib.hid hw2
  have hlt := Nat.le_of_lt (Array.getElem?_eq_some_iff.1 q0).1
  unfold mV at KC HLD ⊢
  have KC := Lib.hid KC
  by_cases hE : bwr M v = 0
  · have hv : v = 1 ∨ v = 2 := by
      unfold bwr at hE
      by_cases h : v ≠ 1 ∧ v ≠ 2
      · rw [if_pos h] at hE; omega
      · omega
    have hmk : mck M = 0 := by
      unfold bwr at hE
      rwa [if_neg (by omega)] at hE
    have hr : benc M v = (body M v, 0) := by unfold benc; rw [if_neg (by omega), hmk, if_neg (by simp)]
    rw [hr]
    rw [hE] at KC
    have hbl := body_len hv hmk
    have HFE := Lib.hid (show ∀ f ∈ FDv M.k v, FdX f ∧ fE M f = 0 from fun f hf => ⟨FD_fdx M.k f (FDv_sub hf), ((mck_zero M).1 hmk).2.1 f (FDv_sub hf)⟩)
    have HM := Lib.hid h1
    have HB2 := Lib.hid hb2
    have HQ0 := Lib.hid q0
    have HBD : Hid (body M v = ((FDv M.k v).map (mpart M)).flatten) := Lib.hid rfl
    obtain ⟨Bd, hBd⟩ : ∃ Bd, body M v = Bd := ⟨_, rfl⟩
    rw [hBd] at HBD hbl ⊢
    obtain ⟨FL, hFL⟩ : ∃ FL, FDv M.k v = FL := ⟨_, rfl⟩
    rw [hFL] at HFE HBD
    have HFL := Lib.hid hFL
    clear hw2 hb2 q0 h1 hE hr hmk hFL hBd
    refine (callsIn_wide (n := 9)).1 ?_
    refine callsIn_of_wp_marks Tryz.func36 rfl trivial ?_ rfl
    simp only [Tryz.ntmps36, List.size_toArray, List.length_cons, List.length_nil, Nat.reduceAdd, Nat.reduceSub, Array.replicate_succ, Array.replicate_zero, List.push_toArray, List.append_toArray, List.nil_append, List.cons_append]
    gi_wp2_with (rw [HW2.out]; refine wpListIn_load_run rfl 26 (.tmp 2) rfl (some ⟨w.heap.size, 0, none⟩) rfl (.agg (mC M P C)) HLD.out ?_)
    refine ⟨trivial, (callsIn_wide.2 KC.out).mono ?_⟩
    rintro e w3 ⟨rfl, hb3⟩
    have hs3 := hb3.size
    have HB3 := Lib.hid hb3
    clear KC hb3
    gi_wp2_with fail
    refine ⟨trivial, (callsIn_wide.2 (new_any 192 w3 (by omega) (by omega))).mono ?_⟩
    rintro e w4 ⟨rfl, hp4, hb4⟩
    rw [show max (192 : Int) 0 = 192 from rfl] at hp4
    obtain ⟨b, hb⟩ : ∃ b, w3.heap.size = b := ⟨_, rfl⟩
    have hs4 := hb4.size
    have hlt0 := (Array.getElem?_eq_some_iff.1 HQ0.out).1
    have q4 := (hb4.block _ (by omega)).trans ((HB3.out.block _ hlt0).trans HQ0.out)
    rw [hb] at hs4 hs3 hp4 hb4 ⊢
    have hbl4 := hp4.lt
    have c0 := row_cell q4 0 (.int .i64 M.k) rfl
    have hlt4 := (Array.getElem?_eq_some_iff.1 q4).1
    obtain ⟨w5, hw5⟩ : ∃ w5, w4.alloc (.cells #[.pointer (some ⟨b, 0, none⟩)] 112) = w5 := ⟨_, rfl⟩
    have hb5 : Below w4.heap.size w4 w5 := by rw [← hw5]; exact (Below.refl _ w4).alloc (Nat.le_refl _) _
    have r5 : w5.heap[w4.heap.size]? = some (.cells #[.pointer (some ⟨b, 0, none⟩)] 112 (0, 0)) := by rw [← hw5]; exact World.alloc_heap_new _ _
    have hs5 : w4.heap.size < w5.heap.size := by rw [← hw5]; simp
    have HW5 := Lib.hid hw5
    have HP5 := Lib.hid (hp4.below hb5)
    have HQ5 := Lib.hid ((hb5.block _ hlt4).trans q4)
    have HR5 := Lib.hid r5
    have HB05 := Lib.hid (HB2.out.trans ((HB3.out.trans ((hb4.mono (by omega)).trans (hb5.mono (by omega)))).mono hlt))
    clear hw5 hb5 r5 hp4 hb4 q4 hb HB3
    gi_wp2_with fail
    rw [HW5.out]
    refine ⟨trivial, (callsIn_wide.2 (fall_any M.k v w5)).mono ?_⟩
    rintro e w6 ⟨rfl, hg0, hg1, hb6⟩
    have hs6 := (Array.getElem?_eq_some_iff.1 hg1).1
    have hC6 : PenV w6 b b [] w6 := PenV.start (HP5.out.below hb6)
    have m6 := (hb6.block _ (Array.getElem?_eq_some_iff.1 HQ5.out).1).trans HQ5.out
    have r6 := (hb6.block _ (Array.getElem?_eq_some_iff.1 HR5.out).1).trans HR5.out
    have hb06 := HB05.out.trans (hb6.mono (by omega))
    have HM6 := Lib.hid m6
    have HR6 := Lib.hid r6
    have HB06 := Lib.hid hb06
    clear hb6 m6 r6 hb06 c0 HP5 HQ5 HR5 HW5
    gi_wp2_with fail
    refine range_stopb rfl (by omega) (gf := 51) (lb := #[.pointer (some ⟨w5.heap.size, 0, none⟩), .pointer (some ⟨w5.heap.size + 1, 0, none⟩)]) rfl trivial (enters_of Tryz.func51 (by kernel_rfl) rfl)
      (fun f : Fd => #[f.v]) (fun _ => rfl)
      (fun j f V => FL[j]? = some f ∧ PenV w6 b b ((FL.take j).map (mpart M)).flatten V)
      (fun j f q V => (FL[j]? = some f ∧ PenV w6 b b ((FL.take j).map (mpart M)).flatten V) ∧ w6.heap.size ≤ q ∧ V.heap[q]? = some (.cells f.cs 87 (0, 0)))
      (fun j V => PenV w6 b b ((FL.take j).map (mpart M)).flatten V)
      (fun _ _ => False)
      (KeT 87 3 w5.heap.size) FL.length
      (fun j f q V l o o' h hl ho hc' => ⟨⟨h.1.1, h.1.2.putObj hl ho hc'⟩, h.2.1, (World.putObj_heap_other (fun e => by subst e; rw [h.2.2] at ho; injection ho with ho; subst ho; cases hc')).trans h.2.2⟩)
      (fun j V l o o' h hl ho hc' => h.putObj hl ho hc')
      (fun cd V l o o' h hl ho hc' => h)
      (fun _ _ _ h k => h.trans k) (fun V l o o' hl ho hc' => KeT.putObj ho hc')
      (fun o => by rw [List.take_zero]; exact (hC6.later ((Below.refl _ w6).alloc (Nat.le_refl _) _)).later ((Below.refl _ _).alloc (Nat.le_refl _) _)) ?round ?iter ?done ?stop
    case round =>
      rintro l j f V K ⟨hf, hC⟩ hj hK
      have HK := Lib.hid hK
      have hsz := hC.size
      clear hK
      unfold Fd.v Fd.cs
      gi_wp2_with fail
      refine HK.out _ V.heap.size _ ⟨⟨hf, hC.later ((Below.refl _ V).alloc (Nat.le_refl _) _)⟩, hsz, World.alloc_heap_new _ _⟩ ⟨by simp, fun q o _ ho _ => (Below.heap_alloc _ _ _ (Array.getElem?_eq_some_iff.1 ho).1).trans ho⟩ (KeT.of_below ((Below.refl _ V).alloc (Nat.le_refl _) _)) ?_
      clear HK hC
      rintro l V2 hl ⟨⟨_, hC⟩, hq, hc⟩
      obtain ⟨qb, hqb⟩ : ∃ qb, V.heap.size = qb := ⟨_, rfl⟩
      rw [hqb] at hq hc ⊢
      clear hqb
      obtain ⟨g, hp, hg, hof, hk⟩ := hC
      obtain ⟨hfx, hfe⟩ := HFE.out f (List.mem_of_getElem? hf)
      have htk := part_take (M := M) hf
      have hsb := parts_sub M FL (j + 1)
      rw [← HBD.out, htk, List.length_append] at hsb
      have m7 := hk.row HM6.out (by decide) (by decide)
      have r7 := row_cell (hk.row HR6.out (by decide) (by decide)) 0 _ rfl
      have LM := Lib.hid (mg_read m7)
      have LF : Hid ((Instr.loadAt 87 (.pointer (some ⟨qb, 0, none⟩))).run Tryz.prog V2 = .ok f.v V2) := by
        obtain ⟨t0, t1, t2, t3, t4, t5, t6⟩ := fd_block hc
        exact Lib.hid (by simp [Instr.loadAt, go_sem, t0, t1, t2, t3, t4, t5, t6, Fd.v, Fd.cs])
      have hbv : Below w.heap.size w6 V2 := hof.below (fun k hk => by rcases hk with rfl | rfl <;> omega) (by omega)
      have KW := bwrite_any M f P C b g w.heap.size _ V2 hp (HM.out.below (HB06.out.trans hbv)) (by omega) (by omega) hfx hfe (by omega)
      rw [← htk] at KW
      unfold mV at KW LM
      have KW := Lib.hid KW
      have HP := Lib.hid hp
      have HG := Lib.hid hg
      have HOF := Lib.hid hof
      have HKK := Lib.hid hk
      have HHC := Lib.hid hc
      clear hp hg hof hk m7 hbv htk hsb hc hfx hfe hf
      gi_wp2_with (first | refine wpListIn_load_run rfl 26 (.tmp 2) rfl (some ⟨w.heap.size, 0, none⟩) rfl (.agg (mC M P C)) LM.out ?_ | refine wpListIn_load_run rfl 87 (.tmp 8) rfl (some ⟨qb, 0, none⟩) rfl f.v LF.out ?_)
      refine ⟨trivial, ((callsIn_wide.2 KW.out).inRound l).mono ?_⟩
      rintro e V3 ⟨⟨x, rfl⟩, hv3⟩
      have hj2 := hv3.join HG.out HOF.out HKK.out
      obtain ⟨g', -, -, hof3, hk3⟩ := hv3
      have HKF := Lib.hid (HP.out.kf (s := w6.heap.size) hof3)
      have HKE := Lib.hid (hk3.ket w5.heap.size)
      have HJ := Lib.hid hj2
      clear hof3 hk3 hj2 r7 KW
      gi_wp2
      exact ⟨HKF.out, HJ.out, HKE.out⟩
    case iter =>
      intro Bk X l V hBk hBlt hX hl hD hB hY
      have h := fall_in 8 (by omega) 7 l w5.heap.size M.k v (fun j V => PenV w6 b b ((FL.take j).map (mpart M)).flatten V ∧ Bk V) X
        (fun j A B h hb => ⟨h.1.later hb, hBk A _ h.2 hb.size (fun q h1 h2 => by have := hBlt A h.2; exact hb.block q (by omega))⟩)
        (fun j f W h hf => by
          rw [HFL.out] at hf
          exact (hY j f W ⟨hf, h.1⟩ h.2 (List.getElem?_eq_some_iff.1 hf).1).mono (fun e W2 h => h.elim (fun h => .inl ⟨h.1, h.2.1, h.2.2.1⟩) (fun h => .inr ⟨h.1, h.2.1⟩)))
        V (hD.row hg0) (hD.row hg1) ⟨hD, hB⟩
      rw [HFL.out] at h
      exact h
    case done =>
      rintro D V hD hC hK
      rw [List.take_length, ← HBD.out] at hC
      obtain ⟨g, hp, -, hof, hk⟩ := hC
      have r7 := row_cell (hk.row HR6.out (by decide) (by decide)) 0 _ rfl
      have KB := Lib.hid (Bytes_any b g 192 Bd false V hp (by omega))
      have HB0 := Lib.hid (HB06.out.trans (hof.below (B := w.heap.size) (fun k hk => by rcases hk with rfl | rfl <;> omega) (by omega)))
      have HKD := Lib.hid hK
      have hDlt := (Array.getElem?_eq_some_iff.1 hK).1
      clear hp hof hk hK
      gi_wp2_with fail
      refine ⟨trivial, (callsIn_wide.2 KB.out).mono ?_⟩
      rintro e V2 ⟨x, rfl, hm⟩
      have HK2 := Lib.hid ((hm.2.block _ hDlt).trans HKD.out)
      have HM2 : Hid (Made w (V2.putObj D (.deferred none)) Bd x) := Lib.hid ⟨own_offM (S := fun k => k = D) (hm.since HB0.out).1 ⟨rfl, rfl, rfl, by simp [World.putObj], fun k _ hn => World.putObj_heap_other hn⟩ (fun g hg e => by have := (hm.1.lt g hg).1; omega), ((hm.since HB0.out).2).trans (below_put _ _ (by omega))⟩
      clear hm KB HB0 HKD
      gi_wp2
      refine ⟨by simp, .inl ⟨_, _, rfl, run_takeDeferred HK2.out, ?_⟩⟩
      refine ⟨_, ?_, x, rfl, HM2.out⟩
      simp [results, Tryz.f36, go_sem]
    case stop =>
      rintro D cd V hD h hK
      exact h.elim
  · have hr : benc M v = ([], bwr M v) := by
      unfold benc bwr at *
      by_cases h : v ≠ 1 ∧ v ≠ 2
      · rw [if_pos h, if_pos h]
      · rw [if_neg h] at hE ⊢
        rw [if_neg h, if_pos hE]
    rw [hr]
    obtain ⟨E, hEE⟩ : ∃ E, bwr M v = E := ⟨_, rfl⟩
    rw [hEE] at KC hE ⊢
    have e3 : (E != 0) = true := by simpa using hE
    have HB2 := Lib.hid hb2
    clear hw2 hb2 q0 h1 hEE hr
    go_enter Tryz.func36, Tryz.ntmps36
    go_wp2_with (rw [HW2.out]; refine wpList_load_run rfl 26 (.tmp 2) rfl (some ⟨w.heap.size, 0, none⟩) rfl (.agg (mC M P C)) HLD.out ?_)
    refine KC.out.mono ?_
    rintro e w3 ⟨rfl, hb3⟩
    have HB3 := Lib.hid (HB2.out.trans (hb3.mono hlt))
    clear hb3 KC
    go_wp2
    go_ret2
    exact ⟨_, rfl, World.ownsRow_nil _ _ _ _, HB3.out⟩
end Go.Proofs.YtlbfibnfmijahaaGreat

namespace Go.Proofs.YtlbfibnfmijahaaGreat
open Go.RowKit
set_option maxRecDepth 100000

/-- what Get answers -/
def GetR (r : Nat × Nat × Nat) (e : Ending) : Prop := e = .returned (.tuple #[.int .u64 r.1, .int .i64 r.2.1, .int .i64 r.2.2])
theorem GetR.of {r : Nat × Nat × Nat} {a b c : Int} (ha : a = r.1) (hb : b = r.2.1) (hc : c = r.2.2) : GetR r (.returned (.tuple #[.int .u64 a, .int .i64 b, .int .i64 c])) := by
  subst ha hb hc; rfl

theorem split_at {zs p r : List Int} {k : Nat} {c : Int} (hs : zs = p ++ r) (hp : p.length = k) (hc : zs[k]? = some c) : ∃ r', r = c :: r' ∧ zs = (p ++ [c]) ++ r' := by
  subst hs hp
  rw [List.getElem?_append_right (Nat.le_refl _), Nat.sub_self] at hc
  cases r with
  | nil => simp at hc
  | cons d r => simp at hc; subst hc; exact ⟨r, rfl, by simp⟩

/-- the bytes p have come, all of them high -/
def Come (zs : List Int) (k : Nat) (X : Int) : Prop := ∃ p r, zs = p ++ r ∧ p.length = k ∧ (∀ c ∈ p, 128 ≤ c) ∧ X = Vi.val p
theorem come_nil (zs : List Int) : Come zs 0 0 := ⟨[], zs, rfl, rfl, by simp, rfl⟩
theorem come_more {zs : List Int} {k : Nat} {X c : Int} (hz : ∀ c ∈ zs, 0 ≤ c ∧ c ≤ 255) (h : Come zs k X) (hk : k ≤ 8) (hc : zs[k]? = some c) (h1 : 128 ≤ c) : Come zs (k + 1) (bits .or .u64 X (IntKind.u64.wrap (c % 128 * 2 ^ (7 * k)))) := by
  obtain ⟨p, r, hs, hp, ha, rfl⟩ := h
  obtain ⟨r', rfl, hs'⟩ := split_at hs hp hc
  have hv := Vi.val_lt p
  have hcb := hz c (by rw [hs]; simp)
  refine ⟨p ++ [c], r', hs', by simp [hp], ?_, ?_⟩
  · intro d hd
    simp only [List.mem_append, List.mem_singleton] at hd
    rcases hd with hd | rfl
    · exact ha d hd
    · exact h1
  · have hj := Vi.or_join (Vi.val p) (c.toNat % 128) k (by rw [← hp]; exact hv) (by omega) (by omega) (by omega)
    rw [show ((c.toNat % 128 : Nat) : Int) = c % 128 by omega] at hj
    rw [hj, Vi.val_append, hp]
    simp [Vi.val]
/-- the last byte -/
theorem come_last {zs : List Int} {k : Nat} {X c : Int} (hz : ∀ c ∈ zs, 0 ≤ c ∧ c ≤ 255) (h : Come zs k X) (hk : k ≤ 9) (hc : zs[k]? = some c) (h1 : c < 128) (h9 : k = 9 → c ≤ 1) (h0 : k = 0 ∨ c ≠ 0) :
    ((Vi.get zs).1 : Int) = bits .or .u64 X (IntKind.u64.wrap (c % 128 * 2 ^ (7 * k))) ∧ (Vi.get zs).2.1 = k + 1 ∧ (Vi.get zs).2.2 = 0 := by
  obtain ⟨p, r, hs, hp, ha, rfl⟩ := h
  obtain ⟨r', rfl, hs'⟩ := split_at hs hp hc
  have hv := Vi.val_lt p
  have hcb := hz c (by rw [hs]; simp)
  have hj := Vi.or_join (Vi.val p) (c.toNat % 128) k (by rw [← hp]; exact hv) hk (by omega) (by omega)
  rw [show ((c.toNat % 128 : Nat) : Int) = c % 128 by omega] at hj
  have hva : Vi.val (p ++ [c]) = Vi.val p + 128 ^ k * (c.toNat % 128) := by rw [Vi.val_append, hp]; simp [Vi.val]
  have hlt : Vi.val (p ++ [c]) < 18446744073709551616 := by
    by_cases h : k = 9
    · have := h9 h
      subst h
      rw [hp] at hv
      rw [hva]
      have e9 : (128 : Nat) ^ 9 = 9223372036854775808 := by decide
      rw [e9] at hv ⊢
      omega
    · have hv2 := Vi.val_lt (p ++ [c])
      have hle : (p ++ [c]).length ≤ 9 := by simp; omega
      have h9' : 128 ^ (p ++ [c]).length ≤ 128 ^ 9 := Nat.pow_le_pow_right (by decide) hle
      have e9 : (128 : Nat) ^ 9 = 9223372036854775808 := by decide
      omega
  rw [hs, Vi.get_ok ha (by omega) h1 hlt (by omega), hj, hva, hp]
  exact ⟨rfl, rfl, rfl⟩
theorem come_bad {zs : List Int} {k : Nat} {X c : Int} (h : Come zs k X) (hk : k ≤ 9) (hc : zs[k]? = some c) (h1 : c < 128) (hb : (k = 9 ∧ 1 < c) ∨ (0 < k ∧ c = 0)) : Vi.get zs = (0, 0, 3) := by
  obtain ⟨p, r, hs, hp, ha, rfl⟩ := h
  obtain ⟨r', rfl, hs'⟩ := split_at hs hp hc
  rw [hs]
  refine Vi.get_bad ha (by omega) h1 ?_
  rcases hb with ⟨h9, hc1⟩ | ⟨hk0, hc0⟩
  · left
    rw [Vi.val_append, hp, h9]
    have e9 : (128 : Nat) ^ 9 = 9223372036854775808 := by decide
    rw [e9]
    simp only [Vi.val]
    omega
  · exact .inr ⟨by omega, hc0⟩
theorem come_long {zs : List Int} {X c : Int} (h : Come zs 9 X) (hc : zs[9]? = some c) (h1 : 128 ≤ c) : Vi.get zs = (0, 0, 3) := by
  obtain ⟨p, r, hs, hp, ha, rfl⟩ := h
  obtain ⟨r', rfl, hs'⟩ := split_at hs hp hc
  rw [hs']
  refine Vi.get_long ?_ (by simp [hp])
  intro d hd
  simp only [List.mem_append, List.mem_singleton] at hd
  rcases hd with hd | rfl
  · exact ha d hd
  · exact h1
theorem come_end {zs : List Int} {X : Int} {k : Nat} (h : Come zs k X) (hk : k ≤ 9) (hl : k = zs.length) : Vi.get zs = (0, 0, 4) := by
  obtain ⟨p, r, hs, hp, ha, rfl⟩ := h
  have : r = [] := by
    apply List.eq_nil_of_length_eq_zero
    have := congrArg List.length hs
    simp at this; omega
  subst this
  rw [List.append_nil] at hs
  subst hs
  exact Vi.get_end ha (by omega)

set_option maxHeartbeats 400000 in
theorem get_any (B : Nat) (a : Option Addr) (cap : Nat) (zs : List Int) (w : World) (hl : zs.length ≤ 9223372036854775807) (hz : ∀ c ∈ zs, 0 ≤ c ∧ c ≤ 255) (h1 : Nums .u8 w B a zs) :
    Calls Tryz.prog 114 #[.slice a zs.length cap] w fun e w' => GetR (Vi.get zs) e ∧ w = w' := by
  have HZ := Lib.hid hz
  clear hz
  go_enter Tryz.func114, Tryz.ntmps114
  go_wp2
  go_step3
  go_wp2
  go_step3
  go_wp2
  go_loop [5, 6, 7, 12] (fun x l s i => ∃ (k : Nat) (X : Int), k ≤ zs.length ∧ k ≤ 9 ∧ i = .int .i64 k ∧ x = .int .u64 X ∧ l = .int .u8 0 ∧ s = .int .i64 0 ∧ Come zs k X) (fun _ _ _ i => zs.length - (intOf i).toNat)
  case atStart => exact ⟨0, 0, by omega, by omega, rfl, rfl, rfl, rfl, come_nil zs⟩
  case round =>
    obtain ⟨k, X, hk, hk9, rfl, rfl, rfl, rfl, hcome⟩ := hrel
    by_cases hlt : k < zs.length
    · obtain ⟨c, hc⟩ : ∃ c, zs[k]? = some c := ⟨_, List.getElem?_eq_getElem hlt⟩
      obtain ⟨b1, o1, rfl, hb1, hc1⟩ := h1.open hc
      have hcb := HZ.out c (List.mem_of_getElem? hc)
      have HC := Lib.hid hc
      clear h1 hc
      have hlt' : (k : Int) < (zs.length : Int) := by omega
      by_cases h128 : c < 128
      · by_cases hbad : (k = 9 ∧ 1 < c) ∨ (0 < k ∧ c = 0)
        · have HB := Lib.hid (come_bad hcome hk9 HC.out h128 hbad)
          have h00 : ((k : Int) + 1 == 0) = false := by simp; omega
          have h10 : ((k : Int) + 1 == 10) = decide (k = 9) := by rw [Bool.eq_iff_iff]; simp; omega
          rcases hbad with ⟨h9, hc1⟩ | ⟨hk0, hc0⟩
          · have hc0 : (c == 0) = false := by simp; omega
            have h10' : ((k : Int) + 1 == 10) = true := by simp; omega
            have hk1 : 1 < (k : Int) + 1 := by omega
            clear h10 hcome
            have H9 := Lib.hid h9
            clear h9
            go_wp2
            go_ret3
            exact ⟨by rw [HB.out]; exact GetR.of rfl rfl rfl, rfl⟩
          · have hc0' : (c == 0) = true := by simp; omega
            have hk1 : 1 < (k : Int) + 1 := by omega
            have H0 := Lib.hid hc0
            clear h10 hcome hc0
            go_wp2
            go_ret3
            exact ⟨by rw [HB.out]; exact GetR.of rfl rfl rfl, rfl⟩
        · have HO := Lib.hid (come_last HZ.out hcome hk9 HC.out h128 (by omega) (by omega))
          have h00 : ((k : Int) + 1 == 0) = false := by simp; omega
          by_cases hc0 : c = 0
          · have hc0' : (c == 0) = true := by simp; omega
            have hk1 : ¬ 1 < (k : Int) + 1 := by omega
            have h10' : ((k : Int) + 1 == 10) = false := by simp; omega
            have H0 := Lib.hid hc0
            clear hcome hc0 hbad
            go_wp2
            go_ret3
            exact ⟨GetR.of HO.out.1.symm (by rw [HO.out.2.1]; rfl) (by rw [HO.out.2.2]; rfl), rfl⟩
          · have hc0' : (c == 0) = false := by simp; omega
            by_cases h9 : k = 9
            · have h10' : ((k : Int) + 1 == 10) = true := by simp; omega
              have hc1 : ¬ 1 < c := by omega
              have hk1 : 1 < (k : Int) + 1 := by omega
              have H9 := Lib.hid h9
              clear hcome hc0 hbad h9
              go_wp2
              go_ret3
              exact ⟨GetR.of HO.out.1.symm (by rw [HO.out.2.1]; rfl) (by rw [HO.out.2.2]; rfl), rfl⟩
            · have h10' : ((k : Int) + 1 == 10) = false := by simp; omega
              clear hcome hbad
              go_wp2
              all_goals go_ret3
              all_goals exact ⟨GetR.of HO.out.1.symm (by rw [HO.out.2.1]; rfl) (by rw [HO.out.2.2]; rfl), rfl⟩
      · by_cases h9 : k = 9
        · have HB : Hid (Vi.get zs = (0, 0, 3)) := by subst h9; exact come_long hcome HC.out (by omega)
          have h9' : ((k : Int) == 9) = true := by simp; omega
          clear hcome h9
          go_wp2
          go_ret3
          exact ⟨by rw [HB.out]; exact GetR.of rfl rfl rfl, rfl⟩
        · have h9' : ((k : Int) == 9) = false := by simp; omega
          have HM := Lib.hid (come_more HZ.out hcome (by omega) HC.out (by omega))
          clear hcome
          go_wp2
          go_round
          case rel => exact ⟨k + 1, _, by omega, by omega, by go_num, rfl, rfl, rfl, HM.out⟩
          case measure => simp [intOf]; omega
    · have HB := Lib.hid (come_end hcome hk9 (by omega))
      clear hcome
      go_wp2
      go_ret3
      exact ⟨by rw [HB.out]; exact GetR.of rfl rfl rfl, rfl⟩

/-- .. the length under a name of its own -/
theorem get_len (B : Nat) (a : Option Addr) (n cap : Nat) (zs : List Int) (w : World) (hn : zs.length = n) (hl : n ≤ 9223372036854775807) (hz : ∀ c ∈ zs, 0 ≤ c ∧ c ≤ 255) (h1 : Nums .u8 w B a zs) :
    Calls Tryz.prog 114 #[.slice a n cap] w fun e w' => GetR (Vi.get zs) e ∧ w = w' := by
  subst hn; exact get_any B a cap zs w hl hz h1

end Go.Proofs.YtlbfibnfmijahaaGreat

namespace Go.Proofs.YtlbfibnfmijahaaGreat
open Go.RowKit
set_option maxRecDepth 100000

/-- what the document's Get answers: the number, where it ends, the error -/
def RGetR (s : Int) (r : Nat × Nat × Nat) (e : Ending) : Prop := e = .returned (.tuple #[.int .u64 r.1, .int .i64 (s + r.2.1), .int .i64 r.2.2])
theorem RGetR.of {s : Int} {r : Nat × Nat × Nat} {a b c : Int} (ha : a = r.1) (hb : b = s + r.2.1) (hc : c = r.2.2) : RGetR s r (.returned (.tuple #[.int .u64 a, .int .i64 b, .int .i64 c])) := by
  subst ha hb hc; rfl

end Go.Proofs.YtlbfibnfmijahaaGreat

namespace Go.Proofs.YtlbfibnfmijahaaGreat
open Go.RowKit
set_option maxRecDepth 100000

theorem zag_any (n : Int) (w : World) (h0 : 0 ≤ n) (h1 : n ≤ 18446744073709551615) :
    Calls Tryz.prog 115 #[.int .u64 n] w fun e w' => e = .returned (.int .i64 (zagZ n)) ∧ w = w' := by
  by_cases h : n % 2 = 1
  · have ho : (n % 2 == 1) = true := by simp; omega
    rw [show zagZ n = -(n / 2) - 1 by unfold zagZ; rw [if_pos h]]
    clear h
    go_enter Tryz.func115, Tryz.ntmps115
    go_wp2
    go_ret
    exact ⟨ret_int (by omega), rfl⟩
  · have ho : (n % 2 == 1) = false := by simp; omega
    rw [show zagZ n = n / 2 by unfold zagZ; rw [if_neg h]]
    clear h
    go_enter Tryz.func115, Tryz.ntmps115
    go_wp2
    go_ret
    exact ⟨ret_int (by omega), rfl⟩
end Go.Proofs.YtlbfibnfmijahaaGreat

namespace Go.Proofs.YtlbfibnfmijahaaGreat
open Go.RowKit Go.Shelf
set_option maxRecDepth 100000
attribute [local go_sem] Oper.semAt_some

theorem rm_store (w : World) (R : Nat) (old cs : Array Value) (h : w.heap[R]? = some (.cells old 38 (0, 0))) (ho : old.size = 11) (hc : cs.size = 11) (h1 : cs.all (·.oneCell') = true) :
    (Instr.storeAt 38 (.pointer (some ⟨R, 0, none⟩)) (.agg cs)).run Tryz.prog w = .ok () (w.setRow R cs) := by
  simp only [Instr.storeAt, Instr.sureAddr, Sem.run_bind, Sem.run_pure, Result.andThen]
  exact run_storeVar_row w R 38 38 old cs h (by rw [hc]; exact rmInfo) (by omega) h1
/-- numbers that lie in neither of two boxes -/
def NuX (w : World) (b4 b8 : Nat) (a : Option Addr) (zs : List Int) : Prop := zs ≠ [] → ∃ b off, a = some ⟨b, off, none⟩ ∧ b ≠ b4 ∧ b ≠ b8 ∧ ∀ j c, zs[j]? = some c → w.cell? ⟨b, off + j, none⟩ = some (.int .i64 c)
section
variable {w w' : World} {b4 b8 B : Nat} {a : Option Addr} {zs : List Int}
theorem NuX.nums (h : NuX w b4 b8 a zs) : Nums .i64 w w.heap.size a zs := fun hn => by
  obtain ⟨b, off, e, _, _, hc⟩ := h hn
  obtain ⟨z, hz⟩ : ∃ z, zs[0]? = some z := by
    cases zs with
    | nil => exact absurd rfl hn
    | cons x r => exact ⟨x, rfl⟩
  have := block_of_cell (hc 0 z hz)
  exact ⟨b, off, e, this, hc⟩
theorem NuX.keep (h : NuX w b4 b8 a zs) (ho : Off (fun q => q = b4 ∨ q = b8) w w') : NuX w' b4 b8 a zs := fun hn => by
  obtain ⟨b, off, e, h1, h2, hc⟩ := h hn
  exact ⟨b, off, e, h1, h2, fun j c hj => ho.cell (hc j c hj) (by show ¬ (b = b4 ∨ b = b8); omega)⟩
theorem NuX.of (h : Nums .i64 w B a zs) (h4 : B ≤ b4) (h8 : B ≤ b8) : NuX w b4 b8 a zs := fun hn => by
  obtain ⟨b, off, e, hlt, hc⟩ := h hn
  exact ⟨b, off, e, by omega, by omega, hc⟩
theorem NuX.of_own {base T s n : Nat} {v : Value} (h : w.ownsRow base T s v n (zs.map (Value.int .i64))) (hs : 0 < s) (h4 : b4 < base) (h8 : b8 < base) : ∃ a c, v = .slice a n c ∧ n ≤ c ∧ NuX w b4 b8 a zs := by
  obtain ⟨A, c, rfl, hc, hn⟩ := nums_of_own h hs
  refine ⟨A, c, rfl, hc, fun hne => ?_⟩
  obtain ⟨b, off, e, hlt, hcl⟩ := hn hne
  subst e
  rcases h.2 with ⟨e0, _⟩ | ⟨g, cap, cur, e0, hg, _⟩
  · cases e0
  · injection e0 with e0
    injection e0 with e0
    injection e0 with e1 e2
    exact ⟨b, off, rfl, by omega, by omega, hcl⟩
end
/-- a message's box and the result's; its lists lie in neither -/
structure TwoM (w : World) (b4 b8 : Nat) (M : Mg) (W : World) (P C : Value) : Prop where
  m : W.heap[b4]? = some (.cells (mC M P C) 38 (0, 0))
  r : W.heap[b8]? = some (.cells (mC (Mg.zero 0) (.slice none 0 0) (.slice none 0 0)) 38 (0, 0))
  p : ∃ a c, P = .slice a M.p.length c ∧ M.p.length ≤ c ∧ NuX W b4 b8 a (fl2 M.p)
  c : ∃ a c, C = .slice a M.c.length c ∧ M.c.length ≤ c ∧ NuX W b4 b8 a M.c
  b : Below w.heap.size w W
  lo : w.heap.size ≤ b4 ∧ w.heap.size ≤ b8 ∧ b4 ≠ b8
section
variable {w W W' : World} {b4 b8 : Nat} {M : Mg} {P C : Value}
theorem TwoM.later (h : TwoM w b4 b8 M W P C) (hb : Below W.heap.size W W') : TwoM w b4 b8 M W' P C := by
  obtain ⟨⟨a, c, h1, h2, h3⟩, ⟨a', c', h4, h5, h6⟩⟩ := And.intro h.p h.c
  exact ⟨(hb.block _ (Array.getElem?_eq_some_iff.1 h.m).1).trans h.m, (hb.block _ (Array.getElem?_eq_some_iff.1 h.r).1).trans h.r, ⟨a, c, h1, h2, h3.keep (Off.of_below hb)⟩, ⟨a', c', h4, h5, h6.keep (Off.of_below hb)⟩, h.b.trans (hb.mono h.b.size), h.lo⟩
/-- the result is stored, and answered -/
theorem TwoM.ret (h : TwoM w b4 b8 M W P C) : ∃ W', (Instr.storeAt 38 (.pointer (some ⟨b8, 0, none⟩)) (.agg (mC M P C))).run Tryz.prog W = .ok () W' ∧ W'.heap[b8]? = some (.cells (mC M P C) 38 (0, 0)) ∧ MAt W' W'.heap.size M P C ∧ Below w.heap.size w W' := by
  obtain ⟨⟨a, c, rfl, h2, h3⟩, ⟨a', c', rfl, h5, h6⟩⟩ := And.intro h.p h.c
  have hst := rm_store W b8 _ (mC M (.slice a M.p.length c) (.slice a' M.c.length c')) h.r rfl rfl (by simp [mC, Value.oneCell'])
  have hoff := Off.setRow (S := fun q => q = b4 ∨ q = b8) (Off.refl _ W) (.inr rfl) (mC M (.slice a M.p.length c) (.slice a' M.c.length c'))
  have hl := h.lo
  refine ⟨_, hst, setRow_heap W b8 _ _ _ _ h.r, ⟨⟨a, c, rfl, h2, (h3.keep hoff).nums⟩, ⟨a', c', rfl, h5, (h6.keep hoff).nums⟩⟩, ?_⟩
  exact h.b.trans (hoff.below (B := w.heap.size) (fun q hq => by omega) h.b.size)
theorem TwoM.start {w : World} {M : Mg} {P C : Value} (h : MAt w w.heap.size M P C) : TwoM w w.heap.size (w.heap.size + 1) M ((w.alloc (.cells (mC M P C) 38)).alloc (.cells (mC (Mg.zero 0) (.slice none 0 0) (.slice none 0 0)) 38)) P C := by
  have hb : Below w.heap.size w ((w.alloc (.cells (mC M P C) 38)).alloc (.cells (mC (Mg.zero 0) (.slice none 0 0) (.slice none 0 0)) 38)) := ((Below.refl _ w).alloc (Nat.le_refl _) _).alloc (by simp) _
  obtain ⟨⟨a, c, h1, h2, h3⟩, ⟨a', c', h4, h5, h6⟩⟩ := h.below hb
  refine ⟨(Below.heap_alloc _ _ _ (by simp)).trans (World.alloc_heap_new _ _), ?_, ⟨a, c, h1, h2, NuX.of h3 (Nat.le_refl _) (by omega)⟩, ⟨a', c', h4, h5, NuX.of h6 (Nat.le_refl _) (by omega)⟩, hb, ⟨Nat.le_refl _, by omega, by omega⟩⟩
  have := World.alloc_heap_new (w.alloc (.cells (mC M P C) 38)) (.cells (mC (Mg.zero 0) (.slice none 0 0) (.slice none 0 0)) 38)
  rwa [World.size_alloc] at this
end
end Go.Proofs.YtlbfibnfmijahaaGreat

namespace Go.Proofs.YtlbfibnfmijahaaGreat
open Go.RowKit Go.Shelf
set_option maxRecDepth 100000
attribute [local go_sem] Oper.semAt_some

/-- a row of numbers of the call's own, whatever they are -/
def Row (H : Nat) (V : World) (T : TypeId) (s n : Nat) (v : Value) : Prop := ∃ xs : List Int, V.ownsRow H T s v n (xs.map (Value.int .i64))
section
variable {H : Nat} {V V' : World} {T : TypeId} {s n : Nat} {v : Value}
theorem Row.set (h : Row H V T s n v) (b j : Nat) (z : Int) : Row H (V.setCell ⟨b, j, none⟩ (.int .i64 z)) T s n v := by
  obtain ⟨xs, h1, h2⟩ := h
  rcases h2 with ⟨rfl, h0⟩ | ⟨g, cap, cur, rfl, hg, hh, r1, r2, r3, r4⟩
  · exact ⟨xs, h1, .inl ⟨rfl, h0⟩⟩
  · by_cases e : g = b
    · subst e
      refine ⟨xs.set j z, by simpa using h1, .inr ⟨g, cap, _, rfl, hg, setCell_at hh, r1, r2, by simpa using r3, ?_⟩⟩
      rw [Array.toList_setIfInBounds, List.take_set, r4, List.map_set]
    · exact ⟨xs, ownsRow_setCell_other ⟨h1, .inr ⟨g, cap, cur, rfl, hg, hh, r1, r2, r3, r4⟩⟩ (by simp [Value.ownBlock]; exact e) _⟩
theorem Row.later (h : Row H V T s n v) (hb : Below V.heap.size V V') : Row H V' T s n v := by
  obtain ⟨xs, h1, h2⟩ := h
  refine ⟨xs, h1, ?_⟩
  rcases h2 with h2 | ⟨g, cap, cur, hv, hg, hh, r⟩
  · exact .inl h2
  · exact .inr ⟨g, cap, cur, hv, hg, (hb.block g (Array.getElem?_eq_some_iff.1 hh).1).trans hh, r⟩
/-- the block of a row of elements -/
theorem Row.open (h : Row H V T s n v) {i : Nat} (hi : i < n) : ∃ g cap cur, v = .slice (some ⟨g, 0, none⟩) n cap ∧ H ≤ g ∧ V.heap[g]? = some (.cells cur T (0, 0)) ∧ n * s ≤ cur.size := by
  obtain ⟨xs, h1, h2⟩ := h
  rcases h2 with ⟨rfl, h0⟩ | ⟨g, cap, cur, rfl, hg, hh, r1, r2, r3, r4⟩
  · omega
  · exact ⟨g, cap, cur, rfl, hg, hh, by rw [r3]; exact Nat.mul_le_mul_right s r1⟩
theorem Row.slice (h : Row H V T s n v) : ∃ a cap, v = .slice a n cap := by
  obtain ⟨xs, h1, h2⟩ := h
  rcases h2 with ⟨rfl, h0⟩ | ⟨g, cap, cur, rfl, hg, hh, r1, r2, r3, r4⟩
  · exact ⟨none, 0, by rw [h0]⟩
  · exact ⟨_, _, rfl⟩
/-- a row's block is no box -/
theorem Row.not_box (h : Row H V T s n v) {g : Nat} {cs : Array Value} (hb : V.heap[g]? = some (.cells cs 26 (0, 0))) (hT : T ≠ 26) : ∀ q, v.ownBlock = some q → q ≠ g := by
  obtain ⟨xs, h1, h2⟩ := h
  intro q hq e
  subst e
  rcases h2 with ⟨rfl, h0⟩ | ⟨g, cap, cur, rfl, hg, hh, _⟩
  · cases hq
  · injection hq with hq
    subst hq
    rw [hh] at hb
    injection hb with hb
    injection hb with _ hb
    exact hT hb
end
/-- boxes of messages, the rows that hang on them, and what lies below -/
structure ApI (H : Nat) (w5 : World) (Bx : List (Nat × Array Value)) (R : List (TypeId × Nat × Nat × Value)) (V : World) : Prop where
  box : ∀ q ∈ Bx, H ≤ q.1 ∧ V.heap[q.1]? = some (.cells q.2 26 (0, 0))
  row : ∀ q ∈ R, q.1 ≠ 26 ∧ Row H V q.1 q.2.1 q.2.2.1 q.2.2.2
  off : Off (fun k => H ≤ k) w5 V
section
variable {H : Nat} {w5 V V' : World} {Bx : List (Nat × Array Value)} {R : List (TypeId × Nat × Nat × Value)}
theorem ApI.set (h : ApI H w5 Bx R V) {b j : Nat} {cur : Array Value} {T : TypeId} (hb : V.heap[b]? = some (.cells cur T (0, 0))) (hT : T ≠ 26) (hH : H ≤ b) (z : Int) : ApI H w5 Bx R (V.setCell ⟨b, j, none⟩ (.int .i64 z)) := by
  refine ⟨fun q hq => ⟨(h.box q hq).1, ?_⟩, fun q hq => ⟨(h.row q hq).1, (h.row q hq).2.set b j z⟩, h.off.setCell (p := ⟨b, j, none⟩) hH _⟩
  have hq2 := (h.box q hq).2
  refine (Below.heap_setCell V ⟨b, j, none⟩ _ q.1 (fun e => ?_)).trans hq2
  rw [e] at hq2
  rw [hb] at hq2
  injection hq2 with hq2
  injection hq2 with _ hq2
  exact hT hq2
theorem ApI.drew (h : ApI H w5 Bx R V) : ApI H w5 Bx R V.drew := ⟨h.box, h.row, ⟨h.off.os, h.off.tape, h.off.output, h.off.size, h.off.block⟩⟩
theorem ApI.drewN (h : ApI H w5 Bx R V) (n : Nat) : ApI H w5 Bx R (V.drewN n) := ⟨h.box, h.row, ⟨h.off.os, h.off.tape, h.off.output, h.off.size, h.off.block⟩⟩
/-- one element's number is written -/
theorem ApI.store (h : ApI H w5 Bx R V) {T : TypeId} {s n : Nat} {v : Value} (hq : (T, s, n, v) ∈ R) {i d : Nat} (hi : i < n) (hd : d < s) {g cap : Nat} (hv : v = .slice (some ⟨g, 0, none⟩) n cap) (z : Int) :
    (Instr.storeAt 3 (.pointer (some ⟨g, i * s + d, none⟩)) (.int .i64 z)).run Tryz.prog V = .ok () (V.setCell ⟨g, i * s + d, none⟩ (.int .i64 z)) ∧ ApI H w5 Bx R (V.setCell ⟨g, i * s + d, none⟩ (.int .i64 z)) := by
  obtain ⟨hT, hr⟩ := h.row _ hq
  dsimp only at hT hr
  obtain ⟨g', cap', cur, e, hg, hh, hn⟩ := hr.open hi
  rw [hv] at e
  injection e with e
  injection e with e
  injection e with e
  subst e
  have hlt : i * s + d < cur.size := by
    have h1 : (i + 1) * s ≤ n * s := Nat.mul_le_mul_right s hi
    rw [Nat.succ_mul] at h1
    omega
  have hc : V.cell? ⟨g, i * s + d, none⟩ = some cur[i * s + d] := row_cell hh _ _ (Array.getElem?_eq_getElem hlt)
  have hz := frozen_of_row V g (i * s + d) _ _ hh
  exact ⟨by simp [Instr.storeAt, go_sem, hc, hz], h.set hh hT hg z⟩
end
/-- a box of a message, whose lists are the call's own -/
def BoxO (H g : Nat) (W : World) : Prop := H ≤ g ∧ ∃ M P C, W.heap[g]? = some (.cells (mC M P C) 26 (0, 0)) ∧ Msm M ∧ MOwn H W M P C
theorem mown_box {H g : Nat} {W : World} {M : Mg} {P C : Value} {cs : Array Value} (h : MOwn H W M P C) (hb : W.heap[g]? = some (.cells cs 26 (0, 0))) (arr : Array Value) : MOwn H (W.setRow g arr) M P C := by
  have hoff := Off.setRow (S := fun k => k = g) (Off.refl _ W) rfl arr
  exact ⟨own_offM h.p hoff (fun q hq e => Row.not_box ⟨_, h.p⟩ hb (by decide) q hq e), own_offM h.c hoff (fun q hq e => Row.not_box ⟨_, h.c⟩ hb (by decide) q hq e)⟩
theorem BoxO.store {H g g' : Nat} {W : World} {M : Mg} {P C : Value} {cs : Array Value} (h : BoxO H g' W) (hb : W.heap[g]? = some (.cells cs 26 (0, 0))) (hs : Msm M) (ho : MOwn H W M P C) : BoxO H g' (W.setRow g (mC M P C)) := by
  obtain ⟨hH, M', P', C', h1, h2, h3⟩ := h
  by_cases e : g' = g
  · subst e
    exact ⟨hH, M, P, C, setRow_heap W _ _ _ _ _ hb, hs, mown_box ho hb _⟩
  · exact ⟨hH, M', P', C', (setRow_other _ _ _ _ e).trans h1, h2, mown_box h3 hb _⟩
end Go.Proofs.YtlbfibnfmijahaaGreat

namespace Go.Proofs.YtlbfibnfmijahaaGreat
open Go.RowKit Go.Shelf
set_option maxRecDepth 100000
attribute [local go_sem] Oper.semAt_some

theorem rdC_step (m : Nat) (a : Int) (l : List Int) : rdC (m + 1) a l = if (rdG a l).1 ≠ 0 then ((rdG a l).1, 0, []) else ((rdC m (rdG a l).2.2 (l.drop (rdG a l).2.1)).1, (rdG a l).2.1 + (rdC m (rdG a l).2.2 (l.drop (rdG a l).2.1)).2.1, (rdG a l).2.2 :: (rdC m (rdG a l).2.2 (l.drop (rdG a l).2.1)).2.2) := rfl

/-- other cells are stored into the message's box -/
theorem TwoM.cells {w W W' : World} {b4 b8 : Nat} {M : Mg} {P C v : Value} {L : List Int} (h : TwoM w b4 b8 M W P C) (hm : MadeK 3 .i64 W W' L v) : ∃ a c, v = .slice a L.length c ∧ TwoM w b4 b8 { M with c := L } (W'.setCell ⟨b4, 8, none⟩ v) P v := by
  have h4 := (Array.getElem?_eq_some_iff.1 h.m).1
  have h8 := (Array.getElem?_eq_some_iff.1 h.r).1
  have hl := h.later hm.2
  obtain ⟨a, c, rfl, hc, hn⟩ := NuX.of_own hm.1 (by omega) h4 h8
  have hlo := h.lo
  have hoff : Off (fun q => q = b4 ∨ q = b8) W' (W'.setCell ⟨b4, 8, none⟩ (.slice a L.length c)) := Off.setCell (S := fun q => q = b4 ∨ q = b8) (p := ⟨b4, 8, none⟩) (Off.refl _ W') (.inl rfl) _
  have hof2 : Off (fun q => q = b4) W' (W'.setCell ⟨b4, 8, none⟩ (.slice a L.length c)) := Off.setCell (S := fun q => q = b4) (p := ⟨b4, 8, none⟩) (Off.refl _ W') rfl _
  obtain ⟨pa, pc, h1, h2, h3⟩ := hl.p
  refine ⟨a, c, rfl, by rw [setCell_at hl.m]; rfl, (hof2.block _ (Array.getElem?_eq_some_iff.1 hl.r).1 (by omega)).trans hl.r, ⟨pa, pc, h1, h2, h3.keep hoff⟩, ⟨a, c, rfl, hc, hn.keep hoff⟩, ?_, hlo⟩
  exact hl.b.trans (hoff.below (B := w.heap.size) (fun q hq => by omega) hl.b.size)
/-- numbers that lie in no message's box -/
def NoM (W : World) (a : Option Addr) (zs : List Int) : Prop := zs ≠ [] → ∃ b off cs t, a = some ⟨b, off, none⟩ ∧ W.heap[b]? = some (.cells cs t (0, 0)) ∧ t ≠ 38
theorem NoM.below {W W' : World} {A : Option Addr} {zs : List Int} (h : NoM W A zs) (hb : Below W.heap.size W W') : NoM W' A zs := fun hn => by
  obtain ⟨g, off, cs, t, e, hh, ht⟩ := h hn
  exact ⟨g, off, cs, t, e, (hb.block _ (Array.getElem?_eq_some_iff.1 hh).1).trans hh, ht⟩
theorem NoM.aside {W W' : World} {b4 b8 : Nat} {A : Option Addr} {zs : List Int} (h : NoM W A zs) (h2 : NuX W b4 b8 A zs) (ho : Off (fun q => q = b4 ∨ q = b8) W W') : NoM W' A zs := fun hn => by
  obtain ⟨g, off, cs, t, e, hh, ht⟩ := h hn
  obtain ⟨g', off', e', h3, h4, -⟩ := h2 hn
  rw [e] at e'
  injection e' with e'
  injection e' with e1 e2
  subst e1
  exact ⟨g, off, cs, t, e, (ho.block _ (Array.getElem?_eq_some_iff.1 hh).1 (by omega)).trans hh, ht⟩
theorem NoM.of_own {W : World} {base T s n : Nat} {v : Value} {zs : List Int} (h : W.ownsRow base T s v n (zs.map (Value.int .i64))) (ht : T ≠ 38) : ∀ a m c, v = .slice a m c → NoM W a zs := fun a m c e hn => by
  rcases h.2 with ⟨_, h0⟩ | ⟨g, cap, cur, rfl, -, hh, -⟩
  · have := h.1
    rw [h0, Nat.zero_mul, List.length_map] at this
    exact absurd (List.eq_nil_of_length_eq_zero this) hn
  · injection e with e
    exact ⟨g, 0, cur, T, e.symm, hh, ht⟩
/-- a message's lists lie in no block of S, and in no message's box -/
def Shun (S : Nat → Prop) (W : World) (M : Mg) (P C : Value) : Prop := (∀ x, S x → (∀ a n c, P = .slice a n c → NuX W x x a (fl2 M.p)) ∧ (∀ a n c, C = .slice a n c → NuX W x x a M.c)) ∧ (∀ a n c, P = .slice a n c → NoM W a (fl2 M.p)) ∧ (∀ a n c, C = .slice a n c → NoM W a M.c)
theorem Shun.later {S : Nat → Prop} {W W' : World} {M : Mg} {P C : Value} (h : Shun S W M P C) (hb : Below W.heap.size W W') : Shun S W' M P C :=
  ⟨fun x hx => ⟨fun a n c e => ((h.1 x hx).1 a n c e).keep (Off.of_below hb), fun a n c e => ((h.1 x hx).2 a n c e).keep (Off.of_below hb)⟩, fun a n c e => (h.2.1 a n c e).below hb, fun a n c e => (h.2.2 a n c e).below hb⟩
section
variable {S : Nat → Prop} {w W W' : World} {b4 b8 : Nat} {M : Mg} {P C : Value}
theorem NuX.aside {x : Nat} {A : Option Addr} {zs : List Int} (h : NuX W x x A zs) (h2 : NuX W b4 b8 A zs) (ho : Off (fun q => q = b4 ∨ q = b8) W W') : NuX W' x x A zs := fun hn => by
  obtain ⟨g, off, e, h1, -, hc⟩ := h hn
  obtain ⟨g', off', e', h3, h4, -⟩ := h2 hn
  rw [e] at e'
  injection e' with e'
  injection e' with e1 e2
  subst e1
  exact ⟨g, off, e, h1, h1, fun j c hj => ho.cell (hc j c hj) (by show ¬ (g = b4 ∨ g = b8); omega)⟩
theorem Shun.off (h : Shun S W M P C) (t : TwoM w b4 b8 M W P C) (ho : Off (fun q => q = b4 ∨ q = b8) W W') : Shun S W' M P C := by
  obtain ⟨pa, pc, e1, -, n1⟩ := t.p
  obtain ⟨ca, cc, e2, -, n2⟩ := t.c
  refine ⟨fun x hx => ?_, fun a n c e => ?_, fun a n c e => ?_⟩
  · obtain ⟨k1, k2⟩ := h.1 x hx
    exact ⟨fun a n c e => by have := k1 a n c e; rw [e1] at e; injection e with e; subst e; exact this.aside n1 ho, fun a n c e => by have := k2 a n c e; rw [e2] at e; injection e with e; subst e; exact this.aside n2 ho⟩
  · have := h.2.1 a n c e
    rw [e1] at e
    injection e with e
    subst e
    exact this.aside n1 ho
  · have := h.2.2 a n c e
    rw [e2] at e
    injection e with e
    subst e
    exact this.aside n2 ho
end
/-- other cells: no block of S either -/
theorem Shun.cells {S : Nat → Prop} {w W W' : World} {b4 b8 : Nat} {M : Mg} {P C v : Value} {L : List Int} (h : Shun S W M P C) (t : TwoM w b4 b8 M W P C) (hS : ∀ x, S x → x < w.heap.size) (hm : MadeK 3 .i64 W W' L v) : Shun S (W'.setCell ⟨b4, 8, none⟩ v) { M with c := L } P v := by
  have hoff : Off (fun q => q = b4 ∨ q = b8) W' (W'.setCell ⟨b4, 8, none⟩ v) := Off.setCell (S := fun q => q = b4 ∨ q = b8) (p := ⟨b4, 8, none⟩) (Off.refl _ W') (.inl rfl) _
  have hb := t.b.size
  have tl := t.later hm.2
  obtain ⟨pa, pc, e1, -, n1⟩ := tl.p
  obtain ⟨a2, c2, e3, -, n4⟩ := NuX.of_own hm.1 (by omega) (Array.getElem?_eq_some_iff.1 t.m).1 (Array.getElem?_eq_some_iff.1 t.r).1
  refine ⟨fun x hx => ⟨fun a5 n5 c5 e => ?_, fun a5 n5 c5 e => ?_⟩, fun a5 n5 c5 e => ?_, fun a5 n5 c5 e => ?_⟩
  · have := ((h.1 x hx).1 a5 n5 c5 e).keep (Off.of_below hm.2)
    rw [e1] at e
    injection e with e
    subst e
    exact this.aside n1 hoff
  · have hlt := hS x hx
    obtain ⟨a, c, e4, -, n3⟩ := NuX.of_own hm.1 (by omega) (b4 := x) (b8 := x) (by omega) (by omega)
    rw [e3] at e4
    injection e4 with e4
    subst e4
    rw [e3] at e
    injection e with e
    subst e
    exact n3.aside n4 hoff
  · have := (h.2.1 a5 n5 c5 e).below hm.2
    rw [e1] at e
    injection e with e
    subst e
    exact this.aside n1 hoff
  · have := NoM.of_own hm.1 (by decide) a5 n5 c5 e
    rw [e3] at e
    injection e with e
    subst e
    exact this.aside n4 hoff
end Go.Proofs.YtlbfibnfmijahaaGreat

namespace Go.Proofs.YtlbfibnfmijahaaGreat
open Go.RowKit

/-- the numbers zs lie at a, in a block from lo on, below hi -/
def NumsIn (k : IntKind) (w : World) (lo hi : Nat) (a : Option Addr) (zs : List Int) : Prop :=
  zs ≠ [] → ∃ b off, a = some ⟨b, off, none⟩ ∧ lo ≤ b ∧ b < hi ∧ ∀ j c, zs[j]? = some c → w.cell? ⟨b, off + j, none⟩ = some (.int k c)
/-- the blocks from lo on, below hi, are as they were -/
def Keeps (lo hi : Nat) (W W' : World) : Prop := W.heap.size ≤ W'.heap.size ∧ ∀ k, lo ≤ k → k < hi → W'.heap[k]? = W.heap[k]?
theorem Keeps.refl (lo hi : Nat) (W : World) : Keeps lo hi W W := ⟨Nat.le_refl _, fun _ _ _ => rfl⟩
theorem Keeps.trans {lo hi : Nat} {A B C : World} (h : Keeps lo hi A B) (k : Keeps lo hi B C) : Keeps lo hi A C := ⟨Nat.le_trans h.1 k.1, fun i h1 h2 => (k.2 i h1 h2).trans (h.2 i h1 h2)⟩
theorem Keeps.of_below {lo hi : Nat} {A B : World} (h : Below hi A B) : Keeps lo hi A B := ⟨h.size, fun k _ h2 => h.block k h2⟩
theorem Keeps.cell {lo hi : Nat} {A B : World} (h : Keeps lo hi A B) {p : Addr} (h1 : lo ≤ p.block) (h2 : p.block < hi) : B.cell? p = A.cell? p := World.cell?_of_block (h.2 p.block h1 h2)
section
variable {k : IntKind} {lo lo' hi hi' : Nat} {A B : World} {a : Option Addr} {zs : List Int}
theorem NumsIn.keeps (h : NumsIn k A lo hi a zs) (hk : Keeps lo hi A B) : NumsIn k B lo hi a zs := fun hn => by
  obtain ⟨b, off, e, h1, h2, hc⟩ := h hn
  exact ⟨b, off, e, h1, h2, fun j c hj => (hk.cell (p := ⟨b, off + j, none⟩) h1 h2).trans (hc j c hj)⟩
theorem NumsIn.nums (h : NumsIn k A lo hi a zs) : Nums k A hi a zs := fun hn => by
  obtain ⟨b, off, e, _, h2, hc⟩ := h hn
  exact ⟨b, off, e, h2, hc⟩
theorem NumsIn.mono (h : NumsIn k A lo hi a zs) (hh : hi ≤ hi') : NumsIn k A lo hi' a zs := fun hn => by
  obtain ⟨b, off, e, h1, h2, hc⟩ := h hn
  exact ⟨b, off, e, h1, by omega, hc⟩
theorem NumsIn.lower (h : NumsIn k A lo hi a zs) (hh : lo' ≤ lo) : NumsIn k A lo' hi a zs := fun hn => by
  obtain ⟨b, off, e, h1, h2, hc⟩ := h hn
  exact ⟨b, off, e, by omega, h2, hc⟩
end
theorem MadeK.numsIn {e : TypeId} {k : IntKind} {w w1 : World} {L : List Int} {A : Option Addr} {c : Nat} (h : MadeK e k w w1 L (.slice A L.length c)) : NumsIn k w1 w.heap.size w1.heap.size A L := fun hn => by
  obtain ⟨b, off, rfl, hb, hc⟩ := Nums.of_own h.1 hn
  exact ⟨b, off, rfl, (h.own_ge (g := b) rfl).1, hb, hc⟩
theorem MadeK.less {T : TypeId} {k : IntKind} {w w1 w2 : World} {L : List Int} {v : Value} (h : MadeK T k w1 w2 L v) (hb : Below w.heap.size w w1) : MadeK T k w w2 L v := by
  obtain ⟨⟨e, h2⟩, hb2⟩ := h
  refine ⟨⟨e, ?_⟩, hb.trans (hb2.mono hb.size)⟩
  rcases h2 with h0 | ⟨g, cap, cur, q1, q2, q3⟩
  · exact .inl h0
  · exact .inr ⟨g, cap, cur, q1, Nat.le_trans hb.size q2, q3⟩
end Go.Proofs.YtlbfibnfmijahaaGreat

namespace Go.Proofs.YtlbfibnfmijahaaGreat
open Go.RowKit Go.Deep
set_option maxRecDepth 100000

/-- block b is a lens of the bytes zs, at place p, with error e; its bytes lie in a block from lo on, below b -/
def LensAt (w : World) (lo b : Nat) (zs : List Int) (p e : Nat) : Prop :=
  ∃ A cap, w.heap[b]? = some (.cells #[.slice A zs.length cap, .int .i64 p, .int .i64 e] 145 (0, 0)) ∧ NumsIn .u8 w lo b A zs ∧ zs.length ≤ cap ∧ p ≤ zs.length ∧ lo ≤ b
section
variable {w w' : World} {lo b : Nat} {zs : List Int} {p e p' e' : Nat}
theorem LensAt.lt (h : LensAt w lo b zs p e) : b < w.heap.size := by
  obtain ⟨A, cap, hb, _⟩ := h
  exact (Array.getElem?_eq_some_iff.1 hb).1
theorem LensAt.lo_le (h : LensAt w lo b zs p e) : lo ≤ b := by
  obtain ⟨A, cap, _, _, _, _, h⟩ := h
  exact h
theorem LensAt.place (h : LensAt w lo b zs p e) : p ≤ zs.length := by
  obtain ⟨A, cap, _, _, _, h, _⟩ := h
  exact h
theorem LensAt.keeps (h : LensAt w lo b zs p e) (hk : Keeps lo (b + 1) w w') : LensAt w' lo b zs p e := by
  obtain ⟨A, cap, hb, hn, h1, h2, h3⟩ := h
  exact ⟨A, cap, (hk.2 b h3 (Nat.lt_succ_self b)).trans hb, hn.keeps ⟨hk.1, fun k h4 h5 => hk.2 k h4 (by omega)⟩, h1, h2, h3⟩
theorem LensAt.below (h : LensAt w lo b zs p e) (hb : Below w.heap.size w w') : LensAt w' lo b zs p e := by
  have hl := h.lt
  exact h.keeps ⟨hb.size, fun k _ h2 => hb.block k (by omega)⟩
theorem LensAt.off {S : Nat → Prop} (h : LensAt w lo b zs p e) (hf : Off S w w') (hS : ∀ k, lo ≤ k → k ≤ b → ¬ S k) : LensAt w' lo b zs p e := by
  have hl := h.lt
  exact h.keeps ⟨hf.size, fun k h1 h2 => hf.block k (by omega) (hS k h1 (by omega))⟩
theorem LensAt.open (h : LensAt w lo b zs p e) : ∃ A cap, w.heap[b]? = some (.cells #[.slice A zs.length cap, .int .i64 p, .int .i64 e] 145 (0, 0)) ∧ w.cell? ⟨b, 0, none⟩ = some (.slice A zs.length cap) ∧ w.cell? ⟨b, 1, none⟩ = some (.int .i64 p) ∧ w.cell? ⟨b, 2, none⟩ = some (.int .i64 e) ∧
    w.frozen? ⟨b, 1, none⟩ = false ∧ w.frozen? ⟨b, 2, none⟩ = false ∧ NumsIn .u8 w lo b A zs ∧ zs.length ≤ cap ∧ p ≤ zs.length ∧ lo ≤ b := by
  obtain ⟨A, cap, hb, hn, h1, h2, h3⟩ := h
  exact ⟨A, cap, hb, by simp [World.cell?, hb], by simp [World.cell?, hb], by simp [World.cell?, hb], by simp [World.frozen?, hb], by simp [World.frozen?, hb], hn, h1, h2, h3⟩
/-- its place moves -/
theorem LensAt.move (h : LensAt w lo b zs p e) (hp : p' ≤ zs.length) : LensAt (w.setCell ⟨b, 1, none⟩ (.int .i64 p')) lo b zs p' e := by
  obtain ⟨A, cap, hb, hn, h1, h2, h3⟩ := h
  refine ⟨A, cap, by rw [setCell_at hb]; simp, hn.keeps ⟨by simp [World.setCell], fun k h4 h5 => Below.heap_setCell _ _ _ _ (by simp; omega)⟩, h1, hp, h3⟩
/-- it has an error -/
theorem LensAt.fail (h : LensAt w lo b zs p e) (e' : Nat) : LensAt (w.setCell ⟨b, 2, none⟩ (.int .i64 e')) lo b zs p e' := by
  obtain ⟨A, cap, hb, hn, h1, h2, h3⟩ := h
  refine ⟨A, cap, by rw [setCell_at hb]; simp, hn.keeps ⟨by simp [World.setCell], fun k h4 h5 => Below.heap_setCell _ _ _ _ (by simp; omega)⟩, h1, h2, h3⟩
end

/-- slices.Clone of bytes -/
theorem cloneK_any (a : Option Addr) (n cap : Nat) (zs : List Int) (w : World) (hn : zs.length = n) (hl : n ≤ 1000000000) (h1 : Nums .u8 w w.heap.size a zs) :
    Calls Tryz.prog 75 #[.slice a n cap] w fun e w' => ∃ v, e = .returned v ∧ MadeK 5 .u8 w w' zs v := by
  subst hn
  obtain ⟨i0, hi, hz0, hz1, hz2⟩ := info_parts byteInfo
  cases a with
  | none =>
    have : zs = [] := by
      apply Classical.byContradiction
      intro hn
      obtain ⟨b, off, e, _⟩ := h1 hn
      cases e
    subst this
    have hq := fun w => Lib.run_eql_slice_nil (P := Tryz.prog) w 49 5 none 0 cap 0 0 Tryz.underlying49
    go_enter Tryz.func75, Tryz.ntmps75
    go_wp2
    go_ret
    exact ⟨_, rfl, MadeK.nil _ _ (Below.refl _ _)⟩
  | some x =>
    have hq := fun w => Lib.run_eql_slice_nil (P := Tryz.prog) w 49 5 (some x) zs.length cap 0 0 Tryz.underlying49
    have hnews : ∀ j u, (zs.map (Value.int .u8))[j]? = some u → (w.alloc (.cells #[] 5)).cell? (x.add j) = some u := by
      intro j u hj
      rw [List.getElem?_map] at hj
      cases hc : zs[j]? with
      | none => rw [hc] at hj; simp at hj
      | some c =>
        rw [hc] at hj
        simp only [Option.map_some, Option.some.injEq] at hj
        subst hj
        obtain ⟨b, off, e, hb, hcell⟩ := h1.open hc
        injection e with e
        subst e
        have := (World.cell?_alloc_lt w (.cells #[] 5) ⟨b, off + j, none⟩ hb).trans hcell
        by_cases h0 : j = 0
        · subst h0; simpa [Addr.add] using this
        · simpa [Addr.add, h0] using this
    have hown : (w.alloc (.cells #[] 5)).ownsRow w.heap.size 5 1 (.slice (some ⟨w.heap.size, 0, none⟩) 0 0) 0 [] :=
      ⟨rfl, .inr ⟨w.heap.size, 0, #[], rfl, Nat.le_refl _, heap_alloc_new w _, Nat.le_refl _, by simp, rfl, rfl⟩⟩
    go_enter Tryz.func75, Tryz.ntmps75
    go_wp2_with (at_builtin; refine wpList_append_own _ rfl (.tmp 5) (.tmp 6) 49 rfl w.heap.size 5 i0 (.int .u8 0) 1 1 Tryz.underlying49 hi hz0 hz1 hz2 rfl (by decide) _ _ _ rfl hown x zs.length cap (zs.map (Value.int .u8)) rfl (by simp) hnews ?_ ?_ ?_ ?_ ?_; (intro u hu; simp at hu; obtain ⟨c, _, rfl⟩ := hu; rfl); (unfold maxLen; omega); omega; (simp); intro v' w1 hown1 hgrow1 _)
    go_ret
    refine ⟨_, rfl, by simpa using hown1, ?_⟩
    exact ((Below.refl w.heap.size w).alloc (Nat.le_refl _) _).grown hgrow1 (by simp) (fun g hk => by have hk : some w.heap.size = some g := hk; injection hk with hk; omega)

theorem lens_new (w w1 : World) (zs : List Int) (A : Option Addr) (c : Nat) (h : MadeK 5 .u8 w w1 zs (.slice A zs.length c)) (hc : zs.length ≤ c) :
    LensAt (w1.alloc (.cells #[.slice A zs.length c, .int .i64 0, .int .i64 0] 145)) w.heap.size w1.heap.size zs 0 0 :=
  ⟨A, c, heap_alloc_new w1 _, h.numsIn.keeps (Keeps.of_below ((Below.refl _ w1).alloc (Nat.le_refl _) _)), hc, Nat.zero_le _, h.2.size⟩
theorem lnew_any (a : Option Addr) (n cap : Nat) (zs : List Int) (w : World) (hn : zs.length = n) (hl : n ≤ 1000000000) (h1 : Nums .u8 w w.heap.size a zs) :
    Calls Tryz.prog 60 #[.slice a n cap] w fun e w' => ∃ b, e = .returned (.pointer (some ⟨b, 0, none⟩)) ∧ LensAt w' w.heap.size b zs 0 0 ∧ Below w.heap.size w w' := by
  subst hn
  have HC := cloneK_any a _ cap zs w rfl hl h1
  clear h1
  go_enter Tryz.func60, Tryz.ntmps60
  go_wp2_with (go_at_call 75; refine HC.mono ?_; rintro e w1 ⟨v, rfl, hm⟩; obtain ⟨A, c, rfl, hc, _⟩ := hm.slice; have HM := Lib.hid hm; clear hm)
  go_ret
  exact ⟨_, rfl, lens_new w w1 zs A c HM.out hc, HM.out.2.alloc HM.out.2.size _⟩

section
variable (lo b : Nat) (zs : List Int) (p e : Nat) (w : World)
theorem lerr_any (h : LensAt w lo b zs p e) : Calls Tryz.prog 86 #[.pointer (some ⟨b, 0, none⟩)] w fun r w' => r = .returned (.int .i64 e) ∧ w = w' := by
  obtain ⟨A, cap, _, c0, c1, c2, _⟩ := h.open
  clear h
  go_enter Tryz.func86, Tryz.ntmps86
  go_wp2
  go_ret
  exact ⟨rfl, rfl⟩
theorem lleft_any (h : LensAt w lo b zs p e) (hl : zs.length ≤ 1000000000) : Calls Tryz.prog 87 #[.pointer (some ⟨b, 0, none⟩)] w fun r w' => r = .returned (.int .i64 ((zs.length : Int) - p)) ∧ ∃ n, w' = w.drewN n := by
  obtain ⟨A, cap, _, c0, c1, c2, _, _, _, _, hp, _⟩ := h.open
  clear h
  go_enter Tryz.func87, Tryz.ntmps87
  go_wp2
  go_quiet (fail)
  go_wp2
  go_ret
  exact ⟨rfl, _, rfl⟩
theorem lend_err (h : LensAt w lo b zs p e) (he : e ≠ 0) : Calls Tryz.prog 62 #[.pointer (some ⟨b, 0, none⟩)] w fun r w' => r = .returned (.int .i64 e) ∧ ∃ n, w' = w.drewN n := by
  have HC := lerr_any lo b zs p e w h
  have h3 : ¬ (e : Int) = 0 := by omega
  have h4 : ((e : Int) != 0) = true := by simp; omega
  clear h
  go_enter Tryz.func62, Tryz.ntmps62
  go_wp2_with (go_at_call 86; refine HC.mono ?_; rintro r w2 ⟨rfl, rfl⟩)
  go_ret
  exact ⟨rfl, 0, rfl⟩
theorem lend_left (h : LensAt w lo b zs p 0) (hl : zs.length ≤ 1000000000) (hp : p < zs.length) : Calls Tryz.prog 62 #[.pointer (some ⟨b, 0, none⟩)] w fun r w' => r = .returned (.int .i64 3) ∧ ∃ n, w' = w.drewN n := by
  have HC := lerr_any lo b zs p 0 w h
  have HL := lleft_any lo b zs p 0 w h hl
  have h3 : 0 < (zs.length : Int) - (p : Int) := by omega
  clear h
  go_enter Tryz.func62, Tryz.ntmps62
  go_wp2_with (first
    | (go_at_call 86; refine HC.mono ?_; rintro r w2 ⟨rfl, rfl⟩)
    | (go_at_call 87; refine HL.mono ?_; rintro r w2 ⟨rfl, n, rfl⟩))
  go_ret
  exact ⟨rfl, n, rfl⟩
theorem lend_ok (h : LensAt w lo b zs p 0) (hl : zs.length ≤ 1000000000) (hp : p = zs.length) : Calls Tryz.prog 62 #[.pointer (some ⟨b, 0, none⟩)] w fun r w' => r = .returned (.int .i64 0) ∧ ∃ n, w' = w.drewN n := by
  have HC := lerr_any lo b zs p 0 w h
  have HL := lleft_any lo b zs p 0 w h hl
  have h3 : ¬ 0 < (zs.length : Int) - (p : Int) := by omega
  clear h
  go_enter Tryz.func62, Tryz.ntmps62
  go_wp2_with (first
    | (go_at_call 86; refine HC.mono ?_; rintro r w2 ⟨rfl, rfl⟩)
    | (go_at_call 87; refine HL.mono ?_; rintro r w2 ⟨rfl, n, rfl⟩))
  go_ret
  exact ⟨rfl, n, rfl⟩
/-- what End tells -/
def endOf (zs : List Int) (p e : Nat) : Nat := if e ≠ 0 then e else if p < zs.length then 3 else 0
theorem lend_any (h : LensAt w lo b zs p e) (hl : zs.length ≤ 1000000000) : Calls Tryz.prog 62 #[.pointer (some ⟨b, 0, none⟩)] w fun r w' => r = .returned (.int .i64 (endOf zs p e : Nat)) ∧ ∃ n, w' = w.drewN n := by
  have hp := h.place
  by_cases he : e = 0
  · subst he
    by_cases hp1 : p < zs.length
    · rw [show endOf zs p 0 = 3 by simp [endOf, hp1]]; exact lend_left lo b zs p w h hl hp1
    · rw [show endOf zs p 0 = 0 by simp [endOf, hp1]]; exact lend_ok lo b zs p w h hl (by omega)
  · rw [show endOf zs p e = e by simp [endOf, he]]; exact lend_err lo b zs p e w h he
end

/-- the first n bytes -/
theorem part_ok (a : Option Addr) (len cap : Nat) (n : Int) (w : World) (h0 : 0 ≤ n) (h1 : n ≤ len) (hc : len ≤ cap) :
    Calls Tryz.prog 120 #[.slice a len cap, .int .i64 n] w fun e w' => e = .returned (.tuple #[.slice a n.toNat n.toNat, .int .i64 0]) ∧ w = w' := by
  have h2 : ¬ (len : Int) < n := by omega
  have h3 : ¬ n < 0 := by omega
  have h4 : n ≤ (cap : Int) := by omega
  go_enter Tryz.func120, Tryz.ntmps120
  go_wp2
  go_ret2
  exact ⟨by simp, rfl⟩
theorem part_more (a : Option Addr) (len cap : Nat) (n : Int) (w : World) (h1 : (len : Int) < n) :
    Calls Tryz.prog 120 #[.slice a len cap, .int .i64 n] w fun e w' => e = .returned (.tuple #[.slice none 0 0, .int .i64 4]) ∧ w = w' := by
  have h3 : ¬ n < 0 := by omega
  go_enter Tryz.func120, Tryz.ntmps120
  go_wp2
  go_ret2
  exact ⟨rfl, rfl⟩
end Go.Proofs.YtlbfibnfmijahaaGreat

namespace Go.Proofs.YtlbfibnfmijahaaGreat
open Go.RowKit
set_option maxRecDepth 100000
section
variable (lo b : Nat) (zs : List Int) (p e : Nat) (w : World)
theorem rdN_err (fv : Value) (h : LensAt w lo b zs p e) (he : e ≠ 0) :
    Calls Tryz.prog 116 #[.pointer (some ⟨b, 0, none⟩), fv] w fun r w' => r = .returned (.int .u64 0) ∧ w = w' := by
  have HE := lerr_any lo b zs p e w h
  have h3 : ¬ (e : Int) = 0 := by omega
  have h4 : ((e : Int) != 0) = true := by simp; omega
  clear h he
  go_enter Tryz.func116, Tryz.ntmps116
  go_wp2_with (go_at_call 86; refine HE.mono ?_; rintro r w2 ⟨rfl, rfl⟩)
  go_ret
  exact ⟨rfl, rfl⟩
theorem rdS_err (fv : Value) (h : LensAt w lo b zs p e) (he : e ≠ 0) :
    Calls Tryz.prog 112 #[.pointer (some ⟨b, 0, none⟩), fv] w fun r w' => r = .returned (.int .i64 0) ∧ w = w' := by
  have HE := lerr_any lo b zs p e w h
  have h3 : ¬ (e : Int) = 0 := by omega
  have h4 : ((e : Int) != 0) = true := by simp; omega
  clear h he
  go_enter Tryz.func112, Tryz.ntmps112
  go_wp2_with (go_at_call 86; refine HE.mono ?_; rintro r w2 ⟨rfl, rfl⟩)
  go_ret
  exact ⟨rfl, rfl⟩
set_option maxHeartbeats 2000000 in
theorem rdN_ok (c0 : Nat) (h : LensAt w lo b zs p 0) (hl : zs.length ≤ 1000000000) (size : Nat) (hs : p + size ≤ zs.length) (K : Value → World → Prop)
    (HC : ∀ n A cap, Nums .u8 (w.drewN n) b A (zs.drop p) → zs.length - p ≤ cap → Calls Tryz.prog 117 #[.slice A (zs.length - p) cap, .pointer (some ⟨c0, 0, none⟩)] (w.drewN n) fun r w' => ∃ v, r = .returned (.tuple #[v, .int .i64 size, .int .i64 0]) ∧ Below w.heap.size w w' ∧ K v w') :
    Calls Tryz.prog 116 #[.pointer (some ⟨b, 0, none⟩), .func (.func 117) #[] #[.pointer (some ⟨c0, 0, none⟩)]] w fun r w' => ∃ v w1, r = .returned v ∧ K v w1 ∧ Below w.heap.size w w1 ∧ w' = w1.setCell ⟨b, 1, none⟩ (.int .i64 (p + size)) := by
  have HE := lerr_any lo b zs p 0 w h
  have HW := Lib.hid h
  obtain ⟨A, cap, hb, c0, c1, c2, f1, f2, hn, hlc, hp, hlo⟩ := h.open
  have hnd := hn.nums.drop (i := p) hlc
  have hsz := h.lt
  have HB : Hid (∀ w1, Below w.heap.size w w1 → w1.cell? ⟨b, 1, none⟩ = some (.int .i64 p) ∧ w1.frozen? ⟨b, 1, none⟩ = false) := fun w1 hb1 => by
    obtain ⟨_, _, _, _, c1, c2, f1, f2, _⟩ := (HW.out.below hb1).open
    exact ⟨c1, f1⟩
  have hp1 : (p : Int) ≤ (zs.length : Int) := by omega
  have hp2 : (zs.length : Int) ≤ (cap : Int) := by omega
  obtain ⟨A', hA'⟩ : ∃ A', (if cap = p then A else Option.map (fun x => x.add p) A) = A' := ⟨_, rfl⟩
  rw [hA'] at hnd
  have HC1 := HC 1 A' (cap - p) (hnd.kept fun _ _ => rfl) (by omega)
  clear h hn HC
  go_enter Tryz.func116, Tryz.ntmps116
  go_wp2_with (go_at_call 86; refine HE.mono ?_; rintro r w2 ⟨rfl, rfl⟩)
  go_region_with (go_at_call 117; refine HC1.mono ?_; rintro r w3 ⟨v, rfl, hb3, hK⟩; obtain ⟨d1, g1⟩ := HB.out _ hb3)
  all_goals go_wp2
  all_goals go_ret
  all_goals exact ⟨_, _, rfl, hK, hb3, rfl⟩
set_option maxHeartbeats 2000000 in
theorem rdN_bad (c0 : Nat) (h : LensAt w lo b zs p 0) (_hl : zs.length ≤ 1000000000) (err : Nat) (he : err ≠ 0) (K : Value → World → Prop)
    (HC : ∀ n A cap, Nums .u8 (w.drewN n) b A (zs.drop p) → zs.length - p ≤ cap → Calls Tryz.prog 117 #[.slice A (zs.length - p) cap, .pointer (some ⟨c0, 0, none⟩)] (w.drewN n) fun r w' => ∃ v s, r = .returned (.tuple #[v, .int .i64 s, .int .i64 err]) ∧ Below w.heap.size w w' ∧ K v w') :
    Calls Tryz.prog 116 #[.pointer (some ⟨b, 0, none⟩), .func (.func 117) #[] #[.pointer (some ⟨c0, 0, none⟩)]] w fun r w' => r = .returned (.int .u64 0) ∧ ∃ v w1, K v w1 ∧ Below w.heap.size w w1 ∧ w' = w1.setCell ⟨b, 2, none⟩ (.int .i64 err) := by
  have HE := lerr_any lo b zs p 0 w h
  have HW := Lib.hid h
  obtain ⟨A, cap, hb, c0, c1, c2, f1, f2, hn, hlc, hp, hlo⟩ := h.open
  have hnd := hn.nums.drop (i := p) hlc
  have hsz := h.lt
  have HB : Hid (∀ w1, Below w.heap.size w w1 → w1.cell? ⟨b, 2, none⟩ = some (.int .i64 (0 : Nat)) ∧ w1.frozen? ⟨b, 2, none⟩ = false) := fun w1 hb1 => by
    obtain ⟨_, _, _, _, c1, c2, f1, f2, _⟩ := (HW.out.below hb1).open
    exact ⟨c2, f2⟩
  have hp1 : (p : Int) ≤ (zs.length : Int) := by omega
  have hp2 : (zs.length : Int) ≤ (cap : Int) := by omega
  obtain ⟨A', hA'⟩ : ∃ A', (if cap = p then A else Option.map (fun x => x.add p) A) = A' := ⟨_, rfl⟩
  rw [hA'] at hnd
  have HC1 := HC 1 A' (cap - p) (hnd.kept fun _ _ => rfl) (by omega)
  have h3 : ¬ (err : Int) = 0 := by omega
  have h4 : ((err : Int) != 0) = true := by simp; omega
  clear h hn HC he
  go_enter Tryz.func116, Tryz.ntmps116
  go_wp2_with (go_at_call 86; refine HE.mono ?_; rintro r w2 ⟨rfl, rfl⟩)
  go_region_with (go_at_call 117; refine HC1.mono ?_; rintro r w3 ⟨v, s, rfl, hb3, hK⟩; obtain ⟨d1, g1⟩ := HB.out _ hb3)
  all_goals go_wp2
  all_goals go_ret
  all_goals exact ⟨rfl, _, _, hK, hb3, rfl⟩
set_option maxHeartbeats 2000000 in
theorem rdS_ok (c0 c1 : Nat) (h : LensAt w lo b zs p 0) (hl : zs.length ≤ 1000000000) (size : Nat) (hs : p + size ≤ zs.length) (K : Value → World → Prop)
    (HC : ∀ n A cap, Nums .u8 (w.drewN n) b A (zs.drop p) → zs.length - p ≤ cap → Calls Tryz.prog 113 #[.slice A (zs.length - p) cap, .pointer (some ⟨c0, 0, none⟩), .pointer (some ⟨c1, 0, none⟩)] (w.drewN n) fun r w' => ∃ v, r = .returned (.tuple #[v, .int .i64 size, .int .i64 0]) ∧ Below w.heap.size w w' ∧ K v w') :
    Calls Tryz.prog 112 #[.pointer (some ⟨b, 0, none⟩), .func (.func 113) #[] #[.pointer (some ⟨c0, 0, none⟩), .pointer (some ⟨c1, 0, none⟩)]] w fun r w' => ∃ v w1, r = .returned v ∧ K v w1 ∧ Below w.heap.size w w1 ∧ w' = w1.setCell ⟨b, 1, none⟩ (.int .i64 (p + size)) := by
  have HE := lerr_any lo b zs p 0 w h
  have HW := Lib.hid h
  obtain ⟨A, cap, hb, c0, c1, c2, f1, f2, hn, hlc, hp, hlo⟩ := h.open
  have hnd := hn.nums.drop (i := p) hlc
  have hsz := h.lt
  have HB : Hid (∀ w1, Below w.heap.size w w1 → w1.cell? ⟨b, 1, none⟩ = some (.int .i64 p) ∧ w1.frozen? ⟨b, 1, none⟩ = false) := fun w1 hb1 => by
    obtain ⟨_, _, _, _, c1, c2, f1, f2, _⟩ := (HW.out.below hb1).open
    exact ⟨c1, f1⟩
  have hp1 : (p : Int) ≤ (zs.length : Int) := by omega
  have hp2 : (zs.length : Int) ≤ (cap : Int) := by omega
  obtain ⟨A', hA'⟩ : ∃ A', (if cap = p then A else Option.map (fun x => x.add p) A) = A' := ⟨_, rfl⟩
  rw [hA'] at hnd
  have HC1 := HC 1 A' (cap - p) (hnd.kept fun _ _ => rfl) (by omega)
  clear h hn HC
  go_enter Tryz.func112, Tryz.ntmps112
  go_wp2_with (go_at_call 86; refine HE.mono ?_; rintro r w2 ⟨rfl, rfl⟩)
  go_region_with (go_at_call 113; refine HC1.mono ?_; rintro r w3 ⟨v, rfl, hb3, hK⟩; obtain ⟨d1, g1⟩ := HB.out _ hb3)
  all_goals go_wp2
  all_goals go_ret
  all_goals exact ⟨_, _, rfl, hK, hb3, rfl⟩
set_option maxHeartbeats 2000000 in
theorem rdS_bad (c0 c1 : Nat) (h : LensAt w lo b zs p 0) (_hl : zs.length ≤ 1000000000) (err : Nat) (he : err ≠ 0) (K : Value → World → Prop)
    (HC : ∀ n A cap, Nums .u8 (w.drewN n) b A (zs.drop p) → zs.length - p ≤ cap → Calls Tryz.prog 113 #[.slice A (zs.length - p) cap, .pointer (some ⟨c0, 0, none⟩), .pointer (some ⟨c1, 0, none⟩)] (w.drewN n) fun r w' => ∃ v s, r = .returned (.tuple #[v, .int .i64 s, .int .i64 err]) ∧ Below w.heap.size w w' ∧ K v w') :
    Calls Tryz.prog 112 #[.pointer (some ⟨b, 0, none⟩), .func (.func 113) #[] #[.pointer (some ⟨c0, 0, none⟩), .pointer (some ⟨c1, 0, none⟩)]] w fun r w' => r = .returned (.int .i64 0) ∧ ∃ v w1, K v w1 ∧ Below w.heap.size w w1 ∧ w' = w1.setCell ⟨b, 2, none⟩ (.int .i64 err) := by
  have HE := lerr_any lo b zs p 0 w h
  have HW := Lib.hid h
  obtain ⟨A, cap, hb, c0, c1, c2, f1, f2, hn, hlc, hp, hlo⟩ := h.open
  have hnd := hn.nums.drop (i := p) hlc
  have hsz := h.lt
  have HB : Hid (∀ w1, Below w.heap.size w w1 → w1.cell? ⟨b, 2, none⟩ = some (.int .i64 (0 : Nat)) ∧ w1.frozen? ⟨b, 2, none⟩ = false) := fun w1 hb1 => by
    obtain ⟨_, _, _, _, c1, c2, f1, f2, _⟩ := (HW.out.below hb1).open
    exact ⟨c2, f2⟩
  have hp1 : (p : Int) ≤ (zs.length : Int) := by omega
  have hp2 : (zs.length : Int) ≤ (cap : Int) := by omega
  obtain ⟨A', hA'⟩ : ∃ A', (if cap = p then A else Option.map (fun x => x.add p) A) = A' := ⟨_, rfl⟩
  rw [hA'] at hnd
  have HC1 := HC 1 A' (cap - p) (hnd.kept fun _ _ => rfl) (by omega)
  have h3 : ¬ (err : Int) = 0 := by omega
  have h4 : ((err : Int) != 0) = true := by simp; omega
  clear h hn HC he
  go_enter Tryz.func112, Tryz.ntmps112
  go_wp2_with (go_at_call 86; refine HE.mono ?_; rintro r w2 ⟨rfl, rfl⟩)
  go_region_with (go_at_call 113; refine HC1.mono ?_; rintro r w3 ⟨v, s, rfl, hb3, hK⟩; obtain ⟨d1, g1⟩ := HB.out _ hb3)
  all_goals go_wp2
  all_goals go_ret
  all_goals exact ⟨rfl, _, _, hK, hb3, rfl⟩
end
end Go.Proofs.YtlbfibnfmijahaaGreat

namespace Go.Proofs.YtlbfibnfmijahaaGreat
open Go.RowKit
set_option maxRecDepth 100000
section
variable (lo b : Nat) (zs : List Int) (p e : Nat) (w : World)
theorem rdR_err (fv : Value) (h : LensAt w lo b zs p e) (he : e ≠ 0) :
    Calls Tryz.prog 118 #[.pointer (some ⟨b, 0, none⟩), fv] w fun r w' => r = .returned (.slice none 0 0) ∧ w = w' := by
  have HE := lerr_any lo b zs p e w h
  have h3 : ¬ (e : Int) = 0 := by omega
  have h4 : ((e : Int) != 0) = true := by simp; omega
  clear h he
  go_enter Tryz.func118, Tryz.ntmps118
  go_wp2_with (go_at_call 86; refine HE.mono ?_; rintro r w2 ⟨rfl, rfl⟩)
  go_ret
  exact ⟨rfl, rfl⟩
set_option maxHeartbeats 2000000 in
theorem rdF_ok (c0 : Nat) (h : LensAt w lo b zs p 0) (hl : zs.length ≤ 1000000000) (size : Nat) (hs : p + size ≤ zs.length) (K : Value → World → Prop)
    (HC : ∀ n A cap, Nums .u8 (w.drewN n) b A (zs.drop p) → zs.length - p ≤ cap → Calls Tryz.prog 119 #[.slice A (zs.length - p) cap, .pointer (some ⟨c0, 0, none⟩)] (w.drewN n) fun r w' => ∃ v, r = .returned (.tuple #[v, .int .i64 size, .int .i64 0]) ∧ Below w.heap.size w w' ∧ K v w') :
    Calls Tryz.prog 118 #[.pointer (some ⟨b, 0, none⟩), .func (.func 119) #[] #[.pointer (some ⟨c0, 0, none⟩)]] w fun r w' => ∃ v w1, r = .returned v ∧ K v w1 ∧ Below w.heap.size w w1 ∧ w' = w1.setCell ⟨b, 1, none⟩ (.int .i64 (p + size)) := by
  have HE := lerr_any lo b zs p 0 w h
  have HW := Lib.hid h
  obtain ⟨A, cap, hb, c0, c1, c2, f1, f2, hn, hlc, hp, hlo⟩ := h.open
  have hnd := hn.nums.drop (i := p) hlc
  have hsz := h.lt
  have HB : Hid (∀ w1, Below w.heap.size w w1 → w1.cell? ⟨b, 1, none⟩ = some (.int .i64 p) ∧ w1.frozen? ⟨b, 1, none⟩ = false) := fun w1 hb1 => by
    obtain ⟨_, _, _, _, c1, c2, f1, f2, _⟩ := (HW.out.below hb1).open
    exact ⟨c1, f1⟩
  have hp1 : (p : Int) ≤ (zs.length : Int) := by omega
  have hp2 : (zs.length : Int) ≤ (cap : Int) := by omega
  obtain ⟨A', hA'⟩ : ∃ A', (if cap = p then A else Option.map (fun x => x.add p) A) = A' := ⟨_, rfl⟩
  rw [hA'] at hnd
  have HC1 := HC 1 A' (cap - p) (hnd.kept fun _ _ => rfl) (by omega)
  clear h hn HC
  go_enter Tryz.func118, Tryz.ntmps118
  go_wp2_with (go_at_call 86; refine HE.mono ?_; rintro r w2 ⟨rfl, rfl⟩)
  go_region_with (go_at_call 119; refine HC1.mono ?_; rintro r w3 ⟨v, rfl, hb3, hK⟩; obtain ⟨d1, g1⟩ := HB.out _ hb3)
  all_goals go_wp2
  all_goals go_ret
  all_goals exact ⟨_, _, rfl, hK, hb3, rfl⟩
set_option maxHeartbeats 2000000 in
theorem rdF_bad (c0 : Nat) (h : LensAt w lo b zs p 0) (_hl : zs.length ≤ 1000000000) (err : Nat) (he : err ≠ 0) (K : Value → World → Prop)
    (HC : ∀ n A cap, Nums .u8 (w.drewN n) b A (zs.drop p) → zs.length - p ≤ cap → Calls Tryz.prog 119 #[.slice A (zs.length - p) cap, .pointer (some ⟨c0, 0, none⟩)] (w.drewN n) fun r w' => ∃ v s, r = .returned (.tuple #[v, .int .i64 s, .int .i64 err]) ∧ Below w.heap.size w w' ∧ K v w') :
    Calls Tryz.prog 118 #[.pointer (some ⟨b, 0, none⟩), .func (.func 119) #[] #[.pointer (some ⟨c0, 0, none⟩)]] w fun r w' => r = .returned (.slice none 0 0) ∧ ∃ v w1, K v w1 ∧ Below w.heap.size w w1 ∧ w' = w1.setCell ⟨b, 2, none⟩ (.int .i64 err) := by
  have HE := lerr_any lo b zs p 0 w h
  have HW := Lib.hid h
  obtain ⟨A, cap, hb, c0, c1, c2, f1, f2, hn, hlc, hp, hlo⟩ := h.open
  have hnd := hn.nums.drop (i := p) hlc
  have hsz := h.lt
  have HB : Hid (∀ w1, Below w.heap.size w w1 → w1.cell? ⟨b, 2, none⟩ = some (.int .i64 (0 : Nat)) ∧ w1.frozen? ⟨b, 2, none⟩ = false) := fun w1 hb1 => by
    obtain ⟨_, _, _, _, c1, c2, f1, f2, _⟩ := (HW.out.below hb1).open
    exact ⟨c2, f2⟩
  have hp1 : (p : Int) ≤ (zs.length : Int) := by omega
  have hp2 : (zs.length : Int) ≤ (cap : Int) := by omega
  obtain ⟨A', hA'⟩ : ∃ A', (if cap = p then A else Option.map (fun x => x.add p) A) = A' := ⟨_, rfl⟩
  rw [hA'] at hnd
  have HC1 := HC 1 A' (cap - p) (hnd.kept fun _ _ => rfl) (by omega)
  have h3 : ¬ (err : Int) = 0 := by omega
  have h4 : ((err : Int) != 0) = true := by simp; omega
  clear h hn HC he
  go_enter Tryz.func118, Tryz.ntmps118
  go_wp2_with (go_at_call 86; refine HE.mono ?_; rintro r w2 ⟨rfl, rfl⟩)
  go_region_with (go_at_call 119; refine HC1.mono ?_; rintro r w3 ⟨v, s, rfl, hb3, hK⟩; obtain ⟨d1, g1⟩ := HB.out _ hb3)
  all_goals go_wp2
  all_goals go_ret
  all_goals exact ⟨rfl, _, _, hK, hb3, rfl⟩
end
end Go.Proofs.YtlbfibnfmijahaaGreat

namespace Go.Proofs.YtlbfibnfmijahaaGreat
open Go.RowKit
set_option maxRecDepth 100000
section
variable (lo b : Nat) (zs : List Int) (p e : Nat) (w : World)
end
end Go.Proofs.YtlbfibnfmijahaaGreat

namespace Go.Proofs.YtlbfibnfmijahaaGreat
open Go.RowKit Go.Shelf
set_option maxRecDepth 100000
attribute [local go_sem] Oper.semAt_some

theorem NumsS.kept {k : IntKind} {S : Nat → Prop} {A B : World} {a : Option Addr} {zs : List Int} (h : NumsS k A S a zs) (hk : KeepS S A B) : NumsS k B S a zs := fun hn => by
  obtain ⟨b, off, e, h1, hc⟩ := h hn
  exact ⟨b, off, e, h1, fun j c hj => (hk.cell (p := ⟨b, off + j, none⟩) h1).trans (hc j c hj)⟩
theorem NumsS.open {k : IntKind} {S : Nat → Prop} {w : World} {a : Option Addr} {zs : List Int} (h : NumsS k w S a zs) {j : Nat} {c : Int} (hj : zs[j]? = some c) : ∃ b off, a = some ⟨b, off, none⟩ ∧ S b ∧ w.cell? ⟨b, off + j, none⟩ = some (.int k c) := by
  obtain ⟨b, off, e, hb, hc⟩ := h (by intro e; subst e; simp at hj)
  exact ⟨b, off, e, hb, hc j c hj⟩
end Go.Proofs.YtlbfibnfmijahaaGreat

namespace Go.Proofs.YtlbfibnfmijahaaGreat
open Go.RowKit
set_option maxRecDepth 100000

/-- what a read's closure hands on: where nothing is wrong, the value and its bytes' number -/
def ClosI (k : IntKind) (x : Int × Nat × Nat) (r : Ending) : Prop :=
  ∃ (v s : Int), r = .returned (.tuple #[.int k v, .int .i64 s, .int .i64 x.2.2]) ∧ (x.2.2 = 0 → v = x.1 ∧ s = x.2.1)
theorem ClosI.bad {k : IntKind} {x : Int × Nat × Nat} {v s : Int} {e : Int} (h : x.2.2 ≠ 0) (he : e = x.2.2) : ClosI k x (.returned (.tuple #[.int k v, .int .i64 s, .int .i64 e])) := by
  subst he; exact ⟨v, s, rfl, fun h0 => absurd h0 h⟩
theorem ClosI.ok {k : IntKind} {x : Int × Nat × Nat} {v s : Int} {e : Int} (hv : v = x.1) (hs : s = x.2.1) (he : e = x.2.2) : ClosI k x (.returned (.tuple #[.int k v, .int .i64 s, .int .i64 e])) := by
  subst he; exact ⟨v, s, rfl, fun _ => ⟨hv, hs⟩⟩

section
variable (B : Nat) (a : Option Addr) (n cap c : Nat) (l : List Int) (w : World)
theorem numc_any (most : Int) (hn : l.length = n) (hl : n ≤ 1000000000) (hz : ∀ x ∈ l, 0 ≤ x ∧ x ≤ 255) (h1 : Nums .u8 w B a l) (hc : w.cell? ⟨c, 0, none⟩ = some (.int .u64 most)) :
    Calls Tryz.prog 117 #[.slice a n cap, .pointer (some ⟨c, 0, none⟩)] w fun r w' => ClosI .u64 (numR l most) r ∧ w = w' := by
  have HG := get_len B a n cap l w hn (by omega) hz h1
  have hle := Vi.get_le l
  clear h1 hz
  by_cases he : (Vi.get l).2.2 = 0
  · have h0 : (((Vi.get l).2.2 : Nat) : Int) = 0 := by omega
    by_cases hm : most < ((Vi.get l).1 : Int)
    · have HR : Hid (numR l most = (0, 0, 5)) := by show _ = _; unfold numR; rw [if_neg (by simp [he]), if_pos hm]
      have h4 : (((Vi.get l).2.2 : Nat) : Int) = 0 := h0
      generalize hr : Vi.get l = r at *
      obtain ⟨r1, r2, r3⟩ := r
      simp only at he hm h0 HG h4 hle
      subst he
      clear hr h0 h4 hle
      go_enter Tryz.func117, Tryz.ntmps117
      go_wp2_with (go_at_call 114; refine HG.mono ?_; rintro e w1 ⟨rfl, rfl⟩)
      go_ret3
      exact ⟨ClosI.bad (by rw [HR.out]; decide) (by rw [HR.out]; rfl), rfl⟩
    · have HR : Hid (numR l most = (((Vi.get l).1 : Int), (Vi.get l).2.1, 0)) := by show _ = _; unfold numR; rw [if_neg (by simp [he]), if_neg hm]
      generalize hr : Vi.get l = r at *
      obtain ⟨r1, r2, r3⟩ := r
      simp only at he hm h0 HG hle HR
      subst he
      clear hr h0 hle
      go_enter Tryz.func117, Tryz.ntmps117
      go_wp2_with (go_at_call 114; refine HG.mono ?_; rintro e w1 ⟨rfl, rfl⟩)
      go_ret3
      exact ⟨by rw [HR.out]; exact ClosI.ok rfl rfl rfl, rfl⟩
  · have HR : Hid (numR l most = (0, 0, (Vi.get l).2.2)) := by show _ = _; unfold numR; rw [if_pos he]
    have h3 : ¬ (((Vi.get l).2.2 : Nat) : Int) = 0 := by omega
    have h4 : ((((Vi.get l).2.2 : Nat) : Int) == 0) = false := by simp; omega
    have HE := Lib.hid he
    clear he hle
    go_enter Tryz.func117, Tryz.ntmps117
    go_wp2_with (go_at_call 114; refine HG.mono ?_; rintro e w1 ⟨rfl, rfl⟩)
    go_ret3
    exact ⟨ClosI.bad (by rw [HR.out]; exact HE.out) (by rw [HR.out]), rfl⟩

theorem sigc_any (c2 : Nat) (least most : Int) (hn : l.length = n) (hl : n ≤ 1000000000) (hz : ∀ x ∈ l, 0 ≤ x ∧ x ≤ 255) (h1 : Nums .u8 w B a l) (hc : w.cell? ⟨c, 0, none⟩ = some (.int .i64 least)) (hc2 : w.cell? ⟨c2, 0, none⟩ = some (.int .i64 most)) :
    Calls Tryz.prog 113 #[.slice a n cap, .pointer (some ⟨c, 0, none⟩), .pointer (some ⟨c2, 0, none⟩)] w fun r w' => ClosI .i64 (sigR l least most) r ∧ w = w' := by
  have HG := get_len B a n cap l w hn (by omega) hz h1
  have hle := Vi.get_le l
  have HZ := zag_any ((Vi.get l).1 : Int) w (by omega) (by omega)
  clear h1 hz
  by_cases he : (Vi.get l).2.2 = 0
  · by_cases hm1 : zagZ ((Vi.get l).1 : Int) < least
    · have HR : Hid (sigR l least most = (0, 0, 5)) := by show _ = _; unfold sigR; rw [if_neg (by simp [he]), if_pos (.inl hm1)]
      generalize hr : Vi.get l = r at *
      obtain ⟨r1, r2, r3⟩ := r
      simp only at he hm1 HG HZ hle
      subst he
      clear hr hle
      generalize zagZ (r1 : Int) = z at *
      go_enter Tryz.func113, Tryz.ntmps113
      go_wp2_with (first
        | (go_at_call 114; refine HG.mono ?_; rintro e w1 ⟨rfl, rfl⟩)
        | (go_at_call 115; refine HZ.mono ?_; rintro e w1 ⟨rfl, rfl⟩))
      go_ret3
      exact ⟨ClosI.bad (by rw [HR.out]; decide) (by rw [HR.out]; rfl), rfl⟩
    · by_cases hm2 : most < zagZ ((Vi.get l).1 : Int)
      · have HR : Hid (sigR l least most = (0, 0, 5)) := by show _ = _; unfold sigR; rw [if_neg (by simp [he]), if_pos (.inr hm2)]
        generalize hr : Vi.get l = r at *
        obtain ⟨r1, r2, r3⟩ := r
        simp only at he hm1 hm2 HG HZ hle
        subst he
        clear hr hle
        generalize zagZ (r1 : Int) = z at *
        go_enter Tryz.func113, Tryz.ntmps113
        go_wp2_with (first
          | (go_at_call 114; refine HG.mono ?_; rintro e w1 ⟨rfl, rfl⟩)
          | (go_at_call 115; refine HZ.mono ?_; rintro e w1 ⟨rfl, rfl⟩))
        go_ret3
        exact ⟨ClosI.bad (by rw [HR.out]; decide) (by rw [HR.out]; rfl), rfl⟩
      · have HR : Hid (sigR l least most = (zagZ ((Vi.get l).1 : Int), (Vi.get l).2.1, 0)) := by show _ = _; unfold sigR; rw [if_neg (by simp [he]), if_neg (by rintro (h | h) <;> omega)]
        generalize hr : Vi.get l = r at *
        obtain ⟨r1, r2, r3⟩ := r
        simp only at he hm1 hm2 HG HZ hle HR
        subst he
        clear hr hle
        generalize zagZ (r1 : Int) = z at *
        go_enter Tryz.func113, Tryz.ntmps113
        go_wp2_with (first
          | (go_at_call 114; refine HG.mono ?_; rintro e w1 ⟨rfl, rfl⟩)
          | (go_at_call 115; refine HZ.mono ?_; rintro e w1 ⟨rfl, rfl⟩))
        go_ret3
        exact ⟨by rw [HR.out]; exact ClosI.ok rfl rfl rfl, rfl⟩
  · have HR : Hid (sigR l least most = (0, 0, (Vi.get l).2.2)) := by show _ = _; unfold sigR; rw [if_pos he]
    have h3 : ¬ (((Vi.get l).2.2 : Nat) : Int) = 0 := by omega
    have h4 : ((((Vi.get l).2.2 : Nat) : Int) == 0) = false := by simp; omega
    have HE := Lib.hid he
    clear he hle
    go_enter Tryz.func113, Tryz.ntmps113
    go_wp2_with (first
      | (go_at_call 114; refine HG.mono ?_; rintro e w1 ⟨rfl, rfl⟩)
      | (go_at_call 115; refine HZ.mono ?_; rintro e w1 ⟨rfl, rfl⟩))
    go_ret3
    exact ⟨ClosI.bad (by rw [HR.out]; exact HE.out) (by rw [HR.out]), rfl⟩

/-- what a closure that makes bytes hands on -/
def ClosB (x : List Int × Nat × Nat) (w : World) (r : Ending) (w' : World) : Prop :=
  ∃ (v : Value) (s : Int), r = .returned (.tuple #[v, .int .i64 s, .int .i64 x.2.2]) ∧ MadeK 5 .u8 w w' x.1 v ∧ (x.2.2 = 0 → s = x.2.1)
theorem ClosB.mk {x : List Int × Nat × Nat} {w w' : World} {v : Value} {s e : Int} (hm : MadeK 5 .u8 w w' x.1 v) (he : e = x.2.2) (hs : x.2.2 = 0 → s = x.2.1) : ClosB x w (.returned (.tuple #[v, .int .i64 s, .int .i64 e])) w' := by
  subst he; exact ⟨v, s, rfl, hm, hs⟩
theorem fldc_any (m : Int) (hn : l.length = n) (hnc : n ≤ cap) (hl : n ≤ 1000000000) (hz : ∀ x ∈ l, 0 ≤ x ∧ x ≤ 255) (hm0 : -9223372036854775808 ≤ m) (hm1 : m ≤ 9223372036854775807) (h1 : Nums .u8 w w.heap.size a l) (hc : w.cell? ⟨c, 0, none⟩ = some (.int .i64 m)) :
    Calls Tryz.prog 119 #[.slice a n cap, .pointer (some ⟨c, 0, none⟩)] w fun r w' => ClosB (fldR l m) w r w' := by
  have HG := get_len _ a n cap l w hn (by omega) hz h1
  have hle := Vi.get_le l
  have HC0 := cloneK_any none 0 0 [] w rfl (by decide) Nums.nil
  by_cases he : (Vi.get l).2.2 = 0
  · obtain ⟨M, hq⟩ : ∃ M : Int, (if m < 0 then (0 : Int) else m) = M := ⟨_, rfl⟩
    have hM : max m 0 = M := by rw [← hq]; split <;> omega
    have hM0 : 0 ≤ M := by omega
    have hM1 : M ≤ 9223372036854775807 := by omega
    by_cases hmany : M < ((Vi.get l).1 : Int)
    · have HR : Hid (fldR l m = ([], 0, 6)) := by show _ = _; unfold fldR; rw [if_neg (by simp [he]), if_pos (by rw [hM]; exact hmany)]
      generalize hr : Vi.get l = r at *
      obtain ⟨r1, r2, r3⟩ := r
      simp only at he hmany HG hle
      subst he
      clear hr h1 hz HC0
      clear hM
      go_enter Tryz.func119, Tryz.ntmps119
      go_wp2_with (go_at_call 114; refine HG.mono ?_; rintro e w1 ⟨rfl, rfl⟩)
      go_ret3
      exact ClosB.mk (by rw [HR.out]; exact MadeK.nil _ _ (Below.refl _ _)) (by rw [HR.out]; rfl) (by rw [HR.out]; simp)
    · have hd := h1.drop (i := (Vi.get l).2.1) (cap := cap) (by omega)
      obtain ⟨A', hA'⟩ : ∃ A', (if cap = (Vi.get l).2.1 then a else Option.map (fun x => x.add (Vi.get l).2.1) a) = A' := ⟨_, rfl⟩
      rw [hA'] at hd
      have hdl : (l.drop (Vi.get l).2.1).length = n - (Vi.get l).2.1 := by rw [List.length_drop, hn]
      by_cases hmore : n - (Vi.get l).2.1 < (Vi.get l).1
      · have HR : Hid (fldR l m = ([], 0, 4)) := by show _ = _; unfold fldR; rw [if_neg (by simp [he]), if_neg (by rw [hM]; exact hmany), if_pos (by rw [hn]; exact hmore)]
        have HP := part_more A' (n - (Vi.get l).2.1) (cap - (Vi.get l).2.1) ((Vi.get l).1 : Int) w (by omega)
        generalize hr : Vi.get l = r at *
        obtain ⟨r1, r2, r3⟩ := r
        simp only at he hmany HG hle hd hA' hdl hmore HP
        subst he
        have h2n : r2 ≤ n := by omega
        clear hr h1 hz hd hdl
        clear hM
        go_enter Tryz.func119, Tryz.ntmps119
        go_wp2_with (first
          | (go_at_call 114; refine HG.mono ?_; rintro e w1 ⟨rfl, rfl⟩)
          | (go_at_call 120; refine HP.mono ?_; rintro e w1 ⟨rfl, rfl⟩)
          | (go_at_call 75; refine HC0.mono ?_; rintro e w1 ⟨v, rfl, hm⟩; have HM := Lib.hid hm; clear hm))
        go_ret3
        exact ClosB.mk (by rw [HR.out]; exact HM.out) (by rw [HR.out]; rfl) (by rw [HR.out]; simp)
      · have HR : Hid (fldR l m = ((l.drop (Vi.get l).2.1).take (Vi.get l).1, (Vi.get l).2.1 + (Vi.get l).1, 0)) := by
          show _ = _; unfold fldR; rw [if_neg (by simp [he]), if_neg (by rw [hM]; exact hmany), if_neg (by rw [hn]; exact hmore)]
        have HP := part_ok A' (n - (Vi.get l).2.1) (cap - (Vi.get l).2.1) ((Vi.get l).1 : Int) w (by omega) (by omega) (by omega)
        rw [Int.toNat_natCast] at HP
        have HC := cloneK_any A' (Vi.get l).1 (Vi.get l).1 ((l.drop (Vi.get l).2.1).take (Vi.get l).1) w (by rw [List.length_take]; omega) (by omega) (hd.take _)
        generalize hr : Vi.get l = r at *
        obtain ⟨r1, r2, r3⟩ := r
        simp only at he hmany HG hle hd hA' hdl hmore HP HC HR
        subst he
        have h2n : r2 ≤ n := by omega
        have h3n : r1 ≤ n := by omega
        clear hr h1 hz hd hdl HC0
        clear hM
        go_enter Tryz.func119, Tryz.ntmps119
        go_wp2_with (first
          | (go_at_call 114; refine HG.mono ?_; rintro e w1 ⟨rfl, rfl⟩)
          | (go_at_call 120; refine HP.mono ?_; rintro e w1 ⟨rfl, rfl⟩)
          | (go_at_call 75; refine HC.mono ?_; rintro e w1 ⟨v, rfl, hm⟩; have HM := Lib.hid hm; clear hm))
        go_ret3
        exact ClosB.mk (by rw [HR.out]; exact HM.out) (by rw [HR.out]; rfl) (by rw [HR.out]; intro _; simp)
  · have HR : Hid (fldR l m = ([], 0, (Vi.get l).2.2)) := by show _ = _; unfold fldR; rw [if_pos he]
    have h3 : ¬ (((Vi.get l).2.2 : Nat) : Int) = 0 := by omega
    have h4 : ((((Vi.get l).2.2 : Nat) : Int) != 0) = true := by simp; omega
    have HE := Lib.hid he
    clear he hle h1 HC0
    go_enter Tryz.func119, Tryz.ntmps119
    go_wp2_with (go_at_call 114; refine HG.mono ?_; rintro e w1 ⟨rfl, rfl⟩)
    go_ret3
    exact ClosB.mk (by rw [HR.out]; exact MadeK.nil _ _ (Below.refl _ _)) (by rw [HR.out]) (fun h => by rw [HR.out] at h ⊢; exact absurd h HE.out)
end
end Go.Proofs.YtlbfibnfmijahaaGreat

namespace Go.Proofs.YtlbfibnfmijahaaGreat
open Go.RowKit Go.Shelf
set_option maxRecDepth 100000
attribute [local go_sem] Oper.semAt_some

end Go.Proofs.YtlbfibnfmijahaaGreat

namespace Go.Proofs.YtlbfibnfmijahaaGreat
open Go.RowKit
set_option maxRecDepth 100000

/-- place and error behind a read -/
def placeOf (p e : Nat) (size : Nat) : Nat := if e = 0 then p + size else p
def errOf (e err : Nat) : Nat := if e = 0 then err else e
def ansI (e : Nat) (x : Int) : Int := if e = 0 then x else 0
def ansB (e : Nat) (L : List Int) : List Int := if e = 0 then L else []
/-- what a read that answers a number leaves -/
def ReadI (k : IntKind) (lo b : Nat) (zs : List Int) (p e : Nat) (x : Int × Nat × Nat) (w : World) (r : Ending) (w' : World) : Prop :=
  r = .returned (.int k (ansI e x.1)) ∧ LensAt w' lo b zs (placeOf p e x.2.1) (errOf e x.2.2) ∧ Off (fun j => j = b) w w'
/-- what a read that answers bytes leaves -/
def ReadB (lo b : Nat) (zs : List Int) (p e : Nat) (x : List Int × Nat × Nat) (w : World) (r : Ending) (w' : World) : Prop :=
  (∃ A c, r = .returned (.slice A (ansB e x.1).length c) ∧ (ansB e x.1).length ≤ c ∧ NumsIn .u8 w' w.heap.size w'.heap.size A (ansB e x.1)) ∧ LensAt w' lo b zs (placeOf p e x.2.1) (errOf e x.2.2) ∧ Off (fun j => j = b) w w'

section
variable {k : IntKind} {lo b : Nat} {zs : List Int} {p e : Nat} {x : Int × Nat × Nat} {y : List Int × Nat × Nat} {w w0 w' : World} {r : Ending}
theorem ReadI.later (h : ReadI k lo b zs p e x w r w') (hb : Below w0.heap.size w0 w) : ReadI k lo b zs p e x w0 r w' :=
  ⟨h.1, h.2.1, (Off.of_below hb).trans h.2.2 fun _ _ h => h⟩
theorem ReadB.later (h : ReadB lo b zs p e y w r w') (hb : Below w0.heap.size w0 w) : ReadB lo b zs p e y w0 r w' := by
  obtain ⟨⟨A, c, h1, h2, h3⟩, h4, h5⟩ := h
  exact ⟨⟨A, c, h1, h2, h3.lower hb.size⟩, h4, (Off.of_below hb).trans h5 fun _ _ h => h⟩
theorem ReadI.err (h : LensAt w lo b zs p e) (he : e ≠ 0) : ReadI k lo b zs p e x w (.returned (.int k 0)) w :=
  ⟨by simp [ansI, he], by simpa [placeOf, errOf, he] using h, Off.refl _ _⟩
theorem ReadB.err (h : LensAt w lo b zs p e) (he : e ≠ 0) : ReadB lo b zs p e y w (.returned (.slice none 0 0)) w :=
  ⟨⟨none, 0, by simp [ansB, he], by simp [ansB, he], fun hn => absurd (by simp [ansB, he]) hn⟩, by simpa [placeOf, errOf, he] using h, Off.refl _ _⟩
theorem ReadI.ok {w1 : World} (h : LensAt w lo b zs p 0) (h0 : x.2.2 = 0) (hs : p + x.2.1 ≤ zs.length) (hb : Below w.heap.size w w1) : ReadI k lo b zs p 0 x w (.returned (.int k x.1)) (w1.setCell ⟨b, 1, none⟩ (.int .i64 (p + x.2.1))) := by
  refine ⟨by simp [ansI], ?_, (Off.of_below (S := fun j => j = b) hb).setCell (p := ⟨b, 1, none⟩) rfl _⟩
  have := (h.below hb).move hs
  rw [Int.natCast_add] at this
  simpa [placeOf, errOf, h0] using this
theorem ReadI.bad {w1 : World} (h : LensAt w lo b zs p 0) (h0 : x.1 = 0) (h1 : x.2.1 = 0) (hb : Below w.heap.size w w1) : ReadI k lo b zs p 0 x w (.returned (.int k 0)) (w1.setCell ⟨b, 2, none⟩ (.int .i64 x.2.2)) := by
  refine ⟨by simp [ansI, h0], ?_, (Off.of_below (S := fun j => j = b) hb).setCell (p := ⟨b, 2, none⟩) rfl _⟩
  have := (h.below hb).fail x.2.2
  simpa [placeOf, errOf, h1] using this
theorem NumsIn.set {w1 : World} {A : Option Addr} {L : List Int} {s : Nat} (h : NumsIn .u8 w1 s w1.heap.size A L) (hb : b < s) (o : Nat) (v : Value) : NumsIn .u8 (w1.setCell ⟨b, o, none⟩ v) s (w1.setCell ⟨b, o, none⟩ v).heap.size A L := by
  have h2 := h.keeps (B := w1.setCell ⟨b, o, none⟩ v) ⟨by simp [World.setCell], fun k h4 h5 => Below.heap_setCell _ _ _ _ (by simp; omega)⟩
  exact h2.mono (by simp [World.setCell])
theorem ReadB.ok {w1 : World} {v : Value} (h : LensAt w lo b zs p 0) (h0 : y.2.2 = 0) (hs : p + y.2.1 ≤ zs.length) (hm : MadeK 5 .u8 w w1 y.1 v) : ReadB lo b zs p 0 y w (.returned v) (w1.setCell ⟨b, 1, none⟩ (.int .i64 (p + y.2.1))) := by
  refine ⟨?_, ?_, (Off.of_below (S := fun j => j = b) hm.2).setCell (p := ⟨b, 1, none⟩) rfl _⟩
  · obtain ⟨A, c, rfl, hc, _⟩ := hm.slice
    exact ⟨A, c, by simp [ansB], by simpa [ansB] using hc, by simpa [ansB] using hm.numsIn.set h.lt 1 _⟩
  · have := (h.below hm.2).move hs
    rw [Int.natCast_add] at this
    simpa [placeOf, errOf, h0] using this
theorem ReadB.bad {w1 : World} (h : LensAt w lo b zs p 0) (h0 : y.1 = []) (h1 : y.2.1 = 0) (hb : Below w.heap.size w w1) : ReadB lo b zs p 0 y w (.returned (.slice none 0 0)) (w1.setCell ⟨b, 2, none⟩ (.int .i64 y.2.2)) := by
  refine ⟨⟨none, 0, by simp [ansB, h0], by simp [ansB, h0], fun hn => absurd (by simp [ansB, h0]) hn⟩, ?_, (Off.of_below (S := fun j => j = b) hb).setCell (p := ⟨b, 2, none⟩) rfl _⟩
  have := (h.below hb).fail y.2.2
  simpa [placeOf, errOf, h1] using this
end
theorem numR_err {l : List Int} {m : Int} (h : (numR l m).2.2 ≠ 0) : (numR l m).1 = 0 ∧ (numR l m).2.1 = 0 := by
  revert h; unfold numR; split; (intro _; exact ⟨rfl, rfl⟩); split; (intro _; exact ⟨rfl, rfl⟩); intro h; exact absurd rfl h
theorem sigR_err {l : List Int} {m1 m : Int} (h : (sigR l m1 m).2.2 ≠ 0) : (sigR l m1 m).1 = 0 ∧ (sigR l m1 m).2.1 = 0 := by
  revert h; unfold sigR; split; (intro _; exact ⟨rfl, rfl⟩); split; (intro _; exact ⟨rfl, rfl⟩); intro h; exact absurd rfl h
theorem fldR_err {l : List Int} {m : Int} (h : (fldR l m).2.2 ≠ 0) : (fldR l m).1 = [] ∧ (fldR l m).2.1 = 0 := by
  revert h; unfold fldR; split; (intro _; exact ⟨rfl, rfl⟩); split; (intro _; exact ⟨rfl, rfl⟩); split; (intro _; exact ⟨rfl, rfl⟩); intro h; exact absurd rfl h
theorem drop_fit {zs : List Int} {p s : Nat} (h : s ≤ (zs.drop p).length) (hp : p ≤ zs.length) : p + s ≤ zs.length := by rw [List.length_drop] at h; omega
theorem drop_bytes {zs : List Int} (hz : ∀ x ∈ zs, 0 ≤ x ∧ x ≤ 255) (p : Nat) : ∀ x ∈ zs.drop p, 0 ≤ x ∧ x ≤ 255 := fun x hx => hz x (List.mem_of_mem_drop hx)

section
variable (lo b : Nat) (zs : List Int) (p e : Nat) (w : World)
theorem rdN_any (c : Nat) (most : Int) (h : LensAt w lo b zs p e) (hl : zs.length ≤ 1000000000) (hz : ∀ x ∈ zs, 0 ≤ x ∧ x ≤ 255) (hc : w.cell? ⟨c, 0, none⟩ = some (.int .u64 most)) :
    Calls Tryz.prog 116 #[.pointer (some ⟨b, 0, none⟩), .func (.func 117) #[] #[.pointer (some ⟨c, 0, none⟩)]] w fun r w' => ReadI .u64 lo b zs p e (numR (zs.drop p) most) w r w' := by
  by_cases he : e = 0
  · subst he
    have HC : ∀ n A cap, Nums .u8 (w.drewN n) b A (zs.drop p) → zs.length - p ≤ cap → Calls Tryz.prog 117 #[.slice A (zs.length - p) cap, .pointer (some ⟨c, 0, none⟩)] (w.drewN n) fun r w' => ClosI .u64 (numR (zs.drop p) most) r ∧ w.drewN n = w' := fun n A cap hn _ =>
      numc_any b A (zs.length - p) cap c (zs.drop p) (w.drewN n) most (by simp) (by omega) (drop_bytes hz p) hn hc
    by_cases h0 : (numR (zs.drop p) most).2.2 = 0
    · refine (rdN_ok lo b zs p w c h hl (numR (zs.drop p) most).2.1 (drop_fit (numR_le most) h.place) (fun v _ => v = .int .u64 (numR (zs.drop p) most).1) (fun n A cap hn hc2 => (HC n A cap hn hc2).mono ?_)).mono ?_
      · rintro r w' ⟨⟨v, s, rfl, hv⟩, rfl⟩
        obtain ⟨rfl, rfl⟩ := hv h0
        exact ⟨_, by rw [h0]; rfl, below_drewN (Below.refl _ _) n, rfl⟩
      · rintro r w' ⟨v, w1, rfl, rfl, hb, rfl⟩
        exact ReadI.ok h h0 (drop_fit (numR_le most) h.place) hb
    · refine (rdN_bad lo b zs p w c h hl (numR (zs.drop p) most).2.2 h0 (fun _ _ => True) (fun n A cap hn hc2 => (HC n A cap hn hc2).mono ?_)).mono ?_
      · rintro r w' ⟨⟨v, s, rfl, _⟩, rfl⟩
        exact ⟨_, _, rfl, below_drewN (Below.refl _ _) n, trivial⟩
      · rintro r w' ⟨rfl, v, w1, _, hb, rfl⟩
        exact ReadI.bad h (numR_err h0).1 (numR_err h0).2 hb
  · refine (rdN_err lo b zs p e w _ h he).mono ?_
    rintro r w' ⟨rfl, rfl⟩
    exact ReadI.err h he
theorem rdS_any (c c2 : Nat) (least most : Int) (h : LensAt w lo b zs p e) (hl : zs.length ≤ 1000000000) (hz : ∀ x ∈ zs, 0 ≤ x ∧ x ≤ 255) (hc : w.cell? ⟨c, 0, none⟩ = some (.int .i64 least)) (hd : w.cell? ⟨c2, 0, none⟩ = some (.int .i64 most)) :
    Calls Tryz.prog 112 #[.pointer (some ⟨b, 0, none⟩), .func (.func 113) #[] #[.pointer (some ⟨c, 0, none⟩), .pointer (some ⟨c2, 0, none⟩)]] w fun r w' => ReadI .i64 lo b zs p e (sigR (zs.drop p) least most) w r w' := by
  by_cases he : e = 0
  · subst he
    have HC : ∀ n A cap, Nums .u8 (w.drewN n) b A (zs.drop p) → zs.length - p ≤ cap → Calls Tryz.prog 113 #[.slice A (zs.length - p) cap, .pointer (some ⟨c, 0, none⟩), .pointer (some ⟨c2, 0, none⟩)] (w.drewN n) fun r w' => ClosI .i64 (sigR (zs.drop p) least most) r ∧ w.drewN n = w' := fun n A cap hn _ =>
      sigc_any b A (zs.length - p) cap c (zs.drop p) (w.drewN n) c2 least most (by simp) (by omega) (drop_bytes hz p) hn hc hd
    by_cases h0 : (sigR (zs.drop p) least most).2.2 = 0
    · refine (rdS_ok lo b zs p w c c2 h hl (sigR (zs.drop p) least most).2.1 (drop_fit (sigR_le least most) h.place) (fun v _ => v = .int .i64 (sigR (zs.drop p) least most).1) (fun n A cap hn hc2 => (HC n A cap hn hc2).mono ?_)).mono ?_
      · rintro r w' ⟨⟨v, s, rfl, hv⟩, rfl⟩
        obtain ⟨rfl, rfl⟩ := hv h0
        exact ⟨_, by rw [h0]; rfl, below_drewN (Below.refl _ _) n, rfl⟩
      · rintro r w' ⟨v, w1, rfl, rfl, hb, rfl⟩
        exact ReadI.ok h h0 (drop_fit (sigR_le least most) h.place) hb
    · refine (rdS_bad lo b zs p w c c2 h hl (sigR (zs.drop p) least most).2.2 h0 (fun _ _ => True) (fun n A cap hn hc2 => (HC n A cap hn hc2).mono ?_)).mono ?_
      · rintro r w' ⟨⟨v, s, rfl, _⟩, rfl⟩
        exact ⟨_, _, rfl, below_drewN (Below.refl _ _) n, trivial⟩
      · rintro r w' ⟨rfl, v, w1, _, hb, rfl⟩
        exact ReadI.bad h (sigR_err h0).1 (sigR_err h0).2 hb
  · refine (rdS_err lo b zs p e w _ h he).mono ?_
    rintro r w' ⟨rfl, rfl⟩
    exact ReadI.err h he
theorem rdF_any (c : Nat) (m : Int) (hm0 : -9223372036854775808 ≤ m) (hm1 : m ≤ 9223372036854775807) (h : LensAt w lo b zs p e) (hl : zs.length ≤ 1000000000) (hz : ∀ x ∈ zs, 0 ≤ x ∧ x ≤ 255) (hc : w.cell? ⟨c, 0, none⟩ = some (.int .i64 m)) :
    Calls Tryz.prog 118 #[.pointer (some ⟨b, 0, none⟩), .func (.func 119) #[] #[.pointer (some ⟨c, 0, none⟩)]] w fun r w' => ReadB lo b zs p e (fldR (zs.drop p) m) w r w' := by
  by_cases he : e = 0
  · subst he
    have HC : ∀ n A cap, Nums .u8 (w.drewN n) b A (zs.drop p) → zs.length - p ≤ cap → Calls Tryz.prog 119 #[.slice A (zs.length - p) cap, .pointer (some ⟨c, 0, none⟩)] (w.drewN n) fun r w' => ClosB (fldR (zs.drop p) m) (w.drewN n) r w' := fun n A cap hn hcp =>
      fldc_any A (zs.length - p) cap c (zs.drop p) (w.drewN n) m (by simp) hcp (by omega) (drop_bytes hz p) hm0 hm1 (hn.mono (Nat.le_of_lt h.lt)) hc
    by_cases h0 : (fldR (zs.drop p) m).2.2 = 0
    · refine (rdF_ok lo b zs p w c h hl (fldR (zs.drop p) m).2.1 (drop_fit (fldR_le m) h.place) (fun v w1 => MadeK 5 .u8 w w1 (fldR (zs.drop p) m).1 v) (fun n A cap hn hc2 => (HC n A cap hn hc2).mono ?_)).mono ?_
      · rintro r w' ⟨v, s, rfl, hmk, hv⟩
        obtain rfl := hv h0
        have hm2 := hmk.less (below_drewN (Below.refl w.heap.size w) n)
        exact ⟨_, by rw [h0]; rfl, hm2.2, hm2⟩
      · rintro r w' ⟨v, w1, rfl, hmk, hb, rfl⟩
        exact ReadB.ok h h0 (drop_fit (fldR_le m) h.place) hmk
    · refine (rdF_bad lo b zs p w c h hl (fldR (zs.drop p) m).2.2 h0 (fun _ _ => True) (fun n A cap hn hc2 => (HC n A cap hn hc2).mono ?_)).mono ?_
      · rintro r w' ⟨v, s, rfl, hmk, _⟩
        exact ⟨_, _, rfl, (hmk.less (below_drewN (Below.refl w.heap.size w) n)).2, trivial⟩
      · rintro r w' ⟨rfl, v, w1, _, hb, rfl⟩
        exact ReadB.bad h (fldR_err h0).1 (fldR_err h0).2 hb
  · refine (rdR_err lo b zs p e w _ h he).mono ?_
    rintro r w' ⟨rfl, rfl⟩
    exact ReadB.err h he
end
end Go.Proofs.YtlbfibnfmijahaaGreat

namespace Go.Proofs.YtlbfibnfmijahaaGreat
open Go.RowKit
set_option maxRecDepth 100000
section
variable (lo b : Nat) (zs : List Int) (p e : Nat) (w : World)
theorem lnum_any (most : Int) (h : LensAt w lo b zs p e) (hl : zs.length ≤ 1000000000) (hz : ∀ x ∈ zs, 0 ≤ x ∧ x ≤ 255) :
    Calls Tryz.prog 99 #[.pointer (some ⟨b, 0, none⟩), .int .u64 most] w fun r w' => ReadI .u64 lo b zs p e (numR (zs.drop p) most) w r w' := by
  have hb : Below w.heap.size w (w.alloc (.cells #[.int .u64 most] 135)) := (Below.refl _ w).alloc (Nat.le_refl _) _
  have HC := (rdN_any lo b zs p e (w.alloc (.cells #[.int .u64 most] 135)) w.heap.size most (h.below hb) hl hz (by simp)).mono fun r w' hr => hr.later hb
  clear h hb hz
  go_enter Tryz.func99, Tryz.ntmps99
  go_wp2_with (go_at_call 116; refine HC.mono ?_; rintro r w2 ⟨rfl, hr1, hr2⟩)
  go_ret
  exact ⟨rfl, hr1, hr2⟩
theorem lsig_any (least most : Int) (h : LensAt w lo b zs p e) (hl : zs.length ≤ 1000000000) (hz : ∀ x ∈ zs, 0 ≤ x ∧ x ≤ 255) :
    Calls Tryz.prog 97 #[.pointer (some ⟨b, 0, none⟩), .int .i64 least, .int .i64 most] w fun r w' => ReadI .i64 lo b zs p e (sigR (zs.drop p) least most) w r w' := by
  have hb : Below w.heap.size w ((w.alloc (.cells #[.int .i64 least] 2)).alloc (.cells #[.int .i64 most] 2)) := ((Below.refl _ w).alloc (Nat.le_refl _) _).alloc (by simp) _
  have HC := (rdS_any lo b zs p e ((w.alloc (.cells #[.int .i64 least] 2)).alloc (.cells #[.int .i64 most] 2)) w.heap.size (w.heap.size + 1) least most (h.below hb) hl hz (by simp) (by simp)).mono fun r w' hr => hr.later hb
  clear h hb hz
  go_enter Tryz.func97, Tryz.ntmps97
  go_wp2_with (go_at_call 112; refine HC.mono ?_; rintro r w2 ⟨rfl, hr1, hr2⟩)
  go_ret
  exact ⟨rfl, hr1, hr2⟩
theorem lfld_any (m : Int) (hm0 : -9223372036854775808 ≤ m) (hm1 : m ≤ 9223372036854775807) (h : LensAt w lo b zs p e) (hl : zs.length ≤ 1000000000) (hz : ∀ x ∈ zs, 0 ≤ x ∧ x ≤ 255) :
    Calls Tryz.prog 105 #[.pointer (some ⟨b, 0, none⟩), .int .i64 m] w fun r w' => ReadB lo b zs p e (fldR (zs.drop p) m) w r w' := by
  have hb : Below w.heap.size w (w.alloc (.cells #[.int .i64 m] 3)) := (Below.refl _ w).alloc (Nat.le_refl _) _
  have HC := (rdF_any lo b zs p e (w.alloc (.cells #[.int .i64 m] 3)) w.heap.size m hm0 hm1 (h.below hb) hl hz (by simp)).mono fun r w' hr => hr.later hb
  clear h hb hz
  go_enter Tryz.func105, Tryz.ntmps105
  go_wp2_with (go_at_call 118; refine HC.mono ?_; rintro r w2 ⟨⟨A, c, rfl, hr0, hr3⟩, hr1, hr2⟩)
  go_ret
  exact ⟨⟨A, c, rfl, hr0, hr3⟩, hr1, hr2⟩
end
end Go.Proofs.YtlbfibnfmijahaaGreat

namespace Go.Proofs.YtlbfibnfmijahaaGreat
section
variable {P : Program} {ops : Array Oper} {md : Region.Mode} {I : World → Prop} {n : Nat} {tgt : Array Bool}
def wpAny8 (P : Program) (md : Region.Mode) (ops : Array Oper) (tgt : Array Bool) (I : World → Prop) (Q : (World → Prop) → Act → Prop) : Nat → Array Bool → (World → Prop) → Act → Prop
  | 0, listed, C, a => listed = tgt ∧ Q C a
  | fuel + 1, listed, C, a =>
    Region.ready md ops listed ≠ [] ∧
    ∀ i ∈ Region.ready md ops listed, ∀ o, ops[i]? = some o → Step4 P ops I o a C (wpAny8 P md ops tgt I Q fuel (listed.setIfInBounds i true))
theorem wpAny_of_8 {m : Nat} {Q : (World → Prop) → Act → Prop} {Q' : Exit → Act → World → Prop} (hQ : ∀ (C : World → Prop) a w, C w → Q C a → wpAny P md ops Q' m tgt a w) : ∀ (fuel : Nat) (listed : Array Bool) (C : World → Prop) (a : Act) (w : World), C w → (∀ w, C w → I w) →
    wpAny8 P md ops tgt I Q fuel listed C a → wpAny P md ops Q' (fuel + m) listed a w
  | 0, _, C, a, w, hw, _, h => by
    rw [Nat.zero_add, h.1]
    exact hQ C a w hw h.2
  | fuel + 1, listed, C, a, w, hw, hI, h => by
    rw [show fuel + 1 + m = (fuel + m) + 1 by omega]
    refine ⟨fun h0 => absurd h0 h.1, fun i hi => ?_⟩
    obtain ⟨_, o, ho, _⟩ := mem_ready.1 hi
    exact (h.2 i hi o ho).wpOp ho hw hI fun C' a' w' hw' hI' hn => wpAny_of_8 hQ fuel _ C' a' w' hw' hI' hn
def orderB8 (md : Region.Mode) (ops : Array Oper) (n : Nat) (tgt : Array Bool) : List Nat → Array Bool → Bool
  | [], listed => listed == tgt
  | k :: r, listed => (Region.ready md ops listed).contains k && free4 md ops listed k && ((List.range ops.size).all fun j => decide (j < n) || (blocked md ops k).getD j false) && orderB8 md ops n tgt r (listed.setIfInBounds k true)
def tgtB (n m : Nat) : Array Bool := (List.replicate n true ++ List.replicate m false).toArray
def order8 (md : Region.Mode) (ops : Array Oper) (n : Nat) (ks : List Nat) : Bool := Region.noSelect ops && ks.length == n && decide (n ≤ ops.size) && orderB8 md ops n (tgtB n (ops.size - n)) ks (Array.replicate ops.size false)
theorem wpAny8_first {Q : (World → Prop) → Act → Prop} {i : Nat} {oi : Oper} (htg : ∀ j, j < n → tgt.getD j false = true) (hi : ops[i]? = some oi) (hsel : ∀ (j : Nat) (o : Oper) cs b, ops[j]? = some o → o.op ≠ .select cs b) :
    ∀ (fuel : Nat) (listed : Array Bool) (C : World → Prop) (a : Act) (U : Array Bool), (∀ j, j < ops.size → U.getD j false = false → j < n) → Free4 md ops listed i oi U → i ∈ Region.ready md ops listed →
      Step4 P ops I oi a C (wpAny8 P md ops tgt I Q fuel (listed.setIfInBounds i true)) → wpAny8 P md ops tgt I Q (fuel + 1) listed C a := by
  intro fuel
  induction fuel with
  | zero =>
    intro listed C a U hsk hfree hr H
    refine ⟨fun h => (by rw [h] at hr; cases hr), fun j hj o ho => ?_⟩
    by_cases hji : j = i
    · subst hji
      have : o = oi := Option.some.inj (ho.symm.trans hi)
      subst this
      exact H
    · exfalso
      obtain ⟨hjun, oj', hoj', hall⟩ := mem_ready.1 hj
      have hju := hfree.ready hoj' hji hall
      obtain ⟨_, hkind⟩ := hfree.free j oj' hoj' hju hjun
      have hjn := hsk j (Array.getElem?_eq_some_iff.1 hoj').1 hju
      have nil : ∀ {C' : World → Prop} {a' : Act}, wpAny8 P md ops tgt I Q 0 (listed.setIfInBounds i true) C' a' → False := fun h => by
        have h1 := htg j hjn
        rw [← h.1, getD_set_ne false (Ne.symm hji)] at h1
        rw [Array.getD_eq_getD_getElem?] at h1 hjun
        cases hx : listed[j]? with
        | none => rw [hx] at h1; simp at h1
        | some y => rw [hx] at h1 hjun; simp at h1 hjun; rw [h1] at hjun; cases hjun
      rcases H with ⟨_, _, _, hn⟩ | ⟨_, _, _, hn⟩ | ⟨hk, _⟩ | ⟨hk, _⟩
      · exact nil hn
      · exact nil hn
      · rcases hkind with h | h <;> rw [hk] at h <;> simp at h
      · rcases hkind with h | h <;> rw [hk] at h <;> simp at h
  | succ fuel ih =>
    intro listed C a U hsk hfree hr H
    refine ⟨fun h => (by rw [h] at hr; cases hr), fun j hj oj hoj => ?_⟩
    by_cases hji : j = i
    · subst hji
      have : oj = oi := Option.some.inj (hoj.symm.trans hi)
      subst this
      exact H
    · obtain ⟨hjun, oj', hoj', hall⟩ := mem_ready.1 hj
      have : oj' = oj := Option.some.inj (hoj'.symm.trans hoj)
      subst this
      have hju := hfree.ready hoj' hji hall
      obtain ⟨hap, hkind⟩ := hfree.free j oj' hoj hju hjun
      obtain ⟨p1, p2, p3⟩ := Oper.apart_spec hap
      have hsi : ∀ cs b, oi.op ≠ .select cs b := fun cs b => hsel i oi cs b hi
      have hsj : ∀ cs b, oj'.op ≠ .select cs b := fun cs b => hsel j oj' cs b hoj
      have hfree' := hfree.set hju
      have hr' := ready_mono hr (Ne.symm hji)
      have next : ∀ v, (kind3 oi = 0 ∧ YieldsIn P ops (fun _ => True) oi v a ∨ kind3 oi = 1 ∧ YieldsIn P ops I oi v a) → wpAny8 P md ops tgt I Q (fuel + 1) (listed.setIfInBounds i true) C (a.put oi.dst v) → Step4 P ops I oj' a C (wpAny8 P md ops tgt I Q (fuel + 1) (listed.setIfInBounds j true)) := by
        intro v hy hn
        refine Step4.put (v := v) hap hsj (fun C' u h3 => ih _ C' _ U hsk hfree' hr' ?_) (hn.2 j (ready_mono hj hji) oj' hoj)
        have h4 : wpAny8 P md ops tgt I Q fuel ((listed.setIfInBounds j true).setIfInBounds i true) C' ((a.put oj'.dst u).put oi.dst v) := by
          rw [Array.setIfInBounds_comm _ _ hji]
          rw [Act.put_comm a v u p2] at h3
          exact h3
        have hs1 := execOp_put oi hsi a oj'.dst u p3
        have hs2 := wanted_put oi a oj'.dst u p3
        rcases hy with ⟨hk, hy⟩ | ⟨hk, hy⟩
        · exact .inl ⟨hk, v, hy.of_same hs1 hs2, h4⟩
        · exact .inr (.inl ⟨hk, v, hy.of_same hs1 hs2, h4⟩)
      rcases H with ⟨hk, v, hy, hn⟩ | ⟨hk, v, hy, hn⟩ | ⟨hk, _⟩ | ⟨hk, _⟩
      · exact next v (.inl ⟨hk, hy⟩) hn
      · exact next v (.inr ⟨hk, hy⟩) hn
      · rcases hkind with h | h <;> rw [hk] at h <;> simp at h
      · rcases hkind with h | h <;> rw [hk] at h <;> simp at h
theorem wpAny8_order {Q : (World → Prop) → Act → Prop} (htg : ∀ j, j < n → tgt.getD j false = true) (hs : Region.noSelect ops = true) : ∀ (ks : List Nat) (listed : Array Bool) (C : World → Prop) (a : Act),
    orderB8 md ops n tgt ks listed = true → wpO4 P ops I Q ks C a → wpAny8 P md ops tgt I Q ks.length listed C a
  | [], _, _, _, hB, h => ⟨by simpa [orderB8] using hB, h⟩
  | k :: r, listed, C, a, hB, h => by
    obtain ⟨o, ho, h⟩ := h
    simp only [orderB8, Bool.and_eq_true] at hB
    obtain ⟨⟨⟨hr, hf⟩, hsk⟩, hB'⟩ := hB
    refine wpAny8_first htg ho (Region.noSelect_spec hs) r.length listed C a _ (fun j hj hu => ?_) (free4_spec ho hf) (by simpa using hr) (h.mono fun C' a' hn => wpAny8_order htg hs r _ C' a' hB' hn)
    rw [List.all_eq_true] at hsk
    have := hsk j (List.mem_range.2 hj)
    rw [hu] at this
    simpa using this
theorem tgtB_get {n m j : Nat} (h : j < n) : (tgtB n m).getD j false = true := by
  unfold tgtB
  rw [Array.getD_eq_getD_getElem?]
  simp [List.getElem?_append_left, h]
theorem wp_region_order8 {id : Nat} {Q : Exit → Act → World → Prop} {a : Act} {w : World} {l : List Oper} (n : Nat) (ks : List Nat) (I : World → Prop) {C : World → Prop} (hm : P.follows .mixedOrders = true) (hB : order8 .any l.toArray n ks = true)
    (hq : Region.seqB .any l.toArray (l.length - n) n (tgtB n (l.length - n)) = true) (hC : C w.drew) (hI : ∀ w, C w → I w)
    (h : wpO4 P l.toArray I (fun C a' => ∀ w', C w' → wpList P l.toArray Q (l.drop n) a' w') ks C a) : (Code.region id l.toArray true).wp P Q a w := by
  simp only [order8, Bool.and_eq_true, beq_iff_eq, decide_eq_true_eq] at hB
  obtain ⟨⟨⟨hs, hl⟩, hn⟩, hB⟩ := hB
  have hn' : n ≤ l.length := by simpa using hn
  refine wp_region_any hm ?_
  have key := wpAny_of_8 (md := .any) (Q' := Q) (m := l.length - n) (tgt := tgtB n (l.length - n)) (I := I) (Q := fun C a' => ∀ w', C w' → wpList P l.toArray Q (l.drop n) a' w') (fun C a w' hw' h => ?_) ks.length (Array.replicate l.toArray.size false) C a w.drew hC hI (wpAny8_order (fun j hj => tgtB_get hj) hs ks _ C a (by simpa using hB) h)
  · rw [hl, show n + (l.length - n) = l.toArray.size by simp; omega] at key
    exact key
  · have := wpAny_of_seq (md := .any) (Q' := Q) (l.drop n) n (tgtB n (l.length - n)) a w' (fun j => by simp [List.getElem?_drop]) (by rw [List.length_drop]; exact hq) (h w' hw')
    rwa [List.length_drop] at this
end
end Go.Proofs.YtlbfibnfmijahaaGreat

namespace Go.Proofs.YtlbfibnfmijahaaGreat
open Go.RowKit Go.Shelf
set_option maxRecDepth 100000
attribute [local go_sem] Oper.semAt_some

theorem row_ne {W : World} {a b : Nat} {c1 c2 : Array Value} {t1 t2 : TypeId} {m1 m2 : Nat × Nat} (h1 : W.heap[a]? = some (.cells c1 t1 m1)) (h2 : W.heap[b]? = some (.cells c2 t2 m2)) (ht : t1 ≠ t2) : a ≠ b := fun e => by
  subst e
  rw [h1] at h2
  injection h2 with h2
  injection h2 with _ h2
  exact ht h2
structure RdAt (lo : Nat) (W : World) (mb lb : Nat) (zs : List Int) (N : Mg) (P C : Value) (p e : Nat) : Prop where
  m : W.heap[mb]? = some (.cells (mC N P C) 26 (0, 0))
  l : LensAt W lo lb zs p e
  a : lb < mb
  p : ∃ a c, P = .slice a N.p.length c ∧ N.p.length ≤ c ∧ NuX W mb lb a (fl2 N.p)
  c : ∃ a c, C = .slice a N.c.length c ∧ N.c.length ≤ c ∧ NuX W mb lb a N.c
  pz : N.p = [] → P = .slice none 0 0
  cz : N.c = [] → C = .slice none 0 0
/-- what reading a field answers and leaves -/
def RdO (lo mb lb : Nat) (zs : List Int) (p : Nat) (x : Nat × Nat × Mg) (w : World) (r : Ending) (w' : World) : Prop :=
  r = .returned (.int .i64 (x.1 : Int)) ∧ Off (fun q => q = mb ∨ q = lb) w w' ∧ (x.1 = 0 → ∃ P C, RdAt lo w' mb lb zs x.2.2 P C (p + x.2.1) 0)
section
variable {lo mb lb : Nat} {w W W' : World} {zs : List Int} {N N' : Mg} {P C P' C' : Value} {p e p' e' : Nat}
theorem RdAt.later (h : RdAt lo W mb lb zs N P C p e) (hb : Below W.heap.size W W') : RdAt lo W' mb lb zs N P C p e := by
  obtain ⟨⟨a, c, h1, h2, h3⟩, ⟨a', c', h4, h5, h6⟩⟩ := And.intro h.p h.c
  exact ⟨(hb.block _ (Array.getElem?_eq_some_iff.1 h.m).1).trans h.m, h.l.below hb, h.a, ⟨a, c, h1, h2, h3.keep (Off.of_below hb)⟩, ⟨a', c', h4, h5, h6.keep (Off.of_below hb)⟩, h.pz, h.cz⟩
/-- the lens is turned -/
theorem RdAt.turn (h : RdAt lo W mb lb zs N P C p e) (hl : LensAt W' lo lb zs p' e') (ho : Off (fun q => q = lb) W W') : RdAt lo W' mb lb zs N P C p' e' := by
  obtain ⟨⟨a, c, h1, h2, h3⟩, ⟨a', c', h4, h5, h6⟩⟩ := And.intro h.p h.c
  have ha := h.a
  have ho2 : Off (fun q => q = mb ∨ q = lb) W W' := ho.mono (fun j _ e => .inr e)
  exact ⟨(ho.block _ (Array.getElem?_eq_some_iff.1 h.m).1 (by omega)).trans h.m, hl, ha, ⟨a, c, h1, h2, h3.keep ho2⟩, ⟨a', c', h4, h5, h6.keep ho2⟩, h.pz, h.cz⟩
theorem NuX.set {a : Option Addr} {l : List Int} (h : NuX W mb lb a l) (j : Nat) (u : Value) : NuX (W.setCell ⟨mb, j, none⟩ u) mb lb a l :=
  h.keep (Off.setCell (S := fun q => q = mb ∨ q = lb) (p := ⟨mb, j, none⟩) (Off.refl _ W) (.inl rfl) u)
/-- a cell of the message is turned -/
theorem RdAt.set (h : RdAt lo W mb lb zs N P C p e) (j : Nat) (u : Value) (hc : (mC N P C).setIfInBounds j u = mC N' P' C')
    (hp : ∃ a c, P' = .slice a N'.p.length c ∧ N'.p.length ≤ c ∧ NuX W mb lb a (fl2 N'.p)) (hcc : ∃ a c, C' = .slice a N'.c.length c ∧ N'.c.length ≤ c ∧ NuX W mb lb a N'.c) (hpz : N'.p = [] → P' = .slice none 0 0) (hcz : N'.c = [] → C' = .slice none 0 0) :
    RdAt lo (W.setCell ⟨mb, j, none⟩ u) mb lb zs N' P' C' p e := by
  obtain ⟨⟨a, c, h1, h2, h3⟩, ⟨a', c', h4, h5, h6⟩⟩ := And.intro hp hcc
  have ha := h.a
  refine ⟨by rw [setCell_at h.m, hc], h.l.off (S := fun q => q = mb) (Off.setCell (S := fun q => q = mb) (p := ⟨mb, j, none⟩) (Off.refl _ W) rfl u) (fun k _ h2 => by omega), ha, ⟨a, c, h1, h2, h3.set j u⟩, ⟨a', c', h4, h5, h6.set j u⟩, hpz, hcz⟩
theorem RdAt.num (h : RdAt lo W mb lb zs N P C p e) {jj : Nat} (hj : jj < 6) (v : Int) : RdAt lo (W.setCell ⟨mb, 1 + jj, none⟩ (.int .i64 v)) mb lb zs (N.put jj v) P C p e := by
  refine h.set (1 + jj) (.int .i64 v) (mC_put hj N P C v) ?_ ?_ ?_ ?_
  · rw [Mg.put_p]; exact h.p
  · rw [Mg.put_c]; exact h.c
  · rw [Mg.put_p]; exact h.pz
  · rw [Mg.put_c]; exact h.cz
theorem RdAt.tx (h : RdAt lo W mb lb zs N P C p e) (s : ByteArray) : RdAt lo (W.setCell ⟨mb, 9, none⟩ (.string s)) mb lb zs { N with tx := s } P C p e :=
  h.set 9 (.string s) rfl h.p h.c h.pz h.cz
theorem RdAt.tg (h : RdAt lo W mb lb zs N P C p e) (s : ByteArray) : RdAt lo (W.setCell ⟨mb, 10, none⟩ (.string s)) mb lb zs { N with tg := s } P C p e :=
  h.set 10 (.string s) rfl h.p h.c h.pz h.cz
end
/-- the lens's error; if it has none, another one where something is amiss -/
def oth (e : Nat) (am : Bool) (E : Int) : Int := if e ≠ 0 then (e : Int) else if am then E else 0
theorem otherwise_any {lo lb : Nat} {zs : List Int} {p e : Nat} {w : World} (h : LensAt w lo lb zs p e) (am : Bool) (E : Int) : Calls Tryz.prog 103 #[.pointer (some ⟨lb, 0, none⟩), .bool am, .int .i64 E] w fun r w' => r = .returned (.int .i64 (oth e am E)) ∧ w = w' := by
  have K := Lib.hid (lerr_any _ _ _ _ _ _ h)
  clear h
  by_cases he : e = 0
  · subst he
    cases am
    · have hr : oth 0 false E = 0 := by simp [oth]
      rw [hr]
      go_enter Tryz.func103, Tryz.ntmps103
      go_wp2_with fail
      refine K.out.mono ?_
      rintro r w2 ⟨rfl, rfl⟩
      go_wp2
      go_ret
      exact ⟨rfl, rfl⟩
    · have hr : oth 0 true E = E := by simp [oth]
      rw [hr]
      go_enter Tryz.func103, Tryz.ntmps103
      go_wp2_with fail
      refine K.out.mono ?_
      rintro r w2 ⟨rfl, rfl⟩
      go_wp2
      go_ret
      exact ⟨rfl, rfl⟩
  · have hr : oth e am E = (e : Int) := by simp [oth, he]
    rw [hr]
    have e1 : ((e : Int) != 0) = true := by simpa using he
    go_enter Tryz.func103, Tryz.ntmps103
    go_wp2_with fail
    refine K.out.mono ?_
    rintro r w2 ⟨rfl, rfl⟩
    go_wp2
    go_ret
    exact ⟨rfl, rfl⟩
end Go.Proofs.YtlbfibnfmijahaaGreat

namespace Go.Proofs.YtlbfibnfmijahaaGreat
section
variable {P : Program} {ops : Array Oper} {md : Region.Mode} {I : World → Prop} {n : Nat} {tgt : Array Bool}

theorem nil_no_enter {o : Oper} {x : Operand} (ho : o.op = .nilCheck x) (ρ : Operand → Value) (w w' : World) (f : FuncId) (args : Array Value) : (execOp ρ o).run P w ≠ .ok (.enter f args) w' := by
  unfold execOp
  simp only [ho]
  intro h
  split at h
  · simp [runtimePanic] at h
  · simp [runtimePanic] at h
  · simp [runtimePanic] at h
  · split at h
    · simp [runtimePanic] at h
    · rw [Sem.run_bind] at h
      generalize Sem.run P program w = r1 at h
      cases r1 with
      | halt y w1 => simp [Result.andThen] at h
      | ok a w1 =>
        simp only [Result.andThen] at h
        rw [Sem.run_bind] at h
        generalize Sem.run P (nilAhead _ _ _ _) w1 = r2 at h
        cases r2 with
        | halt y w2 => simp [Result.andThen] at h
        | ok b w2 =>
          simp only [Result.andThen] at h
          split at h
          · rw [Sem.run_bind] at h
            generalize Sem.run P (unsupported _) w2 = r3 at h
            cases r3 <;> simp [Result.andThen] at h
          · simp at h
    · simp at h
  · simp at h

def kind9 (o : Oper) : Nat := match o.op with
  | .build _ _ => 1
  | .nilCheck _ => 1
  | _ => kind3 o
theorem kind9_one {o : Oper} (h : kind9 o = 1) : (∃ t x, o.op = .load t x) ∨ (∃ t x, o.op = .build t x) ∨ ∃ x, o.op = .nilCheck x := by
  unfold kind9 at h
  split at h
  · exact .inr (.inl ⟨_, _, by assumption⟩)
  · exact .inr (.inr ⟨_, by assumption⟩)
  · exact .inl (kind3_load h)
theorem kind9_else {o : Oper} {n : Nat} (h : kind9 o = n) (hn : n ≠ 1) : kind3 o = n := by
  unfold kind9 at h
  split at h
  · exact absurd h.symm hn
  · exact absurd h.symm hn
  · exact h
theorem one9_no_enter {o : Oper} (h : kind9 o = 1) (ρ : Operand → Value) (w w' : World) (f : FuncId) (args : Array Value) : (execOp ρ o).run P w ≠ .ok (.enter f args) w' := by
  rcases kind9_one h with ⟨t, x, ho⟩ | ⟨t, x, ho⟩ | ⟨x, ho⟩
  · exact load_no_enter ho ρ w w' f args
  · unfold execOp
    simp only [ho]
    exact run_value _ _ _ _ _
  · exact nil_no_enter ho ρ w w' f args
theorem yields_one9 {o : Oper} {v : Value} {a : Act} {C D : World → Prop} (hk : kind9 o = 1) (h : YieldsIn P ops C o v a) (hD : ∀ w, D w → C w) : YieldsIn P ops D o v a := by
  rcases h with ⟨hw, h⟩ | h
  · refine .inl ⟨hw, fun w hwD => ?_⟩
    have h1 := h w (hD w hwD)
    have h2 := one9_no_enter (P := P) hk a.eval w
    unfold Oper.quietAt at h1 ⊢
    generalize (execOp a.eval o).run P w = r at h1 h2
    cases r with
    | ok n w' =>
      cases n with
      | enter f args => exact absurd rfl (h2 w' f args)
      | _ => exact h1
    | halt x w' => exact h1
  · exact .inr h
/-- one operation, in a class of worlds -/
def Step9 (P : Program) (ops : Array Oper) (I : World → Prop) (o : Oper) (a : Act) (C : World → Prop) (K : (World → Prop) → Act → Prop) : Prop :=
  (kind9 o = 0 ∧ ∃ v, YieldsIn P ops (fun _ => True) o v a ∧ K C (a.put o.dst v)) ∨
  (kind9 o = 1 ∧ ∃ v, YieldsIn P ops I o v a ∧ K C (a.put o.dst v)) ∨
  (kind9 o = 2 ∧ ∃ v C', (∀ w, C' w → I w) ∧ StepsIn P ops C C' o v a ∧ K C' (a.put o.dst v)) ∨
  (kind9 o = 3 ∧ ((Region.wanted o (yielded ops a.tmps) = false ∧ K C (a.put o.dst undef)) ∨ (Region.wanted o (yielded ops a.tmps) = true ∧ ∃ (V : Value → Prop) (C' : Value → World → Prop), (∀ v w, C' v w → I w) ∧ (∀ w, C w → famUpon P V C' ((execOp a.eval o).run P w)) ∧ ∀ v, V v → K (C' v) (a.put o.dst v))))

def wpAny9 (P : Program) (md : Region.Mode) (ops : Array Oper) (tgt : Array Bool) (I : World → Prop) (Q : (World → Prop) → Act → Prop) : Nat → Array Bool → (World → Prop) → Act → Prop
  | 0, listed, C, a => listed = tgt ∧ Q C a
  | fuel + 1, listed, C, a =>
    Region.ready md ops listed ≠ [] ∧
    ∀ i ∈ Region.ready md ops listed, ∀ o, ops[i]? = some o → Step9 P ops I o a C (wpAny9 P md ops tgt I Q fuel (listed.setIfInBounds i true))
theorem Step9.wpOp {C : World → Prop} {i : Nat} {o : Oper} {a : Act} {K : (World → Prop) → Act → Prop} {K' : Act → World → Prop} {Q' : Exit → Act → World → Prop} {w : World} (hi : ops[i]? = some o) (h : Step9 P ops I o a C K) (hC : C w) (hCI : ∀ w, C w → I w) (hK : ∀ (C' : World → Prop) a' w', C' w' → (∀ w, C' w → I w) → K C' a' → K' a' w') : wpOp P ops Q' i K' a w := by
  rcases h with ⟨hk, v, hy, hn⟩ | ⟨hk, v, hy, hn⟩ | ⟨hk, v, C', hI, hy, hn⟩ | ⟨hk, h⟩
  · exact OpR.wpOp (C := C) (C' := C) hi (.inl ⟨kind3_pure (kind9_else hk (by decide)), rfl, hy⟩) hC fun w' hw' => hK C _ w' hw' hCI hn
  · have hk1 : kindOf o = 1 := by
      rcases kind9_one hk with ⟨t, x, ho⟩ | ⟨t, x, ho⟩ | ⟨x, ho⟩ <;> simp [kindOf, pureOp, ho]
    exact OpR.wpOp (C := C) (C' := C) hi (.inr (.inl ⟨hk1, rfl, yields_one9 hk hy hCI⟩)) hC fun w' hw' => hK C _ w' hw' hCI hn
  · have hk2 : kindOf o = 2 := by
      have hk := kind9_else hk (by decide)
      unfold kind3 at hk
      unfold kindOf
      split at hk
      · simp at hk
      · rename_i hp
        rw [if_neg hp]
        split at hk
        · simp at hk
        · rename_i heq; simp [heq]
        · simp at hk
    exact OpR.wpOp (C := C) (C' := C') hi (.inr (.inr ⟨hk2, hy⟩)) hC fun w' hw' => hK C' _ w' hw' hI hn
  · unfold Go.wpOp
    simp only [hi]
    rcases h with ⟨hw, hn⟩ | ⟨hw, V, C', hI, hv, hn⟩
    · simp only [hw, Bool.false_eq_true, if_false]
      exact hK C _ w hC hCI hn
    · simp only [hw, if_true]
      left
      have h1 := hv w hC
      unfold Oper.wp
      generalize (execOp a.eval o).run P w = r at h1
      cases r with
      | ok n w' =>
        cases n <;> simp only [famUpon] at h1 <;> simp only [Oper.upon]
        case value u => exact hK (C' u) _ w' h1.2 (hI u) (hn u h1.1)
        case enter f args =>
          refine h1.mono fun e w'' ⟨v, he, hV, hc⟩ => ?_
          subst he
          exact hK (C' v) _ w'' hc (hI v) (hn v hV)
      | halt x w' => simp only [famUpon] at h1
theorem wpAny_of_9 {m : Nat} {Q : (World → Prop) → Act → Prop} {Q' : Exit → Act → World → Prop} (hQ : ∀ (C : World → Prop) a w, C w → Q C a → wpAny P md ops Q' m tgt a w) : ∀ (fuel : Nat) (listed : Array Bool) (C : World → Prop) (a : Act) (w : World), C w → (∀ w, C w → I w) →
    wpAny9 P md ops tgt I Q fuel listed C a → wpAny P md ops Q' (fuel + m) listed a w
  | 0, _, C, a, w, hw, _, h => by
    rw [Nat.zero_add, h.1]
    exact hQ C a w hw h.2
  | fuel + 1, listed, C, a, w, hw, hI, h => by
    rw [show fuel + 1 + m = (fuel + m) + 1 by omega]
    refine ⟨fun h0 => absurd h0 h.1, fun i hi => ?_⟩
    obtain ⟨_, o, ho, _⟩ := mem_ready.1 hi
    exact (h.2 i hi o ho).wpOp ho hw hI fun C' a' w' hw' hI' hn => wpAny_of_9 hQ fuel _ C' a' w' hw' hI' hn
/-- an operation apart: its step is the same whether another's value is in its slot or not -/
theorem Step9.put {oi oj : Oper} {v : Value} {a : Act} {C : World → Prop} {K1 K2 : (World → Prop) → Act → Prop} (hap : oi.apart ops oj = true) (hsj : ∀ cs b, oj.op ≠ .select cs b)
    (hK : ∀ (C' : World → Prop) u, K1 C' ((a.put oi.dst v).put oj.dst u) → K2 C' (a.put oj.dst u)) (h : Step9 P ops I oj (a.put oi.dst v) C K1) : Step9 P ops I oj a C K2 := by
  obtain ⟨p1, p2, p3⟩ := Oper.apart_spec hap
  have he := execOp_put oj hsj a oi.dst v p1
  have hw := wanted_put oj a oi.dst v p1
  rcases h with ⟨hk, u, hy, hn⟩ | ⟨hk, u, hy, hn⟩ | ⟨hk, u, C', hI, hy, hn⟩ | ⟨hk, h⟩
  · exact .inl ⟨hk, u, hy.of_same he.symm hw.symm, hK C u hn⟩
  · exact .inr (.inl ⟨hk, u, hy.of_same he.symm hw.symm, hK C u hn⟩)
  · refine .inr (.inr (.inl ⟨hk, u, C', hI, ?_, hK C' u hn⟩))
    unfold StepsIn at hy ⊢
    rwa [he, hw] at hy
  · refine .inr (.inr (.inr ⟨hk, ?_⟩))
    rcases h with ⟨hwf, hn⟩ | ⟨hwt, V, C', hsub, hv, hn⟩
    · exact .inl ⟨by rw [← hw]; exact hwf, hK C undef hn⟩
    · exact .inr ⟨by rw [← hw]; exact hwt, V, C', hsub, by rwa [he] at hv, fun u hu => hK (C' u) u (hn u hu)⟩
/-! as XQ3's, but a load is free of stores too: they stay in I -/
def free9 (md : Region.Mode) (ops : Array Oper) (listed : Array Bool) (k : Nat) : Bool :=
  let U := blocked md ops k
  U.getD k false && U.size == ops.size &&
  match ops[k]? with
  | none => false
  | some ok => (List.range ops.size).all fun j =>
    match ops[j]? with
    | some oj =>
      if U.getD j false then !listed.getD j false && (j == k || oj.after.any (fun e => Region.binds md e && U.getD e.on false))
      else listed.getD j true || (ok.apart ops oj && (kind9 ok == 0 || kind9 ok == 1))
    | none => true
structure Free9 (md : Region.Mode) (ops : Array Oper) (listed : Array Bool) (i : Nat) (oi : Oper) (U : Array Bool) : Prop where
  size : U.size = ops.size
  own : U.getD i false = true
  wait : ∀ j oj, ops[j]? = some oj → U.getD j false = true → j ≠ i → ∃ e ∈ oj.after, Region.binds md e = true ∧ U.getD e.on false = true
  un : ∀ j, U.getD j false = true → listed.getD j false = false
  free : ∀ j oj, ops[j]? = some oj → U.getD j false = false → listed.getD j true = false → oi.apart ops oj = true ∧ (kind9 oi = 0 ∨ kind9 oi = 1)
theorem free9_spec {i : Nat} {oi : Oper} {listed : Array Bool} (hi : ops[i]? = some oi) (h : free9 md ops listed i = true) : Free9 md ops listed i oi (blocked md ops i) := by
  simp only [free9, hi, List.all_eq_true, List.mem_range, Bool.and_eq_true, beq_iff_eq] at h
  obtain ⟨⟨hown, hsz⟩, h⟩ := h
  have at_ : ∀ j oj, ops[j]? = some oj → (if (blocked md ops i).getD j false = true then (!listed.getD j false && (j == i || oj.after.any (fun e => Region.binds md e && (blocked md ops i).getD e.on false))) = true
      else (listed.getD j true || (oi.apart ops oj && (kind9 oi == 0 || kind9 oi == 1))) = true) := fun j oj hj => by
    have h1 := h j (Array.getElem?_eq_some_iff.1 hj).1
    simp only [hj] at h1
    split at h1 <;> rename_i hu
    · rw [if_pos hu]; exact h1
    · rw [if_neg hu]; exact h1
  refine ⟨hsz, hown, fun j oj hj hu hne => ?_, fun j hu => ?_, fun j oj hj hu hun => ?_⟩
  · have h1 := at_ j oj hj
    rw [if_pos hu] at h1
    simp only [Bool.and_eq_true, Bool.or_eq_true, beq_iff_eq, hne, false_or] at h1
    obtain ⟨e, he, hb⟩ := Array.any_eq_true'.1 h1.2
    simp only [Bool.and_eq_true] at hb
    exact ⟨e, he, hb.1, hb.2⟩
  · have hlt : j < ops.size := by
      rw [← hsz]
      rcases Nat.lt_or_ge j (blocked md ops i).size with h' | h'
      · exact h'
      · simp [Array.getElem?_eq_none h'] at hu
    have h1 := at_ j _ (Array.getElem?_eq_getElem hlt)
    rw [if_pos hu] at h1
    simp only [Bool.and_eq_true, Bool.not_eq_true'] at h1
    exact h1.1
  · have h1 := at_ j oj hj
    rw [if_neg (by rw [hu]; exact Bool.false_ne_true)] at h1
    simp only [hun, Bool.or_eq_true, Bool.false_eq_true, false_or, Bool.and_eq_true, beq_iff_eq] at h1
    exact h1
theorem Free9.ready {i j : Nat} {oi oj : Oper} {listed U : Array Bool} (h : Free9 md ops listed i oi U) (hj : ops[j]? = some oj) (hji : j ≠ i) (hall : ∀ e ∈ oj.after, Region.binds md e = true → listed.getD e.on false = true) : U.getD j false = false := by
  cases hu : U.getD j false with
  | false => rfl
  | true =>
    obtain ⟨e, he, hb, hue⟩ := h.wait j oj hj hu hji
    have h1 := hall e he hb
    rw [h.un e.on hue] at h1
    cases h1
theorem Free9.set {i j : Nat} {oi : Oper} {listed U : Array Bool} (h : Free9 md ops listed i oi U) (hu : U.getD j false = false) : Free9 md ops (listed.setIfInBounds j true) i oi U := by
  refine ⟨h.size, h.own, h.wait, fun k hk => ?_, fun k ok hk hku hun => h.free k ok hk hku ?_⟩
  · have hne : j ≠ k := fun e => by subst e; rw [hu] at hk; cases hk
    rw [getD_set_ne false hne]; exact h.un k hk
  · by_cases hjk : j = k
    · subst hjk
      rcases Nat.lt_or_ge j listed.size with h' | h'
      · simp [h'] at hun
      · simp [Array.getElem?_eq_none (show (listed.setIfInBounds j true).size ≤ j by simpa using h')] at hun
    · rw [getD_set_ne true hjk] at hun; exact hun
/-- may the operations be walked in this order? -/
def orderB9 (md : Region.Mode) (ops : Array Oper) (n : Nat) (tgt : Array Bool) : List Nat → Array Bool → Bool
  | [], listed => listed == tgt
  | k :: r, listed => (Region.ready md ops listed).contains k && free9 md ops listed k && ((List.range ops.size).all fun j => decide (j < n) || (blocked md ops k).getD j false) && orderB9 md ops n tgt r (listed.setIfInBounds k true)
def order9 (md : Region.Mode) (ops : Array Oper) (n : Nat) (ks : List Nat) : Bool := Region.noSelect ops && ks.length == n && decide (n ≤ ops.size) && orderB9 md ops n (tgtB n (ops.size - n)) ks (Array.replicate ops.size false)
theorem wpAny9_first {Q : (World → Prop) → Act → Prop} {i : Nat} {oi : Oper} (htg : ∀ j, j < n → tgt.getD j false = true) (hi : ops[i]? = some oi) (hsel : ∀ (j : Nat) (o : Oper) cs b, ops[j]? = some o → o.op ≠ .select cs b) :
    ∀ (fuel : Nat) (listed : Array Bool) (C : World → Prop) (a : Act) (U : Array Bool), (∀ j, j < ops.size → U.getD j false = false → j < n) → Free9 md ops listed i oi U → i ∈ Region.ready md ops listed →
      Step9 P ops I oi a C (wpAny9 P md ops tgt I Q fuel (listed.setIfInBounds i true)) → wpAny9 P md ops tgt I Q (fuel + 1) listed C a := by
  intro fuel
  induction fuel with
  | zero =>
    intro listed C a U hsk hfree hr H
    refine ⟨fun h => (by rw [h] at hr; cases hr), fun j hj o ho => ?_⟩
    by_cases hji : j = i
    · subst hji
      have : o = oi := Option.some.inj (ho.symm.trans hi)
      subst this
      exact H
    · exfalso
      obtain ⟨hjun, oj', hoj', hall⟩ := mem_ready.1 hj
      have hju := hfree.ready hoj' hji hall
      obtain ⟨_, hkind⟩ := hfree.free j oj' hoj' hju hjun
      have hjn := hsk j (Array.getElem?_eq_some_iff.1 hoj').1 hju
      have nil : ∀ {C' : World → Prop} {a' : Act}, wpAny9 P md ops tgt I Q 0 (listed.setIfInBounds i true) C' a' → False := fun h => by
        have h1 := htg j hjn
        rw [← h.1, getD_set_ne false (Ne.symm hji)] at h1
        rw [Array.getD_eq_getD_getElem?] at h1 hjun
        cases hx : listed[j]? with
        | none => rw [hx] at h1; simp at h1
        | some y => rw [hx] at h1 hjun; simp at h1 hjun; rw [h1] at hjun; cases hjun
      rcases H with ⟨_, _, _, hn⟩ | ⟨_, _, _, hn⟩ | ⟨hk, _⟩ | ⟨hk, _⟩
      · exact nil hn
      · exact nil hn
      · rcases hkind with h | h <;> rw [hk] at h <;> simp at h
      · rcases hkind with h | h <;> rw [hk] at h <;> simp at h
  | succ fuel ih =>
    intro listed C a U hsk hfree hr H
    refine ⟨fun h => (by rw [h] at hr; cases hr), fun j hj oj hoj => ?_⟩
    by_cases hji : j = i
    · subst hji
      have : oj = oi := Option.some.inj (hoj.symm.trans hi)
      subst this
      exact H
    · obtain ⟨hjun, oj', hoj', hall⟩ := mem_ready.1 hj
      have : oj' = oj := Option.some.inj (hoj'.symm.trans hoj)
      subst this
      have hju := hfree.ready hoj' hji hall
      obtain ⟨hap, hkind⟩ := hfree.free j oj' hoj hju hjun
      obtain ⟨p1, p2, p3⟩ := Oper.apart_spec hap
      have hsi : ∀ cs b, oi.op ≠ .select cs b := fun cs b => hsel i oi cs b hi
      have hsj : ∀ cs b, oj'.op ≠ .select cs b := fun cs b => hsel j oj' cs b hoj
      have hfree' := hfree.set hju
      have hr' := ready_mono hr (Ne.symm hji)
      have next : ∀ v, (kind9 oi = 0 ∧ YieldsIn P ops (fun _ => True) oi v a ∨ kind9 oi = 1 ∧ YieldsIn P ops I oi v a) → wpAny9 P md ops tgt I Q (fuel + 1) (listed.setIfInBounds i true) C (a.put oi.dst v) → Step9 P ops I oj' a C (wpAny9 P md ops tgt I Q (fuel + 1) (listed.setIfInBounds j true)) := by
        intro v hy hn
        refine Step9.put (v := v) hap hsj (fun C' u h3 => ih _ C' _ U hsk hfree' hr' ?_) (hn.2 j (ready_mono hj hji) oj' hoj)
        have h4 : wpAny9 P md ops tgt I Q fuel ((listed.setIfInBounds j true).setIfInBounds i true) C' ((a.put oj'.dst u).put oi.dst v) := by
          rw [Array.setIfInBounds_comm _ _ hji]
          rw [Act.put_comm a v u p2] at h3
          exact h3
        have hs1 := execOp_put oi hsi a oj'.dst u p3
        have hs2 := wanted_put oi a oj'.dst u p3
        rcases hy with ⟨hk, hy⟩ | ⟨hk, hy⟩
        · exact .inl ⟨hk, v, hy.of_same hs1 hs2, h4⟩
        · exact .inr (.inl ⟨hk, v, hy.of_same hs1 hs2, h4⟩)
      rcases H with ⟨hk, v, hy, hn⟩ | ⟨hk, v, hy, hn⟩ | ⟨hk, _⟩ | ⟨hk, _⟩
      · exact next v (.inl ⟨hk, hy⟩) hn
      · exact next v (.inr ⟨hk, hy⟩) hn
      · rcases hkind with h | h <;> rw [hk] at h <;> simp at h
      · rcases hkind with h | h <;> rw [hk] at h <;> simp at h
/-- the walk in that order -/
def wpO9 (P : Program) (ops : Array Oper) (I : World → Prop) (Q : (World → Prop) → Act → Prop) : List Nat → (World → Prop) → Act → Prop
  | [], C, a => Q C a
  | k :: r, C, a => ∃ o, ops[k]? = some o ∧ Step9 P ops I o a C (wpO9 P ops I Q r)
theorem Step9.mono {o : Oper} {a : Act} {C : World → Prop} {K K' : (World → Prop) → Act → Prop} (h : Step9 P ops I o a C K) (hK : ∀ C a, K C a → K' C a) : Step9 P ops I o a C K' := by
  rcases h with ⟨hk, v, hy, hn⟩ | ⟨hk, v, hy, hn⟩ | ⟨hk, v, C', hI, hy, hn⟩ | ⟨hk, h⟩
  · exact .inl ⟨hk, v, hy, hK _ _ hn⟩
  · exact .inr (.inl ⟨hk, v, hy, hK _ _ hn⟩)
  · exact .inr (.inr (.inl ⟨hk, v, C', hI, hy, hK _ _ hn⟩))
  · refine .inr (.inr (.inr ⟨hk, ?_⟩))
    rcases h with ⟨hw, hn⟩ | ⟨hw, V, C', hs, hv, hn⟩
    · exact .inl ⟨hw, hK _ _ hn⟩
    · exact .inr ⟨hw, V, C', hs, hv, fun v hV => hK _ _ (hn v hV)⟩
theorem wpAny9_order {Q : (World → Prop) → Act → Prop} (htg : ∀ j, j < n → tgt.getD j false = true) (hs : Region.noSelect ops = true) : ∀ (ks : List Nat) (listed : Array Bool) (C : World → Prop) (a : Act),
    orderB9 md ops n tgt ks listed = true → wpO9 P ops I Q ks C a → wpAny9 P md ops tgt I Q ks.length listed C a
  | [], _, _, _, hB, h => ⟨by simpa [orderB9] using hB, h⟩
  | k :: r, listed, C, a, hB, h => by
    obtain ⟨o, ho, h⟩ := h
    simp only [orderB9, Bool.and_eq_true] at hB
    obtain ⟨⟨⟨hr, hf⟩, hsk⟩, hB'⟩ := hB
    refine wpAny9_first htg ho (Region.noSelect_spec hs) r.length listed C a _ (fun j hj hu => ?_) (free9_spec ho hf) (by simpa using hr) (h.mono fun C' a' hn => wpAny9_order htg hs r _ C' a' hB' hn)
    rw [List.all_eq_true] at hsk
    have := hsk j (List.mem_range.2 hj)
    rw [hu] at this
    simpa using this
theorem wp_region_order9 {id : Nat} {Q : Exit → Act → World → Prop} {a : Act} {w : World} {l : List Oper} (n : Nat) (ks : List Nat) (I : World → Prop) {C : World → Prop} (hm : P.follows .mixedOrders = true) (hB : order9 .any l.toArray n ks = true)
    (hq : Region.seqB .any l.toArray (l.length - n) n (tgtB n (l.length - n)) = true) (hC : C w.drew) (hI : ∀ w, C w → I w)
    (h : wpO9 P l.toArray I (fun C a' => ∀ w', C w' → wpList P l.toArray Q (l.drop n) a' w') ks C a) : (Code.region id l.toArray true).wp P Q a w := by
  simp only [order9, Bool.and_eq_true, beq_iff_eq, decide_eq_true_eq] at hB
  obtain ⟨⟨⟨hs, hl⟩, hn⟩, hB⟩ := hB
  have hn' : n ≤ l.length := by simpa using hn
  refine wp_region_any hm ?_
  have key := wpAny_of_9 (md := .any) (Q' := Q) (m := l.length - n) (tgt := tgtB n (l.length - n)) (I := I) (Q := fun C a' => ∀ w', C w' → wpList P l.toArray Q (l.drop n) a' w') (fun C a w' hw' h => ?_) ks.length (Array.replicate l.toArray.size false) C a w.drew hC hI (wpAny9_order (fun j hj => tgtB_get hj) hs ks _ C a (by simpa using hB) h)
  · rw [hl, show n + (l.length - n) = l.toArray.size by simp; omega] at key
    exact key
  · have := wpAny_of_seq (md := .any) (Q' := Q) (l.drop n) n (tgtB n (l.length - n)) a w' (fun j => by simp [List.getElem?_drop]) (by rw [List.length_drop]; exact hq) (h w' hw')
    rwa [List.length_drop] at this
end
/-! one operation of the walk -/
section
variable {P : Program} {I : World → Prop} {l : List Oper} {Q : (World → Prop) → Act → Prop} {o : Oper} {k : Nat} {r : List Nat} {C : World → Prop} {a : Act}
theorem wpO9_pure (ho : l[k]? = some o) (hk : kind9 o = 0) (h : wpQuiet P l.toArray (fun _ => True) (fun a' => wpO9 P l.toArray I Q r C a') [o] a) : wpO9 P l.toArray I Q (k :: r) C a :=
  ⟨o, at_list ho, .inl ⟨hk, yields_of_quiet h⟩⟩
theorem wpO9_load {t : TypeId} {x : Operand} {ad : Addr} (v : Value) (ho : l[k]? = some o) (hop : o.op = .load t x) (hw : Region.wanted o (yielded l.toArray a.tmps) = true) (hx : a.eval x = .pointer (some ad))
    (hrun : ∀ w, I w → (Instr.loadAt t (.pointer (some ad))).run P w = .ok v w) (h : wpO9 P l.toArray I Q r C (a.put o.dst v)) : wpO9 P l.toArray I Q (k :: r) C a := by
  refine ⟨o, at_list ho, .inr (.inl ⟨by simp [kind9, kind3, pureOp, hop], v, .inl ⟨hw, fun w hC => ?_⟩, h⟩)⟩
  unfold Oper.quietAt execOp
  simp only [hop, hx]
  rw [Sem.run_bind, hrun w hC]
  exact ⟨rfl, rfl⟩
theorem wpO9_build {t : TypeId} {xs : Array (Nat × Operand)} (v : Value) (ho : l[k]? = some o) (hop : o.op = .build t xs) (hw : Region.wanted o (yielded l.toArray a.tmps) = true)
    (hrun : ∀ w, I w → (execOp a.eval o).run P w = .ok (.value v) w) (h : wpO9 P l.toArray I Q r C (a.put o.dst v)) : wpO9 P l.toArray I Q (k :: r) C a := by
  refine ⟨o, at_list ho, .inr (.inl ⟨by simp [kind9, hop], v, .inl ⟨hw, fun w hC => ?_⟩, h⟩)⟩
  unfold Oper.quietAt
  rw [hrun w hC]
  exact ⟨rfl, rfl⟩
theorem wpO9_call (V : Value → Prop) (C' : Value → World → Prop) {f : FuncId} {args : Array Value} (ho : l[k]? = some o) (hk : kind9 o = 3) (hw : Region.wanted o (yielded l.toArray a.tmps) = true) (hsub : ∀ v w, C' v w → I w)
    (hrun : ∀ w, (execOp a.eval o).run P w = .ok (.enter f args) w) (hc : ∀ w, C w → Calls P f args w fun e w'' => ∃ v, e = .returned v ∧ V v ∧ C' v w'') (h : ∀ v, V v → wpO9 P l.toArray I Q r (C' v) (a.put o.dst v)) : wpO9 P l.toArray I Q (k :: r) C a :=
  ⟨o, at_list ho, .inr (.inr (.inr ⟨hk, .inr ⟨hw, V, C', hsub, fun w hC => by rw [hrun w]; exact hc w hC, h⟩⟩))⟩
theorem wpO9_store (C' : World → Prop) {t : TypeId} {x y : Operand} (ho : l[k]? = some o) (hop : o.op = .store t x y) (hd : o.dst = none) (hg : o.guard = none) (ad : Addr) (v : Value) (hx : a.eval x = .pointer (some ad)) (hy : a.eval y = v) (hsub : ∀ w, C' w → I w)
    (hrun : ∀ w, C w → ∃ w', (Instr.storeAt t (.pointer (some ad)) v).run P w = .ok () w' ∧ C' w') (h : wpO9 P l.toArray I Q r C' a) : wpO9 P l.toArray I Q (k :: r) C a := by
  refine ⟨o, at_list ho, .inr (.inr (.inl ⟨by simp [kind9, kind3, pureOp, hop], undef, C', hsub, .inl ⟨by simp [Region.wanted, hg], fun w hw => ?_⟩, ?_⟩))⟩
  · obtain ⟨w', hr, hc⟩ := hrun w hw
    unfold execOp
    simp only [hop, hx, hy]
    rw [Sem.run_bind, hr]
    exact ⟨rfl, hc⟩
  · rw [hd]; exact h
theorem wpO9_do (V : Value → Prop) (C' : Value → World → Prop) (ho : l[k]? = some o) (hk : kind9 o = 3) (hw : Region.wanted o (yielded l.toArray a.tmps) = true) (hsub : ∀ v w, C' v w → I w)
    (hrun : ∀ w, C w → ∃ u w', (execOp a.eval o).run P w = .ok (.value u) w' ∧ V u ∧ C' u w') (h : ∀ v, V v → wpO9 P l.toArray I Q r (C' v) (a.put o.dst v)) : wpO9 P l.toArray I Q (k :: r) C a :=
  ⟨o, at_list ho, .inr (.inr (.inr ⟨hk, .inr ⟨hw, V, C', hsub, fun w hC => by
    obtain ⟨u, w', h1, h2, h3⟩ := hrun w hC
    rw [h1]
    exact ⟨h2, h3⟩, h⟩⟩))⟩
theorem wpO9_nil {x : Operand} {ad : Addr} (ho : l[k]? = some o) (hop : o.op = .nilCheck x) (hw : Region.wanted o (yielded l.toArray a.tmps) = true) (hx : a.eval x = .pointer (some ad))
    (h : wpO9 P l.toArray I Q r C (a.put o.dst (.pointer (some ad)))) : wpO9 P l.toArray I Q (k :: r) C a := by
  refine ⟨o, at_list ho, .inr (.inl ⟨by simp [kind9, hop], .pointer (some ad), .inl ⟨hw, fun w hC => ?_⟩, h⟩)⟩
  unfold Oper.quietAt execOp
  simp only [hop, hx]
  exact ⟨rfl, rfl⟩
end
end Go.Proofs.YtlbfibnfmijahaaGreat

namespace Go.Proofs.YtlbfibnfmijahaaGreat
open Go.RowKit Go.Shelf
set_option maxRecDepth 100000
attribute [local go_sem] Oper.semAt_some

theorem numR_ways (l : List Int) (mo : Int) (h0 : 0 ≤ mo) : ∃ (X : Int) (u er : Nat), numR l mo = (X, u, er) ∧ 0 ≤ X ∧ X ≤ mo ∧ u ≤ l.length ∧
    (((Vi.get l).2.2 ≠ 0 ∧ er = (Vi.get l).2.2) ∨ ((Vi.get l).2.2 = 0 ∧ mo < ((Vi.get l).1 : Int) ∧ er = 5) ∨ ((Vi.get l).2.2 = 0 ∧ ((Vi.get l).1 : Int) ≤ mo ∧ er = 0 ∧ X = ((Vi.get l).1 : Int) ∧ u = (Vi.get l).2.1)) := by
  have hle := Vi.get_le l
  unfold numR
  by_cases h1 : (Vi.get l).2.2 ≠ 0
  · rw [if_pos h1]
    exact ⟨0, 0, _, rfl, by omega, by omega, by omega, .inl ⟨h1, rfl⟩⟩
  · rw [if_neg h1]
    have h1' : (Vi.get l).2.2 = 0 := by simpa using h1
    by_cases h2 : mo < ((Vi.get l).1 : Int)
    · rw [if_pos h2]
      exact ⟨0, 0, _, rfl, by omega, by omega, by omega, .inr (.inl ⟨h1', h2, rfl⟩)⟩
    · rw [if_neg h2]
      exact ⟨_, _, _, rfl, by omega, by omega, hle.2.2.1, .inr (.inr ⟨h1', by omega, rfl, rfl, rfl⟩)⟩
set_option maxHeartbeats 4000000 in
theorem plainr_any (lo mb lb bf bm : Nat) (zs : List Int) (N : Mg) (P C : Value) (p : Nat) (f : Fd) (w : World) (h : RdAt lo w mb lb zs N P C p 0) (hf : FdX f) (hso : f.so = 1) (hmo : 0 ≤ f.mo) (hl : zs.length ≤ 1000000) (hz : Bys zs)
    (hbf : w.heap[bf]? = some (.cells f.cs 87 (0, 0))) (hbm : w.heap[bm]? = some (.cells #[.pointer (some ⟨mb, 0, none⟩)] 121 (0, 0))) :
    Calls Tryz.prog 108 #[.pointer (some ⟨lb, 0, none⟩), .pointer (some ⟨bf, 0, none⟩), .pointer (some ⟨bm, 0, none⟩)] w fun r w' => RdO lo mb lb zs p (rdF N f (zs.drop p)) w r w' := by
  obtain ⟨jj, hj6, hjj⟩ := hf.pl (by omega)
  have hz6 : (jj : Int) < 6 := by omega
  obtain ⟨X, u, er, hX, x0, x1, hu, hw⟩ := numR_ways (zs.drop p) f.mo hmo
  have K := lnum_any lo lb zs p 0 w f.mo h.l (by omega) hz
  rw [hX] at K
  unfold ReadI at K
  simp only [ansI, placeOf, errOf, if_true] at K
  have hle := hf.le
  obtain ⟨R, hR⟩ : ∃ R, rdF N f (zs.drop p) = R := ⟨_, rfl⟩
  rw [hR]
  unfold rdF at hR
  rw [if_pos hso] at hR
  have hlm := h.a
  obtain ⟨-, -, -, hbl, -⟩ := And.intro trivial (And.intro trivial (And.intro trivial (And.intro h.l.open trivial)))
  obtain ⟨_, _, hbl, -⟩ := hbl
  have n1 := row_ne hbf h.m (by decide)
  have n2 := row_ne hbf hbl (by decide)
  have n3 := row_ne hbm h.m (by decide)
  have n4 := row_ne hbm hbl (by decide)
  obtain ⟨d0, d1, d2, d3, d4, d5, d6⟩ := fd_block hbf
  have hm2 : f.mo ≤ 1000000 := by omega
  have K := Lib.hid K
  have HH := Lib.hid h
  have HBF := Lib.hid hbf
  have HBM := Lib.hid hbm
  have HR := Lib.hid hR
  have HW := Lib.hid hw
  have HLE := Lib.hid hle
  clear hR hw hle hX h hbl d0 d1 d2 d3 d5 d6
  go_enter Tryz.func108, Tryz.ntmps108
  go_wp2_with fail
  refine K.out.mono ?_
  rintro r w1 ⟨rfl, hl1, ho1⟩
  have h1 := HH.out.turn hl1 ho1
  have hbf1 := (ho1.block _ (Array.getElem?_eq_some_iff.1 HBF.out).1 n2).trans HBF.out
  have hbm1 := (ho1.block _ (Array.getElem?_eq_some_iff.1 HBM.out).1 n4).trans HBM.out
  obtain ⟨d0, d1, d2, d3, d4, d5, d6⟩ := fd_block hbf1
  rw [hjj] at d2
  have k0 := row_cell hbm1 0 _ rfl
  have c7 := mg_at h1.m hj6
  have z7 := frozen_of_row w1 mb (1 + jj) _ _ h1.m
  have HN := Lib.hid (h1.num hj6 X)
  have HOF : Hid (Off (fun q => q = mb ∨ q = lb) w (w1.setCell ⟨mb, 1 + jj, none⟩ (.int .i64 X)).drew) := Lib.hid (((ho1.mono (S' := fun q => q = mb ∨ q = lb) (fun _ _ e => .inr e)).setCell (p := ⟨mb, 1 + jj, none⟩) (.inl rfl) _).trans (Off.of_below (S := fun _ => False) (Below.refl _ _).drew) (fun _ _ h => h.elim))
  have d3' := (fd_block (w := w1.setCell ⟨mb, 1 + jj, none⟩ (.int .i64 X)) ((Below.heap_setCell w1 ⟨mb, 1 + jj, none⟩ (.int .i64 X) bf n1).trans hbf1)).2.2.2.1
  clear K hl1 ho1 h1 hbf1 hbm1 d0 d1 d4 d5 d6
  go_wp2_with fail
  go_region
  go_wp2_with fail
  have HN2 := Lib.hid (HN.out.later (Below.refl _ _).drew)
  refine (otherwise_any HN2.out.l (decide (X < f.le)) 5).mono ?_
  rintro r w2 ⟨rfl, rfl⟩
  go_wp2
  go_ret
  have hR := HR.out
  rcases HW.out with ⟨g1, rfl⟩ | ⟨g1, g2, rfl⟩ | ⟨g1, g2, rfl, g3, rfl⟩
  · rw [if_pos g1] at hR
    subst hR
    exact ⟨by simp [oth, g1], HOF.out, fun h => absurd h g1⟩
  · rw [if_neg (by simpa using g1), if_pos (.inl g2)] at hR
    subst hR
    exact ⟨by simp [oth], HOF.out, fun h => by simp at h⟩
  · by_cases hlt : X < f.le
    · rw [if_neg (by simpa using g1), if_pos (.inr (by omega))] at hR
      subst hR
      exact ⟨by simp [oth, hlt], HOF.out, fun h => by simp at h⟩
    · rw [if_neg (by simpa using g1), if_neg (by omega), hjj, Int.toNat_natCast, ← g3] at hR
      subst hR
      exact ⟨by simp [oth, hlt], HOF.out, fun _ => ⟨P, C, HN2.out⟩⟩
theorem sigR_ways (l : List Int) : ∃ (X : Int) (u er : Nat), sigR l (-1000000) 1000000 = (X, u, er) ∧ -1000000 ≤ X ∧ X ≤ 1000000 ∧ u ≤ l.length ∧
    (((Vi.get l).2.2 ≠ 0 ∧ er = (Vi.get l).2.2) ∨ ((Vi.get l).2.2 = 0 ∧ (zagZ ((Vi.get l).1 : Int) < -1000000 ∨ 1000000 < zagZ ((Vi.get l).1 : Int)) ∧ er = 5) ∨ ((Vi.get l).2.2 = 0 ∧ ¬ (zagZ ((Vi.get l).1 : Int) < -1000000 ∨ 1000000 < zagZ ((Vi.get l).1 : Int)) ∧ er = 0 ∧ X = zagZ ((Vi.get l).1 : Int) ∧ u = (Vi.get l).2.1)) := by
  have hle := Vi.get_le l
  unfold sigR
  by_cases h1 : (Vi.get l).2.2 ≠ 0
  · rw [if_pos h1]
    exact ⟨0, 0, _, rfl, by omega, by omega, by omega, .inl ⟨h1, rfl⟩⟩
  · rw [if_neg h1]
    have h1' : (Vi.get l).2.2 = 0 := by simpa using h1
    by_cases h2 : zagZ ((Vi.get l).1 : Int) < -1000000 ∨ 1000000 < zagZ ((Vi.get l).1 : Int)
    · rw [if_pos h2]
      exact ⟨0, 0, _, rfl, by omega, by omega, by omega, .inr (.inl ⟨h1', h2, rfl⟩)⟩
    · rw [if_neg h2]
      exact ⟨_, _, _, rfl, by omega, by omega, hle.2.2.1, .inr (.inr ⟨h1', h2, rfl, rfl, rfl⟩)⟩
set_option maxHeartbeats 4000000 in
theorem signedr_any (lo mb lb bf bm : Nat) (zs : List Int) (N : Mg) (P C : Value) (p : Nat) (f : Fd) (w : World) (h : RdAt lo w mb lb zs N P C p 0) (hf : FdX f) (hso : f.so = 2) (hl : zs.length ≤ 1000000) (hz : Bys zs)
    (hbf : w.heap[bf]? = some (.cells f.cs 87 (0, 0))) (hbm : w.heap[bm]? = some (.cells #[.pointer (some ⟨mb, 0, none⟩)] 121 (0, 0))) :
    Calls Tryz.prog 96 #[.pointer (some ⟨lb, 0, none⟩), .pointer (some ⟨bf, 0, none⟩), .pointer (some ⟨bm, 0, none⟩)] w fun r w' => RdO lo mb lb zs p (rdF N f (zs.drop p)) w r w' := by
  obtain ⟨jj, hj6, hjj⟩ := hf.pl (by omega)
  have hz6 : (jj : Int) < 6 := by omega
  obtain ⟨hfl, hfm⟩ := hf.two hso
  obtain ⟨X, u, er, hX, x0, x1, hu, hw⟩ := sigR_ways (zs.drop p)
  have KS : Hid (∀ W, LensAt W lo lb zs p 0 → Calls Tryz.prog 97 #[.pointer (some ⟨lb, 0, none⟩), .int .i64 (-1000000), .int .i64 1000000] W fun r w' => r = .returned (.int .i64 X) ∧ LensAt w' lo lb zs (p + u) er ∧ Off (fun q => q = lb) W w') := Lib.hid fun W hW => by
    have K := lsig_any lo lb zs p 0 W (-1000000) 1000000 hW (by omega) hz
    rw [hX] at K
    unfold ReadI at K
    simpa only [ansI, placeOf, errOf, if_true] using K
  obtain ⟨R, hR⟩ : ∃ R, rdF N f (zs.drop p) = R := ⟨_, rfl⟩
  rw [hR]
  unfold rdF at hR
  rw [if_neg (show ¬ f.so = 1 by omega), if_pos hso] at hR
  have hlm := h.a
  obtain ⟨_, _, hbl, -⟩ := h.l.open
  have n1 := row_ne hbf h.m (by decide)
  have n2 := row_ne hbf hbl (by decide)
  have n3 := row_ne hbm h.m (by decide)
  have n4 := row_ne hbm hbl (by decide)
  have hlb := h.l.lt
  have HH := Lib.hid h
  have HR := Lib.hid hR
  have HW := Lib.hid hw
  have hI : ∀ W, Off (fun q => q = lb) w W → W.heap[bf]? = some (.cells f.cs 87 (0, 0)) ∧ W.heap[bm]? = some (.cells #[.pointer (some ⟨mb, 0, none⟩)] 121 (0, 0)) := fun W hW => ⟨(hW.block _ (Array.getElem?_eq_some_iff.1 hbf).1 n2).trans hbf, (hW.block _ (Array.getElem?_eq_some_iff.1 hbm).1 n4).trans hbm⟩
  have lM : ∀ W, Off (fun q => q = lb) w W → (Instr.loadAt 121 (.pointer (some ⟨bm, 0, none⟩))).run Tryz.prog W = .ok (.pointer (some ⟨mb, 0, none⟩)) W := fun W hW => by
    have k := row_cell (hI W hW).2 0 _ rfl
    simp [Instr.loadAt, go_sem, k]
  have lF : ∀ W, Off (fun q => q = lb) w W → (Instr.loadAt 3 (.pointer (some ⟨bf, 2, none⟩))).run Tryz.prog W = .ok (.int .i64 (jj : Int)) W := fun W hW => by
    have k := (fd_block (hI W hW).1).2.2.1
    rw [hjj] at k
    simp [Instr.loadAt, go_sem, k]
  have lL : ∀ W, Off (fun q => q = lb) w W → (Instr.loadAt 3 (.pointer (some ⟨bf, 3, none⟩))).run Tryz.prog W = .ok (.int .i64 (-1000000)) W := fun W hW => by
    have k := (fd_block (hI W hW).1).2.2.2.1
    rw [hfl] at k
    simp [Instr.loadAt, go_sem, k]
  have lH : ∀ W, Off (fun q => q = lb) w W → (Instr.loadAt 3 (.pointer (some ⟨bf, 4, none⟩))).run Tryz.prog W = .ok (.int .i64 1000000) W := fun W hW => by
    have k := (fd_block (hI W hW).1).2.2.2.2.1
    rw [hfm] at k
    simp [Instr.loadAt, go_sem, k]
  clear hR hw hX h hbl hbf hbm hf hfl hfm hz
  go_enter Tryz.func96, Tryz.ntmps96
  go_wp2_with fail
  refine wp_region_order9 12 (0 :: 1 :: 2 :: 3 :: 4 :: 5 :: 6 :: 7 :: 9 :: 10 :: 8 :: 11 :: []) (fun W => Off (fun q => q = lb) w W) (C := fun W => Below w.heap.size w W) (by kernel_rfl) (by kernel_rfl) (by kernel_rfl) (Below.refl _ _).drew (fun W hW => Off.of_below hW) ?_
  refine wpO9_load (ad := ⟨bm, 0, none⟩) (.pointer (some ⟨mb, 0, none⟩)) rfl rfl rfl (by rfl) lM ?_
  simp only [Act.put, List.setIfInBounds_toArray, List.set_cons_succ, List.set_cons_zero]
  repeat (refine wpO9_pure rfl rfl ?_; go_big_quiet_step (fail); refine wpQuiet_nil ?_)
  refine wpO9_load (ad := ⟨bf, 2, none⟩) (.int .i64 (jj : Int)) rfl rfl rfl (by rfl) lF ?_
  simp only [Act.put, List.setIfInBounds_toArray, List.set_cons_succ, List.set_cons_zero]
  repeat (refine wpO9_pure rfl rfl ?_; go_big_quiet_step (fail); refine wpQuiet_nil ?_)
  refine wpO9_load (ad := ⟨bf, 3, none⟩) (.int .i64 (-1000000)) rfl rfl rfl (by rfl) lL ?_
  simp only [Act.put, List.setIfInBounds_toArray, List.set_cons_succ, List.set_cons_zero]
  repeat (refine wpO9_pure rfl rfl ?_; go_big_quiet_step (fail); refine wpQuiet_nil ?_)
  refine wpO9_load (ad := ⟨bf, 4, none⟩) (.int .i64 1000000) rfl rfl rfl (by rfl) lH ?_
  simp only [Act.put, List.setIfInBounds_toArray, List.set_cons_succ, List.set_cons_zero]
  refine wpO9_nil (ad := ⟨mb, 0, none⟩) rfl rfl rfl (by rfl) ?_
  simp only [Act.put, List.setIfInBounds_toArray, List.set_cons_succ, List.set_cons_zero]
  repeat (refine wpO9_pure rfl rfl ?_; go_big_quiet_step (fail); refine wpQuiet_nil ?_)
  refine wpO9_call (fun v => v = .int .i64 X) (fun _ W => LensAt W lo lb zs (p + u) er ∧ Off (fun q => q = lb) w W) (f := 97) (args := #[.pointer (some ⟨lb, 0, none⟩), .int .i64 (-1000000), .int .i64 1000000]) rfl rfl rfl (fun _ W hW => hW.2) (fun x => by first | rfl | (simp [go_sem]; done)) (fun W hW => (KS.out W (HH.out.later hW).l).mono (fun e w' h => ⟨_, h.1, rfl, h.2.1, (Off.of_below (S := fun q => q = lb) hW).trans h.2.2 (fun _ _ h => h)⟩)) ?_
  rintro v rfl
  simp only [Act.put, List.setIfInBounds_toArray, List.set_cons_succ, List.set_cons_zero]
  repeat (refine wpO9_pure rfl rfl ?_; go_big_quiet_step (fail); refine wpQuiet_nil ?_)
  rintro w1 ⟨hl1, ho1⟩
  simp only [List.drop_succ_cons, List.drop_zero]
  have h1 := HH.out.turn hl1 ho1
  have c7 := mg_at h1.m hj6
  have z7 := frozen_of_row w1 mb (1 + jj) _ _ h1.m
  have HN := Lib.hid (h1.num hj6 X)
  have HOF : Hid (Off (fun q => q = mb ∨ q = lb) w (w1.setCell ⟨mb, 1 + jj, none⟩ (.int .i64 X))) := Lib.hid ((ho1.mono (S' := fun q => q = mb ∨ q = lb) (fun _ _ e => .inr e)).setCell (p := ⟨mb, 1 + jj, none⟩) (.inl rfl) _)
  clear hl1 ho1 h1 hI lM lF lL lH KS
  go_wp2_with fail
  refine (lerr_any _ _ _ _ _ _ HN.out.l).mono ?_
  rintro r w2 ⟨rfl, rfl⟩
  go_wp2
  go_ret
  have hR := HR.out
  rcases HW.out with ⟨g1, rfl⟩ | ⟨g1, g2, rfl⟩ | ⟨g1, g2, rfl, g3, rfl⟩
  · rw [if_pos g1] at hR
    subst hR
    exact ⟨rfl, HOF.out, fun h => absurd h g1⟩
  · rw [if_neg (by simpa using g1), if_pos g2] at hR
    subst hR
    exact ⟨rfl, HOF.out, fun h => by simp at h⟩
  · rw [if_neg (by simpa using g1), if_neg g2, hjj, Int.toNat_natCast, ← g3] at hR
    subst hR
    exact ⟨rfl, HOF.out, fun _ => ⟨P, C, HN.out⟩⟩
end Go.Proofs.YtlbfibnfmijahaaGreat

namespace Go.Proofs.YtlbfibnfmijahaaGreat
open Go.RowKit
section
variable {P : Program} {l : List Oper} {vs : List Value} {fs : List Tmp} {FS : Tmp → Value → World → Prop} {I : World → Prop} {a0 : Act}
section
variable {ops : Array Oper} {m : Tmp} {St : (Tmp → Value) → World → Value → World → Prop} {Sf : World → Prop} {E : Act → Prop}
end
/-! ### its steps -/
section
variable {m : Tmp} {St : (Tmp → Value) → World → Value → World → Prop} {Sf : World → Prop} {E : Act → Prop} {o : Oper} {rest : List Oper} {a : Act}
end
end
end Go.Proofs.YtlbfibnfmijahaaGreat

namespace Go.Proofs.YtlbfibnfmijahaaGreat
open Go.RowKit Go.Shelf
set_option maxRecDepth 100000
attribute [local go_sem] Oper.semAt_some

/-- a message's box, the result's and a box of two numbers; the message's lists lie in none of them -/
structure ThreeM (w : World) (b4 b8 b11 : Nat) (M : Mg) (W : World) (P C : Value) (x y : Int) : Prop where
  t : TwoM w b4 b8 M W P C
  bx : W.heap[b11]? = some (.cells #[.int .i64 x, .int .i64 y] 77 (0, 0))
  hi : w.heap.size ≤ b11 ∧ b11 ≠ b4 ∧ b11 ≠ b8
  p : ∀ a n c, P = .slice a n c → NuX W b11 b11 a (fl2 M.p)
  c : ∀ a n c, C = .slice a n c → NuX W b11 b11 a M.c
section
variable {w W W' : World} {b4 b8 b11 : Nat} {M : Mg} {P C : Value} {x y : Int}
theorem NuX.past {b : Nat} {A : Option Addr} {zs : List Int} {V V' : World} (h : NuX V b4 b8 A zs) (hb : NuX V b b A zs) (ho : Off (fun q => q = b) V V') : NuX V' b4 b8 A zs := fun hn => by
  obtain ⟨g, off, e, h1, h2, hc⟩ := h hn
  obtain ⟨g', off', e', h1', -, -⟩ := hb hn
  rw [e] at e'
  injection e' with e'
  injection e' with e1 e2
  subst e1
  exact ⟨g, off, e, h1, h2, fun j c hj => ho.cell (hc j c hj) h1'⟩
theorem TwoM.past {b : Nat} (h : TwoM w b4 b8 M W P C) (ho : Off (fun q => q = b) W W') (h4 : b4 ≠ b) (h8 : b8 ≠ b) (hb : w.heap.size ≤ b) (hp : ∀ a n c, P = .slice a n c → NuX W b b a (fl2 M.p)) (hc : ∀ a n c, C = .slice a n c → NuX W b b a M.c) : TwoM w b4 b8 M W' P C := by
  obtain ⟨⟨a, c, h1, h2, h3⟩, ⟨a', c', h5, h6, h7⟩⟩ := And.intro h.p h.c
  exact ⟨(ho.block _ (Array.getElem?_eq_some_iff.1 h.m).1 h4).trans h.m, (ho.block _ (Array.getElem?_eq_some_iff.1 h.r).1 h8).trans h.r, ⟨a, c, h1, h2, h3.past (hp _ _ _ h1) ho⟩, ⟨a', c', h5, h6, h7.past (hc _ _ _ h5) ho⟩, h.b.trans (ho.below (B := w.heap.size) (fun q hq => by omega) h.b.size), h.lo⟩
theorem NuX.keep1 {b : Nat} {A : Option Addr} {zs : List Int} {V V' : World} (h : NuX V b b A zs) (ho : Off (fun q => q = b) V V') : NuX V' b b A zs := h.keep (ho.mono fun _ _ h => .inl h)
theorem ThreeM.later (h : ThreeM w b4 b8 b11 M W P C x y) (hb : Below W.heap.size W W') : ThreeM w b4 b8 b11 M W' P C x y :=
  ⟨h.t.later hb, (hb.block _ (Array.getElem?_eq_some_iff.1 h.bx).1).trans h.bx, h.hi, fun a n c e => (h.p a n c e).keep1 (Off.of_below hb), fun a n c e => (h.c a n c e).keep1 (Off.of_below hb)⟩
theorem ThreeM.set (h : ThreeM w b4 b8 b11 M W P C x y) {j : Nat} {z x' y' : Int} (hz : (#[Value.int .i64 x, .int .i64 y] : Array Value).setIfInBounds j (.int .i64 z) = #[.int .i64 x', .int .i64 y']) : ThreeM w b4 b8 b11 M (W.setCell ⟨b11, j, none⟩ (.int .i64 z)) P C x' y' := by
  have ho : Off (fun q => q = b11) W (W.setCell ⟨b11, j, none⟩ (.int .i64 z)) := Off.setCell (S := fun q => q = b11) (p := ⟨b11, j, none⟩) (Off.refl _ W) rfl _
  have hi := h.hi
  exact ⟨h.t.past ho (by omega) (by omega) (by omega) h.p h.c, by rw [setCell_at h.bx, hz], h.hi, fun a n c e => (h.p a n c e).keep1 ho, fun a n c e => (h.c a n c e).keep1 ho⟩
end
theorem rdP_step (m : Nat) (a : Int × Int) (l : List Int) : rdP (m + 1) a l = if (rdX a.1 l).1 ≠ 0 then ((rdX a.1 l).1, 0, [])
    else if (rdX a.2 (l.drop (rdX a.1 l).2.1)).1 ≠ 0 then ((rdX a.2 (l.drop (rdX a.1 l).2.1)).1, 0, [])
    else ((rdP m ((rdX a.1 l).2.2, (rdX a.2 (l.drop (rdX a.1 l).2.1)).2.2) ((l.drop (rdX a.1 l).2.1).drop (rdX a.2 (l.drop (rdX a.1 l).2.1)).2.1)).1, (rdX a.1 l).2.1 + (rdX a.2 (l.drop (rdX a.1 l).2.1)).2.1 + (rdP m ((rdX a.1 l).2.2, (rdX a.2 (l.drop (rdX a.1 l).2.1)).2.2) ((l.drop (rdX a.1 l).2.1).drop (rdX a.2 (l.drop (rdX a.1 l).2.1)).2.1)).2.1, ((rdX a.1 l).2.2, (rdX a.2 (l.drop (rdX a.1 l).2.1)).2.2) :: (rdP m ((rdX a.1 l).2.2, (rdX a.2 (l.drop (rdX a.1 l).2.1)).2.2) ((l.drop (rdX a.1 l).2.1).drop (rdX a.2 (l.drop (rdX a.1 l).2.1)).2.1)).2.2) := rfl
/-- so many of a point's two numbers have been read -/
def PIn (x y : Int) (l : List Int) (k c : Nat) (x' y' : Int) : Prop :=
  (k = 0 → c = 0 ∧ x' = x ∧ y' = y) ∧ (k = 1 → rdX x l = (0, c, x') ∧ y' = y) ∧ (k = 2 → ∃ c1 c2, c = c1 + c2 ∧ rdX x l = (0, c1, x') ∧ rdX y (l.drop c1) = (0, c2, y'))
theorem PIn.err {x y x' y' : Int} {l : List Int} {k c : Nat} (h : PIn x y l k c x' y') (hk : k < 2) {e p : Nat} {v : Int} (hr : rdX (if k = 0 then x' else y') (l.drop c) = (e, p, v)) (he : e ≠ 0) (m : Nat) : rdP (m + 1) (x, y) l = (e, 0, []) := by
  obtain ⟨h0, h1, -⟩ := h
  rw [rdP_step]
  rcases (show k = 0 ∨ k = 1 by omega) with rfl | rfl
  · obtain ⟨rfl, rfl, rfl⟩ := h0 rfl
    rw [if_pos rfl, List.drop_zero] at hr
    rw [hr, if_pos he]
  · obtain ⟨h5, h6⟩ := h1 rfl
    subst h6
    rw [if_neg (by decide)] at hr
    rw [h5, if_neg (by simp)]
    simp only
    rw [hr, if_pos he]
theorem PIn.next {x y x' y' : Int} {l : List Int} {k c : Nat} (h : PIn x y l k c x' y') (hk : k < 2) {p : Nat} {v : Int} (hr : rdX (if k = 0 then x' else y') (l.drop c) = (0, p, v)) : PIn x y l (k + 1) (c + p) (if k = 0 then v else x') (if k = 0 then y' else v) := by
  obtain ⟨h0, h1, -⟩ := h
  rcases (show k = 0 ∨ k = 1 by omega) with rfl | rfl
  · obtain ⟨rfl, rfl, rfl⟩ := h0 rfl
    rw [if_pos rfl, List.drop_zero] at hr
    exact ⟨fun h => absurd h (by decide), fun _ => ⟨by rw [hr]; simp, rfl⟩, fun h => absurd h (by decide)⟩
  · obtain ⟨h5, h6⟩ := h1 rfl
    subst h6
    rw [if_neg (by decide)] at hr
    exact ⟨fun h => absurd h (by decide), fun h => absurd h (by decide), fun _ => ⟨c, p, rfl, h5, hr⟩⟩
theorem PIn.two {x y x' y' : Int} {l : List Int} {c : Nat} (h : PIn x y l 2 c x' y') (m : Nat) : rdP (m + 1) (x, y) l = ((rdP m (x', y') (l.drop c)).1, c + (rdP m (x', y') (l.drop c)).2.1, (x', y') :: (rdP m (x', y') (l.drop c)).2.2) := by
  obtain ⟨c1, c2, rfl, h1, h2⟩ := h.2.2 rfl
  rw [rdP_step]
  simp only
  rw [h1, if_neg (by simp)]
  simp only
  rw [h2, if_neg (by simp)]
  simp only
  rw [List.drop_drop]
theorem exec_appendH {P : Program} {w w' : World} {o : Oper} {b : Act} {v1 v2 v' : Value} (s x : Operand) (t : TypeId) (hop : o.op = Op.call { callee := Callee.builtin Builtin.append, args := #[s, x], argTypes := #[t, t] })
    (hs : b.eval s = v1) (hx : b.eval x = v2) (hrun : (Builtin.append_ #[t, t] o.type #[v1, v2]).run P w = .ok v' w') : (execOp b.eval o).run P w = .ok (.value v') w' := by
  simp [execOp, hop, resolve, invoke, builtin, hs, hx, hrun, Result.andThen]
/-- what the slots of a path's statement hold -/
def FPp (B : Nat) (zs : List Int) (np : Nat) (x y : Int) (q : Tmp) (v : Value) (W : World) : Prop :=
  if q = 66 then ∃ g, v = .slice (some ⟨g, 0, none⟩) 0 0 ∧ W.ownsRow B 77 2 v 0 []
  else if q = 69 then W.ownsRow B 77 2 v np (zs.map (Value.int .i64))
  else if q = 71 then ∃ g, v = .slice (some ⟨g, 0, none⟩) 1 1 ∧ W.heap[g]? = some (.cells #[.int .i64 x, .int .i64 y] 77 (0, 0))
  else True
theorem FPp.later {B : Nat} {zs : List Int} {np : Nat} {x y : Int} {q : Tmp} {v : Value} {W W' : World} (h : FPp B zs np x y q v W) (hb : Below W.heap.size W W') : FPp B zs np x y q v W' := by
  unfold FPp at h ⊢
  split
  · rename_i e
    rw [if_pos e] at h
    obtain ⟨g, e1, h1⟩ := h
    exact ⟨g, e1, own_below7 h1 hb⟩
  · rename_i e
    rw [if_neg e] at h
    split
    · rename_i e
      rw [if_pos e] at h
      exact own_below7 h hb
    · rename_i e
      rw [if_neg e] at h
      split
      · rename_i e
        rw [if_pos e] at h
        obtain ⟨g, e1, h1⟩ := h
        exact ⟨g, e1, (hb.block _ (Array.getElem?_eq_some_iff.1 h1).1).trans h1⟩
      · trivial

end Go.Proofs.YtlbfibnfmijahaaGreat

namespace Go.Proofs.YtlbfibnfmijahaaGreat
open Go.RowKit Go.Shelf
set_option maxRecDepth 100000
attribute [local go_sem] Oper.semAt_some

/-- while cells are read: the message's box, the lens, the cells' own row, the last cell's box -/
structure CSt (w : World) (lo mb lb ab bm : Nat) (zs : List Int) (N : Mg) (P : Value) (L : List Int) (a : Int) (p e : Nat) (C : Value) (W : World) : Prop where
  m : W.heap[mb]? = some (.cells (mC { N with c := L } P C) 26 (0, 0))
  l : LensAt W lo lb zs p e
  o : W.ownsRow w.heap.size 3 1 C L.length (L.map (Value.int .i64))
  at' : W.heap[ab]? = some (.cells #[.int .i64 a] 3 (0, 0))
  pm : W.heap[bm]? = some (.cells #[.pointer (some ⟨mb, 0, none⟩)] 121 (0, 0))
  off : Off (fun q => q = mb ∨ q = lb ∨ q = ab) w W
  lt : lb < mb ∧ mb < ab ∧ mb < bm ∧ ab < w.heap.size ∧ bm < w.heap.size
section
variable {w W W' : World} {lo mb lb ab bm : Nat} {zs : List Int} {N : Mg} {P C : Value} {L : List Int} {a : Int} {p e p' e' : Nat}
theorem CSt.later (h : CSt w lo mb lb ab bm zs N P L a p e C W) (hb : Below W.heap.size W W') : CSt w lo mb lb ab bm zs N P L a p e C W' :=
  ⟨(hb.block _ (Array.getElem?_eq_some_iff.1 h.m).1).trans h.m, h.l.below hb, own_below7 h.o hb, (hb.block _ (Array.getElem?_eq_some_iff.1 h.at').1).trans h.at', (hb.block _ (Array.getElem?_eq_some_iff.1 h.pm).1).trans h.pm, h.off.trans (Off.of_below (S := fun _ => False) hb) (fun _ _ e => e.elim), h.lt⟩
/-- the lens is turned -/
theorem CSt.turn (h : CSt w lo mb lb ab bm zs N P L a p e C W) (hl : LensAt W' lo lb zs p' e') (ho : Off (fun q => q = lb) W W') : CSt w lo mb lb ab bm zs N P L a p' e' C W' := by
  obtain ⟨h1, h2, h3, h4, h5⟩ := h.lt
  exact ⟨(ho.block _ (Array.getElem?_eq_some_iff.1 h.m).1 (by omega)).trans h.m, hl, own_offM h.o ho (fun g hg e => by have := (h.o.lt g hg).1; omega), (ho.block _ (Array.getElem?_eq_some_iff.1 h.at').1 (by omega)).trans h.at', (ho.block _ (Array.getElem?_eq_some_iff.1 h.pm).1 (by omega)).trans h.pm, h.off.trans ho (fun _ _ e => .inr (.inl e)), h.lt⟩
/-- the last cell is told -/
theorem CSt.set (h : CSt w lo mb lb ab bm zs N P L a p e C W) (y : Int) : CSt w lo mb lb ab bm zs N P L y p e C (W.setCell ⟨ab, 0, none⟩ (.int .i64 y)) := by
  obtain ⟨h1, h2, h3, h4, h5⟩ := h.lt
  have ho : Off (fun q => q = ab) W (W.setCell ⟨ab, 0, none⟩ (.int .i64 y)) := Off.setCell (S := fun q => q = ab) (p := ⟨ab, 0, none⟩) (Off.refl _ W) rfl _
  have hne := row_ne h.pm h.at' (by decide)
  exact ⟨(ho.block _ (Array.getElem?_eq_some_iff.1 h.m).1 (by omega)).trans h.m, h.l.off ho (fun k _ hk => by omega), own_offM h.o ho (fun g hg e => by have := (h.o.lt g hg).1; omega), by rw [setCell_at h.at']; rfl, (ho.block _ (Array.getElem?_eq_some_iff.1 h.pm).1 hne).trans h.pm, h.off.trans ho (fun _ _ e => .inr (.inr e)), h.lt⟩
/-- the cells have grown -/
theorem CSt.grow (h : CSt w lo mb lb ab bm zs N P L a p e C W) {v : Value} {y : Int} (hown : W'.ownsRow w.heap.size 3 1 v (L.length + 1) ((L ++ [y]).map (Value.int .i64))) (hg : W.grownBy W' C.ownBlock) :
    W'.heap[mb]? = some (.cells (mC { N with c := L } P C) 26 (0, 0)) ∧ W'.heap[ab]? = some (.cells #[.int .i64 a] 3 (0, 0)) ∧ CSt w lo mb lb ab bm zs N P (L ++ [y]) a p e v (W'.setCell ⟨mb, 8, none⟩ v) := by
  obtain ⟨h1, h2, h3, h4, h5⟩ := h.lt
  have ho : Off (fun q => C.ownBlock = some q) W W' := ⟨hg.os, hg.tape, hg.output, hg.size, fun k hk hn => hg.block k hk (fun e => hn e.symm)⟩
  have hno : ∀ q, q < w.heap.size → ¬ C.ownBlock = some q := fun q hq e => by have := (h.o.lt q e).1; omega
  have m1 := (ho.block _ (Array.getElem?_eq_some_iff.1 h.m).1 (hno _ (by omega))).trans h.m
  have a1 := (ho.block _ (Array.getElem?_eq_some_iff.1 h.at').1 (hno _ (by omega))).trans h.at'
  have b1 := (ho.block _ (Array.getElem?_eq_some_iff.1 h.pm).1 (hno _ (by omega))).trans h.pm
  have hof : Off (fun q => q = mb) W' (W'.setCell ⟨mb, 8, none⟩ v) := Off.setCell (S := fun q => q = mb) (p := ⟨mb, 8, none⟩) (Off.refl _ W') rfl _
  refine ⟨m1, a1, by rw [setCell_at m1]; rfl, (h.l.off ho (fun k _ hk => hno k (by omega))).off hof (fun k _ hk => by omega), own_offM (by simpa using hown) hof (fun g hg e => by have := (hown.lt g hg).1; omega), (hof.block _ (Array.getElem?_eq_some_iff.1 a1).1 (by omega)).trans a1, (hof.block _ (Array.getElem?_eq_some_iff.1 b1).1 (by omega)).trans b1, (h.off.trans ho (fun j hj e => absurd e (hno j hj))).trans hof (fun _ _ e => .inl e), h.lt⟩
end
set_option maxHeartbeats 8000000 in
theorem cellr_any (w : World) (lo mb lb ab bm : Nat) (zs : List Int) (N : Mg) (P : Value) (L : List Int) (a : Int) (p : Nat) (C : Value) (W : World) (h : CSt w lo mb lb ab bm zs N P L a p 0 C W) (ha0 : -1 ≤ a) (ha1 : a ≤ 65535) (hL : L.length ≤ 40) (hl : zs.length ≤ 1000000) (hz : Bys zs) :
    Calls Tryz.prog 102 #[.pointer (some ⟨lb, 0, none⟩), .pointer (some ⟨ab, 0, none⟩), .pointer (some ⟨bm, 0, none⟩)] W fun r W' =>
      r = .returned (.int .i64 ((rdG a (zs.drop p)).1 : Int)) ∧ Off (fun q => q = mb ∨ q = lb ∨ q = ab) w W' ∧ ((rdG a (zs.drop p)).1 = 0 → ∃ C', CSt w lo mb lb ab bm zs N P (L ++ [(rdG a (zs.drop p)).2.2]) (rdG a (zs.drop p)).2.2 (p + (rdG a (zs.drop p)).2.1) 0 C' W') := by
  obtain ⟨ii, hii, hzi, hzi1, hzi2⟩ := info_parts i64Info
  obtain ⟨X, u, er, hX, x0, x1, hu, hw⟩ := numR_ways (zs.drop p) 65535 (by omega)
  have KS : Hid (∀ V, LensAt V lo lb zs p 0 → Calls Tryz.prog 99 #[.pointer (some ⟨lb, 0, none⟩), .int .u64 65535] V fun r w' => r = .returned (.int .u64 X) ∧ LensAt w' lo lb zs (p + u) er ∧ Off (fun q => q = lb) V w') := Lib.hid fun V hV => by
    have K := lnum_any lo lb zs p 0 V 65535 hV (by omega) hz
    rw [hX] at K
    unfold ReadI at K
    simpa only [ansI, placeOf, errOf, if_true] using K
  obtain ⟨R, hR⟩ : ∃ R, rdG a (zs.drop p) = R := ⟨_, rfl⟩
  rw [hR]
  unfold rdG at hR
  obtain ⟨h1, h2, h3, h4, h5⟩ := h.lt
  have n1 := row_ne h.at' h.pm (by decide)
  have HH := Lib.hid h
  have HR := Lib.hid hR
  have HW := Lib.hid hw
  have hAt := h.at'
  have hlat := (Array.getElem?_eq_some_iff.1 hAt).1
  have lA : ∀ V, Off (fun q => q = lb) W V → (Instr.loadAt 3 (.pointer (some ⟨ab, 0, none⟩))).run Tryz.prog V = .ok (.int .i64 a) V := fun V hV => by
    have k := row_cell ((hV.block _ hlat (by omega)).trans hAt) 0 _ rfl
    simp [Instr.loadAt, go_sem, k]
  clear hR hw hX h hz hAt
  go_enter Tryz.func102, Tryz.ntmps102
  go_wp2_with fail
  refine wp_region_order8 6 (0 :: 1 :: 2 :: 3 :: 4 :: 5 :: []) (fun V => Off (fun q => q = lb) W V) (C := fun V => Below W.heap.size W V) (by kernel_rfl) (by kernel_rfl) (by kernel_rfl) (Below.refl _ _).drew (fun V hV => Off.of_below hV) ?_
  refine wpO4_load (ad := ⟨ab, 0, none⟩) (.int .i64 a) rfl rfl rfl (by rfl) lA ?_
  simp only [Act.put, List.setIfInBounds_toArray, List.set_cons_succ, List.set_cons_zero]
  repeat (refine wpO4_pure rfl rfl ?_; go_big_quiet_step (fail); refine wpQuiet_nil ?_)
  refine wpO4_call (fun v => v = .int .u64 X) (fun _ V => LensAt V lo lb zs (p + u) er ∧ Off (fun q => q = lb) W V) (f := 99) (args := #[.pointer (some ⟨lb, 0, none⟩), .int .u64 65535]) rfl rfl rfl (fun _ V hV => hV.2) (fun x => by first | rfl | (simp [go_sem]; done)) (fun V hV => (KS.out V (HH.out.later hV).l).mono (fun e w' h => ⟨_, h.1, rfl, h.2.1, (Off.of_below (S := fun q => q = lb) hV).trans h.2.2 (fun _ _ h => h)⟩)) ?_
  rintro v rfl
  simp only [Act.put, List.setIfInBounds_toArray, List.set_cons_succ, List.set_cons_zero]
  repeat (refine wpO4_pure rfl rfl ?_; go_big_quiet_step (fail); refine wpQuiet_nil ?_)
  rintro W1 ⟨hl1, ho1⟩
  simp only [List.drop_succ_cons, List.drop_zero]
  have g1 := HH.out.turn hl1 ho1
  have c0 := row_cell g1.at' 0 _ rfl
  have z0 := frozen_of_row W1 ab 0 _ _ g1.at'
  have g2 := g1.set (a + (X + 1))
  obtain ⟨y, hy⟩ : ∃ y, a + (X + 1) = y := ⟨_, rfl⟩
  rw [hy] at g2
  obtain ⟨W2, hW2⟩ : ∃ W2, W1.setCell ⟨ab, 0, none⟩ (.int .i64 y) = W2 := ⟨_, rfl⟩
  rw [hW2] at g2
  have HG2 := Lib.hid g2
  have HW2 := Lib.hid hW2
  have HY := Lib.hid hy
  clear g1 g2 hl1 ho1 lA KS hW2 hy
  go_wp2_with fail
  rw [HY.out, HW2.out]
  have hsw := HG2.out.off.size
  have lM : ∀ V, Below w.heap.size W2 V → (Instr.loadAt 121 (.pointer (some ⟨bm, 0, none⟩))).run Tryz.prog V = .ok (.pointer (some ⟨mb, 0, none⟩)) V := fun V hV => by
    have k := row_cell ((hV.block bm (by omega)).trans HG2.out.pm) 0 _ rfl
    simp [Instr.loadAt, go_sem, k]
  obtain ⟨ca, cc, hCv, hcc, hcn⟩ := nums_of_own HG2.out.o (by decide)
  have lC : ∀ V, Below w.heap.size W2 V → (Instr.loadAt 24 (.pointer (some ⟨mb, 8, none⟩))).run Tryz.prog V = .ok C V := fun V hV => by
    have k := row_cell ((hV.block mb (by omega)).trans HG2.out.m) 8 C rfl
    rw [hCv] at k ⊢
    simp [Instr.loadAt, go_sem, k]
  have lY : ∀ V, Below w.heap.size W2 V → (Instr.loadAt 3 (.pointer (some ⟨ab, 0, none⟩))).run Tryz.prog V = .ok (.int .i64 y) V := fun V hV => by
    have k := row_cell ((hV.block ab (by omega)).trans HG2.out.at') 0 _ rfl
    simp [Instr.loadAt, go_sem, k]
  refine wp_region_order9 8 (0 :: 1 :: 2 :: 3 :: 4 :: 5 :: 6 :: 7 :: []) (fun V => Below w.heap.size W2 V) (C := fun V => Below W2.heap.size W2 V) (by kernel_rfl) (by kernel_rfl) (by kernel_rfl) (Below.refl _ _).drew (fun V hV => hV.mono hsw) ?_
  refine wpO9_load (ad := ⟨bm, 0, none⟩) (.pointer (some ⟨mb, 0, none⟩)) rfl rfl rfl (by rfl) lM ?_
  simp only [Act.put, List.setIfInBounds_toArray, List.set_cons_succ, List.set_cons_zero]
  refine wpO9_load (ad := ⟨bm, 0, none⟩) (.pointer (some ⟨mb, 0, none⟩)) rfl rfl rfl (by rfl) lM ?_
  simp only [Act.put, List.setIfInBounds_toArray, List.set_cons_succ, List.set_cons_zero]
  refine wpO9_nil (ad := ⟨mb, 0, none⟩) rfl rfl rfl (by rfl) ?_
  simp only [Act.put, List.setIfInBounds_toArray, List.set_cons_succ, List.set_cons_zero]
  repeat (refine wpO9_pure rfl rfl ?_; go_big_quiet_step (fail); refine wpQuiet_nil ?_)
  refine wpO9_load (ad := ⟨mb, 8, none⟩) C rfl rfl rfl (by rfl) lC ?_
  simp only [Act.put, List.setIfInBounds_toArray, List.set_cons_succ, List.set_cons_zero]
  refine wpO9_load (ad := ⟨ab, 0, none⟩) (.int .i64 y) rfl rfl rfl (by rfl) lY ?_
  simp only [Act.put, List.setIfInBounds_toArray, List.set_cons_succ, List.set_cons_zero]
  refine wpO9_do (fun x => ∃ g, x = .slice (some ⟨g, 0, none⟩) 1 1) (fun x V => Below W2.heap.size W2 V ∧ ∀ g, x = .slice (some ⟨g, 0, none⟩) 1 1 → V.cell? ⟨g, 0, none⟩ = some (.int .i64 y)) rfl rfl rfl (fun _ V hV => hV.1.mono hsw) (fun V hV => ⟨.slice (some ⟨V.heap.size, 0, none⟩) 1 1, V.alloc (.cells #[.int .i64 y] 3), by simp [go_sem], ⟨_, rfl⟩, hV.alloc hV.size _, fun g hg => by
    injection hg with hg
    injection hg with hg
    injection hg with hg
    subst hg
    exact row_cell (World.alloc_heap_new V (.cells #[.int .i64 y] 3)) 0 _ rfl⟩) ?_
  rintro x ⟨g, rfl⟩
  simp only [Act.put, List.setIfInBounds_toArray, List.set_cons_succ, List.set_cons_zero]
  refine wpO9_do (fun v => ∃ A c, v = .slice A (L.length + 1) c) (fun v V => ∃ V3, Below W2.heap.size W2 V3 ∧ V.ownsRow w.heap.size 3 1 v (L.length + 1) ((L ++ [y]).map (Value.int .i64)) ∧ V3.grownBy V C.ownBlock) rfl rfl rfl (fun v V hV => ?_) (fun V hV => ?_) ?_
  · obtain ⟨V3, hb, -, hg⟩ := hV
    exact (hb.mono hsw).grown hg (Nat.le_trans hsw hb.size) (fun k hk => (HG2.out.o.lt k hk).1)
  · obtain ⟨hb, hc⟩ := hV
    have hc := hc g rfl
    obtain ⟨v', w', hrun, h6, h7, -⟩ := run_append_own (P := Tryz.prog) V w.heap.size 24 24 3 ii (.int .i64 0) 1 8 Tryz.underlying24 hii hzi hzi1 hzi2 rfl (by decide) C L.length (L.map (Value.int .i64)) (own_below7 HG2.out.o hb) ⟨g, 0, none⟩ 1 1 [.int .i64 y] rfl (fun j u hj => by
      rcases j with _ | j
      · simp at hj
        subst hj
        exact hc
      · simp at hj) (fun u hu => by simp at hu; subst hu; rfl) (by unfold maxLen; omega) (by omega) (Nat.le_trans hsw hb.size)
    have h8 : w'.ownsRow w.heap.size 3 1 v' (L.length + 1) ((L ++ [y]).map (Value.int .i64)) := by simpa using h6
    obtain ⟨a7, c7, e7, -, -⟩ := nums_of_own h8 (by decide)
    exact ⟨v', w', exec_appendH (.tmp 15) (.tmp 17) 24 rfl rfl rfl hrun, ⟨a7, c7, e7⟩, V, hb, h8, h7⟩
  rintro v7 ⟨a7, c7, rfl⟩
  simp only [Act.put, List.setIfInBounds_toArray, List.set_cons_succ, List.set_cons_zero]
  rintro w7 ⟨W3, hb3, hown, hgr⟩
  simp only [List.drop_succ_cons, List.drop_zero]
  have HG3 := HG2.out.later hb3
  obtain ⟨m7, a7', g7⟩ := HG3.grow hown hgr
  have k8 := row_cell m7 8 C rfl
  rw [hCv] at k8
  have z8 := frozen_of_row w7 mb 8 _ _ m7
  have k9 := row_cell a7' 0 _ rfl
  have HG7 := Lib.hid g7
  clear hown hgr m7 g7 HG3 lM lC lY hCv hcn HG2 HW2 hb3 a7'
  go_wp2_with fail
  refine (otherwise_any HG7.out.l (decide (65535 < y)) 5).mono ?_
  rintro r w9 ⟨rfl, rfl⟩
  go_wp2
  go_ret
  have hR := HR.out
  have hY := HY.out
  rcases HW.out with ⟨g1, rfl⟩ | ⟨g1, g2, rfl⟩ | ⟨g1, g2, rfl, g3, rfl⟩
  · rw [if_pos g1] at hR
    subst hR
    exact ⟨by simp [oth, g1], HG7.out.off, fun h => absurd h g1⟩
  · rw [if_neg (by simpa using g1), if_pos (by omega)] at hR
    subst hR
    exact ⟨by simp [oth], HG7.out.off, fun h => by simp at h⟩
  · by_cases hlt : 65535 < y
    · rw [if_neg (by simpa using g1), if_pos (by omega)] at hR
      subst hR
      exact ⟨by simp [oth, hlt], HG7.out.off, fun h => by simp at h⟩
    · rw [if_neg (by simpa using g1), if_neg (by omega), show a + 1 + ((Vi.get (zs.drop p)).1 : Int) = y by omega] at hR
      subst hR
      exact ⟨by simp [oth, hlt], HG7.out.off, fun _ => ⟨_, HG7.out⟩⟩
end Go.Proofs.YtlbfibnfmijahaaGreat
