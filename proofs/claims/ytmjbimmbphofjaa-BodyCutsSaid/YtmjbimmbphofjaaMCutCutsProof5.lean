/-
  The law BodyCuts answers true of every message, version and byte.
-/
import Derived.Lib.Strings
import Derived.Lib.Slices
import Derived.Lib.Walk
import Derived.Lib.Bytes
import Derived.Laws.EntriesVeiled
import Derived.ArgAppend
import Derived.Test.YtmjbimmbphofjaaRows
import Derived.Below
import Derived.WalkKit
import Derived.ProofKit
import Derived.OpenShut
import Derived.ShutString
import Derived.ChangeOld
import Derived.Test.YtmjbimmbphofjaaMCutCutsProof4
namespace Go.Proofs.Ytmjbimmbphofjaa
open Go.RowKit Go.Shelf
set_option maxRecDepth 100000
attribute [local go_sem] Oper.semAt_some

theorem unfit_any (x : Int) (w : World) : Calls Try.prog 94 #[.int .u8 x] w fun e w' => e = .returned (.bool (decide (¬ byI x))) ∧ w' = w := by
  by_cases h1 : x < 32
  · rw [decide_eq_true (by unfold byI; omega)]
    go_enter Try.func94, Try.ntmps94
    go_wp2
    go_ret
    exact ⟨rfl, rfl⟩
  · by_cases h2 : 126 < x
    · rw [decide_eq_true (by unfold byI; omega)]
      go_enter Try.func94, Try.ntmps94
      go_wp2
      go_ret
      exact ⟨rfl, rfl⟩
    · rw [decide_eq_false (by unfold byI; omega)]
      go_enter Try.func94, Try.ntmps94
      go_wp2
      go_ret
      exact ⟨rfl, rfl⟩
set_option maxHeartbeats 1000000 in
theorem indexu_any (B : Nat) (a : Option Addr) (n c : Nat) (zs : List Int) (w : World) (hn : zs.length = n) (hl : n ≤ 1000000) (h1 : Nums .u8 w B a zs) :
    Calls Try.prog 108 #[.slice a n c, .func (.func 94) #[] #[]] w fun e w' => (∃ r : Int, e = .returned (.int .i64 r) ∧ ((0 ≤ r ∧ ∃ s ∈ zs, ¬ byI s) ∨ (r = -1 ∧ ∀ s ∈ zs, byI s))) ∧ w' = w := by
  have HL := Lib.hid hn
  clear hn
  go_enter Try.func108, Try.ntmps108
  go_wp2
  go_loopw [5, 8] (fun _ v wr => ∃ k : Nat, k ≤ n ∧ v = .int .i64 (k : Int) ∧ Hid (∀ s ∈ zs.take k, byI s) ∧ wr = w) (fun _ v _ => n - (intOf v).toNat)
  case atStart => exact ⟨0, by omega, rfl, fun s hs => by simp at hs, rfl⟩
  case round =>
    obtain ⟨k, hk, rfl, HN, rfl⟩ := hrel
    by_cases hlt : k < n
    · obtain ⟨z, hz⟩ : ∃ z, zs[k]? = some z := ⟨_, List.getElem?_eq_getElem (by rw [HL.out]; exact hlt)⟩
      obtain ⟨b1, o1, rfl, hb1, hc1⟩ := h1.open hz
      have hlt' : (k : Int) < (n : Int) := by omega
      have K := unfit_any z wr
      by_cases hz0 : byI z
      · have HF : Hid (∀ s ∈ zs.take (k + 1), byI s) := by
          show ∀ s ∈ _, _
          rw [List.take_add_one, hz]
          intro s hs
          rcases List.mem_append.1 hs with h | h
          · exact HN.out s h
          · simp at h; subst h; exact hz0
        rw [decide_eq_false (by simpa using hz0)] at K
        clear hz h1
        go_wp2_with fail
        refine K.mono ?_
        rintro e w' ⟨rfl, rfl⟩
        go_wp2
        go_roundw
        case rel => exact ⟨k + 1, by omega, by go_num, HF, trivial⟩
        case measure => simp [intOf]; omega
      · have HF := Lib.hid (show ∃ s ∈ zs, ¬ byI s from ⟨z, List.mem_of_getElem? hz, hz0⟩)
        rw [decide_eq_true hz0] at K
        clear hz h1
        go_wp2_with fail
        refine K.mono ?_
        rintro e w' ⟨rfl, rfl⟩
        go_wp2
        go_ret
        exact ⟨⟨_, rfl, .inl ⟨by omega, HF.out⟩⟩, rfl⟩
    · have hkn : k = n := by omega
      have HF : Hid (∀ s ∈ zs, byI s) := by
        have := HN.out
        rwa [List.take_of_length_le (by rw [HL.out]; omega)] at this
      go_wp2
      go_ret
      exact ⟨⟨_, rfl, .inr ⟨rfl, HF.out⟩⟩, rfl⟩
theorem cunfit_any (B : Nat) (a : Option Addr) (n c : Nat) (zs : List Int) (w : World) (hn : zs.length = n) (hl : n ≤ 1000000) (h1 : Nums .u8 w B a zs) :
    Calls Try.prog 93 #[.slice a n c, .func (.func 94) #[] #[]] w fun e w' => e = .returned (.bool (decide (¬ ∀ s ∈ zs, byI s))) ∧ w' = w := by
  have K := indexu_any B a n c zs w hn hl h1
  clear h1
  obtain ⟨r0, hr0⟩ : ∃ r0, decide (¬ ∀ s ∈ zs, byI s) = r0 := ⟨_, rfl⟩
  rw [hr0]
  go_enter Try.func93, Try.ntmps93
  go_wp2_with fail
  refine K.mono ?_
  rintro e w' ⟨⟨r, rfl, h⟩, rfl⟩
  rcases h with ⟨h0, s, hs1, hs2⟩ | ⟨rfl, h⟩
  · have hr : r0 = true := by rw [← hr0]; exact decide_eq_true fun h => hs2 (h s hs1)
    subst hr
    clear K hr0
    go_wp2
    go_ret
    exact ⟨rfl, rfl⟩
  · have hr : r0 = false := by rw [← hr0]; exact decide_eq_false fun h2 => h2 h
    subst hr
    clear h K hr0
    go_wp2
    go_ret
    exact ⟨rfl, rfl⟩
theorem puttx_any (mb bm : Nat) (N : Mg) (P C : Value) (s : ByteArray) (w : World) (hm : w.heap[mb]? = some (.cells (mC N P C) 26 (0, 0))) (hbm : w.heap[bm]? = some (.cells #[.pointer (some ⟨mb, 0, none⟩)] 83 (0, 0))) :
    Calls Try.prog 66 #[.string s, .pointer (some ⟨bm, 0, none⟩)] w fun e w' => (∃ x, e = .returned x) ∧ w' = w.setCell ⟨mb, 9, none⟩ (.string s) := by
  have k := row_cell hbm 0 _ rfl
  have c := row_cell hm 9 (.string N.tx) rfl
  have z := frozen_of_row w mb 9 _ _ hm
  clear hm hbm
  go_enter Try.func66, Try.ntmps66
  go_wp2
  go_end0
  exact ⟨⟨_, rfl⟩, rfl⟩
theorem puttg_any (mb bm : Nat) (N : Mg) (P C : Value) (s : ByteArray) (w : World) (hm : w.heap[mb]? = some (.cells (mC N P C) 26 (0, 0))) (hbm : w.heap[bm]? = some (.cells #[.pointer (some ⟨mb, 0, none⟩)] 83 (0, 0))) :
    Calls Try.prog 67 #[.string s, .pointer (some ⟨bm, 0, none⟩)] w fun e w' => (∃ x, e = .returned x) ∧ w' = w.setCell ⟨mb, 10, none⟩ (.string s) := by
  have k := row_cell hbm 0 _ rfl
  have c := row_cell hm 10 (.string N.tg) rfl
  have z := frozen_of_row w mb 10 _ _ hm
  clear hm hbm
  go_enter Try.func67, Try.ntmps67
  go_wp2
  go_end0
  exact ⟨⟨_, rfl⟩, rfl⟩
/-- 'string(b)' of bytes that lie somewhere -/
theorem conv_txt (B : Nat) (a : Option Addr) (n c : Nat) (zs : List Int) (w : World) (hn : zs.length = n) (h1 : Nums .u8 w B a zs) :
    (convert 28 9 (.slice a n c)).run Try.prog w = .ok (.string (txt zs)) w := by
  subst hn
  by_cases hz : zs = []
  · subst hz
    rw [run_convert_bytes_string w _ _ _ _ _ _ Try.underlying28 Try.underlying5 Try.underlying9]
    cases a <;> simp [Conv.bytesToString, loadCells] <;> rfl
  · obtain ⟨b, o, rfl, _, hc⟩ := h1 hz
    exact run_convert_bytes_arg (P := Try.prog) w _ _ Try.underlying28 Try.underlying5 b o _ c zs rfl (fun i hi => by
      rw [hc i zs[i] (List.getElem?_eq_getElem hi)]
      simp [List.getElem?_eq_getElem hi]) _ Try.underlying9
theorem NumsIn.nums18 {k : IntKind} {w : World} {lo hi : Nat} {a : Option Addr} {zs : List Int} (h : NumsIn k w lo hi a zs) : Nums k w hi a zs := fun hn => by
  obtain ⟨b, off, e, _, h2, hc⟩ := h hn
  exact ⟨b, off, e, h2, hc⟩
theorem fldR_ways (l : List Int) (mo : Int) (h0 : 0 ≤ mo) (h1 : mo ≤ 64) : ∃ (B : List Int) (u er : Nat), fldR l mo = (B, u, er) ∧ B.length ≤ 64 ∧
    (((Vi.get l).2.2 ≠ 0 ∧ er = (Vi.get l).2.2) ∨ ((Vi.get l).2.2 = 0 ∧ mo < ((Vi.get l).1 : Int) ∧ er = 6) ∨
      ((Vi.get l).2.2 = 0 ∧ ((Vi.get l).1 : Int) ≤ mo ∧ (l.drop (Vi.get l).2.1).length < (Vi.get l).1 ∧ er = 4) ∨
      ((Vi.get l).2.2 = 0 ∧ ((Vi.get l).1 : Int) ≤ mo ∧ ¬ (l.drop (Vi.get l).2.1).length < (Vi.get l).1 ∧ er = 0 ∧ B = (l.drop (Vi.get l).2.1).take (Vi.get l).1 ∧ u = (Vi.get l).2.1 + (Vi.get l).1)) := by
  unfold fldR
  rw [show max mo 0 = mo by omega]
  by_cases g1 : (Vi.get l).2.2 ≠ 0
  · rw [if_pos g1]
    exact ⟨[], 0, _, rfl, by simp, .inl ⟨g1, rfl⟩⟩
  · rw [if_neg g1]
    have g1' : (Vi.get l).2.2 = 0 := by simpa using g1
    by_cases g2 : mo < ((Vi.get l).1 : Int)
    · rw [if_pos g2]
      exact ⟨[], 0, _, rfl, by simp, .inr (.inl ⟨g1', g2, rfl⟩)⟩
    · rw [if_neg g2]
      by_cases g3 : l.length - (Vi.get l).2.1 < (Vi.get l).1
      · rw [if_pos g3]
        exact ⟨[], 0, _, rfl, by simp, .inr (.inr (.inl ⟨g1', by omega, by rw [List.length_drop]; exact g3, rfl⟩))⟩
      · rw [if_neg g3]
        exact ⟨_, _, _, rfl, by rw [List.length_take]; omega, .inr (.inr (.inr ⟨g1', by omega, by rw [List.length_drop]; exact g3, rfl, rfl, rfl⟩))⟩
set_option maxHeartbeats 4000000 in
theorem textr_any (lo mb lb bo bp bm : Nat) (zs : List Int) (N : Mg) (P C : Value) (p : Nat) (f : Fd) (w : World) (h : RdAt lo w mb lb zs N P C p 0) (hf : FdX f) (hso : f.so = 5) (hl : zs.length ≤ 1000000) (hz : Bys zs)
    (hbo : w.heap[bo]? = some (.cells #[.int .i64 f.mo] 3 (0, 0))) (hbp : w.heap[bp]? = some (.cells #[.func (.func 66) #[] #[.pointer (some ⟨bm, 0, none⟩)]] 120 (0, 0))) (hbm : w.heap[bm]? = some (.cells #[.pointer (some ⟨mb, 0, none⟩)] 83 (0, 0))) :
    Calls Try.prog 91 #[.pointer (some ⟨lb, 0, none⟩), .pointer (some ⟨bo, 0, none⟩), .pointer (some ⟨bp, 0, none⟩)] w fun r w' => RdO lo mb lb zs p (rdF N f (zs.drop p)) w r w' := by
  have hmo : 0 ≤ f.mo ∧ f.mo ≤ 64 := by have := hf.mo; omega
  have hle0 := hf.tex (by omega)
  obtain ⟨Bs, u, er, hX, hBl, hw⟩ := fldR_ways (zs.drop p) f.mo hmo.1 hmo.2
  have K := lfld_any lo lb zs p 0 w f.mo (by omega) (by omega) h.l (by omega) hz
  rw [hX] at K
  unfold ReadB at K
  simp only [ansB, placeOf, errOf, if_true] at K
  obtain ⟨R, hR⟩ : ∃ R, rdF N f (zs.drop p) = R := ⟨_, rfl⟩
  rw [hR]
  unfold rdF at hR
  rw [if_neg (show ¬ f.so = 1 by omega), if_neg (show ¬ f.so = 2 by omega), if_neg (show ¬ (((Vi.get (zs.drop p)).1 = 0) ∧ 0 < f.le) by omega), if_neg (show ¬ f.so = 3 by omega), if_neg (show ¬ f.so = 4 by omega)] at hR
  have hlm := h.a
  obtain ⟨_, _, hbl, -⟩ := h.l.open
  have n1 := row_ne hbo h.m (by decide)
  have n2 := row_ne hbo hbl (by decide)
  have n3 := row_ne hbm h.m (by decide)
  have n4 := row_ne hbm hbl (by decide)
  have n6 := row_ne hbp hbl (by decide)
  have kb := row_cell hbo 0 _ rfl
  have K := Lib.hid K
  have HH := Lib.hid h
  have HBP := Lib.hid hbp
  have HBM := Lib.hid hbm
  have HR := Lib.hid hR
  have HW := Lib.hid hw
  obtain ⟨q, hq⟩ : ∃ q, Bs.length = q := ⟨_, rfl⟩
  rw [hq] at K hBl
  have HQ := Lib.hid hq
  clear hR hw hX h hbl hbo hbp hbm hq
  go_enter Try.func91, Try.ntmps91
  go_wp2_with fail
  refine K.out.mono ?_
  rintro r w1 ⟨⟨A, c, rfl, hcc, hn⟩, hl1, ho1⟩
  have h1 := HH.out.turn hl1 ho1
  have hn1 := hn.nums18
  have hbm1 := (ho1.block _ (Array.getElem?_eq_some_iff.1 HBM.out).1 n4).trans HBM.out
  have hbp1 := (ho1.block _ (Array.getElem?_eq_some_iff.1 HBP.out).1 n6).trans HBP.out
  have kp := row_cell hbp1 0 _ rfl
  have hcv := conv_txt _ A q c Bs w1 HQ.out hn1
  have KP := Lib.hid (puttx_any mb bm N P C (txt Bs) w1 h1.m hbm1)
  obtain ⟨w2, hw2⟩ : ∃ w2, w1.setCell ⟨mb, 9, none⟩ (.string (txt Bs)) = w2 := ⟨_, rfl⟩
  have hN := h1.tx (txt Bs)
  have hof : Off (fun q => q = mb) w1 (w1.setCell ⟨mb, 9, none⟩ (.string (txt Bs))) := Off.setCell (S := fun q => q = mb) (p := ⟨mb, 9, none⟩) (Off.refl _ w1) rfl _
  rw [hw2] at hN KP hof
  have hmlt := (Array.getElem?_eq_some_iff.1 HH.out.m).1
  have HN2 : Hid (Nums .u8 w2 w2.heap.size A Bs) := Lib.hid fun hne => by
    obtain ⟨b, off, e, k1, k2, kc⟩ := hn hne
    exact ⟨b, off, e, Nat.lt_of_lt_of_le k2 hof.size, fun j c hj => hof.cell (kc j c hj) (by show ¬ b = mb; omega)⟩
  have HN := Lib.hid hN
  have HOF : Hid (Off (fun q => q = mb ∨ q = lb) w w2) := Lib.hid ((ho1.mono (S' := fun q => q = mb ∨ q = lb) (fun _ _ e => .inr e)).trans hof (fun _ _ e => .inl e))
  clear K hl1 ho1 h1 hn hn1 hbm1 hbp1 hof hN hw2
  go_wp2_with fail
  refine KP.out.mono ?_
  rintro r w3 ⟨⟨x, rfl⟩, rfl⟩
  clear hcv kp KP
  go_wp2_with fail
  refine (cunfit_any _ A q c Bs _ HQ.out (by omega) HN2.out).mono ?_
  rintro r w4 ⟨rfl, rfl⟩
  obtain ⟨am, ham⟩ : ∃ am, decide (¬ ∀ s ∈ Bs, byI s) = am := ⟨_, rfl⟩
  rw [ham]
  go_wp2_with fail
  refine (otherwise_any HN.out.l am 19).mono ?_
  rintro r w5 ⟨rfl, rfl⟩
  have HAM := Lib.hid ham
  clear ham
  go_wp2
  go_ret
  have hR := HR.out
  have ham := HAM.out
  rcases HW.out with ⟨g1, rfl⟩ | ⟨g1, g2, rfl⟩ | ⟨g1, g2, g3, rfl⟩ | ⟨g1, g2, g3, rfl, g4, rfl⟩
  · rw [if_pos g1] at hR
    subst hR
    exact ⟨by simp [oth, g1], HOF.out, fun h => absurd h g1⟩
  · rw [if_neg (by simpa using g1), if_pos g2] at hR
    subst hR
    exact ⟨by simp [oth], HOF.out, fun h => by simp at h⟩
  · rw [if_neg (by simpa using g1), if_neg (by omega)] at hR
    unfold rdT at hR
    rw [if_pos g3] at hR
    simp only [ne_eq, Nat.reduceEqDiff, not_false_eq_true, if_true] at hR
    subst hR
    exact ⟨by simp [oth], HOF.out, fun h => by simp at h⟩
  · rw [if_neg (by simpa using g1), if_neg (by omega)] at hR
    unfold rdT at hR
    rw [if_neg g3, ← g4] at hR
    by_cases hb : ∀ s ∈ Bs, byI s
    · have : am = false := by rw [← ham]; exact decide_eq_false fun h => h hb
      subst this
      rw [if_pos hb] at hR
      simp only [ne_eq, not_true_eq_false, if_false, if_pos hso] at hR
      subst hR
      exact ⟨by simp [oth], HOF.out, fun _ => ⟨P, C, HN.out⟩⟩
    · have : am = true := by rw [← ham]; exact decide_eq_true hb
      subst this
      rw [if_neg hb] at hR
      simp only [ne_eq, Nat.reduceEqDiff, not_false_eq_true, if_true] at hR
      subst hR
      exact ⟨by simp [oth], HOF.out, fun h => by simp at h⟩
set_option maxHeartbeats 4000000 in
theorem tagr_any (lo mb lb bo bp bm : Nat) (zs : List Int) (N : Mg) (P C : Value) (p : Nat) (f : Fd) (w : World) (h : RdAt lo w mb lb zs N P C p 0) (hf : FdX f) (hso : f.so = 6) (hl : zs.length ≤ 1000000) (hz : Bys zs)
    (hbo : w.heap[bo]? = some (.cells #[.int .i64 f.mo] 3 (0, 0))) (hbp : w.heap[bp]? = some (.cells #[.func (.func 67) #[] #[.pointer (some ⟨bm, 0, none⟩)]] 120 (0, 0))) (hbm : w.heap[bm]? = some (.cells #[.pointer (some ⟨mb, 0, none⟩)] 83 (0, 0))) :
    Calls Try.prog 91 #[.pointer (some ⟨lb, 0, none⟩), .pointer (some ⟨bo, 0, none⟩), .pointer (some ⟨bp, 0, none⟩)] w fun r w' => RdO lo mb lb zs p (rdF N f (zs.drop p)) w r w' := by
  have hmo : 0 ≤ f.mo ∧ f.mo ≤ 64 := by have := hf.mo; omega
  have hle0 := hf.tex (by omega)
  obtain ⟨Bs, u, er, hX, hBl, hw⟩ := fldR_ways (zs.drop p) f.mo hmo.1 hmo.2
  have K := lfld_any lo lb zs p 0 w f.mo (by omega) (by omega) h.l (by omega) hz
  rw [hX] at K
  unfold ReadB at K
  simp only [ansB, placeOf, errOf, if_true] at K
  obtain ⟨R, hR⟩ : ∃ R, rdF N f (zs.drop p) = R := ⟨_, rfl⟩
  rw [hR]
  unfold rdF at hR
  rw [if_neg (show ¬ f.so = 1 by omega), if_neg (show ¬ f.so = 2 by omega), if_neg (show ¬ (((Vi.get (zs.drop p)).1 = 0) ∧ 0 < f.le) by omega), if_neg (show ¬ f.so = 3 by omega), if_neg (show ¬ f.so = 4 by omega)] at hR
  have hlm := h.a
  obtain ⟨_, _, hbl, -⟩ := h.l.open
  have n1 := row_ne hbo h.m (by decide)
  have n2 := row_ne hbo hbl (by decide)
  have n3 := row_ne hbm h.m (by decide)
  have n4 := row_ne hbm hbl (by decide)
  have n6 := row_ne hbp hbl (by decide)
  have kb := row_cell hbo 0 _ rfl
  have K := Lib.hid K
  have HH := Lib.hid h
  have HBP := Lib.hid hbp
  have HBM := Lib.hid hbm
  have HR := Lib.hid hR
  have HW := Lib.hid hw
  obtain ⟨q, hq⟩ : ∃ q, Bs.length = q := ⟨_, rfl⟩
  rw [hq] at K hBl
  have HQ := Lib.hid hq
  clear hR hw hX h hbl hbo hbp hbm hq
  go_enter Try.func91, Try.ntmps91
  go_wp2_with fail
  refine K.out.mono ?_
  rintro r w1 ⟨⟨A, c, rfl, hcc, hn⟩, hl1, ho1⟩
  have h1 := HH.out.turn hl1 ho1
  have hn1 := hn.nums18
  have hbm1 := (ho1.block _ (Array.getElem?_eq_some_iff.1 HBM.out).1 n4).trans HBM.out
  have hbp1 := (ho1.block _ (Array.getElem?_eq_some_iff.1 HBP.out).1 n6).trans HBP.out
  have kp := row_cell hbp1 0 _ rfl
  have hcv := conv_txt _ A q c Bs w1 HQ.out hn1
  have KP := Lib.hid (puttg_any mb bm N P C (txt Bs) w1 h1.m hbm1)
  obtain ⟨w2, hw2⟩ : ∃ w2, w1.setCell ⟨mb, 10, none⟩ (.string (txt Bs)) = w2 := ⟨_, rfl⟩
  have hN := h1.tg (txt Bs)
  have hof : Off (fun q => q = mb) w1 (w1.setCell ⟨mb, 10, none⟩ (.string (txt Bs))) := Off.setCell (S := fun q => q = mb) (p := ⟨mb, 10, none⟩) (Off.refl _ w1) rfl _
  rw [hw2] at hN KP hof
  have hmlt := (Array.getElem?_eq_some_iff.1 HH.out.m).1
  have HN2 : Hid (Nums .u8 w2 w2.heap.size A Bs) := Lib.hid fun hne => by
    obtain ⟨b, off, e, k1, k2, kc⟩ := hn hne
    exact ⟨b, off, e, Nat.lt_of_lt_of_le k2 hof.size, fun j c hj => hof.cell (kc j c hj) (by show ¬ b = mb; omega)⟩
  have HN := Lib.hid hN
  have HOF : Hid (Off (fun q => q = mb ∨ q = lb) w w2) := Lib.hid ((ho1.mono (S' := fun q => q = mb ∨ q = lb) (fun _ _ e => .inr e)).trans hof (fun _ _ e => .inl e))
  clear K hl1 ho1 h1 hn hn1 hbm1 hbp1 hof hN hw2
  go_wp2_with fail
  refine KP.out.mono ?_
  rintro r w3 ⟨⟨x, rfl⟩, rfl⟩
  clear hcv kp KP
  go_wp2_with fail
  refine (cunfit_any _ A q c Bs _ HQ.out (by omega) HN2.out).mono ?_
  rintro r w4 ⟨rfl, rfl⟩
  obtain ⟨am, ham⟩ : ∃ am, decide (¬ ∀ s ∈ Bs, byI s) = am := ⟨_, rfl⟩
  rw [ham]
  go_wp2_with fail
  refine (otherwise_any HN.out.l am 19).mono ?_
  rintro r w5 ⟨rfl, rfl⟩
  have HAM := Lib.hid ham
  clear ham
  go_wp2
  go_ret
  have hR := HR.out
  have ham := HAM.out
  rcases HW.out with ⟨g1, rfl⟩ | ⟨g1, g2, rfl⟩ | ⟨g1, g2, g3, rfl⟩ | ⟨g1, g2, g3, rfl, g4, rfl⟩
  · rw [if_pos g1] at hR
    subst hR
    exact ⟨by simp [oth, g1], HOF.out, fun h => absurd h g1⟩
  · rw [if_neg (by simpa using g1), if_pos g2] at hR
    subst hR
    exact ⟨by simp [oth], HOF.out, fun h => by simp at h⟩
  · rw [if_neg (by simpa using g1), if_neg (by omega)] at hR
    unfold rdT at hR
    rw [if_pos g3] at hR
    simp only [ne_eq, Nat.reduceEqDiff, not_false_eq_true, if_true] at hR
    subst hR
    exact ⟨by simp [oth], HOF.out, fun h => by simp at h⟩
  · rw [if_neg (by simpa using g1), if_neg (by omega)] at hR
    unfold rdT at hR
    rw [if_neg g3, ← g4] at hR
    by_cases hb : ∀ s ∈ Bs, byI s
    · have : am = false := by rw [← ham]; exact decide_eq_false fun h => h hb
      subst this
      rw [if_pos hb] at hR
      simp only [ne_eq, not_true_eq_false, if_false, if_neg (show ¬ f.so = 5 by omega)] at hR
      subst hR
      exact ⟨by simp [oth], HOF.out, fun _ => ⟨P, C, HN.out⟩⟩
    · have : am = true := by rw [← ham]; exact decide_eq_true hb
      subst this
      rw [if_neg hb] at hR
      simp only [ne_eq, Nat.reduceEqDiff, not_false_eq_true, if_true] at hR
      subst hR
      exact ⟨by simp [oth], HOF.out, fun h => by simp at h⟩
end Go.Proofs.Ytmjbimmbphofjaa

namespace Go.Proofs.Ytmjbimmbphofjaa
open Go.RowKit Go.Shelf
set_option maxRecDepth 100000
attribute [local go_sem] Oper.semAt_some

theorem two_rows {W : World} {c1 c2 : Array Value} {t1 t2 : TypeId} : Below W.heap.size W ((W.alloc (.cells c1 t1)).alloc (.cells c2 t2)) ∧ ((W.alloc (.cells c1 t1)).alloc (.cells c2 t2)).heap[W.heap.size]? = some (.cells c1 t1 (0, 0)) ∧ ((W.alloc (.cells c1 t1)).alloc (.cells c2 t2)).heap[W.heap.size + 1]? = some (.cells c2 t2 (0, 0)) ∧ ((W.alloc (.cells c1 t1)).alloc (.cells c2 t2)).heap.size = W.heap.size + 2 := by
  refine ⟨((Below.refl _ W).alloc (Nat.le_refl _) _).alloc (by simp) _, (Below.heap_alloc _ _ _ (by simp)).trans (World.alloc_heap_new _ _), ?_, by simp⟩
  have := World.alloc_heap_new (W.alloc (.cells c1 t1)) (.cells c2 t2)
  rwa [World.size_alloc] at this
/-- a function with two boxes that it has caught -/
def Fn2 (F : FuncId) (w : World) (c1 c2 : Array Value) (t1 t2 : TypeId) (e : Ending) (w' : World) : Prop := ∃ b1 b2, e = .returned (.func (.func F) #[] #[.pointer (some ⟨b1, 0, none⟩), .pointer (some ⟨b2, 0, none⟩)]) ∧ w.heap.size ≤ b1 ∧ w.heap.size ≤ b2 ∧ w'.heap[b1]? = some (.cells c1 t1 (0, 0)) ∧ w'.heap[b2]? = some (.cells c2 t2 (0, 0)) ∧ Below w.heap.size w w'
theorem plainR_any (mb : Nat) (f : Fd) (w : World) : Calls Try.prog 68 #[.pointer (some ⟨mb, 0, none⟩), f.v] w fun e w' => Fn2 95 w f.cs #[.pointer (some ⟨mb, 0, none⟩)] 68 83 e w' := by
  obtain ⟨h1, h2, h3, h4⟩ := two_rows (W := w) (c1 := #[.pointer (some ⟨mb, 0, none⟩)]) (t1 := 83) (c2 := f.cs) (t2 := 68)
  have H := Lib.hid (And.intro h1 (And.intro h2 h3))
  clear h1 h2 h3 h4
  obtain ⟨X0, hX0⟩ : ∃ X0, f.cs = X0 := ⟨_, rfl⟩
  unfold Fd.v
  rw [hX0] at H ⊢
  clear hX0
  go_enter Try.func68, Try.ntmps68
  go_wp2
  go_ret
  obtain ⟨h1, h2, h3⟩ := H.out
  exact ⟨_, _, rfl, by omega, by omega, h3, h2, h1⟩
theorem signedR_any (mb : Nat) (f : Fd) (w : World) : Calls Try.prog 61 #[.pointer (some ⟨mb, 0, none⟩), f.v] w fun e w' => Fn2 83 w f.cs #[.pointer (some ⟨mb, 0, none⟩)] 68 83 e w' := by
  obtain ⟨h1, h2, h3, h4⟩ := two_rows (W := w) (c1 := #[.pointer (some ⟨mb, 0, none⟩)]) (t1 := 83) (c2 := f.cs) (t2 := 68)
  have H := Lib.hid (And.intro h1 (And.intro h2 h3))
  clear h1 h2 h3 h4
  obtain ⟨X0, hX0⟩ : ∃ X0, f.cs = X0 := ⟨_, rfl⟩
  unfold Fd.v
  rw [hX0] at H ⊢
  clear hX0
  go_enter Try.func61, Try.ntmps61
  go_wp2
  go_ret
  obtain ⟨h1, h2, h3⟩ := H.out
  exact ⟨_, _, rfl, by omega, by omega, h3, h2, h1⟩
theorem countR_any (mo : Int) (F : FuncId) (cs : Array Value) (w : World) : Calls Try.prog 62 #[.int .i64 mo, .func (.func F) #[] cs] w fun e w' => Fn2 85 w #[.int .i64 mo] #[.func (.func F) #[] cs] 3 81 e w' := by
  obtain ⟨h1, h2, h3, h4⟩ := two_rows (W := w) (c1 := #[.int .i64 mo]) (t1 := 3) (c2 := #[.func (.func F) #[] cs]) (t2 := 81)
  have H := Lib.hid (And.intro h1 (And.intro h2 h3))
  clear h1 h2 h3 h4
  go_enter Try.func62, Try.ntmps62
  go_wp2
  go_ret
  obtain ⟨h1, h2, h3⟩ := H.out
  exact ⟨_, _, rfl, by omega, by omega, h2, h3, h1⟩
theorem textR_any (mo : Int) (F : FuncId) (cs : Array Value) (w : World) : Calls Try.prog 65 #[.int .i64 mo, .func (.func F) #[] cs] w fun e w' => Fn2 91 w #[.int .i64 mo] #[.func (.func F) #[] cs] 3 120 e w' := by
  obtain ⟨h1, h2, h3, h4⟩ := two_rows (W := w) (c1 := #[.int .i64 mo]) (t1 := 3) (c2 := #[.func (.func F) #[] cs]) (t2 := 120)
  have H := Lib.hid (And.intro h1 (And.intro h2 h3))
  clear h1 h2 h3 h4
  go_enter Try.func65, Try.ntmps65
  go_wp2
  go_ret
  obtain ⟨h1, h2, h3⟩ := H.out
  exact ⟨_, _, rfl, by omega, by omega, h2, h3, h1⟩
theorem cellR_any (mb : Nat) (w : World) : Calls Try.prog 64 #[.pointer (some ⟨mb, 0, none⟩)] w fun e w' => Fn2 89 w #[.int .i64 (-1)] #[.pointer (some ⟨mb, 0, none⟩)] 3 83 e w' := by
  obtain ⟨h1, h2, h3, h4⟩ := two_rows (W := w) (c1 := #[.pointer (some ⟨mb, 0, none⟩)]) (t1 := 83) (c2 := #[.int .i64 (-1)]) (t2 := 3)
  have H := Lib.hid (And.intro h1 (And.intro h2 h3))
  clear h1 h2 h3 h4
  go_enter Try.func64, Try.ntmps64
  go_wp2
  go_ret
  obtain ⟨h1, h2, h3⟩ := H.out
  exact ⟨_, _, rfl, by omega, by omega, h3, h2, h1⟩
/-- the function that reads a point, with its three boxes -/
def Fn3 (mb : Nat) (w : World) (e : Ending) (w' : World) : Prop := ∃ ab sb bm, e = .returned (.func (.func 88) #[] #[.pointer (some ⟨ab, 0, none⟩), .pointer (some ⟨sb, 0, none⟩), .pointer (some ⟨bm, 0, none⟩)]) ∧ w.heap.size ≤ ab ∧ w.heap.size ≤ sb ∧ w.heap.size ≤ bm ∧
  w'.heap[ab]? = some (.cells #[.int .i64 0, .int .i64 0] 73 (0, 0)) ∧ w'.heap[sb]? = some (.cells #[.func (.func 87) #[] #[]] 136 (0, 0)) ∧ w'.heap[bm]? = some (.cells #[.pointer (some ⟨mb, 0, none⟩)] 83 (0, 0)) ∧ Below w.heap.size w w'
theorem pointR_any (mb : Nat) (w : World) : Calls Try.prog 63 #[.pointer (some ⟨mb, 0, none⟩)] w fun e w' => Fn3 mb w e w' := by
  obtain ⟨w2, hw2⟩ : ∃ w2, (w.alloc (.cells #[.pointer (some ⟨mb, 0, none⟩)] 83)).alloc (.cells #[.int .i64 0, .int .i64 0] 73) = w2 := ⟨_, rfl⟩
  obtain ⟨h1, h2, h3, h4⟩ := two_rows (W := w) (c1 := #[.pointer (some ⟨mb, 0, none⟩)]) (t1 := 83) (c2 := #[.int .i64 0, .int .i64 0]) (t2 := 73)
  rw [hw2] at h1 h2 h3 h4
  have hb : Below w2.heap.size w2 (w2.alloc (.cells #[.func (.func 87) #[] #[]] 136)) := (Below.refl _ w2).alloc (Nat.le_refl _) _
  have h6 := World.alloc_heap_new w2 (.cells #[.func (.func 87) #[] #[]] 136)
  have k2 := (hb.block _ (Array.getElem?_eq_some_iff.1 h2).1).trans h2
  have k3 := (hb.block _ (Array.getElem?_eq_some_iff.1 h3).1).trans h3
  have kb := h1.trans (hb.mono h1.size)
  rw [h4] at h6
  rw [← hw2] at h6 k2 k3 kb
  have H := Lib.hid (And.intro k2 (And.intro k3 (And.intro h6 kb)))
  clear h1 h2 h3 h4 hw2 hb h6 k2 k3 kb
  go_enter Try.func63, Try.ntmps63
  go_wp2
  go_ret
  obtain ⟨k2, k3, h6, kb⟩ := H.out
  exact ⟨_, _, _, rfl, by omega, by omega, by omega, k3, h6, k2, kb⟩
end Go.Proofs.Ytmjbimmbphofjaa

namespace Go.Proofs.Ytmjbimmbphofjaa
open Go.RowKit Go.Shelf
set_option maxRecDepth 100000
attribute [local go_sem] Oper.semAt_some

/-- what reader answers: a function of two that it has caught, which reads the field -/
def RdrR (lo mb lb : Nat) (zs : List Int) (N : Mg) (p : Nat) (f : Fd) (w : World) (e : Ending) (w' : World) : Prop := ∃ F c1 c2, e = .returned (.func (.func F) #[] #[c1, c2]) ∧ (∀ args W, (callFunc F args).run Try.prog W = .ok (.enter F args) W) ∧ Below w.heap.size w w' ∧
  Calls Try.prog F #[.pointer (some ⟨lb, 0, none⟩), c1, c2] w' fun r w'' => RdO lo mb lb zs p (rdF N f (zs.drop p)) w r w''
theorem RdO.since {lo mb lb : Nat} {zs : List Int} {p : Nat} {x : Nat × Nat × Mg} {w w1 w' : World} {r : Ending} (h : RdO lo mb lb zs p x w1 r w') (hb : Below w.heap.size w w1) : RdO lo mb lb zs p x w r w' :=
  ⟨h.1, (Off.of_below (S := fun q => q = mb ∨ q = lb) hb).trans h.2.1 (fun _ _ h => h), h.2.2⟩
set_option maxHeartbeats 8000000 in
theorem reader_any (lo mb lb : Nat) (zs : List Int) (N : Mg) (P C : Value) (p : Nat) (f : Fd) (w : World) (h : RdAt lo w mb lb zs N P C p 0) (hf : FdX f) (hmo : f.so = 1 → 0 ≤ f.mo) (h3 : f.so = 3 → N.p = []) (h4 : f.so = 4 → N.c = []) (hl : zs.length ≤ 1000000) (hz : Bys zs) :
    Calls Try.prog 38 #[.pointer (some ⟨mb, 0, none⟩), f.v] w fun e w' => RdrR lo mb lb zs N p f w e w' := by
  obtain ⟨w2, hw2⟩ : ∃ w2, (w.alloc (.cells #[.pointer (some ⟨mb, 0, none⟩)] 83)).alloc (.cells f.cs 68) = w2 := ⟨_, rfl⟩
  obtain ⟨b2, q0, q1, s2⟩ := two_rows (W := w) (c1 := #[.pointer (some ⟨mb, 0, none⟩)]) (t1 := 83) (c2 := f.cs) (t2 := 68)
  rw [hw2] at b2 q0 q1 s2
  have HB2 := Lib.hid b2
  have HQ0 := Lib.hid q0
  have HQ1 := Lib.hid q1
  have HW2 := Lib.hid hw2
  have hs2 : w.heap.size + 1 < w2.heap.size := by omega
  obtain ⟨d0, d1, d2, d3, d4, d5, d6⟩ := fd_block q1
  have kp := row_cell q0 0 _ rfl
  have LF : Hid ((Instr.loadAt 68 (.pointer (some ⟨w.heap.size + 1, 0, none⟩))).run Try.prog w2 = .ok f.v w2) := Lib.hid (by simp [Instr.loadAt, go_sem, d0, d1, d2, d3, d4, d5, d6, Fd.v, Fd.cs])
  have hso := so_ways hf
  have HH := Lib.hid h
  have HF := Lib.hid hf
  have HZ := Lib.hid hz
  obtain ⟨X0, hX0⟩ : ∃ X0, f.cs = X0 := ⟨_, rfl⟩
  have HX := Lib.hid hX0
  by_cases hk : f.so = 1
  · have e := hk
    rw [hk] at d1
    rw [← hw2] at d1 d4 kp
    have HM := Lib.hid d4
    unfold Fd.v
    rw [hX0] at HW2 d1 d4 kp ⊢
    clear hX0 hw2 b2 q0 q1 s2 d0 d2 d3 d5 d6 h hf hz hso HM
    go_enter Try.func38, Try.ntmps38
    go_wp2_with (rw [HW2.out]; refine wpList_load_run rfl 68 (.tmp 3) rfl (some ⟨w.heap.size + 1, 0, none⟩) rfl f.v LF.out ?_)
    refine (plainR_any mb f w2).mono ?_
    rintro r w3 ⟨a1, a2, rfl, k1, k2, k3, k4, k5⟩
    have HK := Lib.hid (And.intro k3 (And.intro k4 k5))
    clear k3 k4 k5 d1 d4 kp LF
    go_wp2
    go_ret
    obtain ⟨k3, k4, k5⟩ := HK.out
    have hb3 := HB2.out.trans (k5.mono HB2.out.size)
    exact ⟨_, _, _, rfl, enters_of Try.func95 (by kernel_rfl) rfl, hb3, (plainr_any lo mb lb a1 a2 zs N P C p f w3 (HH.out.later hb3) HF.out e (hmo e) hl HZ.out k3 k4).mono fun r w4 h => h.since hb3⟩
  by_cases hk : f.so = 2
  · have e := hk
    rw [hk] at d1
    rw [← hw2] at d1 d4 kp
    have HM := Lib.hid d4
    unfold Fd.v
    rw [hX0] at HW2 d1 d4 kp ⊢
    clear hX0 hw2 b2 q0 q1 s2 d0 d2 d3 d5 d6 h hf hz hso HM
    go_enter Try.func38, Try.ntmps38
    go_wp2_with (rw [HW2.out]; refine wpList_load_run rfl 68 (.tmp 3) rfl (some ⟨w.heap.size + 1, 0, none⟩) rfl f.v LF.out ?_)
    refine (signedR_any mb f w2).mono ?_
    rintro r w3 ⟨a1, a2, rfl, k1, k2, k3, k4, k5⟩
    have HK := Lib.hid (And.intro k3 (And.intro k4 k5))
    clear k3 k4 k5 d1 d4 kp LF
    go_wp2
    go_ret
    obtain ⟨k3, k4, k5⟩ := HK.out
    have hb3 := HB2.out.trans (k5.mono HB2.out.size)
    exact ⟨_, _, _, rfl, enters_of Try.func83 (by kernel_rfl) rfl, hb3, (signedr_any lo mb lb a1 a2 zs N P C p f w3 (HH.out.later hb3) HF.out e hl HZ.out k3 k4).mono fun r w4 h => h.since hb3⟩
  by_cases hk : f.so = 3
  · have e := hk
    rw [hk] at d1
    rw [← hw2] at d1 d4 kp
    have HM := Lib.hid d4
    unfold Fd.v
    rw [hX0] at HW2 d1 d4 kp ⊢
    clear hX0 hw2 b2 q0 q1 s2 d0 d2 d3 d5 d6 h hf hz hso HM
    go_enter Try.func38, Try.ntmps38
    go_wp2_with fail
    rw [HW2.out]
    have lO : ∀ V, Below w2.heap.size w2 V → (Instr.loadAt 3 (.pointer (some ⟨w.heap.size + 1, 4, none⟩))).run Try.prog V = .ok (.int .i64 f.mo) V := fun V hV => by
      have k := (fd_block ((hV.block _ hs2).trans HQ1.out)).2.2.2.2.1
      simp [Instr.loadAt, go_sem, k]
    have lM : ∀ V, Below w2.heap.size w2 V → (Instr.loadAt 83 (.pointer (some ⟨w.heap.size, 0, none⟩))).run Try.prog V = .ok (.pointer (some ⟨mb, 0, none⟩)) V := fun V hV => by
      have k := row_cell ((hV.block _ (by omega)).trans HQ0.out) 0 _ rfl
      simp [Instr.loadAt, go_sem, k]
    refine wp_region_order9 5 (0 :: 1 :: 2 :: 3 :: 4 :: []) (fun V => Below w2.heap.size w2 V) (C := fun V => Below w2.heap.size w2 V) (by kernel_rfl) (by kernel_rfl) (by kernel_rfl) (Below.refl _ _).drew (fun V hV => hV) ?_
    repeat (refine wpO9_pure rfl rfl ?_; go_big_quiet_step (fail); refine wpQuiet_nil ?_)
    refine wpO9_load (ad := ⟨w.heap.size + 1, 4, none⟩) (.int .i64 f.mo) rfl rfl rfl (by rfl) lO ?_
    simp only [Act.put, List.setIfInBounds_toArray, List.set_cons_succ, List.set_cons_zero]
    refine wpO9_load (ad := ⟨w.heap.size, 0, none⟩) (.pointer (some ⟨mb, 0, none⟩)) rfl rfl rfl (by rfl) lM ?_
    simp only [Act.put, List.setIfInBounds_toArray, List.set_cons_succ, List.set_cons_zero]
    refine wpO9_call (fun v => ∃ ab sb bm, v = .func (.func 88) #[] #[.pointer (some ⟨ab, 0, none⟩), .pointer (some ⟨sb, 0, none⟩), .pointer (some ⟨bm, 0, none⟩)]) (fun v V => Below w2.heap.size w2 V ∧ ∀ ab sb bm, v = .func (.func 88) #[] #[.pointer (some ⟨ab, 0, none⟩), .pointer (some ⟨sb, 0, none⟩), .pointer (some ⟨bm, 0, none⟩)] → w2.heap.size ≤ ab ∧ w2.heap.size ≤ sb ∧ w2.heap.size ≤ bm ∧ V.heap[ab]? = some (.cells #[.int .i64 0, .int .i64 0] 73 (0, 0)) ∧ V.heap[sb]? = some (.cells #[.func (.func 87) #[] #[]] 136 (0, 0)) ∧ V.heap[bm]? = some (.cells #[.pointer (some ⟨mb, 0, none⟩)] 83 (0, 0))) (f := 63) (args := #[.pointer (some ⟨mb, 0, none⟩)]) rfl rfl rfl (fun _ V hV => hV.1) (fun x => by first | rfl | (simp [go_sem]; done)) (fun V hV => (pointR_any mb V).mono fun e w' h => ?_) ?_
    · obtain ⟨ab, sb, bm, rfl, k1, k2, k3, k4, k5, k6, k7⟩ := h
      have := hV.size
      refine ⟨_, rfl, ⟨ab, sb, bm, rfl⟩, hV.trans (k7.mono hV.size), fun c1 c2 c3 hc => ?_⟩
      injection hc with _ _ hc
      simp only [Array.mk.injEq, List.cons.injEq, Value.pointer.injEq, Option.some.injEq, Addr.mk.injEq, and_true] at hc
      obtain ⟨rfl, rfl, rfl⟩ := hc
      exact ⟨by omega, by omega, by omega, k4, k5, k6⟩
    rintro v ⟨ab, sb, bm, rfl⟩
    simp only [Act.put, List.setIfInBounds_toArray, List.set_cons_succ, List.set_cons_zero]
    refine wpO9_call (fun v => ∃ b1 b2, v = .func (.func 85) #[] #[.pointer (some ⟨b1, 0, none⟩), .pointer (some ⟨b2, 0, none⟩)]) (fun v V => Below w2.heap.size w2 V ∧ (w2.heap.size ≤ ab ∧ w2.heap.size ≤ sb ∧ w2.heap.size ≤ bm ∧ V.heap[ab]? = some (.cells #[.int .i64 0, .int .i64 0] 73 (0, 0)) ∧ V.heap[sb]? = some (.cells #[.func (.func 87) #[] #[]] 136 (0, 0)) ∧ V.heap[bm]? = some (.cells #[.pointer (some ⟨mb, 0, none⟩)] 83 (0, 0))) ∧ ∀ b1 b2, v = .func (.func 85) #[] #[.pointer (some ⟨b1, 0, none⟩), .pointer (some ⟨b2, 0, none⟩)] → V.heap[b1]? = some (.cells #[.int .i64 f.mo] 3 (0, 0)) ∧ V.heap[b2]? = some (.cells #[.func (.func 88) #[] #[.pointer (some ⟨ab, 0, none⟩), .pointer (some ⟨sb, 0, none⟩), .pointer (some ⟨bm, 0, none⟩)]] 81 (0, 0))) (f := 62) (args := #[.int .i64 f.mo, .func (.func 88) #[] #[.pointer (some ⟨ab, 0, none⟩), .pointer (some ⟨sb, 0, none⟩), .pointer (some ⟨bm, 0, none⟩)]]) rfl rfl rfl (fun _ V hV => hV.1) (fun x => by first | rfl | (simp [go_sem]; done)) (fun V hV => (countR_any f.mo 88 #[.pointer (some ⟨ab, 0, none⟩), .pointer (some ⟨sb, 0, none⟩), .pointer (some ⟨bm, 0, none⟩)] V).mono fun e w' h => ?_) ?_
    · obtain ⟨b1, b2, rfl, k1, k2, k3, k4, k5⟩ := h
      obtain ⟨hb, hf⟩ := hV
      obtain ⟨j1, j2, j3, j4, j5, j6⟩ := hf ab sb bm rfl
      refine ⟨_, rfl, ⟨b1, b2, rfl⟩, hb.trans (k5.mono hb.size), ⟨j1, j2, j3, (k5.block _ (Array.getElem?_eq_some_iff.1 j4).1).trans j4, (k5.block _ (Array.getElem?_eq_some_iff.1 j5).1).trans j5, (k5.block _ (Array.getElem?_eq_some_iff.1 j6).1).trans j6⟩, fun c1 c2 hc => ?_⟩
      injection hc with _ _ hc
      simp only [Array.mk.injEq, List.cons.injEq, Value.pointer.injEq, Option.some.injEq, Addr.mk.injEq, and_true] at hc
      obtain ⟨rfl, rfl⟩ := hc
      exact ⟨k3, k4⟩
    rintro v ⟨b1, b2, rfl⟩
    simp only [Act.put, List.setIfInBounds_toArray, List.set_cons_succ, List.set_cons_zero]
    rintro w3 ⟨hb3, hfa, hrw⟩
    simp only [List.drop_succ_cons, List.drop_zero]
    have HK := Lib.hid (And.intro hb3 (And.intro hfa (hrw b1 b2 rfl)))
    clear hb3 hfa hrw lO lM d1 d4 kp LF
    go_wp2
    go_ret
    obtain ⟨hb3, ⟨j1, j2, j3, j4, j5, j6⟩, k3, k4⟩ := HK.out
    have hb4 := HB2.out.trans (hb3.mono HB2.out.size)
    exact ⟨_, _, _, rfl, enters_of Try.func85 (by kernel_rfl) rfl, hb4, countp_any w w3 lo mb lb b1 b2 ab sb bm zs N P C p f HH.out hb4 HF.out e (h3 e) (by omega) hl HZ.out k3 k4 j4 j6 j5 ⟨(Array.getElem?_eq_some_iff.1 j4).1, (Array.getElem?_eq_some_iff.1 j6).1, (Array.getElem?_eq_some_iff.1 j5).1⟩⟩
  by_cases hk : f.so = 4
  · have e := hk
    rw [hk] at d1
    rw [← hw2] at d1 d4 kp
    have HM := Lib.hid d4
    unfold Fd.v
    rw [hX0] at HW2 d1 d4 kp ⊢
    clear hX0 hw2 b2 q0 q1 s2 d0 d2 d3 d5 d6 h hf hz hso HM
    go_enter Try.func38, Try.ntmps38
    go_wp2_with fail
    rw [HW2.out]
    have lO : ∀ V, Below w2.heap.size w2 V → (Instr.loadAt 3 (.pointer (some ⟨w.heap.size + 1, 4, none⟩))).run Try.prog V = .ok (.int .i64 f.mo) V := fun V hV => by
      have k := (fd_block ((hV.block _ hs2).trans HQ1.out)).2.2.2.2.1
      simp [Instr.loadAt, go_sem, k]
    have lM : ∀ V, Below w2.heap.size w2 V → (Instr.loadAt 83 (.pointer (some ⟨w.heap.size, 0, none⟩))).run Try.prog V = .ok (.pointer (some ⟨mb, 0, none⟩)) V := fun V hV => by
      have k := row_cell ((hV.block _ (by omega)).trans HQ0.out) 0 _ rfl
      simp [Instr.loadAt, go_sem, k]
    refine wp_region_order9 5 (0 :: 1 :: 2 :: 3 :: 4 :: []) (fun V => Below w2.heap.size w2 V) (C := fun V => Below w2.heap.size w2 V) (by kernel_rfl) (by kernel_rfl) (by kernel_rfl) (Below.refl _ _).drew (fun V hV => hV) ?_
    repeat (refine wpO9_pure rfl rfl ?_; go_big_quiet_step (fail); refine wpQuiet_nil ?_)
    refine wpO9_load (ad := ⟨w.heap.size + 1, 4, none⟩) (.int .i64 f.mo) rfl rfl rfl (by rfl) lO ?_
    simp only [Act.put, List.setIfInBounds_toArray, List.set_cons_succ, List.set_cons_zero]
    refine wpO9_load (ad := ⟨w.heap.size, 0, none⟩) (.pointer (some ⟨mb, 0, none⟩)) rfl rfl rfl (by rfl) lM ?_
    simp only [Act.put, List.setIfInBounds_toArray, List.set_cons_succ, List.set_cons_zero]
    refine wpO9_call (fun v => ∃ ab bm, v = .func (.func 89) #[] #[.pointer (some ⟨ab, 0, none⟩), .pointer (some ⟨bm, 0, none⟩)]) (fun v V => Below w2.heap.size w2 V ∧ ∀ ab bm, v = .func (.func 89) #[] #[.pointer (some ⟨ab, 0, none⟩), .pointer (some ⟨bm, 0, none⟩)] → w2.heap.size ≤ ab ∧ w2.heap.size ≤ bm ∧ V.heap[ab]? = some (.cells #[.int .i64 (-1)] 3 (0, 0)) ∧ V.heap[bm]? = some (.cells #[.pointer (some ⟨mb, 0, none⟩)] 83 (0, 0))) (f := 64) (args := #[.pointer (some ⟨mb, 0, none⟩)]) rfl rfl rfl (fun _ V hV => hV.1) (fun x => by first | rfl | (simp [go_sem]; done)) (fun V hV => (cellR_any mb V).mono fun e w' h => ?_) ?_
    · obtain ⟨ab, bm, rfl, k1, k2, k4, k6, k7⟩ := h
      have := hV.size
      refine ⟨_, rfl, ⟨ab, bm, rfl⟩, hV.trans (k7.mono hV.size), fun c1 c2 hc => ?_⟩
      injection hc with _ _ hc
      simp only [Array.mk.injEq, List.cons.injEq, Value.pointer.injEq, Option.some.injEq, Addr.mk.injEq, and_true] at hc
      obtain ⟨rfl, rfl⟩ := hc
      exact ⟨by omega, by omega, k4, k6⟩
    rintro v ⟨ab, bm, rfl⟩
    simp only [Act.put, List.setIfInBounds_toArray, List.set_cons_succ, List.set_cons_zero]
    refine wpO9_call (fun v => ∃ b1 b2, v = .func (.func 85) #[] #[.pointer (some ⟨b1, 0, none⟩), .pointer (some ⟨b2, 0, none⟩)]) (fun v V => Below w2.heap.size w2 V ∧ (w2.heap.size ≤ ab ∧ w2.heap.size ≤ bm ∧ V.heap[ab]? = some (.cells #[.int .i64 (-1)] 3 (0, 0)) ∧ V.heap[bm]? = some (.cells #[.pointer (some ⟨mb, 0, none⟩)] 83 (0, 0))) ∧ ∀ b1 b2, v = .func (.func 85) #[] #[.pointer (some ⟨b1, 0, none⟩), .pointer (some ⟨b2, 0, none⟩)] → V.heap[b1]? = some (.cells #[.int .i64 f.mo] 3 (0, 0)) ∧ V.heap[b2]? = some (.cells #[.func (.func 89) #[] #[.pointer (some ⟨ab, 0, none⟩), .pointer (some ⟨bm, 0, none⟩)]] 81 (0, 0))) (f := 62) (args := #[.int .i64 f.mo, .func (.func 89) #[] #[.pointer (some ⟨ab, 0, none⟩), .pointer (some ⟨bm, 0, none⟩)]]) rfl rfl rfl (fun _ V hV => hV.1) (fun x => by first | rfl | (simp [go_sem]; done)) (fun V hV => (countR_any f.mo 89 #[.pointer (some ⟨ab, 0, none⟩), .pointer (some ⟨bm, 0, none⟩)] V).mono fun e w' h => ?_) ?_
    · obtain ⟨b1, b2, rfl, k1, k2, k3, k4, k5⟩ := h
      obtain ⟨hb, hf⟩ := hV
      obtain ⟨j1, j3, j4, j6⟩ := hf ab bm rfl
      refine ⟨_, rfl, ⟨b1, b2, rfl⟩, hb.trans (k5.mono hb.size), ⟨j1, j3, (k5.block _ (Array.getElem?_eq_some_iff.1 j4).1).trans j4, (k5.block _ (Array.getElem?_eq_some_iff.1 j6).1).trans j6⟩, fun c1 c2 hc => ?_⟩
      injection hc with _ _ hc
      simp only [Array.mk.injEq, List.cons.injEq, Value.pointer.injEq, Option.some.injEq, Addr.mk.injEq, and_true] at hc
      obtain ⟨rfl, rfl⟩ := hc
      exact ⟨k3, k4⟩
    rintro v ⟨b1, b2, rfl⟩
    simp only [Act.put, List.setIfInBounds_toArray, List.set_cons_succ, List.set_cons_zero]
    rintro w3 ⟨hb3, hfa, hrw⟩
    simp only [List.drop_succ_cons, List.drop_zero]
    have HK := Lib.hid (And.intro hb3 (And.intro hfa (hrw b1 b2 rfl)))
    clear hb3 hfa hrw lO lM d1 d4 kp LF
    go_wp2
    go_ret
    obtain ⟨hb3, ⟨j1, j3, j4, j6⟩, k3, k4⟩ := HK.out
    have hb4 := HB2.out.trans (hb3.mono HB2.out.size)
    exact ⟨_, _, _, rfl, enters_of Try.func85 (by kernel_rfl) rfl, hb4, countc_any w w3 lo mb lb b1 b2 ab bm zs N P C p f HH.out hb4 HF.out e (h4 e) (by omega) hl HZ.out k3 k4 j4 j6 ⟨(Array.getElem?_eq_some_iff.1 j4).1, (Array.getElem?_eq_some_iff.1 j6).1⟩⟩
  by_cases hk : f.so = 5
  · have e : f.so = 5 := by omega
    rw [e] at d1
    rw [← hw2] at d1 d4 kp
    have HM := Lib.hid d4
    unfold Fd.v
    rw [hX0] at HW2 d1 d4 kp ⊢
    clear hX0 hw2 b2 q0 q1 s2 d0 d2 d3 d5 d6 h hf hz hso HM
    go_enter Try.func38, Try.ntmps38
    go_wp2_with fail
    rw [HW2.out]
    refine (textR_any f.mo 66 #[.pointer (some ⟨w.heap.size, 0, none⟩)] w2).mono ?_
    rintro r w3 ⟨a1, a2, rfl, k1, k2, k3, k4, k5⟩
    have HK := Lib.hid (And.intro k3 (And.intro k4 k5))
    clear k3 k4 k5 d1 d4 kp LF
    go_wp2
    go_ret
    obtain ⟨k3, k4, k5⟩ := HK.out
    have hb3 := HB2.out.trans (k5.mono HB2.out.size)
    have kb := (k5.block _ (by omega)).trans HQ0.out
    exact ⟨_, _, _, rfl, enters_of Try.func91 (by kernel_rfl) rfl, hb3, (textr_any lo mb lb a1 a2 w.heap.size zs N P C p f w3 (HH.out.later hb3) HF.out e hl HZ.out k3 k4 kb).mono fun r w4 h => h.since hb3⟩
  · have e : f.so = 6 := by omega
    rw [e] at d1
    rw [← hw2] at d1 d4 kp
    have HM := Lib.hid d4
    unfold Fd.v
    rw [hX0] at HW2 d1 d4 kp ⊢
    clear hX0 hw2 b2 q0 q1 s2 d0 d2 d3 d5 d6 h hf hz hso HM
    go_enter Try.func38, Try.ntmps38
    go_wp2_with fail
    rw [HW2.out]
    refine (textR_any f.mo 67 #[.pointer (some ⟨w.heap.size, 0, none⟩)] w2).mono ?_
    rintro r w3 ⟨a1, a2, rfl, k1, k2, k3, k4, k5⟩
    have HK := Lib.hid (And.intro k3 (And.intro k4 k5))
    clear k3 k4 k5 d1 d4 kp LF
    go_wp2
    go_ret
    obtain ⟨k3, k4, k5⟩ := HK.out
    have hb3 := HB2.out.trans (k5.mono HB2.out.size)
    have kb := (k5.block _ (by omega)).trans HQ0.out
    exact ⟨_, _, _, rfl, enters_of Try.func91 (by kernel_rfl) rfl, hb3, (tagr_any lo mb lb a1 a2 w.heap.size zs N P C p f w3 (HH.out.later hb3) HF.out e hl HZ.out k3 k4 kb).mono fun r w4 h => h.since hb3⟩
end Go.Proofs.Ytmjbimmbphofjaa

namespace Go.Proofs.Ytmjbimmbphofjaa
open Go.RowKit Go.Shelf
set_option maxRecDepth 100000
attribute [local go_sem] Oper.semAt_some

/-- what Decode answers -/
def DecR (w : World) (r : Nat × Mg) (e : Ending) (w' : World) : Prop := ∃ x, e = .returned (.tuple #[x, .int .i64 (r.1 : Int)]) ∧ FMs r.2 x w' ∧ Below w.heap.size w w'
theorem mC_zero (k : Int) : mC (Mg.zero k) (.slice none 0 0) (.slice none 0 0) = #[.int .i64 k, .int .i64 0, .int .i64 0, .int .i64 0, .int .i64 0, .int .i64 0, .int .i64 0, .slice none 0 0, .slice none 0 0, .string ⟨#[]⟩, .string ⟨#[]⟩] := rfl
theorem MAt.zero (w : World) (B : Nat) (k : Int) : MAt w B (Mg.zero k) (.slice none 0 0) (.slice none 0 0) := ⟨⟨none, 0, rfl, Nat.le_refl _, Nums.nil⟩, ⟨none, 0, rfl, Nat.le_refl _, Nums.nil⟩⟩
set_option maxHeartbeats 4000000 in
/-- of a version or a kind that isn't -/
theorem bdecode_no (k v : Int) (A : Option Addr) (len cap : Nat) (l : List Int) (w : World) (hE : (v ≠ 1 ∧ v ≠ 2) ∨ FD k = []) : Calls Try.prog 17 #[.int .i64 k, .int .i64 v, .slice A len cap] w fun e w' => DecR w (bdec k v l) e w' := by
  obtain ⟨w2, hw2⟩ : ∃ w2, w.alloc (.cells #[.int .i64 0, .int .i64 0, .int .i64 0, .int .i64 0, .int .i64 0, .int .i64 0, .int .i64 0, .slice none 0 0, .slice none 0 0, .string ⟨#[]⟩, .string ⟨#[]⟩] 26) = w2 := ⟨_, rfl⟩
  have hb2 : Below w.heap.size w w2 := by rw [← hw2]; exact (Below.refl _ w).alloc (Nat.le_refl _) _
  have q0 : w2.heap[w.heap.size]? = some (.cells (mC (Mg.zero 0) (.slice none 0 0) (.slice none 0 0)) 26 (0, 0)) := by rw [← hw2]; exact World.alloc_heap_new _ _
  have HW2 := Lib.hid hw2
  have KK := Lib.hid (bknown_any v w2)
  have KW := Lib.hid (word_any k w2)
  have hst := mg_store w2 w.heap.size _ (mC (Mg.zero 0) (.slice none 0 0) (.slice none 0 0)) q0 rfl rfl (mg_one _ _ _ _ _ _ _)
  have hrow := setRow_heap w2 w.heap.size _ (mC (Mg.zero 0) (.slice none 0 0) (.slice none 0 0)) _ _ q0
  have hoff := (Off.setRow (S := fun q => q = w.heap.size) (Off.refl _ w2) rfl (mC (Mg.zero 0) (.slice none 0 0) (.slice none 0 0)))
  obtain ⟨W', hW'⟩ : ∃ W', w2.setRow w.heap.size (mC (Mg.zero 0) (.slice none 0 0) (.slice none 0 0)) = W' := ⟨_, rfl⟩
  rw [hW'] at hst hrow hoff
  have hbel : Below w.heap.size w W' := hb2.trans (hoff.below (B := w.heap.size) (fun q hq => by omega) hb2.size)
  rw [mC_zero] at hst
  have HST := Lib.hid hst
  have HRW := Lib.hid hrow
  have HBE := Lib.hid hbel
  clear hw2 q0 hst hrow hoff hW' hb2 hbel
  by_cases hv : v = 1 ∨ v = 2
  · have hk : FD k = [] := by
      rcases hE with h | h
      · omega
      · exact h
    have hr : bdec k v l = (9, Mg.zero 0) := by unfold bdec; rw [if_neg (by omega), if_pos hk]
    rw [hr]
    rw [decide_eq_true hv] at KK
    rw [(FD_nil k).1 hk] at KW
    go_enter Try.func17, Try.ntmps17
    go_wp2
    refine wp_scope_straight ?_
    go_wp2_with fail
    rw [HW2.out]
    refine KK.out.mono ?_
    rintro e w3 ⟨rfl, rfl⟩
    go_wp2_with fail
    refine KW.out.mono ?_
    rintro e w3 ⟨rfl, rfl⟩
    go_wp2_with (refine wpList_store_run rfl 26 (.tmp 6) (.tmp 22) rfl (some ⟨w.heap.size, 0, none⟩) rfl (.agg #[.int .i64 0, .int .i64 0, .int .i64 0, .int .i64 0, .int .i64 0, .int .i64 0, .int .i64 0, .slice none 0 0, .slice none 0 0, .string ⟨#[]⟩, .string ⟨#[]⟩]) rfl HST.out ?_)
    try simp only [Exit.noGoto]
    obtain ⟨y0, y1, y2, y3, y4, y5, y6, y7, y8, y9, y10⟩ := mg_block HRW.out
    refine bodyPost_ret (v := .tuple #[.agg (mC (Mg.zero 0) (.slice none 0 0) (.slice none 0 0)), .int .i64 9]) (by simp [results, Try.results17, go_sem, y0, y1, y2, y3, y4, y5, y6, y7, y8, y9, y10, mC]) rfl ?_
    exact ⟨_, rfl, ⟨_, _, rfl, MAt.zero _ _ _⟩, HBE.out⟩
  · have hr : bdec k v l = (10, Mg.zero 0) := by unfold bdec; rw [if_pos (by omega)]
    rw [hr]
    rw [decide_eq_false hv] at KK
    go_enter Try.func17, Try.ntmps17
    go_wp2
    refine wp_scope_straight ?_
    go_wp2_with fail
    rw [HW2.out]
    refine KK.out.mono ?_
    rintro e w3 ⟨rfl, rfl⟩
    go_wp2_with (refine wpList_store_run rfl 26 (.tmp 6) (.tmp 17) rfl (some ⟨w.heap.size, 0, none⟩) rfl (.agg #[.int .i64 0, .int .i64 0, .int .i64 0, .int .i64 0, .int .i64 0, .int .i64 0, .int .i64 0, .slice none 0 0, .slice none 0 0, .string ⟨#[]⟩, .string ⟨#[]⟩]) rfl HST.out ?_)
    try simp only [Exit.noGoto]
    obtain ⟨y0, y1, y2, y3, y4, y5, y6, y7, y8, y9, y10⟩ := mg_block HRW.out
    refine bodyPost_ret (v := .tuple #[.agg (mC (Mg.zero 0) (.slice none 0 0) (.slice none 0 0)), .int .i64 10]) (by simp [results, Try.results17, go_sem, y0, y1, y2, y3, y4, y5, y6, y7, y8, y9, y10, mC]) rfl ?_
    exact ⟨_, rfl, ⟨_, _, rfl, MAt.zero _ _ _⟩, HBE.out⟩
theorem FD_mo1 (k : Int) : ∀ f ∈ FD k, f.so = 1 → 0 ≤ f.mo := by
  have hall : ∀ L : List Fd, (L.all fun f => decide (f.so = 1 → 0 ≤ f.mo)) = true → ∀ f ∈ L, (f.so = 1 → 0 ≤ f.mo) := by
    intro L h f hf
    rw [List.all_eq_true] at h
    exact of_decide_eq_true (h f hf)
  rcases kind_ways k with rfl | rfl | rfl | rfl | rfl | ⟨h1, h2, h3, h4, h5⟩
  case' inr.inr.inr.inr.inr => rw [show FD k = [] by simp [FD, raw, h1, h2, h3, h4, h5, pls]]
  all_goals exact hall _ (by decide)
theorem setCell_same {w : World} {b : Nat} {v : Value} {t : TypeId} (h : w.heap[b]? = some (.cells #[v] t (0, 0))) : w.setCell ⟨b, 0, none⟩ v = w := by
  have hlt := (Array.getElem?_eq_some_iff.1 h).1
  have : (w.setCell ⟨b, 0, none⟩ v).heap = w.heap := by
    apply Array.ext_getElem?
    intro i
    by_cases hi : i = b
    · subst hi
      rw [setCell_at h, h]
      rfl
    · exact Below.heap_setCell _ _ _ _ hi
  cases w
  simp only [World.setCell] at this ⊢
  rw [this]
theorem NuX.putObj {W : World} {mb lb l : Nat} {a : Option Addr} {zs : List Int} {o o' : Obj} (h : NuX W mb lb a zs) (ho : W.heap[l]? = some o) (hc : o.isCells = false) : NuX (W.putObj l o') mb lb a zs := fun hn => by
  obtain ⟨b, off, e, h1, h2, hcl⟩ := h hn
  obtain ⟨z, hz⟩ : ∃ z, zs[0]? = some z := by
    cases zs with
    | nil => exact absurd rfl hn
    | cons x r => exact ⟨x, rfl⟩
  have hne : b ≠ l := fun e2 => by
    subst e2
    have := hcl 0 z hz
    unfold World.cell? at this
    simp only [ho] at this
    cases o <;> simp_all [Obj.isCells]
  refine ⟨b, off, e, h1, h2, fun j c hj => ?_⟩
  have hx : (W.putObj l o').heap[b]? = W.heap[b]? := World.putObj_heap_other hne
  rw [← hcl j c hj]
  simp only [World.cell?, hx]
theorem RdAt.putObj {lo mb lb l : Nat} {W : World} {zs : List Int} {N : Mg} {P C : Value} {p e : Nat} {o o' : Obj} (h : RdAt lo W mb lb zs N P C p e) (hl : mb < l) (ho : W.heap[l]? = some o) (hc : o.isCells = false) : RdAt lo (W.putObj l o') mb lb zs N P C p e := by
  obtain ⟨⟨a, c, h1, h2, h3⟩, ⟨a', c', h4, h5, h6⟩⟩ := And.intro h.p h.c
  have ha := h.a
  have hoff : Off (fun k => k = l) W (W.putObj l o') := ⟨rfl, rfl, rfl, by simp [World.putObj], fun k _ hn => World.putObj_heap_other hn⟩
  exact ⟨(World.putObj_heap_other (by omega)).trans h.m, h.l.off hoff (fun k _ hk => by omega), h.a, ⟨a, c, h1, h2, h3.putObj ho hc⟩, ⟨a', c', h4, h5, h6.putObj ho hc⟩, h.pz, h.cz⟩
/-- while fields are read: so many have been -/
def DcI (w6 : World) (lo mb lb qe : Nat) (zs : List Int) (FL : List Fd) (k : Int) (j : Nat) (V : World) : Prop := ∃ (N : Mg) (P C : Value) (p : Nat), RdAt lo V mb lb zs N P C p 0 ∧ V.heap[qe]? = some (.cells #[.int .i64 0] 29 (0, 0)) ∧ Off (fun q => q = mb ∨ q = lb ∨ q = qe) w6 V ∧
  Msm N ∧ Flds (FL.drop j) N ∧ rdL FL (Mg.zero k) zs = ((rdL (FL.drop j) N (zs.drop p)).1, p + (rdL (FL.drop j) N (zs.drop p)).2.1, (rdL (FL.drop j) N (zs.drop p)).2.2)
section
variable {w6 V V' : World} {lo mb lb qe : Nat} {zs : List Int} {FL : List Fd} {k : Int} {j : Nat}
theorem DcI.later (h : DcI w6 lo mb lb qe zs FL k j V) (hb : Below V.heap.size V V') : DcI w6 lo mb lb qe zs FL k j V' := by
  obtain ⟨N, P, C, p, h1, h2, h3, h4, h5, h6⟩ := h
  exact ⟨N, P, C, p, h1.later hb, (hb.block _ (Array.getElem?_eq_some_iff.1 h2).1).trans h2, h3.trans (Off.of_below (S := fun _ => False) hb) (fun _ _ h => h.elim), h4, h5, h6⟩
theorem DcI.putObj {l : Nat} {o o' : Obj} (h : DcI w6 lo mb lb qe zs FL k j V) (hl : w6.heap.size ≤ l) (hm : mb < w6.heap.size) (hq : qe < w6.heap.size) (ho : V.heap[l]? = some o) (hc : o.isCells = false) : DcI w6 lo mb lb qe zs FL k j (V.putObj l o') := by
  obtain ⟨N, P, C, p, h1, h2, h3, h4, h5, h6⟩ := h
  have hoff : Off (fun k => k = l) V (V.putObj l o') := ⟨rfl, rfl, rfl, by simp [World.putObj], fun k _ hn => World.putObj_heap_other hn⟩
  exact ⟨N, P, C, p, h1.putObj (by omega) ho hc, (World.putObj_heap_other (by omega)).trans h2, h3.trans hoff (fun _ _ e => by omega), h4, h5, h6⟩
end
theorem off3_kf {V W : World} {a b c s : Nat} {c1 c2 c3 : Array Value} {t1 t2 t3 : TypeId} (h : Off (fun q => q = a ∨ q = b ∨ q = c) V W) (h1 : V.heap[a]? = some (.cells c1 t1 (0, 0))) (h2 : V.heap[b]? = some (.cells c2 t2 (0, 0))) (h3 : V.heap[c]? = some (.cells c3 t3 (0, 0))) : KeepsFrom s V W := ⟨h.size, fun q o _ hq hc => (h.block q (Array.getElem?_eq_some_iff.1 hq).1 (by
  rintro (rfl | rfl | rfl)
  · rw [h1] at hq; injection hq with hq; subst hq; cases hc
  · rw [h2] at hq; injection hq with hq; subst hq; cases hc
  · rw [h3] at hq; injection hq with hq; subst hq; cases hc)).trans hq⟩
theorem off3_ket {V W : World} {a b c lo : Nat} {c1 c2 c3 : Array Value} (h : Off (fun q => q = a ∨ q = b ∨ q = c) V W) (h1 : V.heap[a]? = some (.cells c1 26 (0, 0))) (h2 : V.heap[b]? = some (.cells c2 116 (0, 0))) (h3 : V.heap[c]? = some (.cells c3 29 (0, 0))) : KeT 68 3 lo V W := ⟨h.size, fun q cs t _ ht hq => h.block q (Array.getElem?_eq_some_iff.1 hq).1 (by
  have e1 := fun e : t ≠ 26 => row_ne hq h1 e
  have e2 := fun e : t ≠ 116 => row_ne hq h2 e
  have e3 := fun e : t ≠ 29 => row_ne hq h3 e
  rcases ht with rfl | rfl
  · have := e1 (by decide); have := e2 (by decide); have := e3 (by decide); omega
  · have := e1 (by decide); have := e2 (by decide); have := e3 (by decide); omega)⟩
theorem rdL_step (f : Fd) (r : List Fd) (M : Mg) (l : List Int) : rdL (f :: r) M l = if (rdF M f l).1 ≠ 0 then ((rdF M f l).1, 0, M) else ((rdL r (rdF M f l).2.2 (l.drop (rdF M f l).2.1)).1, (rdF M f l).2.1 + (rdL r (rdF M f l).2.2 (l.drop (rdF M f l).2.1)).2.1, (rdL r (rdF M f l).2.2 (l.drop (rdF M f l).2.1)).2.2) := rfl
theorem rdF_small {f : Fd} (hf : FdX f) {N N' : Mg} (h : fE N' f = 0) (hc : N' = cp N N' f) (hs : Msm N) : Msm N' := by
  unfold cp at hc
  unfold fE at h
  by_cases h3 : f.so = 3
  · rw [if_pos h3] at hc h
    obtain ⟨-, h2, -⟩ := wP_zero h
    have := hf.mo.1 h3
    rw [hc]
    exact ⟨by show N'.p.length ≤ 40; omega, hs.c, hs.tx, hs.tg⟩
  rw [if_neg h3] at hc h
  by_cases h4 : f.so = 4
  · rw [if_pos h4] at hc h
    obtain ⟨-, h2, -⟩ := wC_zero h
    have := hf.mo.2.1 h4
    rw [hc]
    exact ⟨hs.p, by show N'.c.length ≤ 40; omega, hs.tx, hs.tg⟩
  rw [if_neg h4] at hc h
  by_cases h5 : f.so = 5
  · rw [if_pos h5] at hc h
    obtain ⟨h2, -⟩ := wT_zero h
    have := hf.mo.2.2.1 h5
    rw [hc]
    exact ⟨hs.p, hs.c, by show N'.tx.size ≤ 80; omega, hs.tg⟩
  rw [if_neg h5] at hc h
  by_cases h6 : f.so = 6
  · rw [if_pos h6] at hc h
    obtain ⟨h2, -⟩ := wT_zero h
    have := hf.mo.2.2.2 h6
    rw [hc]
    exact ⟨hs.p, hs.c, hs.tx, by show N'.tg.size ≤ 80; omega⟩
  rw [if_neg h6] at hc
  rw [hc]
  exact ⟨by rw [Mg.put_p]; exact hs.p, by rw [Mg.put_c]; exact hs.c, by rw [Mg.put_tx]; exact hs.tx, by rw [Mg.put_tg]; exact hs.tg⟩
set_option maxHeartbeats 16000000 in
theorem bdecode_yes (k v : Int) (A : Option Addr) (len cap : Nat) (zs : List Int) (w : World) (hlen : zs.length = len) (hll : len ≤ 1000000) (hby : Bys zs) (hA : Nums .u8 w w.heap.size A zs) (hv : v = 1 ∨ v = 2) (hk : FD k ≠ []) : Calls Try.prog 17 #[.int .i64 k, .int .i64 v, .slice A len cap] w fun e w' => DecR w (bdec k v zs) e w' := by
  obtain ⟨w2, hw2⟩ : ∃ w2, w.alloc (.cells #[.int .i64 0, .int .i64 0, .int .i64 0, .int .i64 0, .int .i64 0, .int .i64 0, .int .i64 0, .slice none 0 0, .slice none 0 0, .string ⟨#[]⟩, .string ⟨#[]⟩] 26) = w2 := ⟨_, rfl⟩
  have hb2 : Below w.heap.size w w2 := by rw [← hw2]; exact (Below.refl _ w).alloc (Nat.le_refl _) _
  have q0 : w2.heap[w.heap.size]? = some (.cells (mC (Mg.zero 0) (.slice none 0 0) (.slice none 0 0)) 26 (0, 0)) := by rw [← hw2]; exact World.alloc_heap_new _ _
  have HW2 := Lib.hid hw2
  have hlt0 := (Array.getElem?_eq_some_iff.1 q0).1
  have KK := Lib.hid (bknown_any v w2)
  have KW := Lib.hid (word_any k w2)
  rw [decide_eq_true hv] at KK
  have hwk : wd k ≠ ⟨#[]⟩ := fun e => hk ((FD_nil k).2 e)
  have hwne := str_nil hwk
  have hwn2 : (wd k).toList.isEmpty = false := by simpa using hwne
  have KL := Lib.hid (lnew_any A len cap zs w2 hlen (by omega) ((hA.below hb2).mono hb2.size))
  obtain ⟨R, hR⟩ : ∃ R, bdec k v zs = R := ⟨_, rfl⟩
  rw [hR]
  unfold bdec at hR
  rw [if_neg (by omega), if_neg hk] at hR
  have HR := Lib.hid hR
  have HB2 := Lib.hid hb2
  have HQ0 := Lib.hid q0
  have HBY := Lib.hid hby
  have HLEN := Lib.hid hlen
  clear hR hw2 hb2 q0 hA hby hlen
  refine (callsIn_wide (n := 9)).1 ?_
  refine callsIn_of_wp_marks Try.func17 rfl trivial ?_ rfl
  simp only [Try.ntmps17, List.size_toArray, List.length_cons, List.length_nil, Nat.reduceAdd, Nat.reduceSub, Array.replicate_succ, Array.replicate_zero, List.push_toArray, List.append_toArray, List.nil_append, List.cons_append]
  gi_wp2_with fail
  refine wpIn_wide.2 (wp_scope_straight ((wpIn_wide (n := 9)).1 ?_))
  gi_wp2_with fail
  rw [HW2.out]
  refine ⟨trivial, (callsIn_wide.2 KK.out).mono ?_⟩
  rintro e w3 ⟨rfl, rfl⟩
  gi_wp2_with fail
  refine ⟨trivial, (callsIn_wide.2 KW.out).mono ?_⟩
  rintro e w3 ⟨rfl, rfl⟩
  clear KW KK
  gi_wp2_with fail
  refine ⟨trivial, (callsIn_wide.2 KL.out).mono ?_⟩
  rintro e w3 ⟨lb, rfl, hl3, hb3⟩
  clear KL
  gi_wp2_with fail
  obtain ⟨w5, hw5⟩ : ∃ w5, ((w3.alloc (.cells #[.int .i64 k, .int .i64 0, .int .i64 0, .int .i64 0, .int .i64 0, .int .i64 0, .int .i64 0, .slice none 0 0, .slice none 0 0, .string ⟨#[]⟩, .string ⟨#[]⟩] 26)).alloc (.cells #[.pointer (some ⟨lb, 0, none⟩)] 79)).alloc (.cells #[.int .i64 0] 29) = w5 := ⟨_, rfl⟩
  have hs3 := hb3.size
  have hlb3 := hl3.lt
  have hlbo := hl3.lo_le
  obtain ⟨mb, hmb⟩ : ∃ mb, w3.heap.size = mb := ⟨_, rfl⟩
  obtain ⟨hb4, m4, r4, hs4⟩ := two_rows (W := w3) (c1 := #[.int .i64 k, .int .i64 0, .int .i64 0, .int .i64 0, .int .i64 0, .int .i64 0, .int .i64 0, .slice none 0 0, .slice none 0 0, .string ⟨#[]⟩, .string ⟨#[]⟩]) (t1 := 26) (c2 := #[.pointer (some ⟨lb, 0, none⟩)]) (t2 := 79)
  obtain ⟨w4, hw4⟩ : ∃ w4, (w3.alloc (.cells #[.int .i64 k, .int .i64 0, .int .i64 0, .int .i64 0, .int .i64 0, .int .i64 0, .int .i64 0, .slice none 0 0, .slice none 0 0, .string ⟨#[]⟩, .string ⟨#[]⟩] 26)).alloc (.cells #[.pointer (some ⟨lb, 0, none⟩)] 79) = w4 := ⟨_, rfl⟩
  rw [hw4] at hb4 m4 r4 hs4
  have hb45 : Below w4.heap.size w4 w5 := by rw [← hw5, hw4]; exact (Below.refl _ w4).alloc (Nat.le_refl _) _
  have e5 : w5.heap[w4.heap.size]? = some (.cells #[.int .i64 0] 29 (0, 0)) := by rw [← hw5, hw4]; exact World.alloc_heap_new _ _
  have m5 := (hb45.block _ (Array.getElem?_eq_some_iff.1 m4).1).trans m4
  have r5 := (hb45.block _ (Array.getElem?_eq_some_iff.1 r4).1).trans r4
  have hb35 := hb4.trans (hb45.mono (by omega))
  have hl5 := hl3.below hb35
  rw [hs4, hmb] at e5
  have e5 : w5.heap[mb + 1 + 1]? = some (.cells #[.int .i64 0] 29 (0, 0)) := e5
  rw [hmb] at m5 r5 hlb3 hs3 ⊢
  have hR5 : RdAt w2.heap.size w5 mb lb zs (Mg.zero k) (.slice none 0 0) (.slice none 0 0) 0 0 := ⟨m5, hl5, hlb3, ⟨none, 0, rfl, Nat.le_refl _, fun h => absurd rfl h⟩, ⟨none, 0, rfl, Nat.le_refl _, fun h => absurd rfl h⟩, fun _ => rfl, fun _ => rfl⟩
  have hs5 : mb + 1 + 1 < w5.heap.size := (Array.getElem?_eq_some_iff.1 e5).1
  have hb05 : Below w.heap.size w w5 := HB2.out.trans ((hb3.trans (hb35.mono (by omega))).mono (by omega))
  have q5 := (hb35.block _ (by omega)).trans ((hb3.block _ hlt0).trans HQ0.out)
  have HW5 := Lib.hid hw5
  have HR5 := Lib.hid hR5
  have HE5 := Lib.hid e5
  have HP5 := Lib.hid r5
  have HQ5 := Lib.hid q5
  have HB05 := Lib.hid hb05
  clear hw5 hR5 e5 r5 q5 hb05 m5 hl5 hb35 hb45 hb4 m4 r4 hs4 hw4 hb3 hl3 HQ0 HB2
  rw [HW5.out]
  clear HW5
  apply wpIn_label
  gi_wp2_with fail
  refine ⟨trivial, (callsIn_wide.2 (fall_any k v w5)).mono ?_⟩
  rintro e w6 ⟨rfl, hg0, hg1, hb6⟩
  have hs6 := (Array.getElem?_eq_some_iff.1 hg1).1
  have hR6 := HR5.out.later hb6
  have e6 := (hb6.block _ hs5).trans HE5.out
  have HP6 := Lib.hid ((hb6.block _ (by omega)).trans HP5.out)
  have HQ6 := Lib.hid ((hb6.block _ (by omega)).trans HQ5.out)
  have HB06 := Lib.hid (HB05.out.trans (hb6.mono HB05.out.size))
  have HFX := Lib.hid (show ∀ f ∈ FDv k v, f.so = 1 → 0 ≤ f.mo from fun f hf => FD_mo1 k f (FDv_sub hf))
  have hfl := FDv_flds k v
  have hsm0 : Msm (Mg.zero k) := ⟨by simp [Mg.zero], by simp [Mg.zero], by show (ByteArray.mk #[]).size ≤ 80; decide, by show (ByteArray.mk #[]).size ≤ 80; decide⟩
  obtain ⟨FL, hFL⟩ : ∃ FL, FDv k v = FL := ⟨_, rfl⟩
  rw [hFL] at HR HFX hfl
  have HFL := Lib.hid hFL
  have hD0 : DcI w6 w2.heap.size mb lb (mb + 1 + 1) zs FL k 0 w6 := ⟨Mg.zero k, _, _, 0, hR6, e6, Off.refl _ _, hsm0, by rw [List.drop_zero]; exact hfl, by simp⟩
  clear hR6 e6 hb6 hFL hfl hsm0 HR5 HE5 HP5 HQ5 HB05
  gi_wp2_with fail
  refine range_stopb rfl (by omega) (gf := 48) (lb := #[.pointer (some ⟨w5.heap.size, 0, none⟩), .pointer (some ⟨w5.heap.size + 1, 0, none⟩)]) rfl trivial (enters_of Try.func48 (by kernel_rfl) rfl)
    (fun f : Fd => #[f.v]) (fun _ => rfl)
    (fun j f V => FL[j]? = some f ∧ DcI w6 w2.heap.size mb lb (mb + 1 + 1) zs FL k j V)
    (fun j f q V => (FL[j]? = some f ∧ DcI w6 w2.heap.size mb lb (mb + 1 + 1) zs FL k j V) ∧ w6.heap.size ≤ q ∧ V.heap[q]? = some (.cells f.cs 68 (0, 0)))
    (fun j V => DcI w6 w2.heap.size mb lb (mb + 1 + 1) zs FL k j V)
    (fun cd V => cd = .exit 1 ∧ ∃ E : Nat, E ≠ 0 ∧ (rdL FL (Mg.zero k) zs).1 = E ∧ V.heap[mb + 1 + 1]? = some (.cells #[.int .i64 (E : Int)] 29 (0, 0)) ∧ Off (fun q => q = mb ∨ q = lb ∨ q = mb + 1 + 1) w6 V)
    (KeT 68 3 w5.heap.size) FL.length
    (fun j f q V l o o' h hl ho hc' => ⟨⟨h.1.1, h.1.2.putObj hl (by omega) (by omega) ho hc'⟩, h.2.1, (World.putObj_heap_other (fun e => by subst e; rw [h.2.2] at ho; injection ho with ho; subst ho; cases hc')).trans h.2.2⟩)
    (fun j V l o o' h hl ho hc' => h.putObj hl (by omega) (by omega) ho hc')
    (fun cd V l o o' h hl ho hc' => by
      obtain ⟨h1, E, h2, h3, h4, h5⟩ := h
      have hoff : Off (fun k => k = l) V (V.putObj l o') := ⟨rfl, rfl, rfl, by simp [World.putObj], fun k _ hn => World.putObj_heap_other hn⟩
      exact ⟨h1, E, h2, h3, (World.putObj_heap_other (by omega)).trans h4, h5.trans hoff (fun _ _ e => by omega)⟩)
    (fun _ _ _ h k => h.trans k) (fun V l o o' hl ho hc' => KeT.putObj ho hc')
    (fun o => (hD0.later ((Below.refl _ w6).alloc (Nat.le_refl _) _)).later ((Below.refl _ _).alloc (Nat.le_refl _) _)) ?round ?iter ?done ?stop
  case round =>
    rintro l j f V K ⟨hf, hC⟩ hj hK
    have HK := Lib.hid hK
    have hsz : w6.heap.size ≤ V.heap.size := by
      obtain ⟨_, _, _, _, _, _, h3, _⟩ := hC
      exact h3.size
    clear hK
    unfold Fd.v Fd.cs
    gi_wp2_with fail
    refine HK.out _ V.heap.size _ ⟨⟨hf, hC.later ((Below.refl _ V).alloc (Nat.le_refl _) _)⟩, hsz, World.alloc_heap_new _ _⟩ ⟨by simp, fun q o _ ho _ => (Below.heap_alloc _ _ _ (Array.getElem?_eq_some_iff.1 ho).1).trans ho⟩ (KeT.of_below ((Below.refl _ V).alloc (Nat.le_refl _) _)) ?_
    clear HK hC
    rintro l V2 hl ⟨⟨_, hC⟩, hq, hc⟩
    obtain ⟨qb, hqb⟩ : ∃ qb, V.heap.size = qb := ⟨_, rfl⟩
    rw [hqb] at hq hc ⊢
    clear hqb hD0
    obtain ⟨N, P, C, p, h1, h2, h3, hsm, h4, h5⟩ := hC
    have hd : FL.drop j = f :: FL.drop (j + 1) := by
      obtain ⟨hlt, he⟩ := List.getElem?_eq_some_iff.1 hf
      rw [List.drop_eq_getElem_cons hlt, he]
    rw [hd] at h4 h5
    have hfx := h4.fdx f (List.mem_cons_self ..)
    have hfp := h4.p f (List.mem_cons_self ..)
    have hfc := h4.c f (List.mem_cons_self ..)
    have KR := reader_any w2.heap.size mb lb zs N P C p f V2 h1 hfx (HFX.out f (List.mem_of_getElem? hf)) hfp hfc (by rw [HLEN.out]; omega) HBY.out
    have hst := rdL_step f (FL.drop (j + 1)) N (zs.drop p)
    have hok : ∀ u N', rdF N f (zs.drop p) = (0, u, N') → fE N' f = 0 ∧ N' = cp N N' f := fun u N' h => (rdFld_ok hfx (HBY.out.drop p) hfp hfc h).2.2
    unfold RdrR at KR
    obtain ⟨⟨E, u, N'⟩, hrd⟩ : ∃ r, rdF N f (zs.drop p) = r := ⟨_, rfl⟩
    rw [hrd] at KR hst hok
    simp only at hst
    rw [hst] at h5
    have r9 := (h3.block _ (by omega) (by omega)).trans HP6.out
    have k9 := row_cell r9 0 _ rfl
    obtain ⟨_, _, hbl, -⟩ := h1.l.open
    have LF : Hid ((Instr.loadAt 68 (.pointer (some ⟨qb, 0, none⟩))).run Try.prog V2 = .ok f.v V2) := by
      obtain ⟨t0, t1, t2, t3, t4, t5, t6⟩ := fd_block hc
      exact Lib.hid (by simp [Instr.loadAt, go_sem, t0, t1, t2, t3, t4, t5, t6, Fd.v, Fd.cs])
    have HM := Lib.hid h1.m
    have HBL := Lib.hid hbl
    have HEQ := Lib.hid h2
    have HOF := Lib.hid h3
    have HST := Lib.hid h5
    have HFL4 := Lib.hid h4
    have HOK := Lib.hid hok
    have HSM := Lib.hid hsm
    have HFD := Lib.hid hfx
    have KR := Lib.hid KR
    have hlbm := h1.a
    have hV2 := h3.size
    clear h1 h2 h3 h4 h5 hst hok hsm hfp hfc hd hf hrd hbl r9 hfx hc
    gi_wp2_with (refine wpListIn_load_run rfl 68 (.tmp 11) rfl (some ⟨qb, 0, none⟩) rfl f.v LF.out ?_)
    refine ⟨trivial, ((callsIn_wide.2 KR.out).inRound l).mono ?_⟩
    rintro e V3 ⟨F, c1, c2, rfl, hent, hb3, hcall⟩
    have hs3 := hb3.size
    have k9 := (hb3.cell (p := ⟨mb + 1, 0, none⟩) (by show mb + 1 < _; omega)).trans k9
    have HCALL := Lib.hid hcall
    clear hcall KR hb3
    gi_wp2_with fail
    refine ⟨trivial, ((callsIn_wide.2 HCALL.out).inRound l).mono ?_⟩
    rintro e V4 ⟨rfl, ho4, hok4⟩
    simp only at hok4 ⊢
    have hV4 := ho4.size
    have m4 := HM.out
    have e4 := (ho4.block _ (Array.getElem?_eq_some_iff.1 HEQ.out).1 (by omega)).trans HEQ.out
    have k4 := row_cell e4 0 _ rfl
    have z4 := frozen_of_row V4 (mb + 1 + 1) 0 _ _ e4
    have ho3 : Off (fun q => q = mb ∨ q = lb ∨ q = mb + 1 + 1) V2 V4 := ho4.mono fun j _ h => by omega
    clear HCALL m4
    by_cases hE : E = 0
    · subst hE
      obtain ⟨P', C', hR'⟩ := hok4 rfl
      obtain ⟨hfe, hcp⟩ := HOK.out u N' rfl
      have hst := HST.out
      rw [if_neg (by simp)] at hst
      simp only [List.drop_drop] at hst
      have HJ : Hid (DcI w6 w2.heap.size mb lb (mb + 1 + 1) zs FL k (j + 1) V4) := Lib.hid ⟨N', P', C', p + u, hR', e4, HOF.out.trans ho3 (fun _ _ h => h), rdF_small HFD.out hfe hcp HSM.out, by rw [hcp]; exact HFL4.out.next N', by rw [hst]; simp only [Nat.add_assoc]⟩
      have HKF := Lib.hid (off3_kf (s := w6.heap.size) ho3 HM.out HBL.out HEQ.out)
      have HKE := Lib.hid (off3_ket (lo := w5.heap.size) ho3 HM.out HBL.out HEQ.out)
      have HSA := Lib.hid (setCell_same e4)
      clear hok4 hR' ho4 ho3 hst hfe hcp e4
      rw [show ((0 : Nat) : Int) = 0 from rfl]
      gi_wp2
      rw [HSA.out]
      exact ⟨HKF.out, HJ.out, HKE.out⟩
    · have hEn : ((E : Int) != 0) = true := by simpa using hE
      have hst := HST.out
      rw [if_pos hE] at hst
      have ho5 : Off (fun q => q = mb ∨ q = lb ∨ q = mb + 1 + 1) V2 (V4.setCell ⟨mb + 1 + 1, 0, none⟩ (.int .i64 (E : Int))) := ho3.setCell (p := ⟨mb + 1 + 1, 0, none⟩) (.inr (.inr rfl)) _
      have HKF := Lib.hid (off3_kf (s := w6.heap.size) ho5 HM.out HBL.out HEQ.out)
      have HX : Hid (∃ E' : Nat, E' ≠ 0 ∧ (rdL FL (Mg.zero k) zs).1 = E' ∧ (V4.setCell ⟨mb + 1 + 1, 0, none⟩ (.int .i64 (E : Int))).heap[mb + 1 + 1]? = some (.cells #[.int .i64 (E' : Int)] 29 (0, 0)) ∧ Off (fun q => q = mb ∨ q = lb ∨ q = mb + 1 + 1) w6 (V4.setCell ⟨mb + 1 + 1, 0, none⟩ (.int .i64 (E : Int)))) := Lib.hid ⟨E, hE, by rw [hst], by rw [setCell_at e4]; rfl, HOF.out.trans ho5 (fun _ _ h => h)⟩
      clear hok4 ho4 ho3 ho5 hst e4
      gi_wp2
      exact ⟨HKF.out, rfl, HX.out⟩
  case iter =>
    intro Bk X l V hBk hBlt hX hl hD hB hY
    have h := fall_in 8 (by omega) 7 l w5.heap.size k v (fun j V => DcI w6 w2.heap.size mb lb (mb + 1 + 1) zs FL k j V ∧ Bk V) X
      (fun j A B h hb => ⟨h.1.later hb, hBk A _ h.2 hb.size (fun q h1 h2 => by have := hBlt A h.2; exact hb.block q (by omega))⟩)
      (fun j f W h hf => by
        rw [HFL.out] at hf
        exact (hY j f W ⟨hf, h.1⟩ h.2 (List.getElem?_eq_some_iff.1 hf).1).mono (fun e W2 h => h.elim (fun h => .inl ⟨h.1, h.2.1, h.2.2.1⟩) (fun h => .inr ⟨h.1, h.2.1⟩)))
      V (by
        obtain ⟨_, _, _, _, _, _, h3, _⟩ := hD
        exact (h3.block _ (by omega) (by omega)).trans hg0) (by
        obtain ⟨_, _, _, _, _, _, h3, _⟩ := hD
        exact (h3.block _ (by omega) (by omega)).trans hg1) ⟨hD, hB⟩
    rw [HFL.out] at h
    exact h
  case done =>
    rintro D V hD hC hK
    obtain ⟨N, P, C, p, h1, h2, h3, hsm, -, h5⟩ := hC
    rw [List.drop_length] at h5
    simp only [rdL, Nat.add_zero] at h5
    have hR := HR.out
    rw [h5] at hR
    simp only [ne_eq, not_true_eq_false, if_false] at hR
    have hp := h1.l.place
    have ce := row_cell h2 0 _ rfl
    have cz := frozen_of_row V (mb + 1 + 1) 0 _ _ h2
    have k9 := row_cell ((h3.block _ (by omega) (by omega)).trans HP6.out) 0 _ rfl
    have HQ := Lib.hid ((h3.block _ (by omega) (by omega)).trans HQ6.out)
    have HB0 := Lib.hid (HB06.out.trans (h3.below (B := w.heap.size) (fun q hq => by omega) HB06.out.size))
    have KE := Lib.hid (lend_any _ _ _ _ _ _ h1.l (by rw [HLEN.out]; omega))
    have HKD0 := Lib.hid hK
    have hV := h3.size
    have HR1 := Lib.hid h1
    have HE1 := Lib.hid h2
    have HSM := Lib.hid hsm
    clear h1 h2 h3 hsm h5 hK hD0 hg0 hg1
    by_cases hlt : p < zs.length
    · rw [if_pos hlt] at hR
      have he3 : endOf zs p 0 = 3 := by unfold endOf; rw [if_neg (by simp), if_pos hlt]
      rw [he3] at KE
      have HR2 := Lib.hid hR
      clear hR
      gi_wp2_with fail
      refine ⟨trivial, (callsIn_wide.2 KE.out).mono ?_⟩
      rintro e V2 ⟨rfl, n2, rfl⟩
      have hb2 := below_of_drewN (B := V.heap.size) V n2
      obtain ⟨V2, hV2⟩ : ∃ V2, V.drewN n2 = V2 := ⟨_, rfl⟩
      rw [hV2] at hb2 ⊢
      have e2 := (hb2.block _ (Array.getElem?_eq_some_iff.1 HE1.out).1).trans HE1.out
      have ce2 := row_cell e2 0 _ rfl
      have cz2 := frozen_of_row V2 (mb + 1 + 1) 0 _ _ e2
      obtain ⟨V4, hV4⟩ : ∃ V4, V2.setCell ⟨mb + 1 + 1, 0, none⟩ (.int .i64 3) = V4 := ⟨_, rfl⟩
      have hof4 : Off (fun q => q = mb + 1 + 1) V2 V4 := by rw [← hV4]; exact Off.setCell (S := fun q => q = mb + 1 + 1) (p := ⟨mb + 1 + 1, 0, none⟩) (Off.refl _ V2) rfl _
      have HEE : Hid (V4.heap[mb + 1 + 1]? = some (.cells #[.int .i64 3] 29 (0, 0))) := Lib.hid (by rw [← hV4, setCell_at e2]; rfl)
      have hqq := (hb2.block _ (Array.getElem?_eq_some_iff.1 HQ.out).1).trans HQ.out
      have HQV := Lib.hid ((hof4.block _ (Array.getElem?_eq_some_iff.1 hqq).1 (by omega)).trans hqq)
      have hkk := (hb2.block _ (Array.getElem?_eq_some_iff.1 HKD0.out).1).trans HKD0.out
      have HKD := Lib.hid ((hof4.block _ (Array.getElem?_eq_some_iff.1 hkk).1 (by omega)).trans hkk)
      have HBV := Lib.hid ((HB0.out.trans (hb2.mono HB0.out.size)).trans (hof4.below (B := w.heap.size) (fun q hq => by omega) (by have := HB0.out.size; have := hb2.size; omega)))
      have HV4 := Lib.hid hV4
      clear KE hb2 hV2 e2 hof4 hqq hkk HQ HB0 HE1 HR1 HKD0 hV4
      rw [show ((3 : Nat) : Int) = 3 from rfl]
      gi_wp2_with fail
      rw [HV4.out]
      have lE : ∀ W, Off (fun q => q = w.heap.size) V4 W → (Instr.loadAt 29 (.pointer (some ⟨mb + 1 + 1, 0, none⟩))).run Try.prog W = .ok (.int .i64 3) W := fun W hW => by
        have k := row_cell ((hW.block _ (Array.getElem?_eq_some_iff.1 HEE.out).1 (by omega)).trans HEE.out) 0 _ rfl
        simp [Instr.loadAt, go_sem, k]
      refine wpIn_wide.2 ?_
      refine wp_region_order9 3 (0 :: 1 :: 2 :: []) (fun W => Off (fun q => q = w.heap.size) V4 W) (C := fun W => Below V4.heap.size V4 W) (by kernel_rfl) (by kernel_rfl) (by kernel_rfl) (Below.refl _ _).drew (fun W hW => Off.of_below hW) ?_
      refine wpO9_build (.agg #[.int .i64 0, .int .i64 0, .int .i64 0, .int .i64 0, .int .i64 0, .int .i64 0, .int .i64 0, .slice none 0 0, .slice none 0 0, .string ⟨#[]⟩, .string ⟨#[]⟩]) rfl rfl rfl (fun W _ => by simp [execOp, go_sem]) ?_
      simp only [Act.put, List.setIfInBounds_toArray, List.set_cons_succ, List.set_cons_zero]
      refine wpO9_load (ad := ⟨mb + 1 + 1, 0, none⟩) (.int .i64 3) rfl rfl rfl (by rfl) lE ?_
      simp only [Act.put, List.setIfInBounds_toArray, List.set_cons_succ, List.set_cons_zero]
      refine wpO9_store (fun W => ∃ W0, Below V4.heap.size V4 W0 ∧ W = W0.setRow w.heap.size #[.int .i64 0, .int .i64 0, .int .i64 0, .int .i64 0, .int .i64 0, .int .i64 0, .int .i64 0, .slice none 0 0, .slice none 0 0, .string ⟨#[]⟩, .string ⟨#[]⟩]) rfl rfl rfl rfl ⟨w.heap.size, 0, none⟩ (.agg #[.int .i64 0, .int .i64 0, .int .i64 0, .int .i64 0, .int .i64 0, .int .i64 0, .int .i64 0, .slice none 0 0, .slice none 0 0, .string ⟨#[]⟩, .string ⟨#[]⟩]) (by rfl) (by rfl) (fun W hW => ?_) (fun W hW => ?_) ?_
      · obtain ⟨W0, h1, rfl⟩ := hW
        exact Off.setRow (S := fun q => q = w.heap.size) (Off.of_below h1) rfl _
      · exact ⟨_, mg_store W w.heap.size _ _ ((hW.block _ (Array.getElem?_eq_some_iff.1 HQV.out).1).trans HQV.out) rfl rfl (mg_one (Mg.zero 0) _ _ _ _ _ _), W, hW, rfl⟩
      rintro V6 ⟨W0, hb0, rfl⟩
      simp only [List.drop_succ_cons, List.drop_zero]
      have q0 := (hb0.block _ (Array.getElem?_eq_some_iff.1 HQV.out).1).trans HQV.out
      have hrow := setRow_heap W0 w.heap.size _ #[.int .i64 0, .int .i64 0, .int .i64 0, .int .i64 0, .int .i64 0, .int .i64 0, .int .i64 0, .slice none 0 0, .slice none 0 0, .string ⟨#[]⟩, .string ⟨#[]⟩] _ _ q0
      have hof0 := Off.setRow (S := fun q => q = w.heap.size) (Off.refl _ W0) rfl #[.int .i64 0, .int .i64 0, .int .i64 0, .int .i64 0, .int .i64 0, .int .i64 0, .int .i64 0, .slice none 0 0, .slice none 0 0, .string ⟨#[]⟩, .string ⟨#[]⟩]
      have hbf : Below w.heap.size w (W0.setRow w.heap.size #[.int .i64 0, .int .i64 0, .int .i64 0, .int .i64 0, .int .i64 0, .int .i64 0, .int .i64 0, .slice none 0 0, .slice none 0 0, .string ⟨#[]⟩, .string ⟨#[]⟩]) := (HBV.out.trans (hb0.mono HBV.out.size)).trans (hof0.below (B := w.heap.size) (fun q hq => by omega) (by have := HBV.out.size; have := hb0.size; omega))
      have hkf := (hof0.block _ (by have := (Array.getElem?_eq_some_iff.1 HKD.out).1; have := hb0.size; omega) (by omega)).trans ((hb0.block _ (Array.getElem?_eq_some_iff.1 HKD.out).1).trans HKD.out)
      generalize W0.setRow w.heap.size _ = Vf at *
      have HRW := Lib.hid hrow
      have HBF := Lib.hid hbf
      have HKF := Lib.hid hkf
      clear lE q0 hrow hof0 hbf hkf hb0 HBV HKD
      go_wp2
      gi_wp2
      try simp only [Exit.noGoto]
      refine ⟨by simp, .inl ⟨_, _, rfl, run_takeDeferred HKF.out, ?_⟩⟩
      obtain ⟨y0, y1, y2, y3, y4, y5, y6, y7, y8, y9, y10⟩ := mg_block (M := Mg.zero 0) (P := .slice none 0 0) (C := .slice none 0 0) (W := Vf.putObj D (.deferred none)) ((World.putObj_heap_other (by omega)).trans HRW.out)
      refine ⟨.tuple #[.agg (mC (Mg.zero 0) (.slice none 0 0) (.slice none 0 0)), .int .i64 3], by simp [results, Try.f17, go_sem, y0, y1, y2, y3, y4, y5, y6, y7, y8, y9, y10, mC], ?_⟩
      rw [← HR2.out]
      exact ⟨_, rfl, ⟨_, _, rfl, MAt.zero _ _ _⟩, HBF.out.trans (below_put _ _ (by omega))⟩
    · rw [if_neg hlt] at hR
      have he3 : endOf zs p 0 = 0 := by unfold endOf; rw [if_neg (by simp), if_neg hlt]
      rw [he3] at KE
      have HR2 := Lib.hid hR
      clear hR
      gi_wp2_with fail
      refine ⟨trivial, (callsIn_wide.2 KE.out).mono ?_⟩
      rintro e V2 ⟨rfl, n2, rfl⟩
      have hb2 := below_of_drewN (B := V.heap.size) V n2
      obtain ⟨V2, hV2⟩ : ∃ V2, V.drewN n2 = V2 := ⟨_, rfl⟩
      rw [hV2] at hb2 ⊢
      have e2 := (hb2.block _ (Array.getElem?_eq_some_iff.1 HE1.out).1).trans HE1.out
      have ce2 := row_cell e2 0 _ rfl
      have cz2 := frozen_of_row V2 (mb + 1 + 1) 0 _ _ e2
      have HSA := Lib.hid (setCell_same e2)
      have h1 := HR1.out.later hb2
      have LM := Lib.hid (mg_read h1.m)
      have hmat : MAt V2 V2.heap.size N P C := by
        obtain ⟨⟨a, c, e1, e2, e3⟩, ⟨a', c', e4, e5, e6⟩⟩ := And.intro h1.p h1.c
        exact ⟨⟨a, c, e1, e2, e3.nums⟩, ⟨a', c', e4, e5, e6.nums⟩⟩
      have KP := mproject_any N P C v V2 HSM.out hmat
      unfold mV at KP LM
      have KP := Lib.hid KP
      have HQ2 := Lib.hid ((hb2.block _ (Array.getElem?_eq_some_iff.1 HQ.out).1).trans HQ.out)
      have HK2 := Lib.hid ((hb2.block _ (Array.getElem?_eq_some_iff.1 HKD0.out).1).trans HKD0.out)
      have HB2' := Lib.hid (HB0.out.trans (hb2.mono HB0.out.size))
      clear KE hb2 hV2 e2 HQ HB0 HE1 HR1 HKD0 h1 hmat
      rw [show ((0 : Nat) : Int) = 0 from rfl]
      gi_wp2_with (rw [HSA.out]; refine wpListIn_load_run rfl 26 (.tmp 8) rfl (some ⟨mb, 0, none⟩) rfl (.agg (mC N P C)) LM.out ?_)
      refine ⟨trivial, (callsIn_wide.2 KP.out).mono ?_⟩
      rintro e V3 ⟨P3, C3, rfl, hown3, hb3⟩
      obtain ⟨G, hG⟩ : ∃ G, mproj N v = G := ⟨_, rfl⟩
      rw [hG] at hown3 HR2 ⊢
      have hm3 := hown3.at
      obtain ⟨⟨a3, c3, rfl, -, -⟩, ⟨b3, cc3, rfl, -, -⟩⟩ := And.intro hm3.p hm3.c
      have hq3 := (hb3.block _ (Array.getElem?_eq_some_iff.1 HQ2.out).1).trans HQ2.out
      have hk3 := (hb3.block _ (Array.getElem?_eq_some_iff.1 HK2.out).1).trans HK2.out
      have hst := mg_store V3 w.heap.size _ (mC G (.slice a3 G.p.length c3) (.slice b3 G.c.length cc3)) hq3 rfl rfl (mg_one _ _ _ _ _ _ _)
      have hrow := setRow_heap V3 w.heap.size _ (mC G (.slice a3 G.p.length c3) (.slice b3 G.c.length cc3)) _ _ hq3
      have hof3 := Off.setRow (S := fun q => q = w.heap.size) (Off.refl _ V3) rfl (mC G (.slice a3 G.p.length c3) (.slice b3 G.c.length cc3))
      have hbq : w.heap.size < V2.heap.size := (Array.getElem?_eq_some_iff.1 HQ2.out).1
      have hown4 := hown3.off hof3 (fun g hg e => by have := (hown3.p.lt g hg).1; omega) (fun g hg e => by have := (hown3.c.lt g hg).1; omega)
      have hbf : Below w.heap.size w (V3.setRow w.heap.size (mC G (.slice a3 G.p.length c3) (.slice b3 G.c.length cc3))) := (HB2'.out.trans (hb3.mono HB2'.out.size)).trans (hof3.below (B := w.heap.size) (fun q hq => by omega) (by have := HB2'.out.size; have := hb3.size; omega))
      have hkf := (hof3.block _ (Array.getElem?_eq_some_iff.1 hk3).1 (by omega)).trans hk3
      obtain ⟨Vf, hVf⟩ : ∃ Vf, V3.setRow w.heap.size (mC G (.slice a3 G.p.length c3) (.slice b3 G.c.length cc3)) = Vf := ⟨_, rfl⟩
      rw [hVf] at hst hrow hown4 hbf hkf
      have HST := Lib.hid hst
      have HRW := Lib.hid hrow
      have HOW := Lib.hid hown4
      have HBF := Lib.hid hbf
      have HKF := Lib.hid hkf
      clear hst hrow hown3 hown4 hbf hkf hq3 hk3 hof3 hVf hm3 KP LM HSA hG
      unfold mV
      gi_wp2_with (refine wpListIn_store_run rfl 26 (.tmp 6) (.tmp 48) rfl (some ⟨w.heap.size, 0, none⟩) rfl (.agg (mC G (.slice a3 G.p.length c3) (.slice b3 G.c.length cc3))) rfl HST.out ?_)
      try simp only [Exit.noGoto]
      refine ⟨by simp, .inl ⟨_, _, rfl, run_takeDeferred HKF.out, ?_⟩⟩
      obtain ⟨y0, y1, y2, y3, y4, y5, y6, y7, y8, y9, y10⟩ := mg_block (W := Vf.putObj D (.deferred none)) ((World.putObj_heap_other (by omega)).trans HRW.out)
      refine ⟨.tuple #[.agg (mC G (.slice a3 G.p.length c3) (.slice b3 G.c.length cc3)), .int .i64 0], by simp [results, Try.f17, go_sem, y0, y1, y2, y3, y4, y5, y6, y7, y8, y9, y10, mC], ?_⟩
      rw [← HR2.out]
      refine ⟨_, rfl, ⟨_, _, rfl, ?_⟩, HBF.out.trans (below_put _ _ (by omega))⟩
      have ho5 : Off (fun k => k = D) Vf (Vf.putObj D (.deferred none)) := ⟨rfl, rfl, rfl, by simp [World.putObj], fun k _ hn => World.putObj_heap_other hn⟩
      exact (HOW.out.off ho5 (fun g hg e => by have := (HOW.out.p.lt g hg).1; have := (Array.getElem?_eq_some_iff.1 HK2.out).1; omega) (fun g hg e => by have := (HOW.out.c.lt g hg).1; have := (Array.getElem?_eq_some_iff.1 HK2.out).1; omega)).at
  case stop =>
    rintro D cd V hD ⟨rfl, E, hE, hrd, he, hof⟩ hK
    have hR := HR.out
    rw [if_pos (by rw [hrd]; exact hE), hrd] at hR
    have ce := row_cell he 0 _ rfl
    have e0 : ((E : Int) == 0) = false := by simpa using hE
    have e1 : ((E : Int) != 0) = true := by simpa using hE
    have HEE := Lib.hid he
    have HQV := Lib.hid ((hof.block _ (by omega) (by omega)).trans HQ6.out)
    have HBV := Lib.hid (HB06.out.trans (hof.below (B := w.heap.size) (fun q hq => by omega) HB06.out.size))
    have HKD := Lib.hid hK
    have HR2 := Lib.hid hR
    clear he hof hK hR hrd hD0 hg0 hg1
    gi_wp2_with fail
    have lE : ∀ W, Off (fun q => q = w.heap.size) V W → (Instr.loadAt 29 (.pointer (some ⟨mb + 1 + 1, 0, none⟩))).run Try.prog W = .ok (.int .i64 (E : Int)) W := fun W hW => by
      have k := row_cell ((hW.block _ (Array.getElem?_eq_some_iff.1 HEE.out).1 (by omega)).trans HEE.out) 0 _ rfl
      simp [Instr.loadAt, go_sem, k]
    refine wpIn_wide.2 ?_
    refine wp_region_order9 3 (0 :: 1 :: 2 :: []) (fun W => Off (fun q => q = w.heap.size) V W) (C := fun W => Below V.heap.size V W) (by kernel_rfl) (by kernel_rfl) (by kernel_rfl) (Below.refl _ _).drew (fun W hW => Off.of_below hW) ?_
    refine wpO9_build (.agg #[.int .i64 0, .int .i64 0, .int .i64 0, .int .i64 0, .int .i64 0, .int .i64 0, .int .i64 0, .slice none 0 0, .slice none 0 0, .string ⟨#[]⟩, .string ⟨#[]⟩]) rfl rfl rfl (fun W _ => by simp [execOp, go_sem]) ?_
    simp only [Act.put, List.setIfInBounds_toArray, List.set_cons_succ, List.set_cons_zero]
    refine wpO9_load (ad := ⟨mb + 1 + 1, 0, none⟩) (.int .i64 (E : Int)) rfl rfl rfl (by rfl) lE ?_
    simp only [Act.put, List.setIfInBounds_toArray, List.set_cons_succ, List.set_cons_zero]
    refine wpO9_store (fun W => ∃ W0, Below V.heap.size V W0 ∧ W = W0.setRow w.heap.size #[.int .i64 0, .int .i64 0, .int .i64 0, .int .i64 0, .int .i64 0, .int .i64 0, .int .i64 0, .slice none 0 0, .slice none 0 0, .string ⟨#[]⟩, .string ⟨#[]⟩]) rfl rfl rfl rfl ⟨w.heap.size, 0, none⟩ (.agg #[.int .i64 0, .int .i64 0, .int .i64 0, .int .i64 0, .int .i64 0, .int .i64 0, .int .i64 0, .slice none 0 0, .slice none 0 0, .string ⟨#[]⟩, .string ⟨#[]⟩]) (by rfl) (by rfl) (fun W hW => ?_) (fun W hW => ?_) ?_
    · obtain ⟨W0, h1, rfl⟩ := hW
      exact Off.setRow (S := fun q => q = w.heap.size) (Off.of_below h1) rfl _
    · exact ⟨_, mg_store W w.heap.size _ _ ((hW.block _ (Array.getElem?_eq_some_iff.1 HQV.out).1).trans HQV.out) rfl rfl (mg_one (Mg.zero 0) _ _ _ _ _ _), W, hW, rfl⟩
    rintro V6 ⟨W0, hb0, rfl⟩
    simp only [List.drop_succ_cons, List.drop_zero]
    have q0 := (hb0.block _ (Array.getElem?_eq_some_iff.1 HQV.out).1).trans HQV.out
    have hrow := setRow_heap W0 w.heap.size _ #[.int .i64 0, .int .i64 0, .int .i64 0, .int .i64 0, .int .i64 0, .int .i64 0, .int .i64 0, .slice none 0 0, .slice none 0 0, .string ⟨#[]⟩, .string ⟨#[]⟩] _ _ q0
    have hof0 := Off.setRow (S := fun q => q = w.heap.size) (Off.refl _ W0) rfl #[.int .i64 0, .int .i64 0, .int .i64 0, .int .i64 0, .int .i64 0, .int .i64 0, .int .i64 0, .slice none 0 0, .slice none 0 0, .string ⟨#[]⟩, .string ⟨#[]⟩]
    have hbf : Below w.heap.size w (W0.setRow w.heap.size #[.int .i64 0, .int .i64 0, .int .i64 0, .int .i64 0, .int .i64 0, .int .i64 0, .int .i64 0, .slice none 0 0, .slice none 0 0, .string ⟨#[]⟩, .string ⟨#[]⟩]) := (HBV.out.trans (hb0.mono HBV.out.size)).trans (hof0.below (B := w.heap.size) (fun q hq => by omega) (by have := HBV.out.size; have := hb0.size; omega))
    have hkf := (hof0.block _ (by have := (Array.getElem?_eq_some_iff.1 HKD.out).1; have := hb0.size; omega) (by omega)).trans ((hb0.block _ (Array.getElem?_eq_some_iff.1 HKD.out).1).trans HKD.out)
    generalize W0.setRow w.heap.size _ = Vf at *
    have HRW := Lib.hid hrow
    have HBF := Lib.hid hbf
    have HKF := Lib.hid hkf
    clear lE q0 hrow hof0 hbf hkf hb0 HBV HKD
    go_wp2
    gi_wp2
    try simp only [Exit.noGoto]
    refine ⟨by simp, .inl ⟨_, _, rfl, run_takeDeferred HKF.out, ?_⟩⟩
    obtain ⟨y0, y1, y2, y3, y4, y5, y6, y7, y8, y9, y10⟩ := mg_block (M := Mg.zero 0) (P := .slice none 0 0) (C := .slice none 0 0) (W := Vf.putObj D (.deferred none)) ((World.putObj_heap_other (by omega)).trans HRW.out)
    refine ⟨.tuple #[.agg (mC (Mg.zero 0) (.slice none 0 0) (.slice none 0 0)), .int .i64 (E : Int)], by simp [results, Try.f17, go_sem, y0, y1, y2, y3, y4, y5, y6, y7, y8, y9, y10, mC], ?_⟩
    rw [← HR2.out]
    exact ⟨_, rfl, ⟨_, _, rfl, MAt.zero _ _ _⟩, HBF.out.trans (below_put _ _ (by omega))⟩
theorem bdecode_any (k v : Int) (A : Option Addr) (len cap : Nat) (zs : List Int) (w : World) (hlen : zs.length = len) (hll : len ≤ 1000000) (hby : Bys zs) (hA : Nums .u8 w w.heap.size A zs) : Calls Try.prog 17 #[.int .i64 k, .int .i64 v, .slice A len cap] w fun e w' => DecR w (bdec k v zs) e w' := by
  by_cases hv : v = 1 ∨ v = 2
  · by_cases hk : FD k = []
    · exact bdecode_no k v A len cap zs w (.inr hk)
    · exact bdecode_yes k v A len cap zs w hlen hll hby hA hv hk
  · exact bdecode_no k v A len cap zs w (.inl (by omega))
end Go.Proofs.Ytmjbimmbphofjaa

namespace Go.Proofs.Ytmjbimmbphofjaa
open Go.RowKit Go.Shelf
set_option maxRecDepth 100000
attribute [local go_sem] Oper.semAt_some

theorem mg_oneV {w : World} {B : Nat} {M : Mg} {P C : Value} (h : MAt w B M P C) : (mC M P C).all (·.oneCell') = true := by
  obtain ⟨⟨a, c, rfl, -, -⟩, ⟨a', c', rfl, -, -⟩⟩ := h
  exact mg_one _ _ _ _ _ _ _
end Go.Proofs.Ytmjbimmbphofjaa

namespace Go.Proofs.Ytmjbimmbphofjaa
open Go.RowKit
/-- nothing but the way through -/
def Qn (Q : Exit → Act → World → Prop) : Exit → Act → World → Prop := fun e a w => e = .normal ∧ Q .normal a w
theorem upon_imp {P : Program} {o : Oper} {a : Act} {K K' : Act → World → Prop} {Q Q' : Exit → Act → World → Prop} (hK : ∀ a w, K a w → K' a w) (hQ : ∀ e a w, Q e a w → Q' e a w) {r : Result Next} (h : o.upon P a K Q r) : o.upon P a K' Q' r := by
  cases r with
  | ok n w' =>
    cases n <;> simp only [Oper.upon] at h ⊢
    case value u => exact hK _ _ h
    case skip => exact hK _ _ h
    case defer d => exact hK _ _ h
    case enter f args =>
      refine Calls.mono h fun e w'' he => ?_
      cases e with
      | returned u => exact hK _ _ he
      | panicked c => exact hQ _ _ _ he
      | outgrown => obtain ⟨a, w, h⟩ := he; exact ⟨a, w, hQ _ _ _ h⟩
    case row row args => exact Rows.mono h fun u w'' he => hK _ _ he
  | halt x w' =>
    cases x <;> simp only [Oper.upon] at h ⊢
    case panic u => exact hQ _ _ _ h
theorem wpAny_imp {P : Program} {md : Region.Mode} {ops : Array Oper} {Q Q' : Exit → Act → World → Prop} (hQ : ∀ e a w, Q e a w → Q' e a w) : ∀ (fuel : Nat) (listed : Array Bool) (a : Act) (w : World), wpAny P md ops Q fuel listed a w → wpAny P md ops Q' fuel listed a w
  | 0, _, _, _, h => ⟨h.1, hQ _ _ _ h.2⟩
  | fuel + 1, listed, a, w, h => ⟨fun h0 => hQ _ _ _ (h.1 h0), fun i hi => by
      have h1 := h.2 i hi
      unfold Go.wpOp at *
      cases ho : ops[i]? with
      | none => rw [ho] at h1; exact wpAny_imp hQ fuel _ _ _ h1
      | some o =>
        rw [ho] at h1
        simp only at h1 ⊢
        split
        · rename_i hw
          rw [if_pos hw] at h1
          rcases h1 with h1 | ⟨h1, a', w', h2⟩
          · exact .inl (upon_imp (fun a w h => wpAny_imp hQ fuel _ _ _ h) hQ h1)
          · exact .inr ⟨h1, a', w', hQ _ _ _ h2⟩
        · rename_i hw
          rw [if_neg hw] at h1
          exact wpAny_imp hQ fuel _ _ _ h1⟩
/-- a move, or an extract, that nothing guards -/
def lateB (o : Oper) : Bool := (match o.op with | .move _ => true | .extract _ _ => true | _ => false) && o.guard.isNone
theorem late_run {o : Oper} (hl : lateB o = true) (ρ : Operand → Value) (P : Program) : (∃ v, ∀ W, (execOp ρ o).run P W = .ok (.value v) W) ∨ ∀ W, ∃ x W', (execOp ρ o).run P W = .halt x W' := by
  obtain ⟨dst, op, type, pos, after, guard⟩ := o
  unfold lateB at hl
  cases op <;> simp only [Bool.false_and, Bool.true_and, Bool.false_eq_true] at hl
  case move x =>
    refine .inl ⟨ρ x, fun W => ?_⟩
    simp [execOp, go_sem]
  case extract t k =>
    simp only [execOp, Instr.extract]
    cases ht : ρ t with
    | tuple vs =>
      cases hk : vs[k]? with
      | none => exact .inr fun W => by simp [hk, go_sem]
      | some u => exact .inl ⟨u, fun W => by simp [hk, go_sem]⟩
    | _ => exact .inr fun W => by simp [go_sem]
theorem qn_not {Q : Exit → Act → World → Prop} {e : Exit} {a : Act} {w : World} (h : Qn Q e a w) (he : e ≠ .normal) : False := he h.1
section
variable {P : Program} {l : List Oper} {vs : List Value} {fs : List Tmp} {FS : Tmp → Value → World → Prop} {I : World → Prop} {a0 : Act}
theorem any_of_FTL {N n fu : Nat} {late : Nat → Bool} {Q' : Exit → Act → World → Prop} (hR : RG .any l.toArray N) (hN : N ≤ a0.tmps.size) (hlen : vs.length = l.length) (hI : Closed I) (hF : ∀ s x w w', FS s x w → Below w.heap.size w w' → FS s x w')
    (hob : ∀ (j : Nat) o v, j < n → l[j]? = some o → vs[j]? = some v → Ob P l.toArray I fs FS o v (lex l vs a0 j)) (hn : n < l.length)
    (hreach : ∀ t j, n ≤ t → t < l.length → j < n → late j = false → reachB .any l.toArray fu t j = true) (hlate : ∀ j o, late j = true → l[j]? = some o → lateB o = true)
    (hQ : ∀ (listed : Array Bool) b w, (∀ j, j < n → listed.getD j true = true) → (∀ t, n ≤ t → t < l.length → listed.getD t true = false) → Inv l vs fs FS I a0 listed b w → wpAny P .any l.toArray (Qn Q') (l.length - n) listed b w) :
    ∀ (f : Nat) (listed : Array Bool) (b : Act) (w : World), (listed.toList.take n).count false = f → (∀ t, n ≤ t → t < l.length → listed.getD t true = false) → Inv l vs fs FS I a0 listed b w → wpAny P .any l.toArray (Qn Q') (f + (l.length - n)) listed b w
  | 0, listed, b, w, hcn, hh, h => by
    rw [Nat.zero_add]
    exact hQ listed b w (fun j hj => count_take_zero hcn j hj) hh h
  | f + 1, listed, b, w, hcn, hh, h => by
    obtain ⟨i0, hi0, hu0⟩ := count_take_pos hcn
    rw [show f + 1 + (l.length - n) = (f + (l.length - n)) + 1 by omega]
    by_cases hall : ∀ j, j < n → late j = false → listed.getD j true = true
    · -- only moves and extracts are left ahead of the tail: the first of them comes first
      obtain ⟨i, hin, hun, hmin⟩ : ∃ i, i < n ∧ listed.getD i true = false ∧ ∀ j, j < i → listed.getD j true = true := by
        have key : ∀ m, m ≤ n → (∀ j, j < m → listed.getD j true = true) ∨ ∃ i, i < m ∧ listed.getD i true = false ∧ ∀ j, j < i → listed.getD j true = true := by
          intro m
          induction m with
          | zero => exact fun _ => .inl fun j hj => absurd hj (Nat.not_lt_zero _)
          | succ m ih =>
            intro hm
            rcases ih (by omega) with h1 | ⟨i, h1, h2, h3⟩
            · cases hc : listed.getD m true with
              | true =>
                refine .inl fun j hj => ?_
                rcases Nat.lt_or_ge j m with h4 | h4
                · exact h1 j h4
                · obtain rfl : j = m := by omega
                  exact hc
              | false => exact .inr ⟨m, by omega, hc, h1⟩
            · exact .inr ⟨i, by omega, h2, h3⟩
        rcases key n (Nat.le_refl _) with h1 | ⟨i, h1, h2, h3⟩
        · rw [h1 i0 hi0] at hu0; cases hu0
        · exact ⟨i, h1, h2, h3⟩
      have hil : i < l.length := by omega
      obtain ⟨o, ho2⟩ : ∃ o, l[i]? = some o := ⟨_, List.getElem?_eq_getElem hil⟩
      have ho : l.toArray[i]? = some o := by simpa using ho2
      have hla : late i = true := by
        cases hc : late i with
        | true => rfl
        | false => rw [hall i hin hc] at hun; cases hun
      have hlo := hlate i o hla ho2
      obtain ⟨v, hv⟩ : ∃ v, vs[i]? = some v := ⟨_, List.getElem?_eq_getElem (by rw [hlen]; exact hil)⟩
      have hp : ∀ e ∈ o.after, Region.binds .any e = true → listed.getD e.on true = true := fun e he hb => hmin _ (hR.back i o ho e he hb)
      have hls := h.lsize
      have hr : i ∈ Region.ready .any l.toArray listed := mem_ready.2 ⟨hun, o, ho, fun e he hb => by
        have h1 := hp e he hb
        have h2 := hR.back i o ho e he hb
        rw [Array.getD_eq_getD_getElem?] at h1 ⊢
        rw [Array.getElem?_eq_getElem (by omega)] at h1 ⊢
        exact h1⟩
      have hw : Region.wanted o (yielded l.toArray b.tmps) = true := by
        unfold lateB at hlo
        rw [Bool.and_eq_true] at hlo
        unfold Region.wanted
        rw [Option.isNone_iff_eq_none.1 hlo.2]
      have hop := op_of_F (Q' := Qn Q') (K := fun a' w' => w' = w → ∀ d, o.dst = some d → (d ∈ fs → ∃ x, a'.tmps[d]? = some x ∧ FS d x w) ∧ (d ∉ fs → a'.tmps[d]? = vs[i]?)) hR hN hlen h ho2 hun hp hv (hob i o v hin ho2 hv) (fun u w' _ hu e d hd => by
        subst e
        have hlt : d < b.tmps.size := by
          rw [h.size]
          exact Nat.lt_of_lt_of_le (hR.small i o d ho hd) hN
        rw [hd]
        exact ⟨fun hf => ⟨u, put_same u hlt, (hu d hd).1 hf⟩, fun hf => (put_same u hlt).trans ((hu d hd).2 hf).symm⟩)
      unfold Go.wpOp at hop
      simp only [ho] at hop
      rw [if_pos hw] at hop
      obtain ⟨u, hval⟩ : ∃ u, ∀ W, (execOp b.eval o).run P W = .ok (.value u) W := by
        rcases late_run hlo b.eval P with h1 | h1
        · exact h1
        · obtain ⟨x, W', h2⟩ := h1 w
          rcases hop with hop | ⟨_, a', w', hq⟩
          · unfold Oper.wp at hop
            rw [h2] at hop
            cases x <;> simp only [Oper.upon] at hop
            exact (qn_not hop (by simp)).elim
          · exact (qn_not hq (by simp)).elim
      have hu : ∀ d, o.dst = some d → (d ∈ fs → FS d u w) ∧ (d ∉ fs → vs[i]? = some u) := by
        rcases hop with hop | ⟨_, a', w', hq⟩
        · unfold Oper.wp at hop
          rw [hval w] at hop
          simp only [Oper.upon] at hop
          intro d hd
          have hlt : d < b.tmps.size := by
            rw [h.size]
            exact Nat.lt_of_lt_of_le (hR.small i o d ho hd) hN
          obtain ⟨h1, h2⟩ := hop trivial d hd
          rw [hd, put_same u hlt] at h1 h2
          refine ⟨fun hf => ?_, fun hf => (h2 hf).symm⟩
          obtain ⟨x, hx, hfx⟩ := h1 hf
          rw [Option.some.inj hx]; exact hfx
        · exact (qn_not hq (by simp)).elim
      refine wpAny_first (v := u) ho hR.sel (fun c a w hq => (qn_not hq (by simp)).elim) _ listed b w (fun j oj hj hji hunj hno => ?_) hr (.inl ⟨hw, hval⟩) ?_
      · -- apart
        have hnj : ∀ e ∈ o.after, Region.binds .any e = true → e.on ≠ j := fun e he hb heq => by
          rw [← heq, hp e he hb] at hunj; cases hunj
        have h1 : ∀ d, o.dst = some d → d ∉ oj.looksAt l.toArray := fun d hd hdl => by
          rcases hR.look j i oj o d hj ho hd hdl with ⟨_, e, he, hb, heq⟩ | ⟨_, e, he, hb, heq⟩
          · exact hno e he hb heq
          · exact hnj e he hb heq
        have h2 : ∀ d, o.dst = some d → oj.dst ≠ some d := fun d hd => hR.once j i oj o d hj ho hd hji
        have h3 : ∀ d, oj.dst = some d → d ∉ o.looksAt l.toArray := fun d hd hdl => by
          rcases hR.look i j o oj d ho hj hd hdl with ⟨_, e, he, hb, heq⟩ | ⟨_, e, he, hb, heq⟩
          · exact hnj e he hb heq
          · exact hno e he hb heq
        unfold Oper.apart
        rw [Bool.and_eq_true]
        constructor
        · cases hd : o.dst with
          | none => rfl
          | some d => simpa using ⟨h1 d hd, h2 d hd⟩
        · cases hd : oj.dst with
          | none => rfl
          | some d => simpa using h3 d hd
      · have hcnt := count_take hin hun
        exact any_of_FTL hR hN hlen hI hF hob hn hreach hlate hQ f _ _ w (by omega) (fun t h1 h2 => by rw [getD_set_far _ (by omega)]; exact hh t h1 h2) (h.next hR hN hI hF ho2 hp (Below.refl _ _) hu)
    · obtain ⟨j0, hj0, hl0, hu1⟩ : ∃ j, j < n ∧ late j = false ∧ listed.getD j true = false := by
        simp only [Classical.not_forall] at hall
        obtain ⟨j, h1, h2, h3⟩ := hall
        exact ⟨j, h1, h2, by simpa using h3⟩
      refine ⟨fun h0 => ?_, fun i hi => ?_⟩
      · have hall := ready_all hR h.lsize h0
        rw [hall i0] at hu0
        cases hu0
      obtain ⟨hun, o, ho, hall⟩ := mem_ready.1 hi
      have ho2 : l[i]? = some o := by simpa using ho
      have hp : ∀ e ∈ o.after, Region.binds .any e = true → listed.getD e.on true = true := fun e he hb => by
        have h1 := hall e he hb
        rw [Array.getD_eq_getD_getElem?] at h1 ⊢
        cases hx : listed[e.on]? with
        | none => rfl
        | some y => rw [hx] at h1; simpa using h1
      have hin : i < n := by
        rcases Nat.lt_or_ge i n with h1 | h1
        · exact h1
        · have h2 := reach_ready h ho2 hp fu j0 (hreach i j0 h1 (List.getElem?_eq_some_iff.1 ho2).1 hj0 hl0)
          rw [h2] at hu1; cases hu1
      obtain ⟨v, hv⟩ : ∃ v, vs[i]? = some v := ⟨_, List.getElem?_eq_getElem (by rw [hlen]; exact (List.getElem?_eq_some_iff.1 ho2).1)⟩
      have hcnt := count_take hin hun
      exact op_of_F hR hN hlen h ho2 hun hp hv (hob i o v hin ho2 hv) fun u w' hb hu =>
        any_of_FTL hR hN hlen hI hF hob hn hreach hlate hQ f _ _ w' (by omega) (fun t h1 h2 => by rw [getD_set_far _ (by omega)]; exact hh t h1 h2) (h.next hR hN hI hF ho2 hp hb hu)
/-- ONE WALK IN THE TEXT's ORDER SERVES EVERY ORDER; the tail, behind place n, as it stands; lates: moves and extracts that the tail need not wait for -/
theorem wp_region_FTL {id : Nat} {Q : Exit → Act → World → Prop} {a : Act} {w : World} {l : List Oper} (N n fu : Nat) (lates : List Nat) (fs : List Tmp) (FS : Tmp → Value → World → Prop) (I : World → Prop) (hm : P.follows .mixedOrders = true) (hB : rgB .any l.toArray N = true)
    (hn : decide (n < l.length) = true) (hre : ((List.range (l.length - n)).all fun t => (List.range n).all fun j => lates.contains j || reachB .any l.toArray fu (n + t) j) = true) (hla : (lates.all fun j => ((l[j]?).map lateB).getD false) = true)
    (hq : Region.seqB .any l.toArray (l.length - n) n (List.replicate n true ++ List.replicate (l.length - n) false).toArray = true)
    (hfs : (fs.all fun s => (l.take n).any fun o => o.dst == some s) = true) (hN : N ≤ a.tmps.size) (hI : Closed I) (hF : ∀ s x w w', FS s x w → Below w.heap.size w w' → FS s x w') (hC : I w.drew)
    (h : wpF P l.toArray I fs FS (fun a' => ∀ xs w', I w' → (∀ s ∈ fs, FS s (xs s) w') → wpList P l.toArray (Qn Q) (l.drop n) (fill fs xs a') w') (l.take n) a) : (Code.region id l.toArray true).wp P Q a w := by
  have hR := rgB_spec hB
  have hn' : n < l.length := by simpa using hn
  obtain ⟨vs0, hlen0, hob0, hE0⟩ := wpF_vals (l.take n) a h
  have htl : (l.take n).length = n := by rw [List.length_take]; omega
  rw [htl] at hlen0 hE0
  obtain ⟨vs, hvs⟩ : ∃ vs, vs0 ++ List.replicate (l.length - n) undef = vs := ⟨_, rfl⟩
  have hlen : vs.length = l.length := by rw [← hvs, List.length_append, List.length_replicate]; omega
  have hlex : ∀ j, j ≤ n → lex (l.take n) vs0 a j = lex l vs a j := fun j hj => by rw [← hvs]; exact lex_take l vs0 _ a n j hj (by rw [hlen0, htl])
  have hob : ∀ (j : Nat) o v, j < n → l[j]? = some o → vs[j]? = some v → Ob P l.toArray I fs FS o v (lex l vs a j) := fun j o v hj ho hv => by
    rw [← hlex j (by omega)]
    refine hob0 j o v (by rw [List.getElem?_take, if_pos hj]; exact ho) ?_
    rw [← hvs, List.getElem?_append_left (by omega)] at hv
    exact hv
  rw [hlex n (Nat.le_refl _)] at hE0
  refine wp_region_any hm (wpAny_imp (Q := Qn Q) (fun e a w h => ?_) _ _ _ _ ?_)
  · obtain ⟨rfl, h⟩ := h
    exact h
  have hre' : ∀ t j, n ≤ t → t < l.length → j < n → lates.contains j = false → reachB .any l.toArray fu t j = true := fun t j h1 h2 h3 h4 => by
    rw [List.all_eq_true] at hre
    have h5 := hre (t - n) (List.mem_range.2 (by omega))
    rw [List.all_eq_true] at h5
    have h6 := h5 j (List.mem_range.2 h3)
    rw [h4, Bool.false_or, show n + (t - n) = t by omega] at h6
    exact h6
  have hla' : ∀ j o, lates.contains j = true → l[j]? = some o → lateB o = true := fun j o h1 h2 => by
    rw [List.all_eq_true] at hla
    have h3 := hla j (by simpa using h1)
    rw [h2] at h3
    exact h3
  have key := any_of_FTL (Q' := Q) (late := fun j => lates.contains j) (fu := fu) (l := l) (vs := vs) (fs := fs) (FS := FS) (I := I) (a0 := a) (n := n) hR hN hlen hI hF hob hn' hre' hla' ?_ n (Array.replicate l.toArray.size false) a w.drew (by
      simp only [List.size_toArray, Array.toList_replicate, List.take_replicate, List.count_replicate_self]; omega) (fun t _ ht => getD_in (by simpa using ht) (getD_replicate_false _ _)) ?_
  · rw [show n + (l.length - n) = l.toArray.size by simp; omega] at key
    exact key
  · intro listed b W hall hno hinv
    have hw : ∀ s ∈ fs, ∃ x, b.tmps[s]? = some x ∧ FS s x W := fun s hs => by
      rw [List.all_eq_true] at hfs
      have h1 := hfs s hs
      rw [List.any_eq_true] at h1
      obtain ⟨o, ho, hd⟩ := h1
      obtain ⟨j, hj, rfl⟩ := List.getElem_of_mem ho
      have hj1 : j < n := by rw [List.length_take] at hj; omega
      have hj2 : j < l.length := by omega
      have hd' : (l[j]).dst = some s := by simpa using hd
      obtain ⟨v, hv⟩ : ∃ v, vs[j]? = some v := ⟨_, List.getElem?_eq_getElem (by rw [hlen]; exact hj2)⟩
      exact (hinv.ins j l[j] s v (List.getElem?_eq_getElem hj2) (hall j hj1) hd' hv).1 hs
    have hb : b = fill fs (fun s => b.tmps.getD s undef) (lex l vs a n) := by
      have ht : b.tmps = (fill fs (fun s => b.tmps.getD s undef) (lex l vs a n)).tmps := by
        apply Array.ext_getElem?
        intro d
        by_cases hd : d ∈ fs
        · obtain ⟨x, hx, _⟩ := hw d hd
          have hlt : d < (lex l vs a n).tmps.size := by
            rw [(lex_size l vs a n).1, ← hinv.size]
            exact (Array.getElem?_eq_some_iff.1 hx).1
          rw [fill_in fs _ _ d hd hlt, hx]
          simp [hx]
        · rw [fill_out fs _ _ d hd]
          by_cases hwr : ∃ (j : Nat) (oj : Oper), j < n ∧ l[j]? = some oj ∧ oj.dst = some d
          · obtain ⟨j, oj, hjn, hj, hdj⟩ := hwr
            obtain ⟨v, hv⟩ : ∃ v, vs[j]? = some v := ⟨_, List.getElem?_eq_getElem (by rw [hlen]; exact (List.getElem?_eq_some_iff.1 hj).1)⟩
            have hj' : l.toArray[j]? = some oj := by simpa using hj
            rw [(hinv.ins j oj d v hj (hall j hjn) hdj hv).2 hd]
            exact (lex_in l vs a n j oj d v hj hjn hv hdj (Nat.lt_of_lt_of_le (hR.small _ _ _ hj' hdj) hN) fun i oi hi _ hne => hR.once i j oi oj d (by simpa using hi) hj' hdj hne).symm
          · rw [lex_out l vs a n d fun i oi hi hin hdi => hwr ⟨i, oi, hin, hi, hdi⟩]
            refine hinv.out d fun i oi hi hli hdi => hwr ⟨i, oi, ?_, hi, hdi⟩
            rcases Nat.lt_or_ge i n with h1 | h1
            · exact h1
            · rw [hno i h1 (List.getElem?_eq_some_iff.1 hi).1] at hli; cases hli
      have hd : b.defers = (fill fs (fun s => b.tmps.getD s undef) (lex l vs a n)).defers := by
        rw [(fill_size ..).2, (lex_size ..).2]
        exact hinv.defers
      cases b
      simp only at ht hd
      rw [Act.mk.injEq]
      exact ⟨ht, hd⟩
    have hL : listed = (List.replicate n true ++ List.replicate (l.length - n) false).toArray := by
      apply Array.ext
      · simp [hinv.lsize]; omega
      · intro j h1 h2
        have hj : j < l.length := by rw [← hinv.lsize]; exact h1
        by_cases hjn : j < n
        · have h3 := hall j hjn
          rw [Array.getD_eq_getD_getElem?, Array.getElem?_eq_getElem h1] at h3
          simp only [List.getElem_toArray]
          rw [List.getElem_append_left (by simpa using hjn)]
          simpa using h3
        · have h3 := hno j (by omega) hj
          rw [Array.getD_eq_getD_getElem?, Array.getElem?_eq_getElem h1] at h3
          simp only [List.getElem_toArray]
          rw [List.getElem_append_right (by simpa using Nat.le_of_not_lt hjn)]
          simpa using h3
    have hE := hE0 (fun s => b.tmps.getD s undef) W hinv.cls fun s hs => by
      obtain ⟨x, hx, hf⟩ := hw s hs
      simpa [hx] using hf
    rw [← hb] at hE
    have := wpAny_of_seq (md := .any) (Q' := Qn Q) (l.drop n) n listed b W (fun j => by simp [List.getElem?_drop]) (by rw [List.length_drop, hL]; exact hq) hE
    rwa [List.length_drop] at this
  · refine ⟨hC, rfl, rfl, fun _ _ => rfl, fun j o d v hj hlj => ?_, fun j o hj hlj => ?_, by simp⟩
    all_goals
      have hlt := (List.getElem?_eq_some_iff.1 hj).1
      rw [Array.getD_eq_getD_getElem?] at hlj
      simp [hlt] at hlj
/-- in the tail: an operation that looks at no memory -/
theorem wpList_val {ops : Array Oper} {rest : List Oper} {o : Oper} {a : Act} {w : World} {Q : Exit → Act → World → Prop} (hgd : o.guard = none) (v : Value) (hrun : ∀ W, (execOp a.eval o).run P W = .ok (.value v) W) (h : wpList P ops Q rest (a.put o.dst v) w) : wpList P ops Q (o :: rest) a w := by
  unfold wpList
  rw [if_pos (by simp [Region.wanted, hgd])]
  left
  unfold Oper.wp
  rw [hrun w]
  exact h
end
end Go.Proofs.Ytmjbimmbphofjaa

namespace Go.Proofs.Ytmjbimmbphofjaa
open Go.RowKit
structure Gr where
  r : World → World → Prop
  refl : ∀ w, r w w
namespace QG
section
variable {G : Gr} {P : Program} {ops : Array Oper} {md : Region.Mode}
/-- it stands while memory grows -/
def Closed (G : Gr) (I : World → Prop) : Prop := ∀ w w', I w → G.r w w' → I w'
def calmUpon (G : Gr) (P : Program) (w : World) (v : Value) : Result Next → Prop
  | .ok (.value u) w' => w' = w ∧ u = v
  | .ok .skip w' => w' = w ∧ v = undef
  | .ok (.enter f args) w' => w' = w ∧ Calls P f args w (fun e w'' => e = .returned v ∧ G.r w w'')
  | _ => False
def srcUpon (G : Gr) (P : Program) (F : Value → World → Prop) (w : World) : Result Next → Prop
  | .ok (.value u) w' => F u w' ∧ G.r w w'
  | .ok (.enter f args) w' => w' = w ∧ Calls P f args w (fun e w'' => ∃ u, e = .returned u ∧ F u w'' ∧ G.r w w'')
  | _ => False
/-- one value, in every world of the class -/
def CalmIn (G : Gr) (P : Program) (ops : Array Oper) (I : World → Prop) (o : Oper) (v : Value) (a : Act) : Prop :=
  (Region.wanted o (yielded ops a.tmps) = true ∧ ∀ w, I w → calmUpon G P w v ((execOp a.eval o).run P w)) ∨ (Region.wanted o (yielded ops a.tmps) = false ∧ v = undef)
/-- what is to be shown of one operation: it looks at no source; it is one; it looks at one; it is one and looks at others -/
def Ob (G : Gr) (P : Program) (ops : Array Oper) (I : World → Prop) (fs : List Tmp) (FS : Tmp → Value → World → Prop) (o : Oper) (v : Value) (a : Act) : Prop :=
  ((∀ d ∈ o.looksAt ops, d ∉ fs) ∧ (∀ d, o.dst = some d → d ∉ fs) ∧ CalmIn G P ops I o v a) ∨
  (∃ s, s ∈ fs ∧ o.dst = some s ∧ (∀ d ∈ o.looksAt ops, d ∉ fs) ∧ Region.wanted o (yielded ops a.tmps) = true ∧ ∀ w, I w → srcUpon G P (FS s) w ((execOp a.eval o).run P w)) ∨
  (∃ s, s ∈ fs ∧ (∃ j, (ops[j]?).bind (·.dst) = some s ∧ o.after.any (fun e => Region.binds .any e && e.on == j) = true) ∧ (∀ d ∈ o.looksAt ops, d ∈ fs → d = s) ∧ (∀ d, o.dst = some d → d ∉ fs) ∧
    ∀ x w, I w → FS s x w → Region.wanted o (yielded ops (a.put (some s) x).tmps) = true ∧ calmUpon G P w v ((execOp (a.put (some s) x).eval o).run P w)) ∨
  (∃ s R, s ∈ fs ∧ o.dst = some s ∧ (∀ r ∈ R, r ∈ fs ∧ ∃ j, (ops[j]?).bind (·.dst) = some r ∧ o.after.any (fun e => Region.binds .any e && e.on == j) = true) ∧ (∀ d ∈ o.looksAt ops, d ∈ fs → d ∈ R) ∧
    ∀ xs w, I w → (∀ r ∈ R, FS r (xs r) w) → Region.wanted o (yielded ops (fill R xs a).tmps) = true ∧ srcUpon G P (FS s) w ((execOp (fill R xs a).eval o).run P w))
/-- the walk in the text's order -/
def wpF (G : Gr) (P : Program) (ops : Array Oper) (I : World → Prop) (fs : List Tmp) (FS : Tmp → Value → World → Prop) (E : Act → Prop) : List Oper → Act → Prop
  | [], a => E a
  | o :: r, a => ∃ v, Ob G P ops I fs FS o v a ∧ wpF G P ops I fs FS E r (a.put o.dst v)
section
variable {G : Gr} {I : World → Prop} {fs : List Tmp} {FS : Tmp → Value → World → Prop} {E : Act → Prop}
theorem wpF_vals : ∀ (l : List Oper) (a : Act), wpF G P ops I fs FS E l a → ∃ vs : List Value, vs.length = l.length ∧
    (∀ (k : Nat) o v, l[k]? = some o → vs[k]? = some v → Ob G P ops I fs FS o v (lex l vs a k)) ∧ E (lex l vs a l.length)
  | [], a, h => ⟨[], rfl, by simp, h⟩
  | o :: r, a, ⟨v, hob, hr⟩ => by
    obtain ⟨vs, h1, h2, h3⟩ := wpF_vals r _ hr
    refine ⟨v :: vs, by simp [h1], fun k o' v' ho hv => ?_, h3⟩
    cases k with
    | zero =>
      simp only [List.getElem?_cons_zero, Option.some.injEq] at ho hv
      subst ho hv
      exact hob
    | succ k =>
      simp only [List.getElem?_cons_succ] at ho hv
      exact h2 k o' v' ho hv
end
section
variable {G : Gr} {l : List Oper} {vs : List Value} {fs : List Tmp} {FS : Tmp → Value → World → Prop} {I : World → Prop} {a0 : Act}
theorem Inv.next {N : Nat} (hR : RG .any l.toArray N) (hN : N ≤ a0.tmps.size) (hI : Closed G I) (hF : ∀ s x w w', FS s x w → G.r w w' → FS s x w') {listed : Array Bool} {b : Act} {w w' : World} {i : Nat} {o : Oper} {u : Value}
    (h : Inv l vs fs FS I a0 listed b w) (ho : l[i]? = some o) (hp : ∀ e ∈ o.after, Region.binds .any e = true → listed.getD e.on true = true) (hb : G.r w w')
    (hu : ∀ d, o.dst = some d → (d ∈ fs → FS d u w') ∧ (d ∉ fs → vs[i]? = some u)) : Inv l vs fs FS I a0 (listed.setIfInBounds i true) (b.put o.dst u) w' := by
  have ho' : l.toArray[i]? = some o := by simpa using ho
  refine ⟨hI w w' h.cls hb, (put_size ..).trans h.size, (put_defers ..).trans h.defers, fun d hd => ?_, fun j oj d v hj hlj hdj hv => ?_, fun j oj hj hlj e he hbe => ?_, by simpa using h.lsize⟩
  · rw [put_other u (hd i o ho (getD_set_same _ _))]
    exact h.out d fun j oj hj hlj => hd j oj hj (getD_set_up _ hlj)
  · by_cases hij : i = j
    · subst hij
      obtain rfl : o = oj := Option.some.inj (ho.symm.trans hj)
      obtain ⟨h1, h2⟩ := hu d hdj
      rw [hdj]
      have hlt : d < b.tmps.size := by rw [h.size]; exact Nat.lt_of_lt_of_le (hR.small i o d ho' hdj) hN
      refine ⟨fun hd => ⟨u, put_same u hlt, h1 hd⟩, fun hd => ?_⟩
      rw [put_same u hlt]
      exact (h2 hd).symm.trans hv
    · rw [getD_set_far _ hij] at hlj
      obtain ⟨h1, h2⟩ := h.ins j oj d v hj hlj hdj hv
      have hne : o.dst ≠ some d := hR.once i j o oj d ho' (by simpa using hj) hdj hij
      rw [put_other u hne]
      exact ⟨fun hd => let ⟨x, hx, hfx⟩ := h1 hd; ⟨x, hx, hF d x w w' hfx hb⟩, h2⟩
  · by_cases hij : i = j
    · subst hij
      obtain rfl : o = oj := Option.some.inj (ho.symm.trans hj)
      exact getD_set_up _ (hp e he hbe)
    · rw [getD_set_far _ hij] at hlj
      exact getD_set_up _ (h.down j oj hj hlj e he hbe)
end
end
section
variable {G : Gr} {P : Program} {l : List Oper} {I : World → Prop} {fs : List Tmp} {FS : Tmp → Value → World → Prop} {E : Act → Prop} {o : Oper} {rest : List Oper} {a : Act}
/-- it looks at no memory and enters no function -/
theorem wpF_pure (hk : kindOf o = 0) (hn : noB l.toArray fs o = true) (h : wpQuiet P l.toArray (fun _ => True) (fun a' => wpF G P l.toArray I fs FS E rest a') [o] a) : wpF G P l.toArray I fs FS E (o :: rest) a := by
  obtain ⟨h1, h2⟩ := noB_spec hn
  unfold wpQuiet at h
  by_cases hw : Region.wanted o (yielded l.toArray a.tmps) = true
  · simp only [hw, if_true] at h
    obtain ⟨v, hv, hr⟩ := h
    refine ⟨v, .inl ⟨h1, h2, .inl ⟨hw, fun w _ => ?_⟩⟩, hr⟩
    have h3 := hv w trivial
    have h4 := pure_no_enter (P := P) (kind_pure hk) a.eval w
    unfold Oper.quietAt at h3
    generalize (execOp a.eval o).run P w = r at h3 h4
    cases r with
    | ok n w' =>
      cases n with
      | enter f args => exact absurd rfl (h4 w' f args)
      | value u => exact h3
      | skip => exact h3
      | _ => simp only [Oper.quietUpon] at h3
    | halt x w' => simp only [Oper.quietUpon] at h3
  · simp only [hw] at h
    exact ⟨undef, .inl ⟨h1, h2, .inr ⟨by simpa using hw, rfl⟩⟩, h⟩
/-- a call of one value -/
theorem wpF_call {f : FuncId} {args : Array Value} (v : Value) (hn : noB l.toArray fs o = true) (hw : Region.wanted o (yielded l.toArray a.tmps) = true) (hrun : ∀ w, (execOp a.eval o).run P w = .ok (.enter f args) w)
    (hc : ∀ w, I w → Calls P f args w fun e w'' => e = .returned v ∧ G.r w w'') (h : wpF G P l.toArray I fs FS E rest (a.put o.dst v)) : wpF G P l.toArray I fs FS E (o :: rest) a := by
  obtain ⟨h1, h2⟩ := noB_spec hn
  refine ⟨v, .inl ⟨h1, h2, .inl ⟨hw, fun w hI => ?_⟩⟩, h⟩
  rw [hrun w]
  exact ⟨rfl, hc w hI⟩
/-- a load -/
theorem wpF_load {t : TypeId} {x : Operand} {ad : Addr} (v : Value) (hop : o.op = .load t x) (hn : noB l.toArray fs o = true) (hw : Region.wanted o (yielded l.toArray a.tmps) = true) (hx : a.eval x = .pointer (some ad))
    (hrun : ∀ w, I w → (Instr.loadAt t (.pointer (some ad))).run P w = .ok v w) (h : wpF G P l.toArray I fs FS E rest (a.put o.dst v)) : wpF G P l.toArray I fs FS E (o :: rest) a := by
  obtain ⟨h1, h2⟩ := noB_spec hn
  refine ⟨v, .inl ⟨h1, h2, .inl ⟨hw, fun w hI => ?_⟩⟩, h⟩
  unfold execOp
  simp only [hop, hx]
  rw [Sem.run_bind, hrun w hI]
  exact ⟨rfl, rfl⟩
/-- an operation that makes memory: its value is known by what it is good for -/
theorem wpF_src (s : Tmp) (hs : s ∈ fs) (hd : o.dst = some s) (hn : ((o.looksAt l.toArray).all fun d => !fs.contains d) = true) (hw : Region.wanted o (yielded l.toArray a.tmps) = true)
    (hrun : ∀ w, I w → ∃ u w', (execOp a.eval o).run P w = .ok (.value u) w' ∧ FS s u w' ∧ G.r w w') (h : wpF G P l.toArray I fs FS E rest (a.put o.dst undef)) : wpF G P l.toArray I fs FS E (o :: rest) a := by
  refine ⟨undef, .inr (.inl ⟨s, hs, hd, fun d hd hf => ?_, hw, fun w hI => ?_⟩), h⟩
  · rw [List.all_eq_true] at hn
    have := hn d hd
    simp [hf] at this
  · obtain ⟨u, w', hr, h1, h2⟩ := hrun w hI
    rw [hr]
    exact ⟨h1, h2⟩
/-- a call that hands back a value that is known by what it is good for -/
theorem wpF_callsrc (s : Tmp) {f : FuncId} {args : Array Value} (hs : s ∈ fs) (hd : o.dst = some s) (hn : ((o.looksAt l.toArray).all fun d => !fs.contains d) = true) (hw : Region.wanted o (yielded l.toArray a.tmps) = true)
    (hrun : ∀ w, (execOp a.eval o).run P w = .ok (.enter f args) w) (hc : ∀ w, I w → Calls P f args w fun e w'' => ∃ u, e = .returned u ∧ FS s u w'' ∧ G.r w w'') (h : wpF G P l.toArray I fs FS E rest (a.put o.dst undef)) : wpF G P l.toArray I fs FS E (o :: rest) a := by
  refine ⟨undef, .inr (.inl ⟨s, hs, hd, fun d hd hf => ?_, hw, fun w hI => ?_⟩), h⟩
  · rw [List.all_eq_true] at hn
    have := hn d hd
    simp [hf] at this
  · rw [hrun w]
    exact ⟨rfl, hc w hI⟩
/-- an operation that looks at such values (R) and yields such a value -/
theorem wpF_mix (s : Tmp) (R : List Tmp) (hs : s ∈ fs) (hd : o.dst = some s)
    (hR : (R.all fun r => fs.contains r && (List.range l.length).any fun j => (((l[j]?).bind (·.dst)) == some r) && o.after.any fun e => Region.binds .any e && e.on == j) = true)
    (hn : ((o.looksAt l.toArray).all fun d => !fs.contains d || R.contains d) = true) (hw : ∀ xs, Region.wanted o (yielded l.toArray (fill R xs a).tmps) = true)
    (hrun : ∀ xs w, I w → (∀ r ∈ R, FS r (xs r) w) → ∃ u w', (execOp (fill R xs a).eval o).run P w = .ok (.value u) w' ∧ FS s u w' ∧ G.r w w') (h : wpF G P l.toArray I fs FS E rest (a.put o.dst undef)) : wpF G P l.toArray I fs FS E (o :: rest) a := by
  refine ⟨undef, .inr (.inr (.inr ⟨s, R, hs, hd, fun r hr => ?_, fun d hd hf => ?_, fun xs w hI hx => ⟨hw xs, ?_⟩⟩)), h⟩
  · rw [List.all_eq_true] at hR
    have := hR r hr
    simp only [Bool.and_eq_true, List.contains_iff_mem, List.any_eq_true, beq_iff_eq] at this
    obtain ⟨h1, j, _, h2, h3⟩ := this
    exact ⟨h1, j, by simpa using h2, h3⟩
  · rw [List.all_eq_true] at hn
    have := hn d hd
    simpa [hf] using this
  · obtain ⟨u, w', hr, h1, h2⟩ := hrun xs w hI hx
    rw [hr]
    exact ⟨h1, h2⟩
/-- a call that is handed such values (R) and hands back such a value -/
theorem wpF_mixcall (s : Tmp) (R : List Tmp) {f : FuncId} (args : (Tmp → Value) → Array Value) (hs : s ∈ fs) (hd : o.dst = some s)
    (hR : (R.all fun r => fs.contains r && (List.range l.length).any fun j => (((l[j]?).bind (·.dst)) == some r) && o.after.any fun e => Region.binds .any e && e.on == j) = true)
    (hn : ((o.looksAt l.toArray).all fun d => !fs.contains d || R.contains d) = true) (hw : ∀ xs, Region.wanted o (yielded l.toArray (fill R xs a).tmps) = true)
    (hrun : ∀ xs w, (execOp (fill R xs a).eval o).run P w = .ok (.enter f (args xs)) w)
    (hc : ∀ xs w, I w → (∀ r ∈ R, FS r (xs r) w) → Calls P f (args xs) w fun e w'' => ∃ u, e = .returned u ∧ FS s u w'' ∧ G.r w w'') (h : wpF G P l.toArray I fs FS E rest (a.put o.dst undef)) : wpF G P l.toArray I fs FS E (o :: rest) a := by
  refine ⟨undef, .inr (.inr (.inr ⟨s, R, hs, hd, fun r hr => ?_, fun d hd hf => ?_, fun xs w hI hx => ⟨hw xs, ?_⟩⟩)), h⟩
  · rw [List.all_eq_true] at hR
    have := hR r hr
    simp only [Bool.and_eq_true, List.contains_iff_mem, List.any_eq_true, beq_iff_eq] at this
    obtain ⟨h1, j, _, h2, h3⟩ := this
    exact ⟨h1, j, by simpa using h2, h3⟩
  · rw [List.all_eq_true] at hn
    have := hn d hd
    simpa [hf] using this
  · rw [hrun xs w]
    exact ⟨rfl, hc xs w hI hx⟩
end
section
variable {G : Gr} {P : Program} {l : List Oper} {vs : List Value} {fs : List Tmp} {FS : Tmp → Value → World → Prop} {I : World → Prop} {a0 : Act}
/-- one operation of such a run -/
theorem op_of_F {N : Nat} {Q' : Exit → Act → World → Prop} {K : Act → World → Prop} (hR : RG .any l.toArray N) (hN : N ≤ a0.tmps.size) (hlen : vs.length = l.length) {listed : Array Bool} {b : Act} {w : World} {i : Nat} {o : Oper} {v : Value}
    (h : Inv l vs fs FS I a0 listed b w) (ho2 : l[i]? = some o) (hun : listed.getD i true = false) (hp : ∀ e ∈ o.after, Region.binds .any e = true → listed.getD e.on true = true) (hv : vs[i]? = some v) (hob : Ob G P l.toArray I fs FS o v (lex l vs a0 i))
    (hK : ∀ u w', G.r w w' → (∀ d, o.dst = some d → (d ∈ fs → FS d u w') ∧ (d ∉ fs → vs[i]? = some u)) → K (b.put o.dst u) w') : Go.wpOp P l.toArray Q' i K b w := by
  have ho : l.toArray[i]? = some o := by simpa using ho2
  have hsel : ∀ cs c, o.op ≠ .select cs c := fun cs c => hR.sel i o cs c ho
  have ag : ∀ d ∈ o.looksAt l.toArray, d ∉ fs → (lex l vs a0 i).tmps[d]? = b.tmps[d]? := fun d hd hf => h.agree hR hN hlen ho2 hun hp hd hf
  unfold Go.wpOp
  simp only [ho]
  rcases hob with ⟨h1, h2, hcalm⟩ | ⟨s, hs, hds, h1, hwt, hsrc⟩ | ⟨s, hs, ⟨j, hj, hje⟩, h1, h2, huse⟩ | ⟨s, R, hs, hds, hRs, h1, hmix⟩
  · have he := exec_agree (ops := l.toArray) hsel fun d hd => ag d hd (h1 d hd)
    have hw := wanted_agree (ops := l.toArray) fun d hd => ag d hd (h1 d hd)
    have kv : ∀ w', G.r w w' → K (b.put o.dst v) w' := fun w' hb => hK v w' hb fun d hd => ⟨fun hf => absurd hf (h2 d hd), fun _ => hv⟩
    rcases hcalm with ⟨hwt, hval⟩ | ⟨hwf, rfl⟩
    · rw [hw] at hwt
      rw [if_pos hwt]
      left
      have h3 := hval w h.cls
      rw [he] at h3
      unfold Oper.wp
      generalize (execOp b.eval o).run P w = r at h3
      cases r with
      | ok n w' =>
        cases n <;> simp only [calmUpon] at h3 <;> simp only [Oper.upon]
        case value u => obtain ⟨rfl, rfl⟩ := h3; exact kv _ (G.refl _)
        case skip => obtain ⟨rfl, rfl⟩ := h3; exact kv _ (G.refl _)
        case enter f args =>
          obtain ⟨rfl, hcc⟩ := h3
          exact hcc.mono fun e w'' ⟨he, hb⟩ => by subst he; exact kv _ hb
      | halt x w' => simp only [calmUpon] at h3
    · rw [hw] at hwf
      rw [hwf, if_neg (by simp)]
      exact kv w (G.refl _)
  · have he := exec_agree (ops := l.toArray) hsel fun d hd => ag d hd (h1 d hd)
    have hw := wanted_agree (ops := l.toArray) fun d hd => ag d hd (h1 d hd)
    rw [hw] at hwt
    rw [if_pos hwt]
    left
    have h3 := hsrc w h.cls
    rw [he] at h3
    have kf : ∀ u w', FS s u w' → G.r w w' → K (b.put o.dst u) w' := fun u w' hf hb => hK u w' hb fun d hd => by
      obtain rfl : d = s := Option.some.inj (hd.symm.trans hds)
      exact ⟨fun _ => hf, fun hnf => absurd hs hnf⟩
    unfold Oper.wp
    generalize (execOp b.eval o).run P w = r at h3
    cases r with
    | ok n w' =>
      cases n <;> simp only [srcUpon] at h3 <;> simp only [Oper.upon]
      case value u => exact kf u w' h3.1 h3.2
      case enter f args =>
        obtain ⟨rfl, hcc⟩ := h3
        exact hcc.mono fun e w'' ⟨u, he, hf, hb⟩ => by subst he; exact kf u w'' hf hb
    | halt x w' => simp only [srcUpon] at h3
  · obtain ⟨e, hee, heb⟩ := Array.any_eq_true'.1 hje
    simp only [Bool.and_eq_true, beq_iff_eq] at heb
    obtain ⟨hbe, rfl⟩ := heb
    obtain ⟨oj, hoj, hdj⟩ := Option.bind_eq_some_iff.1 hj
    have hoj2 : l[e.on]? = some oj := by simpa using hoj
    obtain ⟨vj, hvj⟩ : ∃ v, vs[e.on]? = some v := ⟨_, List.getElem?_eq_getElem (by rw [hlen]; exact (List.getElem?_eq_some_iff.1 hoj2).1)⟩
    obtain ⟨x, hbx, hfx⟩ := (h.ins e.on oj s vj hoj2 (hp e hee hbe) hdj hvj).1 hs
    have hslt : s < (lex l vs a0 i).tmps.size := by rw [(lex_size l vs a0 i).1]; exact Nat.lt_of_lt_of_le (hR.small _ _ _ hoj hdj) hN
    have ag2 : ∀ d ∈ o.looksAt l.toArray, ((lex l vs a0 i).put (some s) x).tmps[d]? = b.tmps[d]? := fun d hd => by
      by_cases hsd : s = d
      · subst hsd
        rw [put_same x hslt, hbx]
      · rw [put_other x (by simpa using hsd)]
        exact ag d hd fun hf => hsd (h1 d hd hf).symm
    obtain ⟨hwt, h3⟩ := huse x w h.cls hfx
    rw [wanted_agree (ops := l.toArray) ag2] at hwt
    rw [exec_agree (ops := l.toArray) hsel ag2] at h3
    have kv : ∀ w', G.r w w' → K (b.put o.dst v) w' := fun w' hb => hK v w' hb fun d hd => ⟨fun hf => absurd hf (h2 d hd), fun _ => hv⟩
    rw [if_pos hwt]
    left
    unfold Oper.wp
    generalize (execOp b.eval o).run P w = r at h3
    cases r with
    | ok n w' =>
      cases n <;> simp only [calmUpon] at h3 <;> simp only [Oper.upon]
      case value u => obtain ⟨rfl, rfl⟩ := h3; exact kv _ (G.refl _)
      case skip => obtain ⟨rfl, rfl⟩ := h3; exact kv _ (G.refl _)
      case enter f args =>
        obtain ⟨rfl, hcc⟩ := h3
        exact hcc.mono fun e w'' ⟨he, hb⟩ => by subst he; exact kv _ hb
    | halt x w' => simp only [calmUpon] at h3

  · have got : ∀ r ∈ R, ∃ x, b.tmps[r]? = some x ∧ FS r x w ∧ r < (lex l vs a0 i).tmps.size := fun r hr => by
      obtain ⟨hrf, j, hj, hje⟩ := hRs r hr
      obtain ⟨e, hee, heb⟩ := Array.any_eq_true'.1 hje
      simp only [Bool.and_eq_true, beq_iff_eq] at heb
      obtain ⟨hbe, rfl⟩ := heb
      obtain ⟨oj, hoj, hdj⟩ := Option.bind_eq_some_iff.1 hj
      have hoj2 : l[e.on]? = some oj := by simpa using hoj
      obtain ⟨vj, hvj⟩ : ∃ v, vs[e.on]? = some v := ⟨_, List.getElem?_eq_getElem (by rw [hlen]; exact (List.getElem?_eq_some_iff.1 hoj2).1)⟩
      obtain ⟨x, hbx, hfx⟩ := (h.ins e.on oj r vj hoj2 (hp e hee hbe) hdj hvj).1 hrf
      exact ⟨x, hbx, hfx, by rw [(lex_size l vs a0 i).1]; exact Nat.lt_of_lt_of_le (hR.small _ _ _ hoj hdj) hN⟩
    have ag2 : ∀ d ∈ o.looksAt l.toArray, (fill R (fun s => b.tmps.getD s undef) (lex l vs a0 i)).tmps[d]? = b.tmps[d]? := fun d hd => by
      by_cases hdR : d ∈ R
      · obtain ⟨x, hbx, _, hlt⟩ := got d hdR
        rw [fill_in R _ _ d hdR hlt, hbx]
        simp [hbx]
      · rw [fill_out R _ _ d hdR]
        exact ag d hd fun hf => hdR (h1 d hd hf)
    obtain ⟨hwt, h3⟩ := hmix (fun s => b.tmps.getD s undef) w h.cls fun r hr => by
      obtain ⟨x, hbx, hfx, _⟩ := got r hr
      simpa [hbx] using hfx
    rw [wanted_agree (ops := l.toArray) ag2] at hwt
    rw [exec_agree (ops := l.toArray) hsel ag2] at h3
    rw [if_pos hwt]
    left
    have kf : ∀ u w', FS s u w' → G.r w w' → K (b.put o.dst u) w' := fun u w' hf hb => hK u w' hb fun d hd => by
      obtain rfl : d = s := Option.some.inj (hd.symm.trans hds)
      exact ⟨fun _ => hf, fun hnf => absurd hs hnf⟩
    unfold Oper.wp
    generalize (execOp b.eval o).run P w = r at h3
    cases r with
    | ok n w' =>
      cases n <;> simp only [srcUpon] at h3 <;> simp only [Oper.upon]
      case value u => exact kf u w' h3.1 h3.2
      case enter f args =>
        obtain ⟨rfl, hcc⟩ := h3
        exact hcc.mono fun e w'' ⟨u, he, hf, hb⟩ => by subst he; exact kf u w'' hf hb
    | halt x w' => simp only [srcUpon] at h3
section
variable {G : Gr} {ops : Array Oper} {St : (Tmp → Value) → World → World → Prop} {E : Act → Prop}
end
section
variable {G : Gr} {St : (Tmp → Value) → World → World → Prop} {E : Act → Prop} {o : Oper} {rest : List Oper} {a : Act}
end
end
section
variable {G : Gr} {P : Program} {l : List Oper} {vs : List Value} {fs : List Tmp} {FS : Tmp → Value → World → Prop} {I : World → Prop} {a0 : Act}
theorem any_of_FT {N n : Nat} {Q' : Exit → Act → World → Prop} (hR : RG .any l.toArray N) (hN : N ≤ a0.tmps.size) (hlen : vs.length = l.length) (hI : Closed G I) (hF : ∀ s x w w', FS s x w → G.r w w' → FS s x w')
    (hob : ∀ (j : Nat) o v, j < n → l[j]? = some o → vs[j]? = some v → Ob G P l.toArray I fs FS o v (lex l vs a0 j)) (hn : n < l.length) (hs : Region.sinkB .any l.toArray n = true) (hc : Region.chainB .any l.toArray n = true)
    (hQ : ∀ (listed : Array Bool) b w, (∀ j, j < n → listed.getD j true = true) → (∀ t, n ≤ t → t < l.length → listed.getD t true = false) → Inv l vs fs FS I a0 listed b w → wpAny P .any l.toArray Q' (l.length - n) listed b w) :
    ∀ (f : Nat) (listed : Array Bool) (b : Act) (w : World), (listed.toList.take n).count false = f → HeadInv .any l.toArray n listed → Inv l vs fs FS I a0 listed b w → wpAny P .any l.toArray Q' (f + (l.length - n)) listed b w
  | 0, listed, b, w, hcn, hh, h => by
    rw [Nat.zero_add]
    exact hQ listed b w (fun j hj => count_take_zero hcn j hj) (fun t h1 h2 => hh.tail t h1 (by simpa using h2)) h
  | f + 1, listed, b, w, hcn, hh, h => by
    obtain ⟨i0, hi0, hu0⟩ := count_take_pos hcn
    rw [show f + 1 + (l.length - n) = (f + (l.length - n)) + 1 by omega]
    refine ⟨fun h0 => ?_, fun i hi => ?_⟩
    · have hall := ready_all hR h.lsize h0
      rw [hall i0] at hu0
      cases hu0
    have hin : i < n := by
      rcases Nat.lt_or_ge i n with h1 | h1
      · exact h1
      · exact absurd hi (tail_waits hs hc (by simpa using hn) hh _ i0 rfl hi0 hu0 i h1)
    obtain ⟨hun, o, ho, hall⟩ := mem_ready.1 hi
    have ho2 : l[i]? = some o := by simpa using ho
    have hp : ∀ e ∈ o.after, Region.binds .any e = true → listed.getD e.on true = true := fun e he hb => by
      have h1 := hall e he hb
      rw [Array.getD_eq_getD_getElem?] at h1 ⊢
      cases hx : listed[e.on]? with
      | none => rfl
      | some y => rw [hx] at h1; simpa using h1
    obtain ⟨v, hv⟩ : ∃ v, vs[i]? = some v := ⟨_, List.getElem?_eq_getElem (by rw [hlen]; exact (List.getElem?_eq_some_iff.1 ho2).1)⟩
    have hcnt := count_take hin hun
    exact op_of_F hR hN hlen h ho2 hun hp hv (hob i o v hin ho2 hv) fun u w' hb hu =>
      any_of_FT hR hN hlen hI hF hob hn hs hc hQ f _ _ w' (by omega) (hh.set hi hin) (Inv.next hR hN hI hF h ho2 hp hb hu)
/-- ONE WALK IN THE TEXT's ORDER SERVES EVERY ORDER; the tail, behind place n, as it stands -/
theorem wp_region_FT {id : Nat} {Q : Exit → Act → World → Prop} {a : Act} {w : World} {l : List Oper} (N n : Nat) (fs : List Tmp) (FS : Tmp → Value → World → Prop) (I : World → Prop) (hm : P.follows .mixedOrders = true) (hB : rgB .any l.toArray N = true)
    (hn : decide (n < l.length) = true) (hs : Region.sinkB .any l.toArray n = true) (hc : Region.chainB .any l.toArray n = true)
    (hq : Region.seqB .any l.toArray (l.length - n) n (List.replicate n true ++ List.replicate (l.length - n) false).toArray = true)
    (hfs : (fs.all fun s => (l.take n).any fun o => o.dst == some s) = true) (hN : N ≤ a.tmps.size) (hI : Closed G I) (hF : ∀ s x w w', FS s x w → G.r w w' → FS s x w') (hC : I w.drew)
    (h : wpF G P l.toArray I fs FS (fun a' => ∀ xs w', I w' → (∀ s ∈ fs, FS s (xs s) w') → wpList P l.toArray Q (l.drop n) (fill fs xs a') w') (l.take n) a) : (Code.region id l.toArray true).wp P Q a w := by
  have hR := rgB_spec hB
  have hn' : n < l.length := by simpa using hn
  obtain ⟨vs0, hlen0, hob0, hE0⟩ := wpF_vals (l.take n) a h
  have htl : (l.take n).length = n := by rw [List.length_take]; omega
  rw [htl] at hlen0 hE0
  obtain ⟨vs, hvs⟩ : ∃ vs, vs0 ++ List.replicate (l.length - n) undef = vs := ⟨_, rfl⟩
  have hlen : vs.length = l.length := by rw [← hvs, List.length_append, List.length_replicate]; omega
  have hlex : ∀ j, j ≤ n → lex (l.take n) vs0 a j = lex l vs a j := fun j hj => by rw [← hvs]; exact lex_take l vs0 _ a n j hj (by rw [hlen0, htl])
  have hob : ∀ (j : Nat) o v, j < n → l[j]? = some o → vs[j]? = some v → Ob G P l.toArray I fs FS o v (lex l vs a j) := fun j o v hj ho hv => by
    rw [← hlex j (by omega)]
    refine hob0 j o v (by rw [List.getElem?_take, if_pos hj]; exact ho) ?_
    rw [← hvs, List.getElem?_append_left (by omega)] at hv
    exact hv
  rw [hlex n (Nat.le_refl _)] at hE0
  have inv0 : HeadInv .any l.toArray n (Array.replicate l.toArray.size false) :=
    ⟨by simp, fun j oj _ hl => (by rw [getD_replicate_false] at hl; cases hl), fun t _ ht => getD_in (by simpa using ht) (getD_replicate_false _ _)⟩
  refine wp_region_any hm ?_
  have key := any_of_FT (Q' := Q) (l := l) (vs := vs) (fs := fs) (FS := FS) (I := I) (a0 := a) (n := n) hR hN hlen hI hF hob hn' hs hc ?_ n (Array.replicate l.toArray.size false) a w.drew (by
      simp only [List.size_toArray, Array.toList_replicate, List.take_replicate, List.count_replicate_self]; omega) inv0 ?_
  · rw [show n + (l.length - n) = l.toArray.size by simp; omega] at key
    exact key
  · intro listed b W hall hno hinv
    have hw : ∀ s ∈ fs, ∃ x, b.tmps[s]? = some x ∧ FS s x W := fun s hs => by
      rw [List.all_eq_true] at hfs
      have h1 := hfs s hs
      rw [List.any_eq_true] at h1
      obtain ⟨o, ho, hd⟩ := h1
      obtain ⟨j, hj, rfl⟩ := List.getElem_of_mem ho
      have hj1 : j < n := by rw [List.length_take] at hj; omega
      have hj2 : j < l.length := by omega
      have hd' : (l[j]).dst = some s := by simpa using hd
      obtain ⟨v, hv⟩ : ∃ v, vs[j]? = some v := ⟨_, List.getElem?_eq_getElem (by rw [hlen]; exact hj2)⟩
      exact (hinv.ins j l[j] s v (List.getElem?_eq_getElem hj2) (hall j hj1) hd' hv).1 hs
    have hb : b = fill fs (fun s => b.tmps.getD s undef) (lex l vs a n) := by
      have ht : b.tmps = (fill fs (fun s => b.tmps.getD s undef) (lex l vs a n)).tmps := by
        apply Array.ext_getElem?
        intro d
        by_cases hd : d ∈ fs
        · obtain ⟨x, hx, _⟩ := hw d hd
          have hlt : d < (lex l vs a n).tmps.size := by
            rw [(lex_size l vs a n).1, ← hinv.size]
            exact (Array.getElem?_eq_some_iff.1 hx).1
          rw [fill_in fs _ _ d hd hlt, hx]
          simp [hx]
        · rw [fill_out fs _ _ d hd]
          by_cases hwr : ∃ (j : Nat) (oj : Oper), j < n ∧ l[j]? = some oj ∧ oj.dst = some d
          · obtain ⟨j, oj, hjn, hj, hdj⟩ := hwr
            obtain ⟨v, hv⟩ : ∃ v, vs[j]? = some v := ⟨_, List.getElem?_eq_getElem (by rw [hlen]; exact (List.getElem?_eq_some_iff.1 hj).1)⟩
            have hj' : l.toArray[j]? = some oj := by simpa using hj
            rw [(hinv.ins j oj d v hj (hall j hjn) hdj hv).2 hd]
            exact (lex_in l vs a n j oj d v hj hjn hv hdj (Nat.lt_of_lt_of_le (hR.small _ _ _ hj' hdj) hN) fun i oi hi _ hne => hR.once i j oi oj d (by simpa using hi) hj' hdj hne).symm
          · rw [lex_out l vs a n d fun i oi hi hin hdi => hwr ⟨i, oi, hin, hi, hdi⟩]
            refine hinv.out d fun i oi hi hli hdi => hwr ⟨i, oi, ?_, hi, hdi⟩
            rcases Nat.lt_or_ge i n with h1 | h1
            · exact h1
            · rw [hno i h1 (List.getElem?_eq_some_iff.1 hi).1] at hli; cases hli
      have hd : b.defers = (fill fs (fun s => b.tmps.getD s undef) (lex l vs a n)).defers := by
        rw [(fill_size ..).2, (lex_size ..).2]
        exact hinv.defers
      cases b
      simp only at ht hd
      rw [Act.mk.injEq]
      exact ⟨ht, hd⟩
    have hL : listed = (List.replicate n true ++ List.replicate (l.length - n) false).toArray := by
      apply Array.ext
      · simp [hinv.lsize]; omega
      · intro j h1 h2
        have hj : j < l.length := by rw [← hinv.lsize]; exact h1
        by_cases hjn : j < n
        · have h3 := hall j hjn
          rw [Array.getD_eq_getD_getElem?, Array.getElem?_eq_getElem h1] at h3
          simp only [List.getElem_toArray]
          rw [List.getElem_append_left (by simpa using hjn)]
          simpa using h3
        · have h3 := hno j (by omega) hj
          rw [Array.getD_eq_getD_getElem?, Array.getElem?_eq_getElem h1] at h3
          simp only [List.getElem_toArray]
          rw [List.getElem_append_right (by simpa using Nat.le_of_not_lt hjn)]
          simpa using h3
    have hE := hE0 (fun s => b.tmps.getD s undef) W hinv.cls fun s hs => by
      obtain ⟨x, hx, hf⟩ := hw s hs
      simpa [hx] using hf
    rw [← hb] at hE
    have := wpAny_of_seq (md := .any) (Q' := Q) (l.drop n) n listed b W (fun j => by simp [List.getElem?_drop]) (by rw [List.length_drop, hL]; exact hq) hE
    rwa [List.length_drop] at this
  · refine ⟨hC, rfl, rfl, fun _ _ => rfl, fun j o d v hj hlj => ?_, fun j o hj hlj => ?_, by simp⟩
    all_goals
      have hlt := (List.getElem?_eq_some_iff.1 hj).1
      rw [Array.getD_eq_getD_getElem?] at hlj
      simp [hlt] at hlj
end
section
variable {G : Gr} {P : Program} {l : List Oper} {fs : List Tmp} {FS : Tmp → Value → World → Prop} {I : World → Prop} {E : Act → Prop} {o : Oper} {rest : List Oper} {a : Act}
end
section
variable {G : Gr} {P : Program} {l : List Oper} {I : World → Prop} {fs : List Tmp} {FS : Tmp → Value → World → Prop} {E : Act → Prop} {o : Oper} {rest : List Oper} {a : Act}
/-- an operation that enters no function and looks at a value that is known by what it is good for alone -/
theorem wpF_useval (s : Tmp) (j : Nat) (v : Value) (hs : s ∈ fs) (hj : (l[j]?).bind (·.dst) = some s) (hje : (o.after.any fun e => Region.binds .any e && e.on == j) = true)
    (hn : ((o.looksAt l.toArray).all fun d => !fs.contains d || d == s) = true) (hdst : (match o.dst with | some d => !fs.contains d | none => true) = true) (hw : ∀ x, Region.wanted o (yielded l.toArray (a.put (some s) x).tmps) = true)
    (hrun : ∀ x w, I w → FS s x w → (execOp (a.put (some s) x).eval o).run P w = .ok (.value v) w) (h : wpF G P l.toArray I fs FS E rest (a.put o.dst v)) : wpF G P l.toArray I fs FS E (o :: rest) a := by
  refine ⟨v, .inr (.inr (.inl ⟨s, hs, ⟨j, by simpa using hj, hje⟩, fun d hd hf => ?_, fun d hd hf => ?_, fun x w hI hx => ⟨hw x, ?_⟩⟩)), h⟩
  · rw [List.all_eq_true] at hn
    have := hn d hd
    simpa [hf] using this
  · rw [hd] at hdst
    simp [hf] at hdst
  · rw [hrun x w hI hx]
    exact ⟨rfl, rfl⟩
end
section
variable {G : Gr} {P : Program} {l : List Oper} {vs : List Value} {fs : List Tmp} {FS : Tmp → Value → World → Prop} {I : World → Prop} {a0 : Act}
theorem any_of_FTL {N n fu : Nat} {late : Nat → Bool} {Q' : Exit → Act → World → Prop} (hR : RG .any l.toArray N) (hN : N ≤ a0.tmps.size) (hlen : vs.length = l.length) (hI : Closed G I) (hF : ∀ s x w w', FS s x w → G.r w w' → FS s x w')
    (hob : ∀ (j : Nat) o v, j < n → l[j]? = some o → vs[j]? = some v → Ob G P l.toArray I fs FS o v (lex l vs a0 j)) (hn : n < l.length)
    (hreach : ∀ t j, n ≤ t → t < l.length → j < n → late j = false → reachB .any l.toArray fu t j = true) (hlate : ∀ j o, late j = true → l[j]? = some o → lateB o = true)
    (hQ : ∀ (listed : Array Bool) b w, (∀ j, j < n → listed.getD j true = true) → (∀ t, n ≤ t → t < l.length → listed.getD t true = false) → Inv l vs fs FS I a0 listed b w → wpAny P .any l.toArray (Qn Q') (l.length - n) listed b w) :
    ∀ (f : Nat) (listed : Array Bool) (b : Act) (w : World), (listed.toList.take n).count false = f → (∀ t, n ≤ t → t < l.length → listed.getD t true = false) → Inv l vs fs FS I a0 listed b w → wpAny P .any l.toArray (Qn Q') (f + (l.length - n)) listed b w
  | 0, listed, b, w, hcn, hh, h => by
    rw [Nat.zero_add]
    exact hQ listed b w (fun j hj => count_take_zero hcn j hj) hh h
  | f + 1, listed, b, w, hcn, hh, h => by
    obtain ⟨i0, hi0, hu0⟩ := count_take_pos hcn
    rw [show f + 1 + (l.length - n) = (f + (l.length - n)) + 1 by omega]
    by_cases hall : ∀ j, j < n → late j = false → listed.getD j true = true
    · -- only moves and extracts are left ahead of the tail: the first of them comes first
      obtain ⟨i, hin, hun, hmin⟩ : ∃ i, i < n ∧ listed.getD i true = false ∧ ∀ j, j < i → listed.getD j true = true := by
        have key : ∀ m, m ≤ n → (∀ j, j < m → listed.getD j true = true) ∨ ∃ i, i < m ∧ listed.getD i true = false ∧ ∀ j, j < i → listed.getD j true = true := by
          intro m
          induction m with
          | zero => exact fun _ => .inl fun j hj => absurd hj (Nat.not_lt_zero _)
          | succ m ih =>
            intro hm
            rcases ih (by omega) with h1 | ⟨i, h1, h2, h3⟩
            · cases hc : listed.getD m true with
              | true =>
                refine .inl fun j hj => ?_
                rcases Nat.lt_or_ge j m with h4 | h4
                · exact h1 j h4
                · obtain rfl : j = m := by omega
                  exact hc
              | false => exact .inr ⟨m, by omega, hc, h1⟩
            · exact .inr ⟨i, by omega, h2, h3⟩
        rcases key n (Nat.le_refl _) with h1 | ⟨i, h1, h2, h3⟩
        · rw [h1 i0 hi0] at hu0; cases hu0
        · exact ⟨i, h1, h2, h3⟩
      have hil : i < l.length := by omega
      obtain ⟨o, ho2⟩ : ∃ o, l[i]? = some o := ⟨_, List.getElem?_eq_getElem hil⟩
      have ho : l.toArray[i]? = some o := by simpa using ho2
      have hla : late i = true := by
        cases hc : late i with
        | true => rfl
        | false => rw [hall i hin hc] at hun; cases hun
      have hlo := hlate i o hla ho2
      obtain ⟨v, hv⟩ : ∃ v, vs[i]? = some v := ⟨_, List.getElem?_eq_getElem (by rw [hlen]; exact hil)⟩
      have hp : ∀ e ∈ o.after, Region.binds .any e = true → listed.getD e.on true = true := fun e he hb => hmin _ (hR.back i o ho e he hb)
      have hls := h.lsize
      have hr : i ∈ Region.ready .any l.toArray listed := mem_ready.2 ⟨hun, o, ho, fun e he hb => by
        have h1 := hp e he hb
        have h2 := hR.back i o ho e he hb
        rw [Array.getD_eq_getD_getElem?] at h1 ⊢
        rw [Array.getElem?_eq_getElem (by omega)] at h1 ⊢
        exact h1⟩
      have hw : Region.wanted o (yielded l.toArray b.tmps) = true := by
        unfold lateB at hlo
        rw [Bool.and_eq_true] at hlo
        unfold Region.wanted
        rw [Option.isNone_iff_eq_none.1 hlo.2]
      have hop := op_of_F (Q' := Qn Q') (K := fun a' w' => w' = w → ∀ d, o.dst = some d → (d ∈ fs → ∃ x, a'.tmps[d]? = some x ∧ FS d x w) ∧ (d ∉ fs → a'.tmps[d]? = vs[i]?)) hR hN hlen h ho2 hun hp hv (hob i o v hin ho2 hv) (fun u w' _ hu e d hd => by
        subst e
        have hlt : d < b.tmps.size := by
          rw [h.size]
          exact Nat.lt_of_lt_of_le (hR.small i o d ho hd) hN
        rw [hd]
        exact ⟨fun hf => ⟨u, put_same u hlt, (hu d hd).1 hf⟩, fun hf => (put_same u hlt).trans ((hu d hd).2 hf).symm⟩)
      unfold Go.wpOp at hop
      simp only [ho] at hop
      rw [if_pos hw] at hop
      obtain ⟨u, hval⟩ : ∃ u, ∀ W, (execOp b.eval o).run P W = .ok (.value u) W := by
        rcases late_run hlo b.eval P with h1 | h1
        · exact h1
        · obtain ⟨x, W', h2⟩ := h1 w
          rcases hop with hop | ⟨_, a', w', hq⟩
          · unfold Oper.wp at hop
            rw [h2] at hop
            cases x <;> simp only [Oper.upon] at hop
            exact (qn_not hop (by simp)).elim
          · exact (qn_not hq (by simp)).elim
      have hu : ∀ d, o.dst = some d → (d ∈ fs → FS d u w) ∧ (d ∉ fs → vs[i]? = some u) := by
        rcases hop with hop | ⟨_, a', w', hq⟩
        · unfold Oper.wp at hop
          rw [hval w] at hop
          simp only [Oper.upon] at hop
          intro d hd
          have hlt : d < b.tmps.size := by
            rw [h.size]
            exact Nat.lt_of_lt_of_le (hR.small i o d ho hd) hN
          obtain ⟨h1, h2⟩ := hop trivial d hd
          rw [hd, put_same u hlt] at h1 h2
          refine ⟨fun hf => ?_, fun hf => (h2 hf).symm⟩
          obtain ⟨x, hx, hfx⟩ := h1 hf
          rw [Option.some.inj hx]; exact hfx
        · exact (qn_not hq (by simp)).elim
      refine wpAny_first (v := u) ho hR.sel (fun c a w hq => (qn_not hq (by simp)).elim) _ listed b w (fun j oj hj hji hunj hno => ?_) hr (.inl ⟨hw, hval⟩) ?_
      · -- apart
        have hnj : ∀ e ∈ o.after, Region.binds .any e = true → e.on ≠ j := fun e he hb heq => by
          rw [← heq, hp e he hb] at hunj; cases hunj
        have h1 : ∀ d, o.dst = some d → d ∉ oj.looksAt l.toArray := fun d hd hdl => by
          rcases hR.look j i oj o d hj ho hd hdl with ⟨_, e, he, hb, heq⟩ | ⟨_, e, he, hb, heq⟩
          · exact hno e he hb heq
          · exact hnj e he hb heq
        have h2 : ∀ d, o.dst = some d → oj.dst ≠ some d := fun d hd => hR.once j i oj o d hj ho hd hji
        have h3 : ∀ d, oj.dst = some d → d ∉ o.looksAt l.toArray := fun d hd hdl => by
          rcases hR.look i j o oj d ho hj hd hdl with ⟨_, e, he, hb, heq⟩ | ⟨_, e, he, hb, heq⟩
          · exact hnj e he hb heq
          · exact hno e he hb heq
        unfold Oper.apart
        rw [Bool.and_eq_true]
        constructor
        · cases hd : o.dst with
          | none => rfl
          | some d => simpa using ⟨h1 d hd, h2 d hd⟩
        · cases hd : oj.dst with
          | none => rfl
          | some d => simpa using h3 d hd
      · have hcnt := count_take hin hun
        exact any_of_FTL hR hN hlen hI hF hob hn hreach hlate hQ f _ _ w (by omega) (fun t h1 h2 => by rw [getD_set_far _ (by omega)]; exact hh t h1 h2) (Inv.next hR hN hI hF h ho2 hp (G.refl _) hu)
    · obtain ⟨j0, hj0, hl0, hu1⟩ : ∃ j, j < n ∧ late j = false ∧ listed.getD j true = false := by
        simp only [Classical.not_forall] at hall
        obtain ⟨j, h1, h2, h3⟩ := hall
        exact ⟨j, h1, h2, by simpa using h3⟩
      refine ⟨fun h0 => ?_, fun i hi => ?_⟩
      · have hall := ready_all hR h.lsize h0
        rw [hall i0] at hu0
        cases hu0
      obtain ⟨hun, o, ho, hall⟩ := mem_ready.1 hi
      have ho2 : l[i]? = some o := by simpa using ho
      have hp : ∀ e ∈ o.after, Region.binds .any e = true → listed.getD e.on true = true := fun e he hb => by
        have h1 := hall e he hb
        rw [Array.getD_eq_getD_getElem?] at h1 ⊢
        cases hx : listed[e.on]? with
        | none => rfl
        | some y => rw [hx] at h1; simpa using h1
      have hin : i < n := by
        rcases Nat.lt_or_ge i n with h1 | h1
        · exact h1
        · have h2 := reach_ready h ho2 hp fu j0 (hreach i j0 h1 (List.getElem?_eq_some_iff.1 ho2).1 hj0 hl0)
          rw [h2] at hu1; cases hu1
      obtain ⟨v, hv⟩ : ∃ v, vs[i]? = some v := ⟨_, List.getElem?_eq_getElem (by rw [hlen]; exact (List.getElem?_eq_some_iff.1 ho2).1)⟩
      have hcnt := count_take hin hun
      exact op_of_F hR hN hlen h ho2 hun hp hv (hob i o v hin ho2 hv) fun u w' hb hu =>
        any_of_FTL hR hN hlen hI hF hob hn hreach hlate hQ f _ _ w' (by omega) (fun t h1 h2 => by rw [getD_set_far _ (by omega)]; exact hh t h1 h2) (Inv.next hR hN hI hF h ho2 hp hb hu)
/-- ONE WALK IN THE TEXT's ORDER SERVES EVERY ORDER; the tail, behind place n, as it stands; lates: moves and extracts that the tail need not wait for -/
theorem wp_region_FTL {id : Nat} {Q : Exit → Act → World → Prop} {a : Act} {w : World} {l : List Oper} (N n fu : Nat) (lates : List Nat) (fs : List Tmp) (FS : Tmp → Value → World → Prop) (I : World → Prop) (hm : P.follows .mixedOrders = true) (hB : rgB .any l.toArray N = true)
    (hn : decide (n < l.length) = true) (hre : ((List.range (l.length - n)).all fun t => (List.range n).all fun j => lates.contains j || reachB .any l.toArray fu (n + t) j) = true) (hla : (lates.all fun j => ((l[j]?).map lateB).getD false) = true)
    (hq : Region.seqB .any l.toArray (l.length - n) n (List.replicate n true ++ List.replicate (l.length - n) false).toArray = true)
    (hfs : (fs.all fun s => (l.take n).any fun o => o.dst == some s) = true) (hN : N ≤ a.tmps.size) (hI : Closed G I) (hF : ∀ s x w w', FS s x w → G.r w w' → FS s x w') (hC : I w.drew)
    (h : wpF G P l.toArray I fs FS (fun a' => ∀ xs w', I w' → (∀ s ∈ fs, FS s (xs s) w') → wpList P l.toArray (Qn Q) (l.drop n) (fill fs xs a') w') (l.take n) a) : (Code.region id l.toArray true).wp P Q a w := by
  have hR := rgB_spec hB
  have hn' : n < l.length := by simpa using hn
  obtain ⟨vs0, hlen0, hob0, hE0⟩ := wpF_vals (l.take n) a h
  have htl : (l.take n).length = n := by rw [List.length_take]; omega
  rw [htl] at hlen0 hE0
  obtain ⟨vs, hvs⟩ : ∃ vs, vs0 ++ List.replicate (l.length - n) undef = vs := ⟨_, rfl⟩
  have hlen : vs.length = l.length := by rw [← hvs, List.length_append, List.length_replicate]; omega
  have hlex : ∀ j, j ≤ n → lex (l.take n) vs0 a j = lex l vs a j := fun j hj => by rw [← hvs]; exact lex_take l vs0 _ a n j hj (by rw [hlen0, htl])
  have hob : ∀ (j : Nat) o v, j < n → l[j]? = some o → vs[j]? = some v → Ob G P l.toArray I fs FS o v (lex l vs a j) := fun j o v hj ho hv => by
    rw [← hlex j (by omega)]
    refine hob0 j o v (by rw [List.getElem?_take, if_pos hj]; exact ho) ?_
    rw [← hvs, List.getElem?_append_left (by omega)] at hv
    exact hv
  rw [hlex n (Nat.le_refl _)] at hE0
  refine wp_region_any hm (wpAny_imp (Q := Qn Q) (fun e a w h => ?_) _ _ _ _ ?_)
  · obtain ⟨rfl, h⟩ := h
    exact h
  have hre' : ∀ t j, n ≤ t → t < l.length → j < n → lates.contains j = false → reachB .any l.toArray fu t j = true := fun t j h1 h2 h3 h4 => by
    rw [List.all_eq_true] at hre
    have h5 := hre (t - n) (List.mem_range.2 (by omega))
    rw [List.all_eq_true] at h5
    have h6 := h5 j (List.mem_range.2 h3)
    rw [h4, Bool.false_or, show n + (t - n) = t by omega] at h6
    exact h6
  have hla' : ∀ j o, lates.contains j = true → l[j]? = some o → lateB o = true := fun j o h1 h2 => by
    rw [List.all_eq_true] at hla
    have h3 := hla j (by simpa using h1)
    rw [h2] at h3
    exact h3
  have key := any_of_FTL (Q' := Q) (late := fun j => lates.contains j) (fu := fu) (l := l) (vs := vs) (fs := fs) (FS := FS) (I := I) (a0 := a) (n := n) hR hN hlen hI hF hob hn' hre' hla' ?_ n (Array.replicate l.toArray.size false) a w.drew (by
      simp only [List.size_toArray, Array.toList_replicate, List.take_replicate, List.count_replicate_self]; omega) (fun t _ ht => getD_in (by simpa using ht) (getD_replicate_false _ _)) ?_
  · rw [show n + (l.length - n) = l.toArray.size by simp; omega] at key
    exact key
  · intro listed b W hall hno hinv
    have hw : ∀ s ∈ fs, ∃ x, b.tmps[s]? = some x ∧ FS s x W := fun s hs => by
      rw [List.all_eq_true] at hfs
      have h1 := hfs s hs
      rw [List.any_eq_true] at h1
      obtain ⟨o, ho, hd⟩ := h1
      obtain ⟨j, hj, rfl⟩ := List.getElem_of_mem ho
      have hj1 : j < n := by rw [List.length_take] at hj; omega
      have hj2 : j < l.length := by omega
      have hd' : (l[j]).dst = some s := by simpa using hd
      obtain ⟨v, hv⟩ : ∃ v, vs[j]? = some v := ⟨_, List.getElem?_eq_getElem (by rw [hlen]; exact hj2)⟩
      exact (hinv.ins j l[j] s v (List.getElem?_eq_getElem hj2) (hall j hj1) hd' hv).1 hs
    have hb : b = fill fs (fun s => b.tmps.getD s undef) (lex l vs a n) := by
      have ht : b.tmps = (fill fs (fun s => b.tmps.getD s undef) (lex l vs a n)).tmps := by
        apply Array.ext_getElem?
        intro d
        by_cases hd : d ∈ fs
        · obtain ⟨x, hx, _⟩ := hw d hd
          have hlt : d < (lex l vs a n).tmps.size := by
            rw [(lex_size l vs a n).1, ← hinv.size]
            exact (Array.getElem?_eq_some_iff.1 hx).1
          rw [fill_in fs _ _ d hd hlt, hx]
          simp [hx]
        · rw [fill_out fs _ _ d hd]
          by_cases hwr : ∃ (j : Nat) (oj : Oper), j < n ∧ l[j]? = some oj ∧ oj.dst = some d
          · obtain ⟨j, oj, hjn, hj, hdj⟩ := hwr
            obtain ⟨v, hv⟩ : ∃ v, vs[j]? = some v := ⟨_, List.getElem?_eq_getElem (by rw [hlen]; exact (List.getElem?_eq_some_iff.1 hj).1)⟩
            have hj' : l.toArray[j]? = some oj := by simpa using hj
            rw [(hinv.ins j oj d v hj (hall j hjn) hdj hv).2 hd]
            exact (lex_in l vs a n j oj d v hj hjn hv hdj (Nat.lt_of_lt_of_le (hR.small _ _ _ hj' hdj) hN) fun i oi hi _ hne => hR.once i j oi oj d (by simpa using hi) hj' hdj hne).symm
          · rw [lex_out l vs a n d fun i oi hi hin hdi => hwr ⟨i, oi, hin, hi, hdi⟩]
            refine hinv.out d fun i oi hi hli hdi => hwr ⟨i, oi, ?_, hi, hdi⟩
            rcases Nat.lt_or_ge i n with h1 | h1
            · exact h1
            · rw [hno i h1 (List.getElem?_eq_some_iff.1 hi).1] at hli; cases hli
      have hd : b.defers = (fill fs (fun s => b.tmps.getD s undef) (lex l vs a n)).defers := by
        rw [(fill_size ..).2, (lex_size ..).2]
        exact hinv.defers
      cases b
      simp only at ht hd
      rw [Act.mk.injEq]
      exact ⟨ht, hd⟩
    have hL : listed = (List.replicate n true ++ List.replicate (l.length - n) false).toArray := by
      apply Array.ext
      · simp [hinv.lsize]; omega
      · intro j h1 h2
        have hj : j < l.length := by rw [← hinv.lsize]; exact h1
        by_cases hjn : j < n
        · have h3 := hall j hjn
          rw [Array.getD_eq_getD_getElem?, Array.getElem?_eq_getElem h1] at h3
          simp only [List.getElem_toArray]
          rw [List.getElem_append_left (by simpa using hjn)]
          simpa using h3
        · have h3 := hno j (by omega) hj
          rw [Array.getD_eq_getD_getElem?, Array.getElem?_eq_getElem h1] at h3
          simp only [List.getElem_toArray]
          rw [List.getElem_append_right (by simpa using Nat.le_of_not_lt hjn)]
          simpa using h3
    have hE := hE0 (fun s => b.tmps.getD s undef) W hinv.cls fun s hs => by
      obtain ⟨x, hx, hf⟩ := hw s hs
      simpa [hx] using hf
    rw [← hb] at hE
    have := wpAny_of_seq (md := .any) (Q' := Qn Q) (l.drop n) n listed b W (fun j => by simp [List.getElem?_drop]) (by rw [List.length_drop, hL]; exact hq) hE
    rwa [List.length_drop] at this
  · refine ⟨hC, rfl, rfl, fun _ _ => rfl, fun j o d v hj hlj => ?_, fun j o hj hlj => ?_, by simp⟩
    all_goals
      have hlt := (List.getElem?_eq_some_iff.1 hj).1
      rw [Array.getD_eq_getD_getElem?] at hlj
      simp [hlt] at hlj
end
end QG
end Go.Proofs.Ytmjbimmbphofjaa

namespace Go.Proofs.Ytmjbimmbphofjaa
open Go.RowKit Go.Shelf
set_option maxRecDepth 100000
attribute [local go_sem] Oper.semAt_some

/-- what was there is as it was, but that a row of bytes from H on may have x at place n -/
def GbR (H n : Nat) (x : Value) (w w' : World) : Prop := w.heap.size ≤ w'.heap.size ∧ (w'.os = w.os ∧ w'.tape = w.tape ∧ w'.output = w.output) ∧ ∀ k, k < w.heap.size → w'.heap[k]? = w.heap[k]? ∨
  (H ≤ k ∧ ∃ cs cs' : Array Value, w.heap[k]? = some (.cells cs 5 (0, 0)) ∧ w'.heap[k]? = some (.cells cs' 5 (0, 0)) ∧ cs'.size = cs.size ∧ (∀ i, i < n → cs'[i]? = cs[i]?) ∧ (cs'[n]? = cs[n]? ∨ cs'[n]? = some x))
theorem GbR.refl (H n : Nat) (x : Value) (w : World) : GbR H n x w w := ⟨Nat.le_refl _, ⟨rfl, rfl, rfl⟩, fun _ _ => .inl rfl⟩
theorem GbR.of_below {H n : Nat} {x : Value} {w w' : World} (h : Below w.heap.size w w') : GbR H n x w w' := ⟨h.size, ⟨h.os, h.tape, h.output⟩, fun k hk => .inl (h.block k hk)⟩
theorem GbR.low {H n : Nat} {x : Value} {w0 w w' : World} (h : Below H w0 w) (hH : H ≤ w0.heap.size) (g : GbR H n x w w') : Below H w0 w' := ⟨g.2.1.1.trans h.os, g.2.1.2.1.trans h.tape, g.2.1.2.2.trans h.output, Nat.le_trans h.size g.1, fun k hk => by
  rcases g.2.2 k (by have := h.size; omega) with e | ⟨e, _⟩
  · exact e.trans (h.block k hk)
  · omega⟩
def grCut (H n : Nat) (x : Value) : Gr := ⟨GbR H n x, GbR.refl H n x⟩
theorem own_gbr {H n k : Nat} {x v : Value} {xs : List Value} {w w' : World} (h : w.ownsRow H 5 1 v k xs) (hG : GbR H n x w w') (hk : k ≤ n ∨ (k = n + 1 ∧ xs[n]? = some x)) : w'.ownsRow H 5 1 v k xs := by
  refine ⟨h.1, ?_⟩
  rcases h.2 with h0 | ⟨g, cap, cur, rfl, hg, hh, hn, hm, hs, ht⟩
  · exact .inl h0
  rcases hG.2.2 g (Array.getElem?_eq_some_iff.1 hh).1 with e | ⟨_, cs, cs', e1, e2, e3, e4, e5⟩
  · exact .inr ⟨g, cap, cur, rfl, hg, e.trans hh, hn, hm, hs, ht⟩
  · rw [hh] at e1
    injection e1 with e1
    injection e1 with e1
    subst e1
    refine .inr ⟨g, cap, cs', rfl, hg, e2, hn, hm, by rw [e3]; exact hs, ?_⟩
    rw [← ht]
    apply List.ext_getElem?
    intro i
    rw [Nat.mul_one]
    by_cases hi : i < k
    · rw [List.getElem?_take, List.getElem?_take, if_pos hi, if_pos hi, Array.getElem?_toList, Array.getElem?_toList]
      by_cases hin : i < n
      · exact e4 i hin
      · rcases hk with hk | ⟨hk, hx⟩
        · omega
        · obtain rfl : i = n := by omega
          rcases e5 with e5 | e5
          · exact e5
          · rw [e5, ← hx, ← ht, List.getElem?_take, if_pos (by omega), Array.getElem?_toList]
    · rw [List.getElem?_take, List.getElem?_take, if_neg hi, if_neg hi]
/-- a message without lists lies in any world -/
theorem FMs.zero {y : Value} {w : World} (h : FMs (Mg.zero 0) y w) (w' : World) : FMs (Mg.zero 0) y w' := by
  obtain ⟨P, C, rfl, ⟨a, c, h1, h2, h3⟩, ⟨a', c', h4, h5, h6⟩⟩ := h
  exact ⟨P, C, rfl, ⟨a, c, h1, h2, fun h => absurd rfl h⟩, ⟨a', c', h4, h5, fun h => absurd rfl h⟩⟩
/-- one more byte behind a row that was made -/
theorem append_gbr (V : World) (H n : Nat) (L : List Int) (more : Int) (v : Value) (hL : L.length = n) (hn : n ≤ 1000000) (hown : V.ownsRow H 5 1 v n (L.map (Value.int .u8))) (g : Nat) (cs : Array Value) (hc : V.heap[g]? = some (.cells cs 5 (0, 0))) (h0 : cs[0]? = some (.int .u8 more)) (hH : H ≤ V.heap.size) (ty : TypeId) :
    ∃ v' w', (Builtin.append_ #[28, 28] ty #[v, .slice (some ⟨g, 0, none⟩) 1 1]).run Try.prog V = .ok v' w' ∧ w'.ownsRow H 5 1 v' (n + 1) ((L ++ [more]).map (Value.int .u8)) ∧ GbR H n (.int .u8 more) V w' := by
  obtain ⟨i0, hi, hz0, hz1, hz2⟩ := info_parts byteInfo
  have hnews : ∀ (j : Nat) u, [Value.int .u8 more][j]? = some u → V.cell? ((⟨g, 0, none⟩ : Addr).add j) = some u := fun j u hj => by
    rcases j with _ | j
    · simp at hj
      subst hj
      exact row_cell hc 0 _ h0
    · simp at hj
  have hone : ∀ u ∈ [Value.int .u8 more], u.oneCell' = true := fun u hu => by simp at hu; subst hu; rfl
  obtain ⟨v', w', hrun, h1, h2, -⟩ := run_append_own (P := Try.prog) V H 28 ty 5 i0 (.int .u8 0) 1 1 Try.underlying28 hi hz0 hz1 hz2 rfl (by decide) v n (L.map (Value.int .u8)) hown ⟨g, 0, none⟩ 1 1 [.int .u8 more] rfl hnews hone (by unfold maxLen; omega) (by omega) hH
  refine ⟨v', w', hrun, by simpa using h1, ?_⟩
  rcases hown.2 with ⟨rfl, rfl⟩ | ⟨q, cap, cur, rfl, hq, hh, hnc, hm, hs, ht⟩
  · exact GbR.of_below ⟨h2.os, h2.tape, h2.output, h2.size, fun k hk => h2.block k hk (by simp [Value.ownBlock])⟩
  · by_cases hroom : n + 1 ≤ cap
    · have hr := run_append_room (P := Try.prog) V 28 ty 5 i0 Try.underlying28 hi q n cap cur hh ⟨g, 0, none⟩ 1 1 [.int .u8 more] (by rw [hz1]; rfl) hnews hone hroom (by rw [hz1]; simp; omega)
      rw [hr] at hrun
      injection hrun with _ hrun
      rw [hz1, Nat.mul_one] at hrun
      have hrow := setRow_heap V q cur (cur.toList.take n ++ [Value.int .u8 more] ++ cur.toList.drop (n + [Value.int .u8 more].length)).toArray 5 (0, 0) hh
      rw [hrun] at hrow
      refine ⟨h2.size, ⟨h2.os, h2.tape, h2.output⟩, fun k hk => ?_⟩
      by_cases hkq : k = q
      · subst hkq
        refine .inr ⟨hq, cur, _, hh, hrow, ?_, fun i hi => ?_, .inr ?_⟩
        · simp
          omega
        · simp only [List.getElem?_toArray]
          rw [List.append_assoc, List.getElem?_append_left (by simp; omega), List.getElem?_take, if_pos hi, Array.getElem?_toList]
        · simp only [List.getElem?_toArray]
          rw [List.append_assoc, List.getElem?_append_right (by simp; omega)]
          have : n - (List.take n cur.toList).length = 0 := by simp; omega
          rw [this]
          rfl
      · exact .inl (h2.block k hk (by simp [Value.ownBlock]; exact hkq))
    · have hr := run_append_grow (P := Try.prog) V 28 ty 5 i0 (.int .u8 0) Try.underlying28 hi hz0 ⟨q, 0, none⟩ n cap (L.map (Value.int .u8)) (by rw [hz1]; simpa using hL) (hown.cells (g := q) rfl) ⟨g, 0, none⟩ 1 1 [.int .u8 more] (by rw [hz1]; rfl) hnews (by omega) (by omega) (growslice_fits (by omega) (by rw [hz2]; omega))
      rw [hr] at hrun
      injection hrun with _ hrun
      rw [← hrun]
      exact GbR.of_below ((Below.refl _ V).drew.alloc (Nat.le_refl _) _)
end Go.Proofs.Ytmjbimmbphofjaa

namespace Go.Proofs.Ytmjbimmbphofjaa
open Go.RowKit Go.Shelf
set_option maxRecDepth 100000
attribute [local go_sem] Oper.semAt_some

/-- the cells of a message that says nothing -/
def mz : Array Value := #[.int .i64 0, .int .i64 0, .int .i64 0, .int .i64 0, .int .i64 0, .int .i64 0, .int .i64 0, .slice none 0 0, .slice none 0 0, .string ⟨#[]⟩, .string ⟨#[]⟩]
/-- what region 7 knows of what it makes: t36 and t27 a message and an error, t37 the message, t9 its box -/
def F7 (H : Nat) (M : Mg) (E : Int) (s : Tmp) (x : Value) (W : World) : Prop :=
  match s with
  | 36 => ∃ y, x = .tuple #[y, .int .i64 E] ∧ FMs M y W
  | 27 => ∃ y, x = .tuple #[y, .int .i64 E] ∧ FMs M y W
  | 37 => FMs M x W
  | _ => ∃ g, x = .pointer (some ⟨g, 0, none⟩) ∧ H ≤ g ∧ W.heap[g]? = some (.cells mz 26 (0, 0))
theorem F7.later {H : Nat} {M : Mg} {E : Int} {s : Tmp} {x : Value} {W W' : World} (h : F7 H M E s x W) (hb : Below W.heap.size W W') : F7 H M E s x W' := by
  unfold F7 at *
  split at h
  · obtain ⟨y, e, h⟩ := h; exact ⟨y, e, h.later hb⟩
  · obtain ⟨y, e, h⟩ := h; exact ⟨y, e, h.later hb⟩
  · exact h.later hb
  · obtain ⟨g, e, hg, h⟩ := h; exact ⟨g, e, hg, (hb.block _ (Array.getElem?_eq_some_iff.1 h).1).trans h⟩
/-- what region 8 knows of what it makes -/
def F8 (H n : Nat) (L : List Int) (more : Int) (s : Tmp) (x : Value) (W : World) : Prop :=
  match s with
  | 43 => ∃ g, x = .slice (some ⟨g, 0, none⟩) 0 0 ∧ H ≤ g ∧ W.heap[g]? = some (.cells #[] 5 (0, 0))
  | 45 => W.ownsRow H 5 1 x n (L.map (Value.int .u8))
  | 47 => ∃ g cs, x = .slice (some ⟨g, 0, none⟩) 1 1 ∧ W.heap[g]? = some (.cells cs 5 (0, 0)) ∧ cs[0]? = some (.int .u8 more)
  | 48 => W.ownsRow H 5 1 x (n + 1) ((L ++ [more]).map (Value.int .u8))
  | 49 => ∃ y, x = .tuple #[y, .int .i64 3] ∧ FMs (Mg.zero 0) y W
  | 39 => ∃ y, x = .tuple #[y, .int .i64 3] ∧ FMs (Mg.zero 0) y W
  | 50 => FMs (Mg.zero 0) x W
  | _ => ∃ g, x = .pointer (some ⟨g, 0, none⟩) ∧ H ≤ g ∧ W.heap[g]? = some (.cells mz 26 (0, 0))
theorem F8.later {H n : Nat} {L : List Int} {more : Int} {s : Tmp} {x : Value} {W W' : World} (hL : L.length = n) (hn : 1 ≤ n) (h : F8 H n L more s x W) (hb : GbR H n (.int .u8 more) W W') : F8 H n L more s x W' := by
  unfold F8 at *
  split at h
  · obtain ⟨g, e, hg, h⟩ := h
    refine ⟨g, e, hg, ?_⟩
    rcases hb.2.2 g (Array.getElem?_eq_some_iff.1 h).1 with e1 | ⟨_, cs, cs', e1, e2, e3, -, -⟩
    · exact e1.trans h
    · rw [h] at e1
      injection e1 with e1
      injection e1 with e1
      subst e1
      rw [e2, show cs' = #[] from Array.eq_empty_of_size_eq_zero (by simpa using e3)]
  · exact own_gbr h hb (.inl (Nat.le_refl _))
  · obtain ⟨g, cs, e, h, h0⟩ := h
    rcases hb.2.2 g (Array.getElem?_eq_some_iff.1 h).1 with e1 | ⟨_, cs1, cs', e1, e2, e3, e4, -⟩
    · exact ⟨g, cs, e, e1.trans h, h0⟩
    · rw [h] at e1
      injection e1 with e1
      injection e1 with e1
      subst e1
      exact ⟨g, cs', e, e2, (e4 0 hn).trans h0⟩
  · exact own_gbr h hb (.inr ⟨rfl, by simp [hL]⟩)
  · obtain ⟨y, e, h⟩ := h; exact ⟨y, e, h.zero _⟩
  · obtain ⟨y, e, h⟩ := h; exact ⟨y, e, h.zero _⟩
  · exact h.zero _
  · obtain ⟨g, e, hg, h⟩ := h
    refine ⟨g, e, hg, ?_⟩
    rcases hb.2.2 g (Array.getElem?_eq_some_iff.1 h).1 with e1 | ⟨_, cs, cs', e1, -⟩
    · exact e1.trans h
    · rw [h] at e1
      injection e1 with e1
      injection e1 with _ e1
      exact absurd e1 (by decide)
theorem zero_small : Msm (Mg.zero 0) := ⟨by simp [Mg.zero], by simp [Mg.zero], by show (ByteArray.mk #[]).size ≤ 80; decide, by show (ByteArray.mk #[]).size ≤ 80; decide⟩
/-- bytes behind an empty literal -/
theorem append_lit (V : World) (H : Nat) (g : Nat) (_hg : V.heap[g]? = some (.cells #[] 5 (0, 0))) (A : Option Addr) (c : Nat) (zs : List Int) (hz : 1 ≤ zs.length) (hl : zs.length ≤ 1000000) (hA : Nums .u8 V V.heap.size A zs) (hH : H ≤ V.heap.size) (ty : TypeId) :
    ∃ v' w', (Builtin.append_ #[28, 28] ty #[.slice (some ⟨g, 0, none⟩) 0 0, .slice A zs.length c]).run Try.prog V = .ok v' w' ∧ w'.ownsRow H 5 1 v' zs.length (zs.map (Value.int .u8)) ∧ Below V.heap.size V w' := by
  obtain ⟨i0, hi, hz0, hz1, hz2⟩ := info_parts byteInfo
  obtain ⟨b, off, rfl, hb, hc⟩ := hA (by intro e; rw [e] at hz; simp at hz)
  obtain ⟨v', w', hr, h1, h2⟩ := run_append_arg_grows (P := Try.prog) (w := V) 28 ty 5 i0 (.int .u8 0) 1 1 Try.underlying28 hi hz0 hz1 hz2 rfl (by decide) ⟨g, 0, none⟩ 0 0 [] rfl (fun j u hj => by simp at hj) ⟨b, off, none⟩ zs.length c (zs.map (Value.int .u8)) (by simp) (fun j u hj => by
    rw [List.getElem?_map, Option.map_eq_some_iff] at hj
    obtain ⟨z, hz, rfl⟩ := hj
    rw [Addr.add_lit]
    exact hc j z hz) (by omega) (by unfold maxLen; omega) (by omega)
  rw [Nat.zero_add, List.nil_append] at h1
  refine ⟨v', w', hr, ⟨h1.1, by rcases h1.2 with h0 | ⟨g', cap', cur', e1, e2, e3⟩; exact .inl h0; exact .inr ⟨g', cap', cur', e1, Nat.le_trans hH e2, e3⟩⟩, h2.os, h2.tape, h2.output, h2.size, fun k hk => h2.block k hk (by simp)⟩
set_option maxHeartbeats 16000000 in
theorem cuts_go (X : Mg) (P Q : Value) (v more : Int) (w : World) (hm0 : 0 ≤ more) (hm1 : more ≤ 255) (h1 : MAt w w.heap.size X P Q) : Calls Try.prog 5 #[mV X P Q, .int .i64 v, .int .u8 more] w fun e w' => e = .returned (.bool true) ∧ Below w.heap.size w w' := by
  obtain ⟨w1, hw1⟩ : ∃ w1, w.alloc (.cells (mC X P Q) 26) = w1 := ⟨_, rfl⟩
  have hb1 : Below w.heap.size w w1 := by rw [← hw1]; exact (Below.refl _ w).alloc (Nat.le_refl _) _
  have q0 : w1.heap[w.heap.size]? = some (.cells (mC X P Q) 26 (0, 0)) := by rw [← hw1]; exact World.alloc_heap_new _ _
  have KX := Lib.hid (cut_F hb1.size (h1.below hb1))
  have HW1 := Lib.hid hw1
  have HB1 := Lib.hid hb1
  have HQ := Lib.hid q0
  clear hw1 hb1 q0 h1
  unfold mV
  go_enter Try.func5, Try.ntmps5
  go_wp2_with (rw [HW1.out]; refine wpList_load_run rfl 26 (.tmp 3) rfl (some ⟨w.heap.size, 0, none⟩) rfl (.agg (mC X P Q)) (mg_read HQ.out) ?_)
  refine KX.out.mono ?_
  rintro e w2 ⟨_, rfl, ⟨A, P, C, hsA, rfl, hA⟩, hb2⟩
  have r0 := (hb2.block _ (Array.getElem?_eq_some_iff.1 HQ.out).1).trans HQ.out
  obtain ⟨w3, hw3⟩ : ∃ w3, w2.setRow w.heap.size (mC A P C) = w3 := ⟨_, rfl⟩
  have hst := mg_store w2 w.heap.size _ (mC A P C) r0 rfl rfl (mg_oneV hA)
  rw [hw3] at hst
  have HST := Lib.hid hst
  have q3 : w3.heap[w.heap.size]? = some (.cells (mC A P C) 26 (0, 0)) := by rw [← hw3]; exact setRow_heap w2 _ _ _ _ _ r0
  have hs1 := HB1.out.size
  have hs2 := hb2.size
  have hoff := Off.setRow (S := fun k => w.heap.size ≤ k) (Off.refl _ w2) (Nat.le_refl w.heap.size) (mC A P C)
  have hb23 : Below w.heap.size w2 w3 := by rw [← hw3]; exact hoff.below (B := w.heap.size) (fun k hk => by omega) (by omega)
  have HB3 := Lib.hid (HB1.out.trans ((hb2.mono hs1).trans hb23))
  have hmA := (hA.below hb23).mono (B' := w3.heap.size) HB3.out.size
  have hlt := (Array.getElem?_eq_some_iff.1 q3).1
  have LM : Hid (∀ W, Below w3.heap.size w3 W → (Instr.loadAt 26 (.pointer (some ⟨w.heap.size, 0, none⟩))).run Try.prog W = .ok (.agg (mC A P C)) W) := Lib.hid fun W hW => mg_read ((hW.block _ hlt).trans q3)
  have K0 : Hid (∀ W, Below w3.heap.size w3 W → (Instr.loadAt 3 (.pointer (some ⟨w.heap.size, 0, none⟩))).run Try.prog W = .ok (.int .i64 A.k) W) := Lib.hid fun W hW => by
    have k := row_cell ((hW.block _ hlt).trans q3) 0 (.int .i64 A.k) rfl
    simp [Instr.loadAt, go_sem, k]
  have KE : Hid (∀ W, Below w3.heap.size w3 W → Calls Try.prog 8 #[.agg (mC A P C), .int .i64 v] W fun e w' => EncR W (benc A v) e w') := Lib.hid fun W hW => bencode_any A P C v W hsA (hmA.later hW)
  have HMA := Lib.hid hmA
  have HSA := Lib.hid hsA
  clear hw3 hst hb23 hoff q3 r0 hA hmA hb2 hs1 hs2 KX HQ HW1 HB1 hsA
  unfold mV
  go_wp2_with (first | refine wpList_store_run rfl 26 (.tmp 3) (.tmp 14) rfl (some ⟨w.heap.size, 0, none⟩) rfl (.agg (mC A P C)) rfl HST.out ?_ | refine wpList_load_run rfl 26 (.tmp 3) rfl (some ⟨w.heap.size, 0, none⟩) rfl (.agg (mC A P C)) (LM.out w3 (Below.refl _ _)) ?_)
  refine (KE.out w3 (Below.refl _ _)).mono ?_
  rintro e w4 ⟨x4, rfl, hm4⟩
  have HM4 := Lib.hid hm4
  have hb34 := hm4.2
  have HB34 := Lib.hid hb34
  have HB4 := Lib.hid (HB3.out.trans (hb34.mono HB3.out.size))
  clear hm4 KE hb34
  by_cases he : (benc A v).2 = 0
  · have hv : v = 1 ∨ v = 2 := by
      by_cases h : v ≠ 1 ∧ v ≠ 2
      · unfold benc at he
        rw [if_pos h] at he
        simp at he
      · omega
    have hck : mck A = 0 := by
      unfold benc at he
      rw [if_neg (by omega)] at he
      by_cases h : mck A = 0
      · exact h
      · rw [if_pos h] at he
        exact he
    have hr1 : benc A v = (body A v, 0) := by unfold benc; rw [if_neg (by omega), hck, if_neg (by simp)]
    rw [hr1] at HM4 ⊢
    simp only at HM4 ⊢
    have hm4 := HM4.out
    obtain ⟨A4, c4, rfl, hc4, hn4⟩ := hm4.slice
    have hln : (body A v).length ≤ 192 := body_len hv hck
    have hmo : 1 ≤ (body A v).length := by
      have h := body_mono hck
      rcases hv with rfl | rfl
      · exact h.2
      · omega
    have hby := body_byte A v
    have hd1 := bdec_body hv hck
    obtain ⟨L0, x0, hz⟩ : ∃ L x, body A v = L ++ [x] := by
      rcases List.eq_nil_or_concat (body A v) with h | ⟨L, x, h⟩
      · rw [h] at hmo
        simp at hmo
      · exact ⟨L, x, by simpa using h⟩
    have hby0 : Bys L0 := fun c hc => hby c (by rw [hz]; simp [hc])
    obtain ⟨⟨E, M7⟩, hD⟩ : ∃ r, bdec A.k v L0 = r := ⟨_, rfl⟩
    have hE : E ≠ 0 := by
      have h := bdec_less hv hck hby0 hz
      rw [hD] at h
      exact h
    have hD8 := bdec_more hby hd1 more []
    obtain ⟨z1, hz1⟩ : ∃ z1, body A v = z1 := ⟨_, rfl⟩
    rw [hz1] at hz hc4 hn4 hln hby hD8 ⊢
    obtain ⟨m, hm⟩ : ∃ m, L0.length = m := ⟨_, rfl⟩
    have hlz : z1.length = m + 1 := by rw [hz]; simp [hm]
    rw [hlz] at hc4 hln ⊢
    have hn7 : Nums .u8 w4 w4.heap.size A4 L0 := by
      have h := hn4.take m
      rw [hz, List.take_append_of_le_length (by omega), List.take_of_length_le (by omega)] at h
      exact h
    have D7 : Hid (∀ W, Below w4.heap.size w4 W → Calls Try.prog 17 #[.int .i64 A.k, .int .i64 v, .slice A4 m c4] W fun e w' => DecR W (E, M7) e w') := Lib.hid fun W hW => by
      have := bdecode_any A.k v A4 m c4 L0 W hm (by omega) hby0 ((hn7.below hW).mono hW.size)
      rwa [hD] at this
    have HN4 := Lib.hid hn4
    have l3 : ∀ W, Below w4.heap.size w4 W → (Instr.loadAt 3 (.pointer (some ⟨w.heap.size, 0, none⟩))).run Try.prog W = .ok (.int .i64 A.k) W := fun W hW => K0.out W (HB34.out.trans (hW.mono HB34.out.size))
    clear hm4 hn4 hn7 hD hz hr1 he hz1 hd1 HM4
    have hml : (((m + 1 : Nat) : Int) == 0) = false := by simp; omega
    go_wp2_with fail
    refine wp_region_FTL 66 13 6 [11] [36, 27, 37, 9] (F7 w4.heap.size M7 (E : Int)) (fun V => Below w4.heap.size w4 V) (by kernel_rfl) (by kernel_rfl) (by rfl) (by kernel_rfl) (by kernel_rfl) (by kernel_rfl) (by rfl) (by simp) (fun W W' h hb => h.trans (hb.mono h.size)) (fun q x W W' h hb => h.later hb) (Below.refl _ _).drew ?_
    simp only [List.take_succ_cons, List.take_zero, List.drop_succ_cons, List.drop_zero]
    repeat (refine wpF_pure rfl rfl ?_; go_big_quiet_step (fail); refine wpQuiet_nil ?_)
    refine wpF_load (ad := ⟨w.heap.size, 0, none⟩) (.int .i64 A.k) rfl (by rfl) (by rfl) (by rfl) l3 ?_
    simp only [Act.put, List.setIfInBounds_toArray, List.set_cons_succ, List.set_cons_zero]
    repeat (refine wpF_pure rfl rfl ?_; go_big_quiet_step (fail); refine wpQuiet_nil ?_)
    refine wpF_callsrc 36 (f := 17) (args := #[.int .i64 A.k, .int .i64 v, .slice A4 m c4]) (by simp) rfl rfl rfl (fun x => by first | rfl | (simp [go_sem]; done)) (fun W hW => (D7.out W hW).mono fun e w' h => by
      obtain ⟨x, e, hx, hb⟩ := h
      exact ⟨_, e, ⟨x, rfl, hx⟩, hb⟩) ?_
    simp only [Act.put, List.setIfInBounds_toArray, List.set_cons_succ, List.set_cons_zero]
    refine wpF_mix 27 [36] (by simp) rfl (by kernel_rfl) (by kernel_rfl) (fun xs => by rfl) (fun xs V hV hx => ⟨xs 36, V, by simp [execOp, fill, Act.put, Act.eval, go_sem], hx 36 (by simp), Below.refl _ _⟩) ?_
    simp only [Act.put, List.setIfInBounds_toArray, List.set_cons_succ, List.set_cons_zero]
    refine wpF_mix 37 [27] (by simp) rfl (by kernel_rfl) (by kernel_rfl) (fun xs => by rfl) (fun xs V hV hx => ?_) ?_
    · obtain ⟨y, e, h⟩ := (show ∃ y, xs 27 = .tuple #[y, .int .i64 (E : Int)] ∧ FMs M7 y V from hx 27 (by simp))
      exact ⟨y, V, by simp [execOp, fill, Act.put, Act.eval, e, go_sem], h, Below.refl _ _⟩
    simp only [Act.put, List.setIfInBounds_toArray, List.set_cons_succ, List.set_cons_zero]
    refine wpF_useval 27 9 (.int .i64 (E : Int)) (by simp) (by rfl) (by kernel_rfl) (by kernel_rfl) (by rfl) (fun x => by rfl) (fun x V hV hx => ?_) ?_
    · obtain ⟨y, e, h⟩ := (show ∃ y, x = .tuple #[y, .int .i64 (E : Int)] ∧ FMs M7 y V from hx)
      simp [execOp, Act.put, Act.eval, e, go_sem]
    simp only [Act.put, List.setIfInBounds_toArray, List.set_cons_succ, List.set_cons_zero]
    refine wpF_src 9 (by simp) rfl (by kernel_rfl) (by kernel_rfl) (fun V hV => ⟨.pointer (some ⟨V.heap.size, 0, none⟩), V.alloc (.cells mz 26), ?_, ⟨_, rfl, hV.size, World.alloc_heap_new _ _⟩, (Below.refl _ _).alloc (Nat.le_refl _) _⟩) ?_
    · have hzz : (zeroValue 26).run Try.prog V = .ok (.agg mz) V := by kernel_rfl
      simp [execOp, go_sem, hzz]
      try rfl
    simp only [Act.put, List.setIfInBounds_toArray, List.set_cons_succ, List.set_cons_zero]
    intro xs w5 hV hx
    obtain ⟨g9, e9, hg9, hc9⟩ := (show ∃ g, xs 9 = .pointer (some ⟨g, 0, none⟩) ∧ w4.heap.size ≤ g ∧ w5.heap[g]? = some (.cells mz 26 (0, 0)) from hx 9 (by simp))
    obtain ⟨P7, C7, e37, hm7⟩ := (show FMs M7 (xs 37) w5 from hx 37 (by simp))
    simp only [fill, Act.put, List.setIfInBounds_toArray, List.set_cons_succ, List.set_cons_zero]
    rw [e9, e37]
    generalize xs 36 = x36
    generalize xs 27 = x27
    clear hx
    unfold mV
    obtain ⟨w6, hw6⟩ : ∃ w6, w5.setRow g9 (mC M7 P7 C7) = w6 := ⟨_, rfl⟩
    have hst9 := mg_store w5 g9 _ (mC M7 P7 C7) hc9 rfl rfl (mg_oneV hm7)
    rw [hw6] at hst9
    have hoff9 := Off.setRow (S := fun k => w4.heap.size ≤ k) (Off.refl _ w5) hg9 (mC M7 P7 C7)
    have hb46 : Below w4.heap.size w4 w6 := by rw [← hw6]; exact hV.trans (hoff9.below (B := w4.heap.size) (fun k hk => by omega) hV.size)
    have HST9 := Lib.hid hst9
    have HB46 := Lib.hid hb46
    clear hst9 hoff9 hw6 hb46 hV hm7 e9 e37 hc9 l3 D7
    refine wpList_store_run rfl 26 (.tmp 9) (.tmp 37) rfl (some ⟨g9, 0, none⟩) rfl (.agg (mC M7 P7 C7)) rfl HST9.out ?_
    refine wpList_val rfl (.int .i64 (E : Int)) (fun W => by simp [execOp, Act.put, Act.eval, go_sem]) ?_
    simp only [Act.put, List.setIfInBounds_toArray, List.set_cons_succ, List.set_cons_zero]
    refine ⟨rfl, ?_⟩
    simp only [Exit.then]
    have hb36 : Below w3.heap.size w3 w6 := HB34.out.trans (HB46.out.mono HB34.out.size)
    have hn6 : Nums .u8 w6 w6.heap.size A4 z1 := (HN4.out.below HB46.out).mono HB46.out.size
    have D8 : Hid (∀ W a c, W.ownsRow w6.heap.size 5 1 (.slice a (m + 2) c) (m + 2) ((z1 ++ [more]).map (Value.int .u8)) → Calls Try.prog 17 #[.int .i64 A.k, .int .i64 v, .slice a (m + 2) c] W fun e w' => DecR W (3, Mg.zero 0) e w') := Lib.hid fun W a c hW => by
      have hl2 : (z1 ++ [more]).length = m + 2 := by simp [hlz]
      have hN : Nums .u8 W W.heap.size a (z1 ++ [more]) := Nums.of_own (k := .u8) (c := c) (by rw [hl2]; exact hW)
      have := bdecode_any A.k v a (m + 2) c (z1 ++ [more]) W hl2 (by omega) (fun y hy => by
        rcases List.mem_append.1 hy with h | h
        · exact hby y h
        · simp at h; omega) hN
      rwa [hD8] at this
    have l6 : ∀ W, Below w6.heap.size w6 W → (Instr.loadAt 3 (.pointer (some ⟨w.heap.size, 0, none⟩))).run Try.prog W = .ok (.int .i64 A.k) W := fun W hW => K0.out W (hb36.trans (hW.mono hb36.size))
    have HN6 := Lib.hid hn6
    have HB36 := Lib.hid hb36
    clear hn6 hb36 hD8 hby hby0 K0 HN4 HB46
    go_wp2_with fail
    refine QG.wp_region_FTL (G := grCut w6.heap.size (m + 1) (.int .u8 more)) 66 14 6 [12] [43, 45, 47, 48, 49, 39, 50, 11] (F8 w6.heap.size (m + 1) z1 more) (fun V => Below w6.heap.size w6 V) (by kernel_rfl) (by kernel_rfl) (by rfl) (by kernel_rfl) (by kernel_rfl) (by kernel_rfl) (by rfl) (by simp) (fun W W' h hb => GbR.low h (Nat.le_refl _) hb) (fun q x W W' h hb => h.later hlz (by omega) hb) (Below.refl _ _).drew ?_
    simp only [List.take_succ_cons, List.take_zero, List.drop_succ_cons, List.drop_zero]
    repeat (refine QG.wpF_pure rfl rfl ?_; go_big_quiet_step (fail); refine wpQuiet_nil ?_)
    refine QG.wpF_load (ad := ⟨w.heap.size, 0, none⟩) (.int .i64 A.k) rfl (by rfl) (by rfl) (by rfl) l6 ?_
    simp only [Act.put, List.setIfInBounds_toArray, List.set_cons_succ, List.set_cons_zero]
    repeat (refine QG.wpF_pure rfl rfl ?_; go_big_quiet_step (fail); refine wpQuiet_nil ?_)
    refine QG.wpF_src 43 (by simp) rfl (by kernel_rfl) (by kernel_rfl) (fun W hW => ⟨.slice (some ⟨W.heap.size, 0, none⟩) 0 0, W.alloc (.cells #[] 5), by simp [go_sem], ⟨_, rfl, hW.size, World.alloc_heap_new _ _⟩, GbR.of_below ((Below.refl _ _).alloc (Nat.le_refl _) _)⟩) ?_
    simp only [Act.put, List.setIfInBounds_toArray, List.set_cons_succ, List.set_cons_zero]
    repeat (refine QG.wpF_pure rfl rfl ?_; go_big_quiet_step (fail); refine wpQuiet_nil ?_)
    refine QG.wpF_mix 45 [43] (by simp) rfl (by kernel_rfl) (by kernel_rfl) (fun xs => by rfl) (fun xs V hV hx => ?_) ?_
    · obtain ⟨g, e43, hg, hc⟩ := (show ∃ g, xs 43 = .slice (some ⟨g, 0, none⟩) 0 0 ∧ w6.heap.size ≤ g ∧ V.heap[g]? = some (.cells #[] 5 (0, 0)) from hx 43 (by simp))
      obtain ⟨v', w', hr, h1, h2⟩ := append_lit V w6.heap.size g hc A4 c4 z1 (by omega) (by omega) ((HN6.out.below hV).mono hV.size) hV.size 28
      rw [hlz] at hr h1
      exact ⟨v', w', exec_appendH (.tmp 43) (.tmp 44) 28 rfl (by simp [fill, Act.put, Act.eval, e43]) (by simp [fill, Act.put, Act.eval]) hr, h1, GbR.of_below h2⟩
    simp only [Act.put, List.setIfInBounds_toArray, List.set_cons_succ, List.set_cons_zero]
    repeat (refine QG.wpF_pure rfl rfl ?_; go_big_quiet_step (fail); refine wpQuiet_nil ?_)
    refine QG.wpF_src 47 (by simp) rfl (by kernel_rfl) (by kernel_rfl) (fun W hW => ⟨.slice (some ⟨W.heap.size, 0, none⟩) 1 1, W.alloc (.cells #[.int .u8 more] 5), by simp [go_sem], ⟨_, _, rfl, World.alloc_heap_new _ _, rfl⟩, GbR.of_below ((Below.refl _ _).alloc (Nat.le_refl _) _)⟩) ?_
    simp only [Act.put, List.setIfInBounds_toArray, List.set_cons_succ, List.set_cons_zero]
    refine QG.wpF_mix 48 [45, 47] (by simp) rfl (by kernel_rfl) (by kernel_rfl) (fun xs => by rfl) (fun xs V hV hx => ?_) ?_
    · have h45 : V.ownsRow w6.heap.size 5 1 (xs 45) (m + 1) (z1.map (Value.int .u8)) := hx 45 (by simp)
      obtain ⟨g, cs, e47, hc, h0⟩ := (show ∃ g cs, xs 47 = .slice (some ⟨g, 0, none⟩) 1 1 ∧ V.heap[g]? = some (.cells cs 5 (0, 0)) ∧ cs[0]? = some (.int .u8 more) from hx 47 (by simp))
      obtain ⟨v', w', hr, h1, h2⟩ := append_gbr V w6.heap.size (m + 1) z1 more (xs 45) hlz (by omega) h45 g cs hc h0 hV.size 28
      exact ⟨v', w', exec_appendH (.tmp 45) (.tmp 47) 28 rfl (by simp [fill, Act.put, Act.eval]) (by simp [fill, Act.put, Act.eval, e47]) hr, h1, h2⟩
    simp only [Act.put, List.setIfInBounds_toArray, List.set_cons_succ, List.set_cons_zero]
    refine QG.wpF_mixcall 49 [48] (f := 17) (fun xs => #[.int .i64 A.k, .int .i64 v, xs 48]) (by simp) rfl (by kernel_rfl) (by kernel_rfl) (fun xs => by rfl) (fun xs W => by first | rfl | (simp [fill, Act.put, Act.eval, go_sem]; done)) (fun xs V hV hx => ?_) ?_
    · have h48 : V.ownsRow w6.heap.size 5 1 (xs 48) (m + 2) ((z1 ++ [more]).map (Value.int .u8)) := hx 48 (by simp)
      obtain ⟨a, c, e48⟩ : ∃ a c, xs 48 = .slice a (m + 2) c := by
        rcases h48.2 with ⟨_, h0⟩ | ⟨g, cap, cur, e, -⟩
        · simp at h0
        · exact ⟨_, _, e⟩
      rw [e48] at h48 ⊢
      refine (D8.out V a c h48).mono fun e w' h => ?_
      obtain ⟨x, e, hx, hb⟩ := h
      exact ⟨_, e, ⟨x, rfl, hx⟩, GbR.of_below hb⟩
    simp only [Act.put, List.setIfInBounds_toArray, List.set_cons_succ, List.set_cons_zero]
    refine QG.wpF_mix 39 [49] (by simp) rfl (by kernel_rfl) (by kernel_rfl) (fun xs => by rfl) (fun xs V hV hx => ⟨xs 49, V, by simp [execOp, fill, Act.put, Act.eval, go_sem], hx 49 (by simp), GbR.refl _ _ _ _⟩) ?_
    simp only [Act.put, List.setIfInBounds_toArray, List.set_cons_succ, List.set_cons_zero]
    refine QG.wpF_mix 50 [39] (by simp) rfl (by kernel_rfl) (by kernel_rfl) (fun xs => by rfl) (fun xs V hV hx => ?_) ?_
    · obtain ⟨y, e, h⟩ := (show ∃ y, xs 39 = .tuple #[y, .int .i64 3] ∧ FMs (Mg.zero 0) y V from hx 39 (by simp))
      exact ⟨y, V, by simp [execOp, fill, Act.put, Act.eval, e, go_sem], h, GbR.refl _ _ _ _⟩
    simp only [Act.put, List.setIfInBounds_toArray, List.set_cons_succ, List.set_cons_zero]
    refine QG.wpF_useval 39 10 (.int .i64 3) (by simp) (by rfl) (by kernel_rfl) (by kernel_rfl) (by rfl) (fun x => by rfl) (fun x V hV hx => ?_) ?_
    · obtain ⟨y, e, h⟩ := (show ∃ y, x = .tuple #[y, .int .i64 3] ∧ FMs (Mg.zero 0) y V from hx)
      simp [execOp, Act.put, Act.eval, e, go_sem]
    simp only [Act.put, List.setIfInBounds_toArray, List.set_cons_succ, List.set_cons_zero]
    refine QG.wpF_src 11 (by simp) rfl (by kernel_rfl) (by kernel_rfl) (fun V hV => ⟨.pointer (some ⟨V.heap.size, 0, none⟩), V.alloc (.cells mz 26), ?_, ⟨_, rfl, hV.size, World.alloc_heap_new _ _⟩, GbR.of_below ((Below.refl _ _).alloc (Nat.le_refl _) _)⟩) ?_
    · have hzz : (zeroValue 26).run Try.prog V = .ok (.agg mz) V := by kernel_rfl
      simp [execOp, go_sem, hzz]
      try rfl
    simp only [Act.put, List.setIfInBounds_toArray, List.set_cons_succ, List.set_cons_zero]
    intro xs w7 hV hx
    obtain ⟨g11, e11, hg11, hc11⟩ := (show ∃ g, xs 11 = .pointer (some ⟨g, 0, none⟩) ∧ w6.heap.size ≤ g ∧ w7.heap[g]? = some (.cells mz 26 (0, 0)) from hx 11 (by simp))
    obtain ⟨P8, C8, e50, hm8⟩ := (show FMs (Mg.zero 0) (xs 50) w7 from hx 50 (by simp))
    simp only [fill, Act.put, List.setIfInBounds_toArray, List.set_cons_succ, List.set_cons_zero]
    rw [e11, e50]
    generalize xs 43 = x43
    generalize xs 45 = x45
    generalize xs 47 = x47
    generalize xs 48 = x48
    generalize xs 49 = x49
    generalize xs 39 = x39
    clear hx
    unfold mV
    obtain ⟨w8, hw8⟩ : ∃ w8, w7.setRow g11 (mC (Mg.zero 0) P8 C8) = w8 := ⟨_, rfl⟩
    have hst11 := mg_store w7 g11 _ (mC (Mg.zero 0) P8 C8) hc11 rfl rfl (mg_oneV hm8)
    rw [hw8] at hst11
    have q8 : w8.heap[g11]? = some (.cells (mC (Mg.zero 0) P8 C8) 26 (0, 0)) := by rw [← hw8]; exact setRow_heap w7 _ _ _ _ _ hc11
    have hoff11 := Off.setRow (S := fun k => w6.heap.size ≤ k) (Off.refl _ w7) hg11 (mC (Mg.zero 0) P8 C8)
    have hb68 : Below w6.heap.size w6 w8 := by rw [← hw8]; exact hV.trans (hoff11.below (B := w6.heap.size) (fun k hk => by omega) hV.size)
    have hm9 : FMs (Mg.zero 0) (.agg (mC (Mg.zero 0) P8 C8)) w8 := FMs.zero ⟨P8, C8, rfl, hm8⟩ w8
    have HST11 := Lib.hid hst11
    have HB68 := Lib.hid hb68
    have HQ8 := Lib.hid q8
    have HM9 := Lib.hid hm9
    clear hst11 hoff11 hw8 hb68 hV hm8 e11 e50 hc11 l6 D8 q8 hm9
    refine wpList_store_run rfl 26 (.tmp 11) (.tmp 50) rfl (some ⟨g11, 0, none⟩) rfl (.agg (mC (Mg.zero 0) P8 C8)) rfl HST11.out ?_
    refine wpList_val rfl (.int .i64 3) (fun W => by simp [execOp, Act.put, Act.eval, go_sem]) ?_
    simp only [Act.put, List.setIfInBounds_toArray, List.set_cons_succ, List.set_cons_zero]
    refine ⟨rfl, ?_⟩
    simp only [Exit.then]
    have e1 : ((E : Int) != 0) = true := by simp; omega
    have l8 := mg_read HQ8.out
    have HK : Hid (Calls Try.prog 16 #[] w8 fun e w' => e = .returned (.bool true) ∧ Below w8.heap.size w8 w') := Lib.hid (bdknown_any w8)
    go_wp2_with fail
    refine HK.out.mono ?_
    rintro e w9 ⟨rfl, hb9⟩
    have hbf : Below w.heap.size w w9 := HB3.out.trans ((HB36.out.trans ((HB68.out.trans (hb9.mono HB68.out.size)).mono HB36.out.size)).mono HB3.out.size)
    have l9 := mg_read ((hb9.block _ (Array.getElem?_eq_some_iff.1 HQ8.out).1).trans HQ8.out)
    have HM := Lib.hid (HM9.out.later hb9)
    have HBF := Lib.hid hbf
    clear l8 hb9 hbf HQ8 HM9
    go_wp2_with (refine wpList_load_rung (by rfl) 26 (.tmp 11) rfl (some ⟨g11, 0, none⟩) rfl (.agg (mC (Mg.zero 0) P8 C8)) l9 ?_)
    have hz9 : FMs (Mg.zero 0) (.agg mz) w9 := ⟨.slice none 0 0, .slice none 0 0, rfl, ⟨none, 0, rfl, Nat.le_refl _, Nums.nil⟩, ⟨none, 0, rfl, Nat.le_refl _, Nums.nil⟩⟩
    have hS := same_F zero_small HM.out hz9
    rw [decide_eq_true rfl] at hS
    unfold mz at hS
    refine hS.mono ?_
    rintro e w10 ⟨rfl, hb10⟩
    have HF := Lib.hid (HBF.out.trans (hb10.mono HBF.out.size))
    clear hb10 hS hz9
    go_wp2_with fail
    go_ret
    exact ⟨rfl, HF.out⟩
  · obtain ⟨E, hE⟩ : ∃ E, (benc A v).2 = E := ⟨_, rfl⟩
    rw [hE] at he ⊢
    have e1 : (E != 0) = true := by simpa using he
    clear HM4 hE
    go_wp2_with fail
    refine (bdknown_any w4).mono ?_
    rintro e w6 ⟨rfl, hb6⟩
    have HB6 := Lib.hid (HB4.out.trans (hb6.mono HB4.out.size))
    clear hb6
    go_wp2
    go_ret
    exact ⟨rfl, HB6.out⟩
end Go.Proofs.Ytmjbimmbphofjaa

namespace Go.Proofs.Ytmjbimmbphofjaa.bodyCuts
open Go.ChangeShapes Go.WideShapes Go.ChangeAt Go.RowKit
open Go.ChangeMaps (open_string shut_string)
set_option linter.unusedVariables false

theorem own : ownKnob Try.prog.godebug = none := by kernel_rfl
theorem laidOut : laidOutB Try.prog = true := by kernel_rfl

set_option maxRecDepth 100000 in
theorem lifted (os : Os) (started : os.Started) (H : Type) (enc : TypeId × Value → H) :
    ReturnsInHanded {} Try.checked os 5 .any (Rows.bodyCutsSpec.pre6 enc Try.prog Try.f5 Rows.bodyCutsRow.domain false) (Rows.bodyCutsSpec.post enc Try.prog Try.f5 false true false false) := by
  refine returnsInHanded_of_change (C := Try.checked) own started (by kernel_rfl) Try.func5
    (ChangeSpec.witness6 (enc := enc) (C := Try.checked) false ⟨#[], #[.agg #[.int .i64 0, .int .i64 0, .int .i64 0, .int .i64 0, .int .i64 0, .int .i64 0, .int .i64 0, .slice none 0 0, .slice none 0 0, .string ⟨#[]⟩, .string ⟨#[]⟩], .int .i64 0, .int .u8 0], []⟩ 8 (by kernel_rfl) (by kernel_rfl) (by kernel_rfl) (by kernel_rfl)) ?_
  intro W base args ds gs before hval0 hW hcnd _
  have hval : ∀ (j : Nat) t v, Try.f5.params[j]? = some t → args[j]? = some v → Value.okWide Try.prog W .any base t v := hval0
  have hW' := hW
  obtain ⟨p, q, hA0, hV, rfl, hfz, hnd⟩ := hW
  have hA : DataW.TrodAll enc Try.prog W 0 (fun _ => true) true Try.f5.params.toList args.toList ds p := hA0
  rw [Try.params5] at hA hval
  obtain ⟨v0, vs0, d0, ds0, p0, q0, hargs, rfl, rfl, h0, r0⟩ := trodAll_cons hA
  obtain ⟨v1, vs1, d1, ds1, p1, q1, rfl, rfl, rfl, h1, r1⟩ := trodAll_cons r0
  obtain ⟨v2, vs2, d2, ds2, p2, q2, rfl, rfl, rfl, h2, r2⟩ := trodAll_cons r1
  obtain ⟨rfl, rfl, rfl⟩ := trodAll_nil r2
  obtain rfl : args = #[v0, v1, v2] := by cases args; simp_all
  obtain ⟨rfl, rfl⟩ := trodVars_none hV
  have k0 := h0
  have lt0 : ∀ x ∈ p0, x.block < W.heap.size := by obtain ⟨m, hm⟩ := k0; exact DataW.trod_lt m _ _ _ hm
  obtain ⟨mM0, mP0, mC0, rfl, y0⟩ := open_msg (hval 0 26 v0 rfl rfl) h0
  obtain ⟨a1, rfl, rfl, rfl, w1⟩ := open_int Try.underlying3 (hval 1 3 v1 rfl rfl) h1
  obtain ⟨a2, rfl, rfl, rfl, w2⟩ := open_int Try.underlying5 (hval 2 5 v2 rfl rfl) h2
  clear hA0 hval0
  refine (cuts_go mM0 mP0 mC0 a1 a2 W (bounds_u8 w2).1 (bounds_u8 w2).2 y0).mono fun e W' ⟨he, bel⟩ => ?_
  subst he
  exact ⟨_, rfl, _, _, _, [], _, [], hW', trodAll_mk1 (shut_bool Try.underlying4 _), (trodAll_cons_mk (Below.trod laidOut (by kernel_rfl) (of_decide_eq_true (by kernel_rfl)) k0 bel lt0) (trodAll_cons_mk (shut_int Try.underlying3 w1) (trodAll_cons_mk (shut_int Try.underlying5 w2) trodAll_mk0))), rfl, bel.frame _, fun h => by cases h⟩

theorem over : Rows.bodyCutsRow.holds Try.pinned (OpenSpec.ofChange Rows.bodyCutsSpec) :=
  OpenClaim.holds_of_wide 5 Try.f5 rfl rfl rfl rfl rfl rfl rfl ⟨rfl, rfl, rfl, rfl, rfl⟩ rfl rfl rfl rfl rfl (by kernel_rfl) Try.func5 (by kernel_rfl)
    (of_decide_eq_true (by kernel_rfl)) (by unfold Func.isWrapper; first | (rw [if_pos (by decide +kernel)]; kernel_rfl) | (rw [if_neg (by decide +kernel)]; exact ⟨rfl, rfl⟩))
    (fun os started H enc _ => lifted os started H enc)

theorem proved : Rows.BodyCutsSaid := over
#print axioms proved
end Go.Proofs.Ytmjbimmbphofjaa.bodyCuts
