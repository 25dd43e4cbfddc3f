/-
  The law BodyVersions answers true of every message.
-/
import Derived.Lib.Strings
import Derived.Lib.Slices
import Derived.Lib.Walk
import Derived.Lib.Bytes
import Derived.Laws.EntriesVeiled
import Derived.Test.YtmjbimmbphofjaaRows
import Derived.Below
import Derived.WalkKit
import Derived.ProofKit
import Derived.OpenShut
import Derived.ShutString
import Derived.ChangeOld
import Derived.Test.YtmjbimmbphofjaaMVerVersionsProof4
namespace Go.Proofs.Ytmjbimmbphofjaa
open Go.RowKit Go.Shelf
set_option maxRecDepth 100000
attribute [local go_sem] Oper.semAt_some

theorem unfit_any (x : Int) (w : World) : Calls Try.prog 94 #[.int .u8 x] w fun e w' => e = .returned (.bool (decide (¬ byI x))) ∧ w' = w := by
  by_cases h1 : x < 32
  · rw [decide_eq_true (by unfold byI; omega)]
    go_enter Try.func94, Try.ntmps94
    go_wp2
    go_ret
    exact ⟨rfl, rfl⟩
  · by_cases h2 : 126 < x
    · rw [decide_eq_true (by unfold byI; omega)]
      go_enter Try.func94, Try.ntmps94
      go_wp2
      go_ret
      exact ⟨rfl, rfl⟩
    · rw [decide_eq_false (by unfold byI; omega)]
      go_enter Try.func94, Try.ntmps94
      go_wp2
      go_ret
      exact ⟨rfl, rfl⟩
set_option maxHeartbeats 1000000 in
theorem indexu_any (B : Nat) (a : Option Addr) (n c : Nat) (zs : List Int) (w : World) (hn : zs.length = n) (hl : n ≤ 1000000) (h1 : Nums .u8 w B a zs) :
    Calls Try.prog 108 #[.slice a n c, .func (.func 94) #[] #[]] w fun e w' => (∃ r : Int, e = .returned (.int .i64 r) ∧ ((0 ≤ r ∧ ∃ s ∈ zs, ¬ byI s) ∨ (r = -1 ∧ ∀ s ∈ zs, byI s))) ∧ w' = w := by
  have HL := Lib.hid hn
  clear hn
  go_enter Try.func108, Try.ntmps108
  go_wp2
  go_loopw [5, 8] (fun _ v wr => ∃ k : Nat, k ≤ n ∧ v = .int .i64 (k : Int) ∧ Hid (∀ s ∈ zs.take k, byI s) ∧ wr = w) (fun _ v _ => n - (intOf v).toNat)
  case atStart => exact ⟨0, by omega, rfl, fun s hs => by simp at hs, rfl⟩
  case round =>
    obtain ⟨k, hk, rfl, HN, rfl⟩ := hrel
    by_cases hlt : k < n
    · obtain ⟨z, hz⟩ : ∃ z, zs[k]? = some z := ⟨_, List.getElem?_eq_getElem (by rw [HL.out]; exact hlt)⟩
      obtain ⟨b1, o1, rfl, hb1, hc1⟩ := h1.open hz
      have hlt' : (k : Int) < (n : Int) := by omega
      have K := unfit_any z wr
      by_cases hz0 : byI z
      · have HF : Hid (∀ s ∈ zs.take (k + 1), byI s) := by
          show ∀ s ∈ _, _
          rw [List.take_add_one, hz]
          intro s hs
          rcases List.mem_append.1 hs with h | h
          · exact HN.out s h
          · simp at h; subst h; exact hz0
        rw [decide_eq_false (by simpa using hz0)] at K
        clear hz h1
        go_wp2_with fail
        refine K.mono ?_
        rintro e w' ⟨rfl, rfl⟩
        go_wp2
        go_roundw
        case rel => exact ⟨k + 1, by omega, by go_num, HF, trivial⟩
        case measure => simp [intOf]; omega
      · have HF := Lib.hid (show ∃ s ∈ zs, ¬ byI s from ⟨z, List.mem_of_getElem? hz, hz0⟩)
        rw [decide_eq_true hz0] at K
        clear hz h1
        go_wp2_with fail
        refine K.mono ?_
        rintro e w' ⟨rfl, rfl⟩
        go_wp2
        go_ret
        exact ⟨⟨_, rfl, .inl ⟨by omega, HF.out⟩⟩, rfl⟩
    · have hkn : k = n := by omega
      have HF : Hid (∀ s ∈ zs, byI s) := by
        have := HN.out
        rwa [List.take_of_length_le (by rw [HL.out]; omega)] at this
      go_wp2
      go_ret
      exact ⟨⟨_, rfl, .inr ⟨rfl, HF.out⟩⟩, rfl⟩
theorem cunfit_any (B : Nat) (a : Option Addr) (n c : Nat) (zs : List Int) (w : World) (hn : zs.length = n) (hl : n ≤ 1000000) (h1 : Nums .u8 w B a zs) :
    Calls Try.prog 93 #[.slice a n c, .func (.func 94) #[] #[]] w fun e w' => e = .returned (.bool (decide (¬ ∀ s ∈ zs, byI s))) ∧ w' = w := by
  have K := indexu_any B a n c zs w hn hl h1
  clear h1
  obtain ⟨r0, hr0⟩ : ∃ r0, decide (¬ ∀ s ∈ zs, byI s) = r0 := ⟨_, rfl⟩
  rw [hr0]
  go_enter Try.func93, Try.ntmps93
  go_wp2_with fail
  refine K.mono ?_
  rintro e w' ⟨⟨r, rfl, h⟩, rfl⟩
  rcases h with ⟨h0, s, hs1, hs2⟩ | ⟨rfl, h⟩
  · have hr : r0 = true := by rw [← hr0]; exact decide_eq_true fun h => hs2 (h s hs1)
    subst hr
    clear K hr0
    go_wp2
    go_ret
    exact ⟨rfl, rfl⟩
  · have hr : r0 = false := by rw [← hr0]; exact decide_eq_false fun h2 => h2 h
    subst hr
    clear h K hr0
    go_wp2
    go_ret
    exact ⟨rfl, rfl⟩
theorem puttx_any (mb bm : Nat) (N : Mg) (P C : Value) (s : ByteArray) (w : World) (hm : w.heap[mb]? = some (.cells (mC N P C) 26 (0, 0))) (hbm : w.heap[bm]? = some (.cells #[.pointer (some ⟨mb, 0, none⟩)] 83 (0, 0))) :
    Calls Try.prog 66 #[.string s, .pointer (some ⟨bm, 0, none⟩)] w fun e w' => (∃ x, e = .returned x) ∧ w' = w.setCell ⟨mb, 9, none⟩ (.string s) := by
  have k := row_cell hbm 0 _ rfl
  have c := row_cell hm 9 (.string N.tx) rfl
  have z := frozen_of_row w mb 9 _ _ hm
  clear hm hbm
  go_enter Try.func66, Try.ntmps66
  go_wp2
  go_end0
  exact ⟨⟨_, rfl⟩, rfl⟩
theorem puttg_any (mb bm : Nat) (N : Mg) (P C : Value) (s : ByteArray) (w : World) (hm : w.heap[mb]? = some (.cells (mC N P C) 26 (0, 0))) (hbm : w.heap[bm]? = some (.cells #[.pointer (some ⟨mb, 0, none⟩)] 83 (0, 0))) :
    Calls Try.prog 67 #[.string s, .pointer (some ⟨bm, 0, none⟩)] w fun e w' => (∃ x, e = .returned x) ∧ w' = w.setCell ⟨mb, 10, none⟩ (.string s) := by
  have k := row_cell hbm 0 _ rfl
  have c := row_cell hm 10 (.string N.tg) rfl
  have z := frozen_of_row w mb 10 _ _ hm
  clear hm hbm
  go_enter Try.func67, Try.ntmps67
  go_wp2
  go_end0
  exact ⟨⟨_, rfl⟩, rfl⟩
/-- 'string(b)' of bytes that lie somewhere -/
theorem conv_txt (B : Nat) (a : Option Addr) (n c : Nat) (zs : List Int) (w : World) (hn : zs.length = n) (h1 : Nums .u8 w B a zs) :
    (convert 28 9 (.slice a n c)).run Try.prog w = .ok (.string (txt zs)) w := by
  subst hn
  by_cases hz : zs = []
  · subst hz
    rw [run_convert_bytes_string w _ _ _ _ _ _ Try.underlying28 Try.underlying5 Try.underlying9]
    cases a <;> simp [Conv.bytesToString, loadCells] <;> rfl
  · obtain ⟨b, o, rfl, _, hc⟩ := h1 hz
    exact run_convert_bytes_arg (P := Try.prog) w _ _ Try.underlying28 Try.underlying5 b o _ c zs rfl (fun i hi => by
      rw [hc i zs[i] (List.getElem?_eq_getElem hi)]
      simp [List.getElem?_eq_getElem hi]) _ Try.underlying9
theorem NumsIn.nums18 {k : IntKind} {w : World} {lo hi : Nat} {a : Option Addr} {zs : List Int} (h : NumsIn k w lo hi a zs) : Nums k w hi a zs := fun hn => by
  obtain ⟨b, off, e, _, h2, hc⟩ := h hn
  exact ⟨b, off, e, h2, hc⟩
theorem fldR_ways (l : List Int) (mo : Int) (h0 : 0 ≤ mo) (h1 : mo ≤ 64) : ∃ (B : List Int) (u er : Nat), fldR l mo = (B, u, er) ∧ B.length ≤ 64 ∧
    (((Vi.get l).2.2 ≠ 0 ∧ er = (Vi.get l).2.2) ∨ ((Vi.get l).2.2 = 0 ∧ mo < ((Vi.get l).1 : Int) ∧ er = 6) ∨
      ((Vi.get l).2.2 = 0 ∧ ((Vi.get l).1 : Int) ≤ mo ∧ (l.drop (Vi.get l).2.1).length < (Vi.get l).1 ∧ er = 4) ∨
      ((Vi.get l).2.2 = 0 ∧ ((Vi.get l).1 : Int) ≤ mo ∧ ¬ (l.drop (Vi.get l).2.1).length < (Vi.get l).1 ∧ er = 0 ∧ B = (l.drop (Vi.get l).2.1).take (Vi.get l).1 ∧ u = (Vi.get l).2.1 + (Vi.get l).1)) := by
  unfold fldR
  rw [show max mo 0 = mo by omega]
  by_cases g1 : (Vi.get l).2.2 ≠ 0
  · rw [if_pos g1]
    exact ⟨[], 0, _, rfl, by simp, .inl ⟨g1, rfl⟩⟩
  · rw [if_neg g1]
    have g1' : (Vi.get l).2.2 = 0 := by simpa using g1
    by_cases g2 : mo < ((Vi.get l).1 : Int)
    · rw [if_pos g2]
      exact ⟨[], 0, _, rfl, by simp, .inr (.inl ⟨g1', g2, rfl⟩)⟩
    · rw [if_neg g2]
      by_cases g3 : l.length - (Vi.get l).2.1 < (Vi.get l).1
      · rw [if_pos g3]
        exact ⟨[], 0, _, rfl, by simp, .inr (.inr (.inl ⟨g1', by omega, by rw [List.length_drop]; exact g3, rfl⟩))⟩
      · rw [if_neg g3]
        exact ⟨_, _, _, rfl, by rw [List.length_take]; omega, .inr (.inr (.inr ⟨g1', by omega, by rw [List.length_drop]; exact g3, rfl, rfl, rfl⟩))⟩
set_option maxHeartbeats 4000000 in
theorem textr_any (lo mb lb bo bp bm : Nat) (zs : List Int) (N : Mg) (P C : Value) (p : Nat) (f : Fd) (w : World) (h : RdAt lo w mb lb zs N P C p 0) (hf : FdX f) (hso : f.so = 5) (hl : zs.length ≤ 1000000) (hz : Bys zs)
    (hbo : w.heap[bo]? = some (.cells #[.int .i64 f.mo] 3 (0, 0))) (hbp : w.heap[bp]? = some (.cells #[.func (.func 66) #[] #[.pointer (some ⟨bm, 0, none⟩)]] 120 (0, 0))) (hbm : w.heap[bm]? = some (.cells #[.pointer (some ⟨mb, 0, none⟩)] 83 (0, 0))) :
    Calls Try.prog 91 #[.pointer (some ⟨lb, 0, none⟩), .pointer (some ⟨bo, 0, none⟩), .pointer (some ⟨bp, 0, none⟩)] w fun r w' => RdO lo mb lb zs p (rdF N f (zs.drop p)) w r w' := by
  have hmo : 0 ≤ f.mo ∧ f.mo ≤ 64 := by have := hf.mo; omega
  have hle0 := hf.tex (by omega)
  obtain ⟨Bs, u, er, hX, hBl, hw⟩ := fldR_ways (zs.drop p) f.mo hmo.1 hmo.2
  have K := lfld_any lo lb zs p 0 w f.mo (by omega) (by omega) h.l (by omega) hz
  rw [hX] at K
  unfold ReadB at K
  simp only [ansB, placeOf, errOf, if_true] at K
  obtain ⟨R, hR⟩ : ∃ R, rdF N f (zs.drop p) = R := ⟨_, rfl⟩
  rw [hR]
  unfold rdF at hR
  rw [if_neg (show ¬ f.so = 1 by omega), if_neg (show ¬ f.so = 2 by omega), if_neg (show ¬ (((Vi.get (zs.drop p)).1 = 0) ∧ 0 < f.le) by omega), if_neg (show ¬ f.so = 3 by omega), if_neg (show ¬ f.so = 4 by omega)] at hR
  have hlm := h.a
  obtain ⟨_, _, hbl, -⟩ := h.l.open
  have n1 := row_ne hbo h.m (by decide)
  have n2 := row_ne hbo hbl (by decide)
  have n3 := row_ne hbm h.m (by decide)
  have n4 := row_ne hbm hbl (by decide)
  have n6 := row_ne hbp hbl (by decide)
  have kb := row_cell hbo 0 _ rfl
  have K := Lib.hid K
  have HH := Lib.hid h
  have HBP := Lib.hid hbp
  have HBM := Lib.hid hbm
  have HR := Lib.hid hR
  have HW := Lib.hid hw
  obtain ⟨q, hq⟩ : ∃ q, Bs.length = q := ⟨_, rfl⟩
  rw [hq] at K hBl
  have HQ := Lib.hid hq
  clear hR hw hX h hbl hbo hbp hbm hq
  go_enter Try.func91, Try.ntmps91
  go_wp2_with fail
  refine K.out.mono ?_
  rintro r w1 ⟨⟨A, c, rfl, hcc, hn⟩, hl1, ho1⟩
  have h1 := HH.out.turn hl1 ho1
  have hn1 := hn.nums18
  have hbm1 := (ho1.block _ (Array.getElem?_eq_some_iff.1 HBM.out).1 n4).trans HBM.out
  have hbp1 := (ho1.block _ (Array.getElem?_eq_some_iff.1 HBP.out).1 n6).trans HBP.out
  have kp := row_cell hbp1 0 _ rfl
  have hcv := conv_txt _ A q c Bs w1 HQ.out hn1
  have KP := Lib.hid (puttx_any mb bm N P C (txt Bs) w1 h1.m hbm1)
  obtain ⟨w2, hw2⟩ : ∃ w2, w1.setCell ⟨mb, 9, none⟩ (.string (txt Bs)) = w2 := ⟨_, rfl⟩
  have hN := h1.tx (txt Bs)
  have hof : Off (fun q => q = mb) w1 (w1.setCell ⟨mb, 9, none⟩ (.string (txt Bs))) := Off.setCell (S := fun q => q = mb) (p := ⟨mb, 9, none⟩) (Off.refl _ w1) rfl _
  rw [hw2] at hN KP hof
  have hmlt := (Array.getElem?_eq_some_iff.1 HH.out.m).1
  have HN2 : Hid (Nums .u8 w2 w2.heap.size A Bs) := Lib.hid fun hne => by
    obtain ⟨b, off, e, k1, k2, kc⟩ := hn hne
    exact ⟨b, off, e, Nat.lt_of_lt_of_le k2 hof.size, fun j c hj => hof.cell (kc j c hj) (by show ¬ b = mb; omega)⟩
  have HN := Lib.hid hN
  have HOF : Hid (Off (fun q => q = mb ∨ q = lb) w w2) := Lib.hid ((ho1.mono (S' := fun q => q = mb ∨ q = lb) (fun _ _ e => .inr e)).trans hof (fun _ _ e => .inl e))
  clear K hl1 ho1 h1 hn hn1 hbm1 hbp1 hof hN hw2
  go_wp2_with fail
  refine KP.out.mono ?_
  rintro r w3 ⟨⟨x, rfl⟩, rfl⟩
  clear hcv kp KP
  go_wp2_with fail
  refine (cunfit_any _ A q c Bs _ HQ.out (by omega) HN2.out).mono ?_
  rintro r w4 ⟨rfl, rfl⟩
  obtain ⟨am, ham⟩ : ∃ am, decide (¬ ∀ s ∈ Bs, byI s) = am := ⟨_, rfl⟩
  rw [ham]
  go_wp2_with fail
  refine (otherwise_any HN.out.l am 19).mono ?_
  rintro r w5 ⟨rfl, rfl⟩
  have HAM := Lib.hid ham
  clear ham
  go_wp2
  go_ret
  have hR := HR.out
  have ham := HAM.out
  rcases HW.out with ⟨g1, rfl⟩ | ⟨g1, g2, rfl⟩ | ⟨g1, g2, g3, rfl⟩ | ⟨g1, g2, g3, rfl, g4, rfl⟩
  · rw [if_pos g1] at hR
    subst hR
    exact ⟨by simp [oth, g1], HOF.out, fun h => absurd h g1⟩
  · rw [if_neg (by simpa using g1), if_pos g2] at hR
    subst hR
    exact ⟨by simp [oth], HOF.out, fun h => by simp at h⟩
  · rw [if_neg (by simpa using g1), if_neg (by omega)] at hR
    unfold rdT at hR
    rw [if_pos g3] at hR
    simp only [ne_eq, Nat.reduceEqDiff, not_false_eq_true, if_true] at hR
    subst hR
    exact ⟨by simp [oth], HOF.out, fun h => by simp at h⟩
  · rw [if_neg (by simpa using g1), if_neg (by omega)] at hR
    unfold rdT at hR
    rw [if_neg g3, ← g4] at hR
    by_cases hb : ∀ s ∈ Bs, byI s
    · have : am = false := by rw [← ham]; exact decide_eq_false fun h => h hb
      subst this
      rw [if_pos hb] at hR
      simp only [ne_eq, not_true_eq_false, if_false, if_pos hso] at hR
      subst hR
      exact ⟨by simp [oth], HOF.out, fun _ => ⟨P, C, HN.out⟩⟩
    · have : am = true := by rw [← ham]; exact decide_eq_true hb
      subst this
      rw [if_neg hb] at hR
      simp only [ne_eq, Nat.reduceEqDiff, not_false_eq_true, if_true] at hR
      subst hR
      exact ⟨by simp [oth], HOF.out, fun h => by simp at h⟩
set_option maxHeartbeats 4000000 in
theorem tagr_any (lo mb lb bo bp bm : Nat) (zs : List Int) (N : Mg) (P C : Value) (p : Nat) (f : Fd) (w : World) (h : RdAt lo w mb lb zs N P C p 0) (hf : FdX f) (hso : f.so = 6) (hl : zs.length ≤ 1000000) (hz : Bys zs)
    (hbo : w.heap[bo]? = some (.cells #[.int .i64 f.mo] 3 (0, 0))) (hbp : w.heap[bp]? = some (.cells #[.func (.func 67) #[] #[.pointer (some ⟨bm, 0, none⟩)]] 120 (0, 0))) (hbm : w.heap[bm]? = some (.cells #[.pointer (some ⟨mb, 0, none⟩)] 83 (0, 0))) :
    Calls Try.prog 91 #[.pointer (some ⟨lb, 0, none⟩), .pointer (some ⟨bo, 0, none⟩), .pointer (some ⟨bp, 0, none⟩)] w fun r w' => RdO lo mb lb zs p (rdF N f (zs.drop p)) w r w' := by
  have hmo : 0 ≤ f.mo ∧ f.mo ≤ 64 := by have := hf.mo; omega
  have hle0 := hf.tex (by omega)
  obtain ⟨Bs, u, er, hX, hBl, hw⟩ := fldR_ways (zs.drop p) f.mo hmo.1 hmo.2
  have K := lfld_any lo lb zs p 0 w f.mo (by omega) (by omega) h.l (by omega) hz
  rw [hX] at K
  unfold ReadB at K
  simp only [ansB, placeOf, errOf, if_true] at K
  obtain ⟨R, hR⟩ : ∃ R, rdF N f (zs.drop p) = R := ⟨_, rfl⟩
  rw [hR]
  unfold rdF at hR
  rw [if_neg (show ¬ f.so = 1 by omega), if_neg (show ¬ f.so = 2 by omega), if_neg (show ¬ (((Vi.get (zs.drop p)).1 = 0) ∧ 0 < f.le) by omega), if_neg (show ¬ f.so = 3 by omega), if_neg (show ¬ f.so = 4 by omega)] at hR
  have hlm := h.a
  obtain ⟨_, _, hbl, -⟩ := h.l.open
  have n1 := row_ne hbo h.m (by decide)
  have n2 := row_ne hbo hbl (by decide)
  have n3 := row_ne hbm h.m (by decide)
  have n4 := row_ne hbm hbl (by decide)
  have n6 := row_ne hbp hbl (by decide)
  have kb := row_cell hbo 0 _ rfl
  have K := Lib.hid K
  have HH := Lib.hid h
  have HBP := Lib.hid hbp
  have HBM := Lib.hid hbm
  have HR := Lib.hid hR
  have HW := Lib.hid hw
  obtain ⟨q, hq⟩ : ∃ q, Bs.length = q := ⟨_, rfl⟩
  rw [hq] at K hBl
  have HQ := Lib.hid hq
  clear hR hw hX h hbl hbo hbp hbm hq
  go_enter Try.func91, Try.ntmps91
  go_wp2_with fail
  refine K.out.mono ?_
  rintro r w1 ⟨⟨A, c, rfl, hcc, hn⟩, hl1, ho1⟩
  have h1 := HH.out.turn hl1 ho1
  have hn1 := hn.nums18
  have hbm1 := (ho1.block _ (Array.getElem?_eq_some_iff.1 HBM.out).1 n4).trans HBM.out
  have hbp1 := (ho1.block _ (Array.getElem?_eq_some_iff.1 HBP.out).1 n6).trans HBP.out
  have kp := row_cell hbp1 0 _ rfl
  have hcv := conv_txt _ A q c Bs w1 HQ.out hn1
  have KP := Lib.hid (puttg_any mb bm N P C (txt Bs) w1 h1.m hbm1)
  obtain ⟨w2, hw2⟩ : ∃ w2, w1.setCell ⟨mb, 10, none⟩ (.string (txt Bs)) = w2 := ⟨_, rfl⟩
  have hN := h1.tg (txt Bs)
  have hof : Off (fun q => q = mb) w1 (w1.setCell ⟨mb, 10, none⟩ (.string (txt Bs))) := Off.setCell (S := fun q => q = mb) (p := ⟨mb, 10, none⟩) (Off.refl _ w1) rfl _
  rw [hw2] at hN KP hof
  have hmlt := (Array.getElem?_eq_some_iff.1 HH.out.m).1
  have HN2 : Hid (Nums .u8 w2 w2.heap.size A Bs) := Lib.hid fun hne => by
    obtain ⟨b, off, e, k1, k2, kc⟩ := hn hne
    exact ⟨b, off, e, Nat.lt_of_lt_of_le k2 hof.size, fun j c hj => hof.cell (kc j c hj) (by show ¬ b = mb; omega)⟩
  have HN := Lib.hid hN
  have HOF : Hid (Off (fun q => q = mb ∨ q = lb) w w2) := Lib.hid ((ho1.mono (S' := fun q => q = mb ∨ q = lb) (fun _ _ e => .inr e)).trans hof (fun _ _ e => .inl e))
  clear K hl1 ho1 h1 hn hn1 hbm1 hbp1 hof hN hw2
  go_wp2_with fail
  refine KP.out.mono ?_
  rintro r w3 ⟨⟨x, rfl⟩, rfl⟩
  clear hcv kp KP
  go_wp2_with fail
  refine (cunfit_any _ A q c Bs _ HQ.out (by omega) HN2.out).mono ?_
  rintro r w4 ⟨rfl, rfl⟩
  obtain ⟨am, ham⟩ : ∃ am, decide (¬ ∀ s ∈ Bs, byI s) = am := ⟨_, rfl⟩
  rw [ham]
  go_wp2_with fail
  refine (otherwise_any HN.out.l am 19).mono ?_
  rintro r w5 ⟨rfl, rfl⟩
  have HAM := Lib.hid ham
  clear ham
  go_wp2
  go_ret
  have hR := HR.out
  have ham := HAM.out
  rcases HW.out with ⟨g1, rfl⟩ | ⟨g1, g2, rfl⟩ | ⟨g1, g2, g3, rfl⟩ | ⟨g1, g2, g3, rfl, g4, rfl⟩
  · rw [if_pos g1] at hR
    subst hR
    exact ⟨by simp [oth, g1], HOF.out, fun h => absurd h g1⟩
  · rw [if_neg (by simpa using g1), if_pos g2] at hR
    subst hR
    exact ⟨by simp [oth], HOF.out, fun h => by simp at h⟩
  · rw [if_neg (by simpa using g1), if_neg (by omega)] at hR
    unfold rdT at hR
    rw [if_pos g3] at hR
    simp only [ne_eq, Nat.reduceEqDiff, not_false_eq_true, if_true] at hR
    subst hR
    exact ⟨by simp [oth], HOF.out, fun h => by simp at h⟩
  · rw [if_neg (by simpa using g1), if_neg (by omega)] at hR
    unfold rdT at hR
    rw [if_neg g3, ← g4] at hR
    by_cases hb : ∀ s ∈ Bs, byI s
    · have : am = false := by rw [← ham]; exact decide_eq_false fun h => h hb
      subst this
      rw [if_pos hb] at hR
      simp only [ne_eq, not_true_eq_false, if_false, if_neg (show ¬ f.so = 5 by omega)] at hR
      subst hR
      exact ⟨by simp [oth], HOF.out, fun _ => ⟨P, C, HN.out⟩⟩
    · have : am = true := by rw [← ham]; exact decide_eq_true hb
      subst this
      rw [if_neg hb] at hR
      simp only [ne_eq, Nat.reduceEqDiff, not_false_eq_true, if_true] at hR
      subst hR
      exact ⟨by simp [oth], HOF.out, fun h => by simp at h⟩
end Go.Proofs.Ytmjbimmbphofjaa

namespace Go.Proofs.Ytmjbimmbphofjaa
open Go.RowKit Go.Shelf
set_option maxRecDepth 100000
attribute [local go_sem] Oper.semAt_some

theorem two_rows {W : World} {c1 c2 : Array Value} {t1 t2 : TypeId} : Below W.heap.size W ((W.alloc (.cells c1 t1)).alloc (.cells c2 t2)) ∧ ((W.alloc (.cells c1 t1)).alloc (.cells c2 t2)).heap[W.heap.size]? = some (.cells c1 t1 (0, 0)) ∧ ((W.alloc (.cells c1 t1)).alloc (.cells c2 t2)).heap[W.heap.size + 1]? = some (.cells c2 t2 (0, 0)) ∧ ((W.alloc (.cells c1 t1)).alloc (.cells c2 t2)).heap.size = W.heap.size + 2 := by
  refine ⟨((Below.refl _ W).alloc (Nat.le_refl _) _).alloc (by simp) _, (Below.heap_alloc _ _ _ (by simp)).trans (World.alloc_heap_new _ _), ?_, by simp⟩
  have := World.alloc_heap_new (W.alloc (.cells c1 t1)) (.cells c2 t2)
  rwa [World.size_alloc] at this
/-- a function with two boxes that it has caught -/
def Fn2 (F : FuncId) (w : World) (c1 c2 : Array Value) (t1 t2 : TypeId) (e : Ending) (w' : World) : Prop := ∃ b1 b2, e = .returned (.func (.func F) #[] #[.pointer (some ⟨b1, 0, none⟩), .pointer (some ⟨b2, 0, none⟩)]) ∧ w.heap.size ≤ b1 ∧ w.heap.size ≤ b2 ∧ w'.heap[b1]? = some (.cells c1 t1 (0, 0)) ∧ w'.heap[b2]? = some (.cells c2 t2 (0, 0)) ∧ Below w.heap.size w w'
theorem plainR_any (mb : Nat) (f : Fd) (w : World) : Calls Try.prog 68 #[.pointer (some ⟨mb, 0, none⟩), f.v] w fun e w' => Fn2 95 w f.cs #[.pointer (some ⟨mb, 0, none⟩)] 68 83 e w' := by
  obtain ⟨h1, h2, h3, h4⟩ := two_rows (W := w) (c1 := #[.pointer (some ⟨mb, 0, none⟩)]) (t1 := 83) (c2 := f.cs) (t2 := 68)
  have H := Lib.hid (And.intro h1 (And.intro h2 h3))
  clear h1 h2 h3 h4
  obtain ⟨X0, hX0⟩ : ∃ X0, f.cs = X0 := ⟨_, rfl⟩
  unfold Fd.v
  rw [hX0] at H ⊢
  clear hX0
  go_enter Try.func68, Try.ntmps68
  go_wp2
  go_ret
  obtain ⟨h1, h2, h3⟩ := H.out
  exact ⟨_, _, rfl, by omega, by omega, h3, h2, h1⟩
theorem signedR_any (mb : Nat) (f : Fd) (w : World) : Calls Try.prog 61 #[.pointer (some ⟨mb, 0, none⟩), f.v] w fun e w' => Fn2 83 w f.cs #[.pointer (some ⟨mb, 0, none⟩)] 68 83 e w' := by
  obtain ⟨h1, h2, h3, h4⟩ := two_rows (W := w) (c1 := #[.pointer (some ⟨mb, 0, none⟩)]) (t1 := 83) (c2 := f.cs) (t2 := 68)
  have H := Lib.hid (And.intro h1 (And.intro h2 h3))
  clear h1 h2 h3 h4
  obtain ⟨X0, hX0⟩ : ∃ X0, f.cs = X0 := ⟨_, rfl⟩
  unfold Fd.v
  rw [hX0] at H ⊢
  clear hX0
  go_enter Try.func61, Try.ntmps61
  go_wp2
  go_ret
  obtain ⟨h1, h2, h3⟩ := H.out
  exact ⟨_, _, rfl, by omega, by omega, h3, h2, h1⟩
theorem countR_any (mo : Int) (F : FuncId) (cs : Array Value) (w : World) : Calls Try.prog 62 #[.int .i64 mo, .func (.func F) #[] cs] w fun e w' => Fn2 85 w #[.int .i64 mo] #[.func (.func F) #[] cs] 3 81 e w' := by
  obtain ⟨h1, h2, h3, h4⟩ := two_rows (W := w) (c1 := #[.int .i64 mo]) (t1 := 3) (c2 := #[.func (.func F) #[] cs]) (t2 := 81)
  have H := Lib.hid (And.intro h1 (And.intro h2 h3))
  clear h1 h2 h3 h4
  go_enter Try.func62, Try.ntmps62
  go_wp2
  go_ret
  obtain ⟨h1, h2, h3⟩ := H.out
  exact ⟨_, _, rfl, by omega, by omega, h2, h3, h1⟩
theorem textR_any (mo : Int) (F : FuncId) (cs : Array Value) (w : World) : Calls Try.prog 65 #[.int .i64 mo, .func (.func F) #[] cs] w fun e w' => Fn2 91 w #[.int .i64 mo] #[.func (.func F) #[] cs] 3 120 e w' := by
  obtain ⟨h1, h2, h3, h4⟩ := two_rows (W := w) (c1 := #[.int .i64 mo]) (t1 := 3) (c2 := #[.func (.func F) #[] cs]) (t2 := 120)
  have H := Lib.hid (And.intro h1 (And.intro h2 h3))
  clear h1 h2 h3 h4
  go_enter Try.func65, Try.ntmps65
  go_wp2
  go_ret
  obtain ⟨h1, h2, h3⟩ := H.out
  exact ⟨_, _, rfl, by omega, by omega, h2, h3, h1⟩
theorem cellR_any (mb : Nat) (w : World) : Calls Try.prog 64 #[.pointer (some ⟨mb, 0, none⟩)] w fun e w' => Fn2 89 w #[.int .i64 (-1)] #[.pointer (some ⟨mb, 0, none⟩)] 3 83 e w' := by
  obtain ⟨h1, h2, h3, h4⟩ := two_rows (W := w) (c1 := #[.pointer (some ⟨mb, 0, none⟩)]) (t1 := 83) (c2 := #[.int .i64 (-1)]) (t2 := 3)
  have H := Lib.hid (And.intro h1 (And.intro h2 h3))
  clear h1 h2 h3 h4
  go_enter Try.func64, Try.ntmps64
  go_wp2
  go_ret
  obtain ⟨h1, h2, h3⟩ := H.out
  exact ⟨_, _, rfl, by omega, by omega, h3, h2, h1⟩
/-- the function that reads a point, with its three boxes -/
def Fn3 (mb : Nat) (w : World) (e : Ending) (w' : World) : Prop := ∃ ab sb bm, e = .returned (.func (.func 88) #[] #[.pointer (some ⟨ab, 0, none⟩), .pointer (some ⟨sb, 0, none⟩), .pointer (some ⟨bm, 0, none⟩)]) ∧ w.heap.size ≤ ab ∧ w.heap.size ≤ sb ∧ w.heap.size ≤ bm ∧
  w'.heap[ab]? = some (.cells #[.int .i64 0, .int .i64 0] 73 (0, 0)) ∧ w'.heap[sb]? = some (.cells #[.func (.func 87) #[] #[]] 136 (0, 0)) ∧ w'.heap[bm]? = some (.cells #[.pointer (some ⟨mb, 0, none⟩)] 83 (0, 0)) ∧ Below w.heap.size w w'
theorem pointR_any (mb : Nat) (w : World) : Calls Try.prog 63 #[.pointer (some ⟨mb, 0, none⟩)] w fun e w' => Fn3 mb w e w' := by
  obtain ⟨w2, hw2⟩ : ∃ w2, (w.alloc (.cells #[.pointer (some ⟨mb, 0, none⟩)] 83)).alloc (.cells #[.int .i64 0, .int .i64 0] 73) = w2 := ⟨_, rfl⟩
  obtain ⟨h1, h2, h3, h4⟩ := two_rows (W := w) (c1 := #[.pointer (some ⟨mb, 0, none⟩)]) (t1 := 83) (c2 := #[.int .i64 0, .int .i64 0]) (t2 := 73)
  rw [hw2] at h1 h2 h3 h4
  have hb : Below w2.heap.size w2 (w2.alloc (.cells #[.func (.func 87) #[] #[]] 136)) := (Below.refl _ w2).alloc (Nat.le_refl _) _
  have h6 := World.alloc_heap_new w2 (.cells #[.func (.func 87) #[] #[]] 136)
  have k2 := (hb.block _ (Array.getElem?_eq_some_iff.1 h2).1).trans h2
  have k3 := (hb.block _ (Array.getElem?_eq_some_iff.1 h3).1).trans h3
  have kb := h1.trans (hb.mono h1.size)
  rw [h4] at h6
  rw [← hw2] at h6 k2 k3 kb
  have H := Lib.hid (And.intro k2 (And.intro k3 (And.intro h6 kb)))
  clear h1 h2 h3 h4 hw2 hb h6 k2 k3 kb
  go_enter Try.func63, Try.ntmps63
  go_wp2
  go_ret
  obtain ⟨k2, k3, h6, kb⟩ := H.out
  exact ⟨_, _, _, rfl, by omega, by omega, by omega, k3, h6, k2, kb⟩
end Go.Proofs.Ytmjbimmbphofjaa

namespace Go.Proofs.Ytmjbimmbphofjaa
open Go.RowKit Go.Shelf
set_option maxRecDepth 100000
attribute [local go_sem] Oper.semAt_some

/-- what reader answers: a function of two that it has caught, which reads the field -/
def RdrR (lo mb lb : Nat) (zs : List Int) (N : Mg) (p : Nat) (f : Fd) (w : World) (e : Ending) (w' : World) : Prop := ∃ F c1 c2, e = .returned (.func (.func F) #[] #[c1, c2]) ∧ (∀ args W, (callFunc F args).run Try.prog W = .ok (.enter F args) W) ∧ Below w.heap.size w w' ∧
  Calls Try.prog F #[.pointer (some ⟨lb, 0, none⟩), c1, c2] w' fun r w'' => RdO lo mb lb zs p (rdF N f (zs.drop p)) w r w''
theorem RdO.since {lo mb lb : Nat} {zs : List Int} {p : Nat} {x : Nat × Nat × Mg} {w w1 w' : World} {r : Ending} (h : RdO lo mb lb zs p x w1 r w') (hb : Below w.heap.size w w1) : RdO lo mb lb zs p x w r w' :=
  ⟨h.1, (Off.of_below (S := fun q => q = mb ∨ q = lb) hb).trans h.2.1 (fun _ _ h => h), h.2.2⟩
set_option maxHeartbeats 8000000 in
theorem reader_any (lo mb lb : Nat) (zs : List Int) (N : Mg) (P C : Value) (p : Nat) (f : Fd) (w : World) (h : RdAt lo w mb lb zs N P C p 0) (hf : FdX f) (hmo : f.so = 1 → 0 ≤ f.mo) (h3 : f.so = 3 → N.p = []) (h4 : f.so = 4 → N.c = []) (hl : zs.length ≤ 1000000) (hz : Bys zs) :
    Calls Try.prog 38 #[.pointer (some ⟨mb, 0, none⟩), f.v] w fun e w' => RdrR lo mb lb zs N p f w e w' := by
  obtain ⟨w2, hw2⟩ : ∃ w2, (w.alloc (.cells #[.pointer (some ⟨mb, 0, none⟩)] 83)).alloc (.cells f.cs 68) = w2 := ⟨_, rfl⟩
  obtain ⟨b2, q0, q1, s2⟩ := two_rows (W := w) (c1 := #[.pointer (some ⟨mb, 0, none⟩)]) (t1 := 83) (c2 := f.cs) (t2 := 68)
  rw [hw2] at b2 q0 q1 s2
  have HB2 := Lib.hid b2
  have HQ0 := Lib.hid q0
  have HQ1 := Lib.hid q1
  have HW2 := Lib.hid hw2
  have hs2 : w.heap.size + 1 < w2.heap.size := by omega
  obtain ⟨d0, d1, d2, d3, d4, d5, d6⟩ := fd_block q1
  have kp := row_cell q0 0 _ rfl
  have LF : Hid ((Instr.loadAt 68 (.pointer (some ⟨w.heap.size + 1, 0, none⟩))).run Try.prog w2 = .ok f.v w2) := Lib.hid (by simp [Instr.loadAt, go_sem, d0, d1, d2, d3, d4, d5, d6, Fd.v, Fd.cs])
  have hso := so_ways hf
  have HH := Lib.hid h
  have HF := Lib.hid hf
  have HZ := Lib.hid hz
  obtain ⟨X0, hX0⟩ : ∃ X0, f.cs = X0 := ⟨_, rfl⟩
  have HX := Lib.hid hX0
  by_cases hk : f.so = 1
  · have e := hk
    rw [hk] at d1
    rw [← hw2] at d1 d4 kp
    have HM := Lib.hid d4
    unfold Fd.v
    rw [hX0] at HW2 d1 d4 kp ⊢
    clear hX0 hw2 b2 q0 q1 s2 d0 d2 d3 d5 d6 h hf hz hso HM
    go_enter Try.func38, Try.ntmps38
    go_wp2_with (rw [HW2.out]; refine wpList_load_run rfl 68 (.tmp 3) rfl (some ⟨w.heap.size + 1, 0, none⟩) rfl f.v LF.out ?_)
    refine (plainR_any mb f w2).mono ?_
    rintro r w3 ⟨a1, a2, rfl, k1, k2, k3, k4, k5⟩
    have HK := Lib.hid (And.intro k3 (And.intro k4 k5))
    clear k3 k4 k5 d1 d4 kp LF
    go_wp2
    go_ret
    obtain ⟨k3, k4, k5⟩ := HK.out
    have hb3 := HB2.out.trans (k5.mono HB2.out.size)
    exact ⟨_, _, _, rfl, enters_of Try.func95 (by kernel_rfl) rfl, hb3, (plainr_any lo mb lb a1 a2 zs N P C p f w3 (HH.out.later hb3) HF.out e (hmo e) hl HZ.out k3 k4).mono fun r w4 h => h.since hb3⟩
  by_cases hk : f.so = 2
  · have e := hk
    rw [hk] at d1
    rw [← hw2] at d1 d4 kp
    have HM := Lib.hid d4
    unfold Fd.v
    rw [hX0] at HW2 d1 d4 kp ⊢
    clear hX0 hw2 b2 q0 q1 s2 d0 d2 d3 d5 d6 h hf hz hso HM
    go_enter Try.func38, Try.ntmps38
    go_wp2_with (rw [HW2.out]; refine wpList_load_run rfl 68 (.tmp 3) rfl (some ⟨w.heap.size + 1, 0, none⟩) rfl f.v LF.out ?_)
    refine (signedR_any mb f w2).mono ?_
    rintro r w3 ⟨a1, a2, rfl, k1, k2, k3, k4, k5⟩
    have HK := Lib.hid (And.intro k3 (And.intro k4 k5))
    clear k3 k4 k5 d1 d4 kp LF
    go_wp2
    go_ret
    obtain ⟨k3, k4, k5⟩ := HK.out
    have hb3 := HB2.out.trans (k5.mono HB2.out.size)
    exact ⟨_, _, _, rfl, enters_of Try.func83 (by kernel_rfl) rfl, hb3, (signedr_any lo mb lb a1 a2 zs N P C p f w3 (HH.out.later hb3) HF.out e hl HZ.out k3 k4).mono fun r w4 h => h.since hb3⟩
  by_cases hk : f.so = 3
  · have e := hk
    rw [hk] at d1
    rw [← hw2] at d1 d4 kp
    have HM := Lib.hid d4
    unfold Fd.v
    rw [hX0] at HW2 d1 d4 kp ⊢
    clear hX0 hw2 b2 q0 q1 s2 d0 d2 d3 d5 d6 h hf hz hso HM
    go_enter Try.func38, Try.ntmps38
    go_wp2_with fail
    rw [HW2.out]
    have lO : ∀ V, Below w2.heap.size w2 V → (Instr.loadAt 3 (.pointer (some ⟨w.heap.size + 1, 4, none⟩))).run Try.prog V = .ok (.int .i64 f.mo) V := fun V hV => by
      have k := (fd_block ((hV.block _ hs2).trans HQ1.out)).2.2.2.2.1
      simp [Instr.loadAt, go_sem, k]
    have lM : ∀ V, Below w2.heap.size w2 V → (Instr.loadAt 83 (.pointer (some ⟨w.heap.size, 0, none⟩))).run Try.prog V = .ok (.pointer (some ⟨mb, 0, none⟩)) V := fun V hV => by
      have k := row_cell ((hV.block _ (by omega)).trans HQ0.out) 0 _ rfl
      simp [Instr.loadAt, go_sem, k]
    refine wp_region_order9 5 (0 :: 1 :: 2 :: 3 :: 4 :: []) (fun V => Below w2.heap.size w2 V) (C := fun V => Below w2.heap.size w2 V) (by kernel_rfl) (by kernel_rfl) (by kernel_rfl) (Below.refl _ _).drew (fun V hV => hV) ?_
    repeat (refine wpO9_pure rfl rfl ?_; go_big_quiet_step (fail); refine wpQuiet_nil ?_)
    refine wpO9_load (ad := ⟨w.heap.size + 1, 4, none⟩) (.int .i64 f.mo) rfl rfl rfl (by rfl) lO ?_
    simp only [Act.put, List.setIfInBounds_toArray, List.set_cons_succ, List.set_cons_zero]
    refine wpO9_load (ad := ⟨w.heap.size, 0, none⟩) (.pointer (some ⟨mb, 0, none⟩)) rfl rfl rfl (by rfl) lM ?_
    simp only [Act.put, List.setIfInBounds_toArray, List.set_cons_succ, List.set_cons_zero]
    refine wpO9_call (fun v => ∃ ab sb bm, v = .func (.func 88) #[] #[.pointer (some ⟨ab, 0, none⟩), .pointer (some ⟨sb, 0, none⟩), .pointer (some ⟨bm, 0, none⟩)]) (fun v V => Below w2.heap.size w2 V ∧ ∀ ab sb bm, v = .func (.func 88) #[] #[.pointer (some ⟨ab, 0, none⟩), .pointer (some ⟨sb, 0, none⟩), .pointer (some ⟨bm, 0, none⟩)] → w2.heap.size ≤ ab ∧ w2.heap.size ≤ sb ∧ w2.heap.size ≤ bm ∧ V.heap[ab]? = some (.cells #[.int .i64 0, .int .i64 0] 73 (0, 0)) ∧ V.heap[sb]? = some (.cells #[.func (.func 87) #[] #[]] 136 (0, 0)) ∧ V.heap[bm]? = some (.cells #[.pointer (some ⟨mb, 0, none⟩)] 83 (0, 0))) (f := 63) (args := #[.pointer (some ⟨mb, 0, none⟩)]) rfl rfl rfl (fun _ V hV => hV.1) (fun x => by first | rfl | (simp [go_sem]; done)) (fun V hV => (pointR_any mb V).mono fun e w' h => ?_) ?_
    · obtain ⟨ab, sb, bm, rfl, k1, k2, k3, k4, k5, k6, k7⟩ := h
      have := hV.size
      refine ⟨_, rfl, ⟨ab, sb, bm, rfl⟩, hV.trans (k7.mono hV.size), fun c1 c2 c3 hc => ?_⟩
      injection hc with _ _ hc
      simp only [Array.mk.injEq, List.cons.injEq, Value.pointer.injEq, Option.some.injEq, Addr.mk.injEq, and_true] at hc
      obtain ⟨rfl, rfl, rfl⟩ := hc
      exact ⟨by omega, by omega, by omega, k4, k5, k6⟩
    rintro v ⟨ab, sb, bm, rfl⟩
    simp only [Act.put, List.setIfInBounds_toArray, List.set_cons_succ, List.set_cons_zero]
    refine wpO9_call (fun v => ∃ b1 b2, v = .func (.func 85) #[] #[.pointer (some ⟨b1, 0, none⟩), .pointer (some ⟨b2, 0, none⟩)]) (fun v V => Below w2.heap.size w2 V ∧ (w2.heap.size ≤ ab ∧ w2.heap.size ≤ sb ∧ w2.heap.size ≤ bm ∧ V.heap[ab]? = some (.cells #[.int .i64 0, .int .i64 0] 73 (0, 0)) ∧ V.heap[sb]? = some (.cells #[.func (.func 87) #[] #[]] 136 (0, 0)) ∧ V.heap[bm]? = some (.cells #[.pointer (some ⟨mb, 0, none⟩)] 83 (0, 0))) ∧ ∀ b1 b2, v = .func (.func 85) #[] #[.pointer (some ⟨b1, 0, none⟩), .pointer (some ⟨b2, 0, none⟩)] → V.heap[b1]? = some (.cells #[.int .i64 f.mo] 3 (0, 0)) ∧ V.heap[b2]? = some (.cells #[.func (.func 88) #[] #[.pointer (some ⟨ab, 0, none⟩), .pointer (some ⟨sb, 0, none⟩), .pointer (some ⟨bm, 0, none⟩)]] 81 (0, 0))) (f := 62) (args := #[.int .i64 f.mo, .func (.func 88) #[] #[.pointer (some ⟨ab, 0, none⟩), .pointer (some ⟨sb, 0, none⟩), .pointer (some ⟨bm, 0, none⟩)]]) rfl rfl rfl (fun _ V hV => hV.1) (fun x => by first | rfl | (simp [go_sem]; done)) (fun V hV => (countR_any f.mo 88 #[.pointer (some ⟨ab, 0, none⟩), .pointer (some ⟨sb, 0, none⟩), .pointer (some ⟨bm, 0, none⟩)] V).mono fun e w' h => ?_) ?_
    · obtain ⟨b1, b2, rfl, k1, k2, k3, k4, k5⟩ := h
      obtain ⟨hb, hf⟩ := hV
      obtain ⟨j1, j2, j3, j4, j5, j6⟩ := hf ab sb bm rfl
      refine ⟨_, rfl, ⟨b1, b2, rfl⟩, hb.trans (k5.mono hb.size), ⟨j1, j2, j3, (k5.block _ (Array.getElem?_eq_some_iff.1 j4).1).trans j4, (k5.block _ (Array.getElem?_eq_some_iff.1 j5).1).trans j5, (k5.block _ (Array.getElem?_eq_some_iff.1 j6).1).trans j6⟩, fun c1 c2 hc => ?_⟩
      injection hc with _ _ hc
      simp only [Array.mk.injEq, List.cons.injEq, Value.pointer.injEq, Option.some.injEq, Addr.mk.injEq, and_true] at hc
      obtain ⟨rfl, rfl⟩ := hc
      exact ⟨k3, k4⟩
    rintro v ⟨b1, b2, rfl⟩
    simp only [Act.put, List.setIfInBounds_toArray, List.set_cons_succ, List.set_cons_zero]
    rintro w3 ⟨hb3, hfa, hrw⟩
    simp only [List.drop_succ_cons, List.drop_zero]
    have HK := Lib.hid (And.intro hb3 (And.intro hfa (hrw b1 b2 rfl)))
    clear hb3 hfa hrw lO lM d1 d4 kp LF
    go_wp2
    go_ret
    obtain ⟨hb3, ⟨j1, j2, j3, j4, j5, j6⟩, k3, k4⟩ := HK.out
    have hb4 := HB2.out.trans (hb3.mono HB2.out.size)
    exact ⟨_, _, _, rfl, enters_of Try.func85 (by kernel_rfl) rfl, hb4, countp_any w w3 lo mb lb b1 b2 ab sb bm zs N P C p f HH.out hb4 HF.out e (h3 e) (by omega) hl HZ.out k3 k4 j4 j6 j5 ⟨(Array.getElem?_eq_some_iff.1 j4).1, (Array.getElem?_eq_some_iff.1 j6).1, (Array.getElem?_eq_some_iff.1 j5).1⟩⟩
  by_cases hk : f.so = 4
  · have e := hk
    rw [hk] at d1
    rw [← hw2] at d1 d4 kp
    have HM := Lib.hid d4
    unfold Fd.v
    rw [hX0] at HW2 d1 d4 kp ⊢
    clear hX0 hw2 b2 q0 q1 s2 d0 d2 d3 d5 d6 h hf hz hso HM
    go_enter Try.func38, Try.ntmps38
    go_wp2_with fail
    rw [HW2.out]
    have lO : ∀ V, Below w2.heap.size w2 V → (Instr.loadAt 3 (.pointer (some ⟨w.heap.size + 1, 4, none⟩))).run Try.prog V = .ok (.int .i64 f.mo) V := fun V hV => by
      have k := (fd_block ((hV.block _ hs2).trans HQ1.out)).2.2.2.2.1
      simp [Instr.loadAt, go_sem, k]
    have lM : ∀ V, Below w2.heap.size w2 V → (Instr.loadAt 83 (.pointer (some ⟨w.heap.size, 0, none⟩))).run Try.prog V = .ok (.pointer (some ⟨mb, 0, none⟩)) V := fun V hV => by
      have k := row_cell ((hV.block _ (by omega)).trans HQ0.out) 0 _ rfl
      simp [Instr.loadAt, go_sem, k]
    refine wp_region_order9 5 (0 :: 1 :: 2 :: 3 :: 4 :: []) (fun V => Below w2.heap.size w2 V) (C := fun V => Below w2.heap.size w2 V) (by kernel_rfl) (by kernel_rfl) (by kernel_rfl) (Below.refl _ _).drew (fun V hV => hV) ?_
    repeat (refine wpO9_pure rfl rfl ?_; go_big_quiet_step (fail); refine wpQuiet_nil ?_)
    refine wpO9_load (ad := ⟨w.heap.size + 1, 4, none⟩) (.int .i64 f.mo) rfl rfl rfl (by rfl) lO ?_
    simp only [Act.put, List.setIfInBounds_toArray, List.set_cons_succ, List.set_cons_zero]
    refine wpO9_load (ad := ⟨w.heap.size, 0, none⟩) (.pointer (some ⟨mb, 0, none⟩)) rfl rfl rfl (by rfl) lM ?_
    simp only [Act.put, List.setIfInBounds_toArray, List.set_cons_succ, List.set_cons_zero]
    refine wpO9_call (fun v => ∃ ab bm, v = .func (.func 89) #[] #[.pointer (some ⟨ab, 0, none⟩), .pointer (some ⟨bm, 0, none⟩)]) (fun v V => Below w2.heap.size w2 V ∧ ∀ ab bm, v = .func (.func 89) #[] #[.pointer (some ⟨ab, 0, none⟩), .pointer (some ⟨bm, 0, none⟩)] → w2.heap.size ≤ ab ∧ w2.heap.size ≤ bm ∧ V.heap[ab]? = some (.cells #[.int .i64 (-1)] 3 (0, 0)) ∧ V.heap[bm]? = some (.cells #[.pointer (some ⟨mb, 0, none⟩)] 83 (0, 0))) (f := 64) (args := #[.pointer (some ⟨mb, 0, none⟩)]) rfl rfl rfl (fun _ V hV => hV.1) (fun x => by first | rfl | (simp [go_sem]; done)) (fun V hV => (cellR_any mb V).mono fun e w' h => ?_) ?_
    · obtain ⟨ab, bm, rfl, k1, k2, k4, k6, k7⟩ := h
      have := hV.size
      refine ⟨_, rfl, ⟨ab, bm, rfl⟩, hV.trans (k7.mono hV.size), fun c1 c2 hc => ?_⟩
      injection hc with _ _ hc
      simp only [Array.mk.injEq, List.cons.injEq, Value.pointer.injEq, Option.some.injEq, Addr.mk.injEq, and_true] at hc
      obtain ⟨rfl, rfl⟩ := hc
      exact ⟨by omega, by omega, k4, k6⟩
    rintro v ⟨ab, bm, rfl⟩
    simp only [Act.put, List.setIfInBounds_toArray, List.set_cons_succ, List.set_cons_zero]
    refine wpO9_call (fun v => ∃ b1 b2, v = .func (.func 85) #[] #[.pointer (some ⟨b1, 0, none⟩), .pointer (some ⟨b2, 0, none⟩)]) (fun v V => Below w2.heap.size w2 V ∧ (w2.heap.size ≤ ab ∧ w2.heap.size ≤ bm ∧ V.heap[ab]? = some (.cells #[.int .i64 (-1)] 3 (0, 0)) ∧ V.heap[bm]? = some (.cells #[.pointer (some ⟨mb, 0, none⟩)] 83 (0, 0))) ∧ ∀ b1 b2, v = .func (.func 85) #[] #[.pointer (some ⟨b1, 0, none⟩), .pointer (some ⟨b2, 0, none⟩)] → V.heap[b1]? = some (.cells #[.int .i64 f.mo] 3 (0, 0)) ∧ V.heap[b2]? = some (.cells #[.func (.func 89) #[] #[.pointer (some ⟨ab, 0, none⟩), .pointer (some ⟨bm, 0, none⟩)]] 81 (0, 0))) (f := 62) (args := #[.int .i64 f.mo, .func (.func 89) #[] #[.pointer (some ⟨ab, 0, none⟩), .pointer (some ⟨bm, 0, none⟩)]]) rfl rfl rfl (fun _ V hV => hV.1) (fun x => by first | rfl | (simp [go_sem]; done)) (fun V hV => (countR_any f.mo 89 #[.pointer (some ⟨ab, 0, none⟩), .pointer (some ⟨bm, 0, none⟩)] V).mono fun e w' h => ?_) ?_
    · obtain ⟨b1, b2, rfl, k1, k2, k3, k4, k5⟩ := h
      obtain ⟨hb, hf⟩ := hV
      obtain ⟨j1, j3, j4, j6⟩ := hf ab bm rfl
      refine ⟨_, rfl, ⟨b1, b2, rfl⟩, hb.trans (k5.mono hb.size), ⟨j1, j3, (k5.block _ (Array.getElem?_eq_some_iff.1 j4).1).trans j4, (k5.block _ (Array.getElem?_eq_some_iff.1 j6).1).trans j6⟩, fun c1 c2 hc => ?_⟩
      injection hc with _ _ hc
      simp only [Array.mk.injEq, List.cons.injEq, Value.pointer.injEq, Option.some.injEq, Addr.mk.injEq, and_true] at hc
      obtain ⟨rfl, rfl⟩ := hc
      exact ⟨k3, k4⟩
    rintro v ⟨b1, b2, rfl⟩
    simp only [Act.put, List.setIfInBounds_toArray, List.set_cons_succ, List.set_cons_zero]
    rintro w3 ⟨hb3, hfa, hrw⟩
    simp only [List.drop_succ_cons, List.drop_zero]
    have HK := Lib.hid (And.intro hb3 (And.intro hfa (hrw b1 b2 rfl)))
    clear hb3 hfa hrw lO lM d1 d4 kp LF
    go_wp2
    go_ret
    obtain ⟨hb3, ⟨j1, j3, j4, j6⟩, k3, k4⟩ := HK.out
    have hb4 := HB2.out.trans (hb3.mono HB2.out.size)
    exact ⟨_, _, _, rfl, enters_of Try.func85 (by kernel_rfl) rfl, hb4, countc_any w w3 lo mb lb b1 b2 ab bm zs N P C p f HH.out hb4 HF.out e (h4 e) (by omega) hl HZ.out k3 k4 j4 j6 ⟨(Array.getElem?_eq_some_iff.1 j4).1, (Array.getElem?_eq_some_iff.1 j6).1⟩⟩
  by_cases hk : f.so = 5
  · have e : f.so = 5 := by omega
    rw [e] at d1
    rw [← hw2] at d1 d4 kp
    have HM := Lib.hid d4
    unfold Fd.v
    rw [hX0] at HW2 d1 d4 kp ⊢
    clear hX0 hw2 b2 q0 q1 s2 d0 d2 d3 d5 d6 h hf hz hso HM
    go_enter Try.func38, Try.ntmps38
    go_wp2_with fail
    rw [HW2.out]
    refine (textR_any f.mo 66 #[.pointer (some ⟨w.heap.size, 0, none⟩)] w2).mono ?_
    rintro r w3 ⟨a1, a2, rfl, k1, k2, k3, k4, k5⟩
    have HK := Lib.hid (And.intro k3 (And.intro k4 k5))
    clear k3 k4 k5 d1 d4 kp LF
    go_wp2
    go_ret
    obtain ⟨k3, k4, k5⟩ := HK.out
    have hb3 := HB2.out.trans (k5.mono HB2.out.size)
    have kb := (k5.block _ (by omega)).trans HQ0.out
    exact ⟨_, _, _, rfl, enters_of Try.func91 (by kernel_rfl) rfl, hb3, (textr_any lo mb lb a1 a2 w.heap.size zs N P C p f w3 (HH.out.later hb3) HF.out e hl HZ.out k3 k4 kb).mono fun r w4 h => h.since hb3⟩
  · have e : f.so = 6 := by omega
    rw [e] at d1
    rw [← hw2] at d1 d4 kp
    have HM := Lib.hid d4
    unfold Fd.v
    rw [hX0] at HW2 d1 d4 kp ⊢
    clear hX0 hw2 b2 q0 q1 s2 d0 d2 d3 d5 d6 h hf hz hso HM
    go_enter Try.func38, Try.ntmps38
    go_wp2_with fail
    rw [HW2.out]
    refine (textR_any f.mo 67 #[.pointer (some ⟨w.heap.size, 0, none⟩)] w2).mono ?_
    rintro r w3 ⟨a1, a2, rfl, k1, k2, k3, k4, k5⟩
    have HK := Lib.hid (And.intro k3 (And.intro k4 k5))
    clear k3 k4 k5 d1 d4 kp LF
    go_wp2
    go_ret
    obtain ⟨k3, k4, k5⟩ := HK.out
    have hb3 := HB2.out.trans (k5.mono HB2.out.size)
    have kb := (k5.block _ (by omega)).trans HQ0.out
    exact ⟨_, _, _, rfl, enters_of Try.func91 (by kernel_rfl) rfl, hb3, (tagr_any lo mb lb a1 a2 w.heap.size zs N P C p f w3 (HH.out.later hb3) HF.out e hl HZ.out k3 k4 kb).mono fun r w4 h => h.since hb3⟩
end Go.Proofs.Ytmjbimmbphofjaa

namespace Go.Proofs.Ytmjbimmbphofjaa
open Go.RowKit Go.Shelf
set_option maxRecDepth 100000
attribute [local go_sem] Oper.semAt_some

/-- what Decode answers -/
def DecR (w : World) (r : Nat × Mg) (e : Ending) (w' : World) : Prop := ∃ x, e = .returned (.tuple #[x, .int .i64 (r.1 : Int)]) ∧ FMs r.2 x w' ∧ Below w.heap.size w w'
theorem mC_zero (k : Int) : mC (Mg.zero k) (.slice none 0 0) (.slice none 0 0) = #[.int .i64 k, .int .i64 0, .int .i64 0, .int .i64 0, .int .i64 0, .int .i64 0, .int .i64 0, .slice none 0 0, .slice none 0 0, .string ⟨#[]⟩, .string ⟨#[]⟩] := rfl
theorem MAt.zero (w : World) (B : Nat) (k : Int) : MAt w B (Mg.zero k) (.slice none 0 0) (.slice none 0 0) := ⟨⟨none, 0, rfl, Nat.le_refl _, Nums.nil⟩, ⟨none, 0, rfl, Nat.le_refl _, Nums.nil⟩⟩
set_option maxHeartbeats 4000000 in
/-- of a version or a kind that isn't -/
theorem bdecode_no (k v : Int) (A : Option Addr) (len cap : Nat) (l : List Int) (w : World) (hE : (v ≠ 1 ∧ v ≠ 2) ∨ FD k = []) : Calls Try.prog 17 #[.int .i64 k, .int .i64 v, .slice A len cap] w fun e w' => DecR w (bdec k v l) e w' := by
  obtain ⟨w2, hw2⟩ : ∃ w2, w.alloc (.cells #[.int .i64 0, .int .i64 0, .int .i64 0, .int .i64 0, .int .i64 0, .int .i64 0, .int .i64 0, .slice none 0 0, .slice none 0 0, .string ⟨#[]⟩, .string ⟨#[]⟩] 26) = w2 := ⟨_, rfl⟩
  have hb2 : Below w.heap.size w w2 := by rw [← hw2]; exact (Below.refl _ w).alloc (Nat.le_refl _) _
  have q0 : w2.heap[w.heap.size]? = some (.cells (mC (Mg.zero 0) (.slice none 0 0) (.slice none 0 0)) 26 (0, 0)) := by rw [← hw2]; exact World.alloc_heap_new _ _
  have HW2 := Lib.hid hw2
  have KK := Lib.hid (bknown_any v w2)
  have KW := Lib.hid (word_any k w2)
  have hst := mg_store w2 w.heap.size _ (mC (Mg.zero 0) (.slice none 0 0) (.slice none 0 0)) q0 rfl rfl (mg_one _ _ _ _ _ _ _)
  have hrow := setRow_heap w2 w.heap.size _ (mC (Mg.zero 0) (.slice none 0 0) (.slice none 0 0)) _ _ q0
  have hoff := (Off.setRow (S := fun q => q = w.heap.size) (Off.refl _ w2) rfl (mC (Mg.zero 0) (.slice none 0 0) (.slice none 0 0)))
  obtain ⟨W', hW'⟩ : ∃ W', w2.setRow w.heap.size (mC (Mg.zero 0) (.slice none 0 0) (.slice none 0 0)) = W' := ⟨_, rfl⟩
  rw [hW'] at hst hrow hoff
  have hbel : Below w.heap.size w W' := hb2.trans (hoff.below (B := w.heap.size) (fun q hq => by omega) hb2.size)
  rw [mC_zero] at hst
  have HST := Lib.hid hst
  have HRW := Lib.hid hrow
  have HBE := Lib.hid hbel
  clear hw2 q0 hst hrow hoff hW' hb2 hbel
  by_cases hv : v = 1 ∨ v = 2
  · have hk : FD k = [] := by
      rcases hE with h | h
      · omega
      · exact h
    have hr : bdec k v l = (9, Mg.zero 0) := by unfold bdec; rw [if_neg (by omega), if_pos hk]
    rw [hr]
    rw [decide_eq_true hv] at KK
    rw [(FD_nil k).1 hk] at KW
    go_enter Try.func17, Try.ntmps17
    go_wp2
    refine wp_scope_straight ?_
    go_wp2_with fail
    rw [HW2.out]
    refine KK.out.mono ?_
    rintro e w3 ⟨rfl, rfl⟩
    go_wp2_with fail
    refine KW.out.mono ?_
    rintro e w3 ⟨rfl, rfl⟩
    go_wp2_with (refine wpList_store_run rfl 26 (.tmp 6) (.tmp 22) rfl (some ⟨w.heap.size, 0, none⟩) rfl (.agg #[.int .i64 0, .int .i64 0, .int .i64 0, .int .i64 0, .int .i64 0, .int .i64 0, .int .i64 0, .slice none 0 0, .slice none 0 0, .string ⟨#[]⟩, .string ⟨#[]⟩]) rfl HST.out ?_)
    try simp only [Exit.noGoto]
    obtain ⟨y0, y1, y2, y3, y4, y5, y6, y7, y8, y9, y10⟩ := mg_block HRW.out
    refine bodyPost_ret (v := .tuple #[.agg (mC (Mg.zero 0) (.slice none 0 0) (.slice none 0 0)), .int .i64 9]) (by simp [results, Try.results17, go_sem, y0, y1, y2, y3, y4, y5, y6, y7, y8, y9, y10, mC]) rfl ?_
    exact ⟨_, rfl, ⟨_, _, rfl, MAt.zero _ _ _⟩, HBE.out⟩
  · have hr : bdec k v l = (10, Mg.zero 0) := by unfold bdec; rw [if_pos (by omega)]
    rw [hr]
    rw [decide_eq_false hv] at KK
    go_enter Try.func17, Try.ntmps17
    go_wp2
    refine wp_scope_straight ?_
    go_wp2_with fail
    rw [HW2.out]
    refine KK.out.mono ?_
    rintro e w3 ⟨rfl, rfl⟩
    go_wp2_with (refine wpList_store_run rfl 26 (.tmp 6) (.tmp 17) rfl (some ⟨w.heap.size, 0, none⟩) rfl (.agg #[.int .i64 0, .int .i64 0, .int .i64 0, .int .i64 0, .int .i64 0, .int .i64 0, .int .i64 0, .slice none 0 0, .slice none 0 0, .string ⟨#[]⟩, .string ⟨#[]⟩]) rfl HST.out ?_)
    try simp only [Exit.noGoto]
    obtain ⟨y0, y1, y2, y3, y4, y5, y6, y7, y8, y9, y10⟩ := mg_block HRW.out
    refine bodyPost_ret (v := .tuple #[.agg (mC (Mg.zero 0) (.slice none 0 0) (.slice none 0 0)), .int .i64 10]) (by simp [results, Try.results17, go_sem, y0, y1, y2, y3, y4, y5, y6, y7, y8, y9, y10, mC]) rfl ?_
    exact ⟨_, rfl, ⟨_, _, rfl, MAt.zero _ _ _⟩, HBE.out⟩
theorem FD_mo1 (k : Int) : ∀ f ∈ FD k, f.so = 1 → 0 ≤ f.mo := by
  have hall : ∀ L : List Fd, (L.all fun f => decide (f.so = 1 → 0 ≤ f.mo)) = true → ∀ f ∈ L, (f.so = 1 → 0 ≤ f.mo) := by
    intro L h f hf
    rw [List.all_eq_true] at h
    exact of_decide_eq_true (h f hf)
  rcases kind_ways k with rfl | rfl | rfl | rfl | rfl | ⟨h1, h2, h3, h4, h5⟩
  case' inr.inr.inr.inr.inr => rw [show FD k = [] by simp [FD, raw, h1, h2, h3, h4, h5, pls]]
  all_goals exact hall _ (by decide)
theorem setCell_same {w : World} {b : Nat} {v : Value} {t : TypeId} (h : w.heap[b]? = some (.cells #[v] t (0, 0))) : w.setCell ⟨b, 0, none⟩ v = w := by
  have hlt := (Array.getElem?_eq_some_iff.1 h).1
  have : (w.setCell ⟨b, 0, none⟩ v).heap = w.heap := by
    apply Array.ext_getElem?
    intro i
    by_cases hi : i = b
    · subst hi
      rw [setCell_at h, h]
      rfl
    · exact Below.heap_setCell _ _ _ _ hi
  cases w
  simp only [World.setCell] at this ⊢
  rw [this]
theorem NuX.putObj {W : World} {mb lb l : Nat} {a : Option Addr} {zs : List Int} {o o' : Obj} (h : NuX W mb lb a zs) (ho : W.heap[l]? = some o) (hc : o.isCells = false) : NuX (W.putObj l o') mb lb a zs := fun hn => by
  obtain ⟨b, off, e, h1, h2, hcl⟩ := h hn
  obtain ⟨z, hz⟩ : ∃ z, zs[0]? = some z := by
    cases zs with
    | nil => exact absurd rfl hn
    | cons x r => exact ⟨x, rfl⟩
  have hne : b ≠ l := fun e2 => by
    subst e2
    have := hcl 0 z hz
    unfold World.cell? at this
    simp only [ho] at this
    cases o <;> simp_all [Obj.isCells]
  refine ⟨b, off, e, h1, h2, fun j c hj => ?_⟩
  have hx : (W.putObj l o').heap[b]? = W.heap[b]? := World.putObj_heap_other hne
  rw [← hcl j c hj]
  simp only [World.cell?, hx]
theorem RdAt.putObj {lo mb lb l : Nat} {W : World} {zs : List Int} {N : Mg} {P C : Value} {p e : Nat} {o o' : Obj} (h : RdAt lo W mb lb zs N P C p e) (hl : mb < l) (ho : W.heap[l]? = some o) (hc : o.isCells = false) : RdAt lo (W.putObj l o') mb lb zs N P C p e := by
  obtain ⟨⟨a, c, h1, h2, h3⟩, ⟨a', c', h4, h5, h6⟩⟩ := And.intro h.p h.c
  have ha := h.a
  have hoff : Off (fun k => k = l) W (W.putObj l o') := ⟨rfl, rfl, rfl, by simp [World.putObj], fun k _ hn => World.putObj_heap_other hn⟩
  exact ⟨(World.putObj_heap_other (by omega)).trans h.m, h.l.off hoff (fun k _ hk => by omega), h.a, ⟨a, c, h1, h2, h3.putObj ho hc⟩, ⟨a', c', h4, h5, h6.putObj ho hc⟩, h.pz, h.cz⟩
/-- while fields are read: so many have been -/
def DcI (w6 : World) (lo mb lb qe : Nat) (zs : List Int) (FL : List Fd) (k : Int) (j : Nat) (V : World) : Prop := ∃ (N : Mg) (P C : Value) (p : Nat), RdAt lo V mb lb zs N P C p 0 ∧ V.heap[qe]? = some (.cells #[.int .i64 0] 29 (0, 0)) ∧ Off (fun q => q = mb ∨ q = lb ∨ q = qe) w6 V ∧
  Msm N ∧ Flds (FL.drop j) N ∧ rdL FL (Mg.zero k) zs = ((rdL (FL.drop j) N (zs.drop p)).1, p + (rdL (FL.drop j) N (zs.drop p)).2.1, (rdL (FL.drop j) N (zs.drop p)).2.2)
section
variable {w6 V V' : World} {lo mb lb qe : Nat} {zs : List Int} {FL : List Fd} {k : Int} {j : Nat}
theorem DcI.later (h : DcI w6 lo mb lb qe zs FL k j V) (hb : Below V.heap.size V V') : DcI w6 lo mb lb qe zs FL k j V' := by
  obtain ⟨N, P, C, p, h1, h2, h3, h4, h5, h6⟩ := h
  exact ⟨N, P, C, p, h1.later hb, (hb.block _ (Array.getElem?_eq_some_iff.1 h2).1).trans h2, h3.trans (Off.of_below (S := fun _ => False) hb) (fun _ _ h => h.elim), h4, h5, h6⟩
theorem DcI.putObj {l : Nat} {o o' : Obj} (h : DcI w6 lo mb lb qe zs FL k j V) (hl : w6.heap.size ≤ l) (hm : mb < w6.heap.size) (hq : qe < w6.heap.size) (ho : V.heap[l]? = some o) (hc : o.isCells = false) : DcI w6 lo mb lb qe zs FL k j (V.putObj l o') := by
  obtain ⟨N, P, C, p, h1, h2, h3, h4, h5, h6⟩ := h
  have hoff : Off (fun k => k = l) V (V.putObj l o') := ⟨rfl, rfl, rfl, by simp [World.putObj], fun k _ hn => World.putObj_heap_other hn⟩
  exact ⟨N, P, C, p, h1.putObj (by omega) ho hc, (World.putObj_heap_other (by omega)).trans h2, h3.trans hoff (fun _ _ e => by omega), h4, h5, h6⟩
end
theorem off3_kf {V W : World} {a b c s : Nat} {c1 c2 c3 : Array Value} {t1 t2 t3 : TypeId} (h : Off (fun q => q = a ∨ q = b ∨ q = c) V W) (h1 : V.heap[a]? = some (.cells c1 t1 (0, 0))) (h2 : V.heap[b]? = some (.cells c2 t2 (0, 0))) (h3 : V.heap[c]? = some (.cells c3 t3 (0, 0))) : KeepsFrom s V W := ⟨h.size, fun q o _ hq hc => (h.block q (Array.getElem?_eq_some_iff.1 hq).1 (by
  rintro (rfl | rfl | rfl)
  · rw [h1] at hq; injection hq with hq; subst hq; cases hc
  · rw [h2] at hq; injection hq with hq; subst hq; cases hc
  · rw [h3] at hq; injection hq with hq; subst hq; cases hc)).trans hq⟩
theorem off3_ket {V W : World} {a b c lo : Nat} {c1 c2 c3 : Array Value} (h : Off (fun q => q = a ∨ q = b ∨ q = c) V W) (h1 : V.heap[a]? = some (.cells c1 26 (0, 0))) (h2 : V.heap[b]? = some (.cells c2 116 (0, 0))) (h3 : V.heap[c]? = some (.cells c3 29 (0, 0))) : KeT 68 3 lo V W := ⟨h.size, fun q cs t _ ht hq => h.block q (Array.getElem?_eq_some_iff.1 hq).1 (by
  have e1 := fun e : t ≠ 26 => row_ne hq h1 e
  have e2 := fun e : t ≠ 116 => row_ne hq h2 e
  have e3 := fun e : t ≠ 29 => row_ne hq h3 e
  rcases ht with rfl | rfl
  · have := e1 (by decide); have := e2 (by decide); have := e3 (by decide); omega
  · have := e1 (by decide); have := e2 (by decide); have := e3 (by decide); omega)⟩
theorem rdL_step (f : Fd) (r : List Fd) (M : Mg) (l : List Int) : rdL (f :: r) M l = if (rdF M f l).1 ≠ 0 then ((rdF M f l).1, 0, M) else ((rdL r (rdF M f l).2.2 (l.drop (rdF M f l).2.1)).1, (rdF M f l).2.1 + (rdL r (rdF M f l).2.2 (l.drop (rdF M f l).2.1)).2.1, (rdL r (rdF M f l).2.2 (l.drop (rdF M f l).2.1)).2.2) := rfl
theorem rdF_small {f : Fd} (hf : FdX f) {N N' : Mg} (h : fE N' f = 0) (hc : N' = cp N N' f) (hs : Msm N) : Msm N' := by
  unfold cp at hc
  unfold fE at h
  by_cases h3 : f.so = 3
  · rw [if_pos h3] at hc h
    obtain ⟨-, h2, -⟩ := wP_zero h
    have := hf.mo.1 h3
    rw [hc]
    exact ⟨by show N'.p.length ≤ 40; omega, hs.c, hs.tx, hs.tg⟩
  rw [if_neg h3] at hc h
  by_cases h4 : f.so = 4
  · rw [if_pos h4] at hc h
    obtain ⟨-, h2, -⟩ := wC_zero h
    have := hf.mo.2.1 h4
    rw [hc]
    exact ⟨hs.p, by show N'.c.length ≤ 40; omega, hs.tx, hs.tg⟩
  rw [if_neg h4] at hc h
  by_cases h5 : f.so = 5
  · rw [if_pos h5] at hc h
    obtain ⟨h2, -⟩ := wT_zero h
    have := hf.mo.2.2.1 h5
    rw [hc]
    exact ⟨hs.p, hs.c, by show N'.tx.size ≤ 80; omega, hs.tg⟩
  rw [if_neg h5] at hc h
  by_cases h6 : f.so = 6
  · rw [if_pos h6] at hc h
    obtain ⟨h2, -⟩ := wT_zero h
    have := hf.mo.2.2.2 h6
    rw [hc]
    exact ⟨hs.p, hs.c, hs.tx, by show N'.tg.size ≤ 80; omega⟩
  rw [if_neg h6] at hc
  rw [hc]
  exact ⟨by rw [Mg.put_p]; exact hs.p, by rw [Mg.put_c]; exact hs.c, by rw [Mg.put_tx]; exact hs.tx, by rw [Mg.put_tg]; exact hs.tg⟩
set_option maxHeartbeats 16000000 in
theorem bdecode_yes (k v : Int) (A : Option Addr) (len cap : Nat) (zs : List Int) (w : World) (hlen : zs.length = len) (hll : len ≤ 1000000) (hby : Bys zs) (hA : Nums .u8 w w.heap.size A zs) (hv : v = 1 ∨ v = 2) (hk : FD k ≠ []) : Calls Try.prog 17 #[.int .i64 k, .int .i64 v, .slice A len cap] w fun e w' => DecR w (bdec k v zs) e w' := by
  obtain ⟨w2, hw2⟩ : ∃ w2, w.alloc (.cells #[.int .i64 0, .int .i64 0, .int .i64 0, .int .i64 0, .int .i64 0, .int .i64 0, .int .i64 0, .slice none 0 0, .slice none 0 0, .string ⟨#[]⟩, .string ⟨#[]⟩] 26) = w2 := ⟨_, rfl⟩
  have hb2 : Below w.heap.size w w2 := by rw [← hw2]; exact (Below.refl _ w).alloc (Nat.le_refl _) _
  have q0 : w2.heap[w.heap.size]? = some (.cells (mC (Mg.zero 0) (.slice none 0 0) (.slice none 0 0)) 26 (0, 0)) := by rw [← hw2]; exact World.alloc_heap_new _ _
  have HW2 := Lib.hid hw2
  have hlt0 := (Array.getElem?_eq_some_iff.1 q0).1
  have KK := Lib.hid (bknown_any v w2)
  have KW := Lib.hid (word_any k w2)
  rw [decide_eq_true hv] at KK
  have hwk : wd k ≠ ⟨#[]⟩ := fun e => hk ((FD_nil k).2 e)
  have hwne := str_nil hwk
  have hwn2 : (wd k).toList.isEmpty = false := by simpa using hwne
  have KL := Lib.hid (lnew_any A len cap zs w2 hlen (by omega) ((hA.below hb2).mono hb2.size))
  obtain ⟨R, hR⟩ : ∃ R, bdec k v zs = R := ⟨_, rfl⟩
  rw [hR]
  unfold bdec at hR
  rw [if_neg (by omega), if_neg hk] at hR
  have HR := Lib.hid hR
  have HB2 := Lib.hid hb2
  have HQ0 := Lib.hid q0
  have HBY := Lib.hid hby
  have HLEN := Lib.hid hlen
  clear hR hw2 hb2 q0 hA hby hlen
  refine (callsIn_wide (n := 9)).1 ?_
  refine callsIn_of_wp_marks Try.func17 rfl trivial ?_ rfl
  simp only [Try.ntmps17, List.size_toArray, List.length_cons, List.length_nil, Nat.reduceAdd, Nat.reduceSub, Array.replicate_succ, Array.replicate_zero, List.push_toArray, List.append_toArray, List.nil_append, List.cons_append]
  gi_wp2_with fail
  refine wpIn_wide.2 (wp_scope_straight ((wpIn_wide (n := 9)).1 ?_))
  gi_wp2_with fail
  rw [HW2.out]
  refine ⟨trivial, (callsIn_wide.2 KK.out).mono ?_⟩
  rintro e w3 ⟨rfl, rfl⟩
  gi_wp2_with fail
  refine ⟨trivial, (callsIn_wide.2 KW.out).mono ?_⟩
  rintro e w3 ⟨rfl, rfl⟩
  clear KW KK
  gi_wp2_with fail
  refine ⟨trivial, (callsIn_wide.2 KL.out).mono ?_⟩
  rintro e w3 ⟨lb, rfl, hl3, hb3⟩
  clear KL
  gi_wp2_with fail
  obtain ⟨w5, hw5⟩ : ∃ w5, ((w3.alloc (.cells #[.int .i64 k, .int .i64 0, .int .i64 0, .int .i64 0, .int .i64 0, .int .i64 0, .int .i64 0, .slice none 0 0, .slice none 0 0, .string ⟨#[]⟩, .string ⟨#[]⟩] 26)).alloc (.cells #[.pointer (some ⟨lb, 0, none⟩)] 79)).alloc (.cells #[.int .i64 0] 29) = w5 := ⟨_, rfl⟩
  have hs3 := hb3.size
  have hlb3 := hl3.lt
  have hlbo := hl3.lo_le
  obtain ⟨mb, hmb⟩ : ∃ mb, w3.heap.size = mb := ⟨_, rfl⟩
  obtain ⟨hb4, m4, r4, hs4⟩ := two_rows (W := w3) (c1 := #[.int .i64 k, .int .i64 0, .int .i64 0, .int .i64 0, .int .i64 0, .int .i64 0, .int .i64 0, .slice none 0 0, .slice none 0 0, .string ⟨#[]⟩, .string ⟨#[]⟩]) (t1 := 26) (c2 := #[.pointer (some ⟨lb, 0, none⟩)]) (t2 := 79)
  obtain ⟨w4, hw4⟩ : ∃ w4, (w3.alloc (.cells #[.int .i64 k, .int .i64 0, .int .i64 0, .int .i64 0, .int .i64 0, .int .i64 0, .int .i64 0, .slice none 0 0, .slice none 0 0, .string ⟨#[]⟩, .string ⟨#[]⟩] 26)).alloc (.cells #[.pointer (some ⟨lb, 0, none⟩)] 79) = w4 := ⟨_, rfl⟩
  rw [hw4] at hb4 m4 r4 hs4
  have hb45 : Below w4.heap.size w4 w5 := by rw [← hw5, hw4]; exact (Below.refl _ w4).alloc (Nat.le_refl _) _
  have e5 : w5.heap[w4.heap.size]? = some (.cells #[.int .i64 0] 29 (0, 0)) := by rw [← hw5, hw4]; exact World.alloc_heap_new _ _
  have m5 := (hb45.block _ (Array.getElem?_eq_some_iff.1 m4).1).trans m4
  have r5 := (hb45.block _ (Array.getElem?_eq_some_iff.1 r4).1).trans r4
  have hb35 := hb4.trans (hb45.mono (by omega))
  have hl5 := hl3.below hb35
  rw [hs4, hmb] at e5
  have e5 : w5.heap[mb + 1 + 1]? = some (.cells #[.int .i64 0] 29 (0, 0)) := e5
  rw [hmb] at m5 r5 hlb3 hs3 ⊢
  have hR5 : RdAt w2.heap.size w5 mb lb zs (Mg.zero k) (.slice none 0 0) (.slice none 0 0) 0 0 := ⟨m5, hl5, hlb3, ⟨none, 0, rfl, Nat.le_refl _, fun h => absurd rfl h⟩, ⟨none, 0, rfl, Nat.le_refl _, fun h => absurd rfl h⟩, fun _ => rfl, fun _ => rfl⟩
  have hs5 : mb + 1 + 1 < w5.heap.size := (Array.getElem?_eq_some_iff.1 e5).1
  have hb05 : Below w.heap.size w w5 := HB2.out.trans ((hb3.trans (hb35.mono (by omega))).mono (by omega))
  have q5 := (hb35.block _ (by omega)).trans ((hb3.block _ hlt0).trans HQ0.out)
  have HW5 := Lib.hid hw5
  have HR5 := Lib.hid hR5
  have HE5 := Lib.hid e5
  have HP5 := Lib.hid r5
  have HQ5 := Lib.hid q5
  have HB05 := Lib.hid hb05
  clear hw5 hR5 e5 r5 q5 hb05 m5 hl5 hb35 hb45 hb4 m4 r4 hs4 hw4 hb3 hl3 HQ0 HB2
  rw [HW5.out]
  clear HW5
  apply wpIn_label
  gi_wp2_with fail
  refine ⟨trivial, (callsIn_wide.2 (fall_any k v w5)).mono ?_⟩
  rintro e w6 ⟨rfl, hg0, hg1, hb6⟩
  have hs6 := (Array.getElem?_eq_some_iff.1 hg1).1
  have hR6 := HR5.out.later hb6
  have e6 := (hb6.block _ hs5).trans HE5.out
  have HP6 := Lib.hid ((hb6.block _ (by omega)).trans HP5.out)
  have HQ6 := Lib.hid ((hb6.block _ (by omega)).trans HQ5.out)
  have HB06 := Lib.hid (HB05.out.trans (hb6.mono HB05.out.size))
  have HFX := Lib.hid (show ∀ f ∈ FDv k v, f.so = 1 → 0 ≤ f.mo from fun f hf => FD_mo1 k f (FDv_sub hf))
  have hfl := FDv_flds k v
  have hsm0 : Msm (Mg.zero k) := ⟨by simp [Mg.zero], by simp [Mg.zero], by show (ByteArray.mk #[]).size ≤ 80; decide, by show (ByteArray.mk #[]).size ≤ 80; decide⟩
  obtain ⟨FL, hFL⟩ : ∃ FL, FDv k v = FL := ⟨_, rfl⟩
  rw [hFL] at HR HFX hfl
  have HFL := Lib.hid hFL
  have hD0 : DcI w6 w2.heap.size mb lb (mb + 1 + 1) zs FL k 0 w6 := ⟨Mg.zero k, _, _, 0, hR6, e6, Off.refl _ _, hsm0, by rw [List.drop_zero]; exact hfl, by simp⟩
  clear hR6 e6 hb6 hFL hfl hsm0 HR5 HE5 HP5 HQ5 HB05
  gi_wp2_with fail
  refine range_stopb rfl (by omega) (gf := 48) (lb := #[.pointer (some ⟨w5.heap.size, 0, none⟩), .pointer (some ⟨w5.heap.size + 1, 0, none⟩)]) rfl trivial (enters_of Try.func48 (by kernel_rfl) rfl)
    (fun f : Fd => #[f.v]) (fun _ => rfl)
    (fun j f V => FL[j]? = some f ∧ DcI w6 w2.heap.size mb lb (mb + 1 + 1) zs FL k j V)
    (fun j f q V => (FL[j]? = some f ∧ DcI w6 w2.heap.size mb lb (mb + 1 + 1) zs FL k j V) ∧ w6.heap.size ≤ q ∧ V.heap[q]? = some (.cells f.cs 68 (0, 0)))
    (fun j V => DcI w6 w2.heap.size mb lb (mb + 1 + 1) zs FL k j V)
    (fun cd V => cd = .exit 1 ∧ ∃ E : Nat, E ≠ 0 ∧ (rdL FL (Mg.zero k) zs).1 = E ∧ V.heap[mb + 1 + 1]? = some (.cells #[.int .i64 (E : Int)] 29 (0, 0)) ∧ Off (fun q => q = mb ∨ q = lb ∨ q = mb + 1 + 1) w6 V)
    (KeT 68 3 w5.heap.size) FL.length
    (fun j f q V l o o' h hl ho hc' => ⟨⟨h.1.1, h.1.2.putObj hl (by omega) (by omega) ho hc'⟩, h.2.1, (World.putObj_heap_other (fun e => by subst e; rw [h.2.2] at ho; injection ho with ho; subst ho; cases hc')).trans h.2.2⟩)
    (fun j V l o o' h hl ho hc' => h.putObj hl (by omega) (by omega) ho hc')
    (fun cd V l o o' h hl ho hc' => by
      obtain ⟨h1, E, h2, h3, h4, h5⟩ := h
      have hoff : Off (fun k => k = l) V (V.putObj l o') := ⟨rfl, rfl, rfl, by simp [World.putObj], fun k _ hn => World.putObj_heap_other hn⟩
      exact ⟨h1, E, h2, h3, (World.putObj_heap_other (by omega)).trans h4, h5.trans hoff (fun _ _ e => by omega)⟩)
    (fun _ _ _ h k => h.trans k) (fun V l o o' hl ho hc' => KeT.putObj ho hc')
    (fun o => (hD0.later ((Below.refl _ w6).alloc (Nat.le_refl _) _)).later ((Below.refl _ _).alloc (Nat.le_refl _) _)) ?round ?iter ?done ?stop
  case round =>
    rintro l j f V K ⟨hf, hC⟩ hj hK
    have HK := Lib.hid hK
    have hsz : w6.heap.size ≤ V.heap.size := by
      obtain ⟨_, _, _, _, _, _, h3, _⟩ := hC
      exact h3.size
    clear hK
    unfold Fd.v Fd.cs
    gi_wp2_with fail
    refine HK.out _ V.heap.size _ ⟨⟨hf, hC.later ((Below.refl _ V).alloc (Nat.le_refl _) _)⟩, hsz, World.alloc_heap_new _ _⟩ ⟨by simp, fun q o _ ho _ => (Below.heap_alloc _ _ _ (Array.getElem?_eq_some_iff.1 ho).1).trans ho⟩ (KeT.of_below ((Below.refl _ V).alloc (Nat.le_refl _) _)) ?_
    clear HK hC
    rintro l V2 hl ⟨⟨_, hC⟩, hq, hc⟩
    obtain ⟨qb, hqb⟩ : ∃ qb, V.heap.size = qb := ⟨_, rfl⟩
    rw [hqb] at hq hc ⊢
    clear hqb hD0
    obtain ⟨N, P, C, p, h1, h2, h3, hsm, h4, h5⟩ := hC
    have hd : FL.drop j = f :: FL.drop (j + 1) := by
      obtain ⟨hlt, he⟩ := List.getElem?_eq_some_iff.1 hf
      rw [List.drop_eq_getElem_cons hlt, he]
    rw [hd] at h4 h5
    have hfx := h4.fdx f (List.mem_cons_self ..)
    have hfp := h4.p f (List.mem_cons_self ..)
    have hfc := h4.c f (List.mem_cons_self ..)
    have KR := reader_any w2.heap.size mb lb zs N P C p f V2 h1 hfx (HFX.out f (List.mem_of_getElem? hf)) hfp hfc (by rw [HLEN.out]; omega) HBY.out
    have hst := rdL_step f (FL.drop (j + 1)) N (zs.drop p)
    have hok : ∀ u N', rdF N f (zs.drop p) = (0, u, N') → fE N' f = 0 ∧ N' = cp N N' f := fun u N' h => (rdFld_ok hfx (HBY.out.drop p) hfp hfc h).2.2
    unfold RdrR at KR
    obtain ⟨⟨E, u, N'⟩, hrd⟩ : ∃ r, rdF N f (zs.drop p) = r := ⟨_, rfl⟩
    rw [hrd] at KR hst hok
    simp only at hst
    rw [hst] at h5
    have r9 := (h3.block _ (by omega) (by omega)).trans HP6.out
    have k9 := row_cell r9 0 _ rfl
    obtain ⟨_, _, hbl, -⟩ := h1.l.open
    have LF : Hid ((Instr.loadAt 68 (.pointer (some ⟨qb, 0, none⟩))).run Try.prog V2 = .ok f.v V2) := by
      obtain ⟨t0, t1, t2, t3, t4, t5, t6⟩ := fd_block hc
      exact Lib.hid (by simp [Instr.loadAt, go_sem, t0, t1, t2, t3, t4, t5, t6, Fd.v, Fd.cs])
    have HM := Lib.hid h1.m
    have HBL := Lib.hid hbl
    have HEQ := Lib.hid h2
    have HOF := Lib.hid h3
    have HST := Lib.hid h5
    have HFL4 := Lib.hid h4
    have HOK := Lib.hid hok
    have HSM := Lib.hid hsm
    have HFD := Lib.hid hfx
    have KR := Lib.hid KR
    have hlbm := h1.a
    have hV2 := h3.size
    clear h1 h2 h3 h4 h5 hst hok hsm hfp hfc hd hf hrd hbl r9 hfx hc
    gi_wp2_with (refine wpListIn_load_run rfl 68 (.tmp 11) rfl (some ⟨qb, 0, none⟩) rfl f.v LF.out ?_)
    refine ⟨trivial, ((callsIn_wide.2 KR.out).inRound l).mono ?_⟩
    rintro e V3 ⟨F, c1, c2, rfl, hent, hb3, hcall⟩
    have hs3 := hb3.size
    have k9 := (hb3.cell (p := ⟨mb + 1, 0, none⟩) (by show mb + 1 < _; omega)).trans k9
    have HCALL := Lib.hid hcall
    clear hcall KR hb3
    gi_wp2_with fail
    refine ⟨trivial, ((callsIn_wide.2 HCALL.out).inRound l).mono ?_⟩
    rintro e V4 ⟨rfl, ho4, hok4⟩
    simp only at hok4 ⊢
    have hV4 := ho4.size
    have m4 := HM.out
    have e4 := (ho4.block _ (Array.getElem?_eq_some_iff.1 HEQ.out).1 (by omega)).trans HEQ.out
    have k4 := row_cell e4 0 _ rfl
    have z4 := frozen_of_row V4 (mb + 1 + 1) 0 _ _ e4
    have ho3 : Off (fun q => q = mb ∨ q = lb ∨ q = mb + 1 + 1) V2 V4 := ho4.mono fun j _ h => by omega
    clear HCALL m4
    by_cases hE : E = 0
    · subst hE
      obtain ⟨P', C', hR'⟩ := hok4 rfl
      obtain ⟨hfe, hcp⟩ := HOK.out u N' rfl
      have hst := HST.out
      rw [if_neg (by simp)] at hst
      simp only [List.drop_drop] at hst
      have HJ : Hid (DcI w6 w2.heap.size mb lb (mb + 1 + 1) zs FL k (j + 1) V4) := Lib.hid ⟨N', P', C', p + u, hR', e4, HOF.out.trans ho3 (fun _ _ h => h), rdF_small HFD.out hfe hcp HSM.out, by rw [hcp]; exact HFL4.out.next N', by rw [hst]; simp only [Nat.add_assoc]⟩
      have HKF := Lib.hid (off3_kf (s := w6.heap.size) ho3 HM.out HBL.out HEQ.out)
      have HKE := Lib.hid (off3_ket (lo := w5.heap.size) ho3 HM.out HBL.out HEQ.out)
      have HSA := Lib.hid (setCell_same e4)
      clear hok4 hR' ho4 ho3 hst hfe hcp e4
      rw [show ((0 : Nat) : Int) = 0 from rfl]
      gi_wp2
      rw [HSA.out]
      exact ⟨HKF.out, HJ.out, HKE.out⟩
    · have hEn : ((E : Int) != 0) = true := by simpa using hE
      have hst := HST.out
      rw [if_pos hE] at hst
      have ho5 : Off (fun q => q = mb ∨ q = lb ∨ q = mb + 1 + 1) V2 (V4.setCell ⟨mb + 1 + 1, 0, none⟩ (.int .i64 (E : Int))) := ho3.setCell (p := ⟨mb + 1 + 1, 0, none⟩) (.inr (.inr rfl)) _
      have HKF := Lib.hid (off3_kf (s := w6.heap.size) ho5 HM.out HBL.out HEQ.out)
      have HX : Hid (∃ E' : Nat, E' ≠ 0 ∧ (rdL FL (Mg.zero k) zs).1 = E' ∧ (V4.setCell ⟨mb + 1 + 1, 0, none⟩ (.int .i64 (E : Int))).heap[mb + 1 + 1]? = some (.cells #[.int .i64 (E' : Int)] 29 (0, 0)) ∧ Off (fun q => q = mb ∨ q = lb ∨ q = mb + 1 + 1) w6 (V4.setCell ⟨mb + 1 + 1, 0, none⟩ (.int .i64 (E : Int)))) := Lib.hid ⟨E, hE, by rw [hst], by rw [setCell_at e4]; rfl, HOF.out.trans ho5 (fun _ _ h => h)⟩
      clear hok4 ho4 ho3 ho5 hst e4
      gi_wp2
      exact ⟨HKF.out, rfl, HX.out⟩
  case iter =>
    intro Bk X l V hBk hBlt hX hl hD hB hY
    have h := fall_in 8 (by omega) 7 l w5.heap.size k v (fun j V => DcI w6 w2.heap.size mb lb (mb + 1 + 1) zs FL k j V ∧ Bk V) X
      (fun j A B h hb => ⟨h.1.later hb, hBk A _ h.2 hb.size (fun q h1 h2 => by have := hBlt A h.2; exact hb.block q (by omega))⟩)
      (fun j f W h hf => by
        rw [HFL.out] at hf
        exact (hY j f W ⟨hf, h.1⟩ h.2 (List.getElem?_eq_some_iff.1 hf).1).mono (fun e W2 h => h.elim (fun h => .inl ⟨h.1, h.2.1, h.2.2.1⟩) (fun h => .inr ⟨h.1, h.2.1⟩)))
      V (by
        obtain ⟨_, _, _, _, _, _, h3, _⟩ := hD
        exact (h3.block _ (by omega) (by omega)).trans hg0) (by
        obtain ⟨_, _, _, _, _, _, h3, _⟩ := hD
        exact (h3.block _ (by omega) (by omega)).trans hg1) ⟨hD, hB⟩
    rw [HFL.out] at h
    exact h
  case done =>
    rintro D V hD hC hK
    obtain ⟨N, P, C, p, h1, h2, h3, hsm, -, h5⟩ := hC
    rw [List.drop_length] at h5
    simp only [rdL, Nat.add_zero] at h5
    have hR := HR.out
    rw [h5] at hR
    simp only [ne_eq, not_true_eq_false, if_false] at hR
    have hp := h1.l.place
    have ce := row_cell h2 0 _ rfl
    have cz := frozen_of_row V (mb + 1 + 1) 0 _ _ h2
    have k9 := row_cell ((h3.block _ (by omega) (by omega)).trans HP6.out) 0 _ rfl
    have HQ := Lib.hid ((h3.block _ (by omega) (by omega)).trans HQ6.out)
    have HB0 := Lib.hid (HB06.out.trans (h3.below (B := w.heap.size) (fun q hq => by omega) HB06.out.size))
    have KE := Lib.hid (lend_any _ _ _ _ _ _ h1.l (by rw [HLEN.out]; omega))
    have HKD0 := Lib.hid hK
    have hV := h3.size
    have HR1 := Lib.hid h1
    have HE1 := Lib.hid h2
    have HSM := Lib.hid hsm
    clear h1 h2 h3 hsm h5 hK hD0 hg0 hg1
    by_cases hlt : p < zs.length
    · rw [if_pos hlt] at hR
      have he3 : endOf zs p 0 = 3 := by unfold endOf; rw [if_neg (by simp), if_pos hlt]
      rw [he3] at KE
      have HR2 := Lib.hid hR
      clear hR
      gi_wp2_with fail
      refine ⟨trivial, (callsIn_wide.2 KE.out).mono ?_⟩
      rintro e V2 ⟨rfl, n2, rfl⟩
      have hb2 := below_of_drewN (B := V.heap.size) V n2
      obtain ⟨V2, hV2⟩ : ∃ V2, V.drewN n2 = V2 := ⟨_, rfl⟩
      rw [hV2] at hb2 ⊢
      have e2 := (hb2.block _ (Array.getElem?_eq_some_iff.1 HE1.out).1).trans HE1.out
      have ce2 := row_cell e2 0 _ rfl
      have cz2 := frozen_of_row V2 (mb + 1 + 1) 0 _ _ e2
      obtain ⟨V4, hV4⟩ : ∃ V4, V2.setCell ⟨mb + 1 + 1, 0, none⟩ (.int .i64 3) = V4 := ⟨_, rfl⟩
      have hof4 : Off (fun q => q = mb + 1 + 1) V2 V4 := by rw [← hV4]; exact Off.setCell (S := fun q => q = mb + 1 + 1) (p := ⟨mb + 1 + 1, 0, none⟩) (Off.refl _ V2) rfl _
      have HEE : Hid (V4.heap[mb + 1 + 1]? = some (.cells #[.int .i64 3] 29 (0, 0))) := Lib.hid (by rw [← hV4, setCell_at e2]; rfl)
      have hqq := (hb2.block _ (Array.getElem?_eq_some_iff.1 HQ.out).1).trans HQ.out
      have HQV := Lib.hid ((hof4.block _ (Array.getElem?_eq_some_iff.1 hqq).1 (by omega)).trans hqq)
      have hkk := (hb2.block _ (Array.getElem?_eq_some_iff.1 HKD0.out).1).trans HKD0.out
      have HKD := Lib.hid ((hof4.block _ (Array.getElem?_eq_some_iff.1 hkk).1 (by omega)).trans hkk)
      have HBV := Lib.hid ((HB0.out.trans (hb2.mono HB0.out.size)).trans (hof4.below (B := w.heap.size) (fun q hq => by omega) (by have := HB0.out.size; have := hb2.size; omega)))
      have HV4 := Lib.hid hV4
      clear KE hb2 hV2 e2 hof4 hqq hkk HQ HB0 HE1 HR1 HKD0 hV4
      rw [show ((3 : Nat) : Int) = 3 from rfl]
      gi_wp2_with fail
      rw [HV4.out]
      have lE : ∀ W, Off (fun q => q = w.heap.size) V4 W → (Instr.loadAt 29 (.pointer (some ⟨mb + 1 + 1, 0, none⟩))).run Try.prog W = .ok (.int .i64 3) W := fun W hW => by
        have k := row_cell ((hW.block _ (Array.getElem?_eq_some_iff.1 HEE.out).1 (by omega)).trans HEE.out) 0 _ rfl
        simp [Instr.loadAt, go_sem, k]
      refine wpIn_wide.2 ?_
      refine wp_region_order9 3 (0 :: 1 :: 2 :: []) (fun W => Off (fun q => q = w.heap.size) V4 W) (C := fun W => Below V4.heap.size V4 W) (by kernel_rfl) (by kernel_rfl) (by kernel_rfl) (Below.refl _ _).drew (fun W hW => Off.of_below hW) ?_
      refine wpO9_build (.agg #[.int .i64 0, .int .i64 0, .int .i64 0, .int .i64 0, .int .i64 0, .int .i64 0, .int .i64 0, .slice none 0 0, .slice none 0 0, .string ⟨#[]⟩, .string ⟨#[]⟩]) rfl rfl rfl (fun W _ => by simp [execOp, go_sem]) ?_
      simp only [Act.put, List.setIfInBounds_toArray, List.set_cons_succ, List.set_cons_zero]
      refine wpO9_load (ad := ⟨mb + 1 + 1, 0, none⟩) (.int .i64 3) rfl rfl rfl (by rfl) lE ?_
      simp only [Act.put, List.setIfInBounds_toArray, List.set_cons_succ, List.set_cons_zero]
      refine wpO9_store (fun W => ∃ W0, Below V4.heap.size V4 W0 ∧ W = W0.setRow w.heap.size #[.int .i64 0, .int .i64 0, .int .i64 0, .int .i64 0, .int .i64 0, .int .i64 0, .int .i64 0, .slice none 0 0, .slice none 0 0, .string ⟨#[]⟩, .string ⟨#[]⟩]) rfl rfl rfl rfl ⟨w.heap.size, 0, none⟩ (.agg #[.int .i64 0, .int .i64 0, .int .i64 0, .int .i64 0, .int .i64 0, .int .i64 0, .int .i64 0, .slice none 0 0, .slice none 0 0, .string ⟨#[]⟩, .string ⟨#[]⟩]) (by rfl) (by rfl) (fun W hW => ?_) (fun W hW => ?_) ?_
      · obtain ⟨W0, h1, rfl⟩ := hW
        exact Off.setRow (S := fun q => q = w.heap.size) (Off.of_below h1) rfl _
      · exact ⟨_, mg_store W w.heap.size _ _ ((hW.block _ (Array.getElem?_eq_some_iff.1 HQV.out).1).trans HQV.out) rfl rfl (mg_one (Mg.zero 0) _ _ _ _ _ _), W, hW, rfl⟩
      rintro V6 ⟨W0, hb0, rfl⟩
      simp only [List.drop_succ_cons, List.drop_zero]
      have q0 := (hb0.block _ (Array.getElem?_eq_some_iff.1 HQV.out).1).trans HQV.out
      have hrow := setRow_heap W0 w.heap.size _ #[.int .i64 0, .int .i64 0, .int .i64 0, .int .i64 0, .int .i64 0, .int .i64 0, .int .i64 0, .slice none 0 0, .slice none 0 0, .string ⟨#[]⟩, .string ⟨#[]⟩] _ _ q0
      have hof0 := Off.setRow (S := fun q => q = w.heap.size) (Off.refl _ W0) rfl #[.int .i64 0, .int .i64 0, .int .i64 0, .int .i64 0, .int .i64 0, .int .i64 0, .int .i64 0, .slice none 0 0, .slice none 0 0, .string ⟨#[]⟩, .string ⟨#[]⟩]
      have hbf : Below w.heap.size w (W0.setRow w.heap.size #[.int .i64 0, .int .i64 0, .int .i64 0, .int .i64 0, .int .i64 0, .int .i64 0, .int .i64 0, .slice none 0 0, .slice none 0 0, .string ⟨#[]⟩, .string ⟨#[]⟩]) := (HBV.out.trans (hb0.mono HBV.out.size)).trans (hof0.below (B := w.heap.size) (fun q hq => by omega) (by have := HBV.out.size; have := hb0.size; omega))
      have hkf := (hof0.block _ (by have := (Array.getElem?_eq_some_iff.1 HKD.out).1; have := hb0.size; omega) (by omega)).trans ((hb0.block _ (Array.getElem?_eq_some_iff.1 HKD.out).1).trans HKD.out)
      generalize W0.setRow w.heap.size _ = Vf at *
      have HRW := Lib.hid hrow
      have HBF := Lib.hid hbf
      have HKF := Lib.hid hkf
      clear lE q0 hrow hof0 hbf hkf hb0 HBV HKD
      go_wp2
      gi_wp2
      try simp only [Exit.noGoto]
      refine ⟨by simp, .inl ⟨_, _, rfl, run_takeDeferred HKF.out, ?_⟩⟩
      obtain ⟨y0, y1, y2, y3, y4, y5, y6, y7, y8, y9, y10⟩ := mg_block (M := Mg.zero 0) (P := .slice none 0 0) (C := .slice none 0 0) (W := Vf.putObj D (.deferred none)) ((World.putObj_heap_other (by omega)).trans HRW.out)
      refine ⟨.tuple #[.agg (mC (Mg.zero 0) (.slice none 0 0) (.slice none 0 0)), .int .i64 3], by simp [results, Try.f17, go_sem, y0, y1, y2, y3, y4, y5, y6, y7, y8, y9, y10, mC], ?_⟩
      rw [← HR2.out]
      exact ⟨_, rfl, ⟨_, _, rfl, MAt.zero _ _ _⟩, HBF.out.trans (below_put _ _ (by omega))⟩
    · rw [if_neg hlt] at hR
      have he3 : endOf zs p 0 = 0 := by unfold endOf; rw [if_neg (by simp), if_neg hlt]
      rw [he3] at KE
      have HR2 := Lib.hid hR
      clear hR
      gi_wp2_with fail
      refine ⟨trivial, (callsIn_wide.2 KE.out).mono ?_⟩
      rintro e V2 ⟨rfl, n2, rfl⟩
      have hb2 := below_of_drewN (B := V.heap.size) V n2
      obtain ⟨V2, hV2⟩ : ∃ V2, V.drewN n2 = V2 := ⟨_, rfl⟩
      rw [hV2] at hb2 ⊢
      have e2 := (hb2.block _ (Array.getElem?_eq_some_iff.1 HE1.out).1).trans HE1.out
      have ce2 := row_cell e2 0 _ rfl
      have cz2 := frozen_of_row V2 (mb + 1 + 1) 0 _ _ e2
      have HSA := Lib.hid (setCell_same e2)
      have h1 := HR1.out.later hb2
      have LM := Lib.hid (mg_read h1.m)
      have hmat : MAt V2 V2.heap.size N P C := by
        obtain ⟨⟨a, c, e1, e2, e3⟩, ⟨a', c', e4, e5, e6⟩⟩ := And.intro h1.p h1.c
        exact ⟨⟨a, c, e1, e2, e3.nums⟩, ⟨a', c', e4, e5, e6.nums⟩⟩
      have KP := mproject_any N P C v V2 HSM.out hmat
      unfold mV at KP LM
      have KP := Lib.hid KP
      have HQ2 := Lib.hid ((hb2.block _ (Array.getElem?_eq_some_iff.1 HQ.out).1).trans HQ.out)
      have HK2 := Lib.hid ((hb2.block _ (Array.getElem?_eq_some_iff.1 HKD0.out).1).trans HKD0.out)
      have HB2' := Lib.hid (HB0.out.trans (hb2.mono HB0.out.size))
      clear KE hb2 hV2 e2 HQ HB0 HE1 HR1 HKD0 h1 hmat
      rw [show ((0 : Nat) : Int) = 0 from rfl]
      gi_wp2_with (rw [HSA.out]; refine wpListIn_load_run rfl 26 (.tmp 8) rfl (some ⟨mb, 0, none⟩) rfl (.agg (mC N P C)) LM.out ?_)
      refine ⟨trivial, (callsIn_wide.2 KP.out).mono ?_⟩
      rintro e V3 ⟨P3, C3, rfl, hown3, hb3⟩
      obtain ⟨G, hG⟩ : ∃ G, mproj N v = G := ⟨_, rfl⟩
      rw [hG] at hown3 HR2 ⊢
      have hm3 := hown3.at
      obtain ⟨⟨a3, c3, rfl, -, -⟩, ⟨b3, cc3, rfl, -, -⟩⟩ := And.intro hm3.p hm3.c
      have hq3 := (hb3.block _ (Array.getElem?_eq_some_iff.1 HQ2.out).1).trans HQ2.out
      have hk3 := (hb3.block _ (Array.getElem?_eq_some_iff.1 HK2.out).1).trans HK2.out
      have hst := mg_store V3 w.heap.size _ (mC G (.slice a3 G.p.length c3) (.slice b3 G.c.length cc3)) hq3 rfl rfl (mg_one _ _ _ _ _ _ _)
      have hrow := setRow_heap V3 w.heap.size _ (mC G (.slice a3 G.p.length c3) (.slice b3 G.c.length cc3)) _ _ hq3
      have hof3 := Off.setRow (S := fun q => q = w.heap.size) (Off.refl _ V3) rfl (mC G (.slice a3 G.p.length c3) (.slice b3 G.c.length cc3))
      have hbq : w.heap.size < V2.heap.size := (Array.getElem?_eq_some_iff.1 HQ2.out).1
      have hown4 := hown3.off hof3 (fun g hg e => by have := (hown3.p.lt g hg).1; omega) (fun g hg e => by have := (hown3.c.lt g hg).1; omega)
      have hbf : Below w.heap.size w (V3.setRow w.heap.size (mC G (.slice a3 G.p.length c3) (.slice b3 G.c.length cc3))) := (HB2'.out.trans (hb3.mono HB2'.out.size)).trans (hof3.below (B := w.heap.size) (fun q hq => by omega) (by have := HB2'.out.size; have := hb3.size; omega))
      have hkf := (hof3.block _ (Array.getElem?_eq_some_iff.1 hk3).1 (by omega)).trans hk3
      obtain ⟨Vf, hVf⟩ : ∃ Vf, V3.setRow w.heap.size (mC G (.slice a3 G.p.length c3) (.slice b3 G.c.length cc3)) = Vf := ⟨_, rfl⟩
      rw [hVf] at hst hrow hown4 hbf hkf
      have HST := Lib.hid hst
      have HRW := Lib.hid hrow
      have HOW := Lib.hid hown4
      have HBF := Lib.hid hbf
      have HKF := Lib.hid hkf
      clear hst hrow hown3 hown4 hbf hkf hq3 hk3 hof3 hVf hm3 KP LM HSA hG
      unfold mV
      gi_wp2_with (refine wpListIn_store_run rfl 26 (.tmp 6) (.tmp 48) rfl (some ⟨w.heap.size, 0, none⟩) rfl (.agg (mC G (.slice a3 G.p.length c3) (.slice b3 G.c.length cc3))) rfl HST.out ?_)
      try simp only [Exit.noGoto]
      refine ⟨by simp, .inl ⟨_, _, rfl, run_takeDeferred HKF.out, ?_⟩⟩
      obtain ⟨y0, y1, y2, y3, y4, y5, y6, y7, y8, y9, y10⟩ := mg_block (W := Vf.putObj D (.deferred none)) ((World.putObj_heap_other (by omega)).trans HRW.out)
      refine ⟨.tuple #[.agg (mC G (.slice a3 G.p.length c3) (.slice b3 G.c.length cc3)), .int .i64 0], by simp [results, Try.f17, go_sem, y0, y1, y2, y3, y4, y5, y6, y7, y8, y9, y10, mC], ?_⟩
      rw [← HR2.out]
      refine ⟨_, rfl, ⟨_, _, rfl, ?_⟩, HBF.out.trans (below_put _ _ (by omega))⟩
      have ho5 : Off (fun k => k = D) Vf (Vf.putObj D (.deferred none)) := ⟨rfl, rfl, rfl, by simp [World.putObj], fun k _ hn => World.putObj_heap_other hn⟩
      exact (HOW.out.off ho5 (fun g hg e => by have := (HOW.out.p.lt g hg).1; have := (Array.getElem?_eq_some_iff.1 HK2.out).1; omega) (fun g hg e => by have := (HOW.out.c.lt g hg).1; have := (Array.getElem?_eq_some_iff.1 HK2.out).1; omega)).at
  case stop =>
    rintro D cd V hD ⟨rfl, E, hE, hrd, he, hof⟩ hK
    have hR := HR.out
    rw [if_pos (by rw [hrd]; exact hE), hrd] at hR
    have ce := row_cell he 0 _ rfl
    have e0 : ((E : Int) == 0) = false := by simpa using hE
    have e1 : ((E : Int) != 0) = true := by simpa using hE
    have HEE := Lib.hid he
    have HQV := Lib.hid ((hof.block _ (by omega) (by omega)).trans HQ6.out)
    have HBV := Lib.hid (HB06.out.trans (hof.below (B := w.heap.size) (fun q hq => by omega) HB06.out.size))
    have HKD := Lib.hid hK
    have HR2 := Lib.hid hR
    clear he hof hK hR hrd hD0 hg0 hg1
    gi_wp2_with fail
    have lE : ∀ W, Off (fun q => q = w.heap.size) V W → (Instr.loadAt 29 (.pointer (some ⟨mb + 1 + 1, 0, none⟩))).run Try.prog W = .ok (.int .i64 (E : Int)) W := fun W hW => by
      have k := row_cell ((hW.block _ (Array.getElem?_eq_some_iff.1 HEE.out).1 (by omega)).trans HEE.out) 0 _ rfl
      simp [Instr.loadAt, go_sem, k]
    refine wpIn_wide.2 ?_
    refine wp_region_order9 3 (0 :: 1 :: 2 :: []) (fun W => Off (fun q => q = w.heap.size) V W) (C := fun W => Below V.heap.size V W) (by kernel_rfl) (by kernel_rfl) (by kernel_rfl) (Below.refl _ _).drew (fun W hW => Off.of_below hW) ?_
    refine wpO9_build (.agg #[.int .i64 0, .int .i64 0, .int .i64 0, .int .i64 0, .int .i64 0, .int .i64 0, .int .i64 0, .slice none 0 0, .slice none 0 0, .string ⟨#[]⟩, .string ⟨#[]⟩]) rfl rfl rfl (fun W _ => by simp [execOp, go_sem]) ?_
    simp only [Act.put, List.setIfInBounds_toArray, List.set_cons_succ, List.set_cons_zero]
    refine wpO9_load (ad := ⟨mb + 1 + 1, 0, none⟩) (.int .i64 (E : Int)) rfl rfl rfl (by rfl) lE ?_
    simp only [Act.put, List.setIfInBounds_toArray, List.set_cons_succ, List.set_cons_zero]
    refine wpO9_store (fun W => ∃ W0, Below V.heap.size V W0 ∧ W = W0.setRow w.heap.size #[.int .i64 0, .int .i64 0, .int .i64 0, .int .i64 0, .int .i64 0, .int .i64 0, .int .i64 0, .slice none 0 0, .slice none 0 0, .string ⟨#[]⟩, .string ⟨#[]⟩]) rfl rfl rfl rfl ⟨w.heap.size, 0, none⟩ (.agg #[.int .i64 0, .int .i64 0, .int .i64 0, .int .i64 0, .int .i64 0, .int .i64 0, .int .i64 0, .slice none 0 0, .slice none 0 0, .string ⟨#[]⟩, .string ⟨#[]⟩]) (by rfl) (by rfl) (fun W hW => ?_) (fun W hW => ?_) ?_
    · obtain ⟨W0, h1, rfl⟩ := hW
      exact Off.setRow (S := fun q => q = w.heap.size) (Off.of_below h1) rfl _
    · exact ⟨_, mg_store W w.heap.size _ _ ((hW.block _ (Array.getElem?_eq_some_iff.1 HQV.out).1).trans HQV.out) rfl rfl (mg_one (Mg.zero 0) _ _ _ _ _ _), W, hW, rfl⟩
    rintro V6 ⟨W0, hb0, rfl⟩
    simp only [List.drop_succ_cons, List.drop_zero]
    have q0 := (hb0.block _ (Array.getElem?_eq_some_iff.1 HQV.out).1).trans HQV.out
    have hrow := setRow_heap W0 w.heap.size _ #[.int .i64 0, .int .i64 0, .int .i64 0, .int .i64 0, .int .i64 0, .int .i64 0, .int .i64 0, .slice none 0 0, .slice none 0 0, .string ⟨#[]⟩, .string ⟨#[]⟩] _ _ q0
    have hof0 := Off.setRow (S := fun q => q = w.heap.size) (Off.refl _ W0) rfl #[.int .i64 0, .int .i64 0, .int .i64 0, .int .i64 0, .int .i64 0, .int .i64 0, .int .i64 0, .slice none 0 0, .slice none 0 0, .string ⟨#[]⟩, .string ⟨#[]⟩]
    have hbf : Below w.heap.size w (W0.setRow w.heap.size #[.int .i64 0, .int .i64 0, .int .i64 0, .int .i64 0, .int .i64 0, .int .i64 0, .int .i64 0, .slice none 0 0, .slice none 0 0, .string ⟨#[]⟩, .string ⟨#[]⟩]) := (HBV.out.trans (hb0.mono HBV.out.size)).trans (hof0.below (B := w.heap.size) (fun q hq => by omega) (by have := HBV.out.size; have := hb0.size; omega))
    have hkf := (hof0.block _ (by have := (Array.getElem?_eq_some_iff.1 HKD.out).1; have := hb0.size; omega) (by omega)).trans ((hb0.block _ (Array.getElem?_eq_some_iff.1 HKD.out).1).trans HKD.out)
    generalize W0.setRow w.heap.size _ = Vf at *
    have HRW := Lib.hid hrow
    have HBF := Lib.hid hbf
    have HKF := Lib.hid hkf
    clear lE q0 hrow hof0 hbf hkf hb0 HBV HKD
    go_wp2
    gi_wp2
    try simp only [Exit.noGoto]
    refine ⟨by simp, .inl ⟨_, _, rfl, run_takeDeferred HKF.out, ?_⟩⟩
    obtain ⟨y0, y1, y2, y3, y4, y5, y6, y7, y8, y9, y10⟩ := mg_block (M := Mg.zero 0) (P := .slice none 0 0) (C := .slice none 0 0) (W := Vf.putObj D (.deferred none)) ((World.putObj_heap_other (by omega)).trans HRW.out)
    refine ⟨.tuple #[.agg (mC (Mg.zero 0) (.slice none 0 0) (.slice none 0 0)), .int .i64 (E : Int)], by simp [results, Try.f17, go_sem, y0, y1, y2, y3, y4, y5, y6, y7, y8, y9, y10, mC], ?_⟩
    rw [← HR2.out]
    exact ⟨_, rfl, ⟨_, _, rfl, MAt.zero _ _ _⟩, HBF.out.trans (below_put _ _ (by omega))⟩
theorem bdecode_any (k v : Int) (A : Option Addr) (len cap : Nat) (zs : List Int) (w : World) (hlen : zs.length = len) (hll : len ≤ 1000000) (hby : Bys zs) (hA : Nums .u8 w w.heap.size A zs) : Calls Try.prog 17 #[.int .i64 k, .int .i64 v, .slice A len cap] w fun e w' => DecR w (bdec k v zs) e w' := by
  by_cases hv : v = 1 ∨ v = 2
  · by_cases hk : FD k = []
    · exact bdecode_no k v A len cap zs w (.inr hk)
    · exact bdecode_yes k v A len cap zs w hlen hll hby hA hv hk
  · exact bdecode_no k v A len cap zs w (.inl (by omega))
end Go.Proofs.Ytmjbimmbphofjaa

namespace Go.Proofs.Ytmjbimmbphofjaa
open Go.RowKit Go.Shelf
set_option maxRecDepth 100000
attribute [local go_sem] Oper.semAt_some

theorem mg_oneV {w : World} {B : Nat} {M : Mg} {P C : Value} (h : MAt w B M P C) : (mC M P C).all (·.oneCell') = true := by
  obtain ⟨⟨a, c, rfl, -, -⟩, ⟨a', c', rfl, -, -⟩⟩ := h
  exact mg_one _ _ _ _ _ _ _
/-- a message is stored into a new box -/
theorem new_msg (W : World) {w : World} {B : Nat} {M : Mg} {P C : Value} (h : MAt w B M P C) : ∃ W2, (Instr.storeAt 26 (.pointer (some ⟨W.heap.size, 0, none⟩)) (.agg (mC M P C))).run Try.prog (W.alloc (.cells #[.int .i64 0, .int .i64 0, .int .i64 0, .int .i64 0, .int .i64 0, .int .i64 0, .int .i64 0, .slice none 0 0, .slice none 0 0, .string ⟨#[]⟩, .string ⟨#[]⟩] 26)) = .ok () W2 ∧
    W2.heap[W.heap.size]? = some (.cells (mC M P C) 26 (0, 0)) ∧ Below W.heap.size W W2 := by
  have r := World.alloc_heap_new W (.cells #[.int .i64 0, .int .i64 0, .int .i64 0, .int .i64 0, .int .i64 0, .int .i64 0, .int .i64 0, .slice none 0 0, .slice none 0 0, .string ⟨#[]⟩, .string ⟨#[]⟩] 26)
  have hb : Below W.heap.size W (W.alloc (.cells #[.int .i64 0, .int .i64 0, .int .i64 0, .int .i64 0, .int .i64 0, .int .i64 0, .int .i64 0, .slice none 0 0, .slice none 0 0, .string ⟨#[]⟩, .string ⟨#[]⟩] 26)) := (Below.refl _ W).alloc (Nat.le_refl _) _
  have hoff := Off.setRow (S := fun k => k = W.heap.size) (Off.refl _ (W.alloc (.cells #[.int .i64 0, .int .i64 0, .int .i64 0, .int .i64 0, .int .i64 0, .int .i64 0, .int .i64 0, .slice none 0 0, .slice none 0 0, .string ⟨#[]⟩, .string ⟨#[]⟩] 26))) rfl (mC M P C)
  exact ⟨_, mg_store _ _ _ (mC M P C) r rfl rfl (mg_oneV h), setRow_heap _ _ _ _ _ _ r, hb.trans (hoff.below (B := W.heap.size) (fun k hk => by omega) hb.size)⟩
theorem mproj_v2 (M : Mg) : mproj M 2 = M := by unfold mproj; rw [if_neg (by decide)]
set_option maxHeartbeats 16000000 in
theorem versions_go (X : Mg) (P Q : Value) (w : World) (h1 : MAt w w.heap.size X P Q) : Calls Try.prog 6 #[mV X P Q] w fun e w' => e = .returned (.bool true) ∧ Below w.heap.size w w' := by
  obtain ⟨w1, hw1⟩ : ∃ w1, w.alloc (.cells (mC X P Q) 26) = w1 := ⟨_, rfl⟩
  have hb1 : Below w.heap.size w w1 := by rw [← hw1]; exact (Below.refl _ w).alloc (Nat.le_refl _) _
  have q0 : w1.heap[w.heap.size]? = some (.cells (mC X P Q) 26 (0, 0)) := by rw [← hw1]; exact World.alloc_heap_new _ _
  have KX := Lib.hid (cut_F hb1.size (h1.below hb1))
  have HW1 := Lib.hid hw1
  have HB1 := Lib.hid hb1
  have HQ := Lib.hid q0
  clear hw1 hb1 q0 h1
  unfold mV
  go_enter Try.func6, Try.ntmps6
  go_wp2_with (rw [HW1.out]; refine wpList_load_run rfl 26 (.tmp 1) rfl (some ⟨w.heap.size, 0, none⟩) rfl (.agg (mC X P Q)) (mg_read HQ.out) ?_)
  refine KX.out.mono ?_
  rintro e w2 ⟨_, rfl, ⟨A, P, C, hsA, rfl, hA⟩, hb2⟩
  have r0 := (hb2.block _ (Array.getElem?_eq_some_iff.1 HQ.out).1).trans HQ.out
  obtain ⟨w3, hw3⟩ : ∃ w3, w2.setRow w.heap.size (mC A P C) = w3 := ⟨_, rfl⟩
  have hst := mg_store w2 w.heap.size _ (mC A P C) r0 rfl rfl (mg_oneV hA)
  rw [hw3] at hst
  have HST := Lib.hid hst
  have q3 : w3.heap[w.heap.size]? = some (.cells (mC A P C) 26 (0, 0)) := by rw [← hw3]; exact setRow_heap w2 _ _ _ _ _ r0
  have hs1 := HB1.out.size
  have hs2 := hb2.size
  have hoff := Off.setRow (S := fun k => w.heap.size ≤ k) (Off.refl _ w2) (Nat.le_refl w.heap.size) (mC A P C)
  have hb23 : Below w.heap.size w2 w3 := by rw [← hw3]; exact hoff.below (B := w.heap.size) (fun k hk => by omega) (by omega)
  have HB3 := Lib.hid (HB1.out.trans ((hb2.mono hs1).trans hb23))
  have hmA := (hA.below hb23).mono (B' := w3.heap.size) HB3.out.size
  have hlt := (Array.getElem?_eq_some_iff.1 q3).1
  have LM : Hid (∀ W, Below w3.heap.size w3 W → (Instr.loadAt 26 (.pointer (some ⟨w.heap.size, 0, none⟩))).run Try.prog W = .ok (.agg (mC A P C)) W) := Lib.hid fun W hW => mg_read ((hW.block _ hlt).trans q3)
  have K0 : Hid (∀ W, Below w3.heap.size w3 W → W.cell? ⟨w.heap.size, 0, none⟩ = some (.int .i64 A.k)) := Lib.hid fun W hW => row_cell ((hW.block _ hlt).trans q3) 0 _ rfl
  have KE : Hid (∀ v W, Below w3.heap.size w3 W → Calls Try.prog 8 #[.agg (mC A P C), .int .i64 v] W fun e w' => EncR W (benc A v) e w') := Lib.hid fun v W hW => bencode_any A P C v W hsA (hmA.later hW)
  have HMA := Lib.hid hmA
  have HSA := Lib.hid hsA
  clear hw3 hst hb23 hoff q3 r0 hA hmA hb2 hs1 hs2 KX HQ HW1 HB1 hsA
  unfold mV
  go_wp2_with (first | refine wpList_store_run rfl 26 (.tmp 1) (.tmp 12) rfl (some ⟨w.heap.size, 0, none⟩) rfl (.agg (mC A P C)) rfl HST.out ?_ | refine wpList_load_run rfl 26 (.tmp 1) rfl (some ⟨w.heap.size, 0, none⟩) rfl (.agg (mC A P C)) (LM.out w3 (Below.refl _ _)) ?_)
  refine (KE.out 1 w3 (Below.refl _ _)).mono ?_
  rintro e w4 ⟨x4, rfl, hm4⟩
  have HM4 := Lib.hid hm4
  have L4 := Lib.hid (LM.out w4 hm4.2)
  clear hm4
  go_wp2_with (refine wpList_load_run rfl 26 (.tmp 1) rfl (some ⟨w.heap.size, 0, none⟩) rfl (.agg (mC A P C)) L4.out ?_)
  refine (KE.out 2 w4 HM4.out.2).mono ?_
  rintro e w5 ⟨x5, rfl, hm5⟩
  have HM5 := Lib.hid hm5
  have HM45 := Lib.hid (HM4.out.later hm5.2)
  have hb35 := HM45.out.2
  have HB5 := Lib.hid (HB3.out.trans (hb35.mono HB3.out.size))
  have HB35 := Lib.hid hb35
  clear hm5 KE L4 HM4 hb35
  by_cases hck : mck A = 0
  · have hr1 : benc A 1 = (body A 1, 0) := by unfold benc; rw [if_neg (by decide), hck, if_neg (by simp)]
    have hr2 : benc A 2 = (body A 2, 0) := by unfold benc; rw [if_neg (by decide), hck, if_neg (by simp)]
    rw [hr1] at HM45 ⊢
    rw [hr2] at HM5 ⊢
    simp only at HM45 HM5 ⊢
    have hd1 := bdec_body (v := 1) (.inl rfl) hck
    have hd2 := bdec_body (v := 2) (.inr rfl) hck
    rw [mproj_v2] at hd2
    obtain ⟨A4, c4, rfl, hc4, hn4⟩ := HM45.out.slice
    obtain ⟨A5, c5, rfl, hc5, hn5⟩ := HM5.out.slice
    have hln1 := body_len (v := 1) (.inl rfl) hck
    have hln2 := body_len (v := 2) (.inr rfl) hck
    have hmo := (body_mono hck).1
    have HY1 := Lib.hid (body_byte A 1)
    have HY2 := Lib.hid (body_byte A 2)
    obtain ⟨z1, hz1⟩ : ∃ z1, body A 1 = z1 := ⟨_, rfl⟩
    obtain ⟨z2, hz2⟩ : ∃ z2, body A 2 = z2 := ⟨_, rfl⟩
    rw [hz1] at hd1 hc4 hn4 hln1 hmo HY1 ⊢
    rw [hz2] at hd2 hc5 hn5 hln2 hmo HY2 ⊢
    obtain ⟨n1, hn1⟩ : ∃ n1, z1.length = n1 := ⟨_, rfl⟩
    obtain ⟨n2, hn2⟩ : ∃ n2, z2.length = n2 := ⟨_, rfl⟩
    rw [hn1] at hc4 hln1 hmo ⊢
    rw [hn2] at hc5 hln2 hmo ⊢
    have D1 : Hid (∀ W, Below w5.heap.size w5 W → Calls Try.prog 17 #[.int .i64 A.k, .int .i64 1, .slice A4 n1 c4] W fun e w' => DecR W (0, mproj A 1) e w') := Lib.hid fun W hW => by
      have := bdecode_any A.k 1 A4 n1 c4 z1 W hn1 (by omega) HY1.out ((hn4.below hW).mono hW.size)
      rwa [hd1] at this
    have D2 : Hid (∀ W, Below w5.heap.size w5 W → Calls Try.prog 17 #[.int .i64 A.k, .int .i64 2, .slice A5 n2 c5] W fun e w' => DecR W (0, A) e w') := Lib.hid fun W hW => by
      have := bdecode_any A.k 2 A5 n2 c5 z2 W hn2 (by omega) HY2.out ((hn5.below hW).mono hW.size)
      rwa [hd2] at this
    have k5 := K0.out w5 HB35.out
    clear hr1 hr2 hd1 hd2 hn4 hn5 hz1 hz2 hn1 hn2 HM45 HM5 hck
    go_wp2_with fail
    refine (D1.out w5 (Below.refl _ _)).mono ?_
    rintro e w6 ⟨_, rfl, ⟨Px, Cx, rfl, hmx⟩, hb6⟩
    clear k5
    obtain ⟨w7, hst7, q7, hb7⟩ := new_msg w6 hmx
    have HST7 := Lib.hid hst7
    have hb57 := hb6.trans (hb7.mono hb6.size)
    have hl7 := (Array.getElem?_eq_some_iff.1 q7).1
    have HX7 := Lib.hid (And.intro q7 (hmx.later hb7))
    have k7 := K0.out w7 (HB35.out.trans (hb57.mono HB35.out.size))
    have HB57 := Lib.hid hb57
    clear hst7 q7 hb7 hb6 hb57 hmx D1
    simp only
    unfold mV
    go_wp2_with (refine wpList_store_run rfl 26 (.tmp 7) (.tmp 34) rfl (some ⟨w6.heap.size, 0, none⟩) rfl (.agg (mC (mproj A 1) Px Cx)) rfl HST7.out ?_)
    refine (D2.out w7 HB57.out).mono ?_
    rintro e w8 ⟨_, rfl, ⟨Py, Cy, rfl, hmy⟩, hb8⟩
    clear k7
    obtain ⟨w9, hst9, q9, hb9⟩ := new_msg w8 hmy
    have HST9 := Lib.hid hst9
    have hb79 := hb8.trans (hb9.mono hb8.size)
    have hl9 := (Array.getElem?_eq_some_iff.1 q9).1
    have HX9 := Lib.hid (And.intro ((hb79.block _ hl7).trans HX7.out.1) (HX7.out.2.later hb79))
    have HY9 := Lib.hid (And.intro q9 (hmy.later hb9))
    have hb39 : Below w3.heap.size w3 w9 := HB35.out.trans ((HB57.out.trans (hb79.mono HB57.out.size)).mono HB35.out.size)
    have HB39 := Lib.hid hb39
    clear hst9 q9 hb8 hb9 hb79 hb39 hmy D2 HX7
    simp only
    go_wp2_with (refine wpList_store_run rfl 26 (.tmp 9) (.tmp 41) rfl (some ⟨w8.heap.size, 0, none⟩) rfl (.agg (mC A Py Cy)) rfl HST9.out ?_)
    have hmo2 : (n1 : Int) ≤ (n2 : Int) := by omega
    have lY : ∀ W, Below w9.heap.size w9 W → (Instr.loadAt 26 (.pointer (some ⟨w8.heap.size, 0, none⟩))).run Try.prog W = .ok (.agg (mC A Py Cy)) W := fun W hW => mg_read ((hW.block _ hl9).trans HY9.out.1)
    have lX : ∀ W, Below w9.heap.size w9 W → (Instr.loadAt 26 (.pointer (some ⟨w6.heap.size, 0, none⟩))).run Try.prog W = .ok (.agg (mC (mproj A 1) Px Cx)) W := fun W hW => mg_read ((hW.block _ (Array.getElem?_eq_some_iff.1 HX9.out.1).1).trans HX9.out.1)
    have lM : ∀ W, Below w9.heap.size w9 W → (Instr.loadAt 26 (.pointer (some ⟨w.heap.size, 0, none⟩))).run Try.prog W = .ok (.agg (mC A P C)) W := fun W hW => LM.out W (HB39.out.trans (hW.mono HB39.out.size))
    have FM : ∀ W, Below w9.heap.size w9 W → FMs A (.agg (mC A P C)) W := fun W hW => ⟨P, C, rfl, HMA.out.later (HB39.out.trans (hW.mono HB39.out.size))⟩
    have FY : ∀ W, Below w9.heap.size w9 W → FMs A (.agg (mC A Py Cy)) W := fun W hW => ⟨Py, Cy, rfl, HY9.out.2.later hW⟩
    have FX : ∀ W, Below w9.heap.size w9 W → FMs (mproj A 1) (.agg (mC (mproj A 1) Px Cx)) W := fun W hW => ⟨Px, Cx, rfl, HX9.out.2.later hW⟩
    have hsP := mproj_small HSA.out 1
    refine wp_region_F 70 [67] (fun _ x W => FMs (mproj A 1) x W) (fun W => Below w9.heap.size w9 W) (by kernel_rfl) (by kernel_rfl) (by rfl) (by simp) (fun W W' h hb => h.trans (hb.mono h.size)) (fun s x W W' h hb => h.later hb) (Below.refl _ _).drew ?_
    refine wpF_call (f := 16) (args := #[]) (.bool true) rfl rfl (fun x => by first | rfl | (simp [go_sem]; done)) (fun W hW => bdknown_any W) ?_
    simp only [Act.put, List.setIfInBounds_toArray, List.set_cons_succ, List.set_cons_zero]
    repeat (refine wpF_pure rfl rfl ?_; go_big_quiet_step (fail); refine wpQuiet_nil ?_)
    refine wpF_load (ad := ⟨w8.heap.size, 0, none⟩) (.agg (mC A Py Cy)) rfl (by rfl) (by rfl) (by rfl) lY ?_
    simp only [Act.put, List.setIfInBounds_toArray, List.set_cons_succ, List.set_cons_zero]
    refine wpF_load (ad := ⟨w.heap.size, 0, none⟩) (.agg (mC A P C)) rfl (by rfl) (by rfl) (by rfl) lM ?_
    simp only [Act.put, List.setIfInBounds_toArray, List.set_cons_succ, List.set_cons_zero]
    refine wpF_call (f := 22) (args := #[.agg (mC A Py Cy), .agg (mC A P C)]) (.bool true) rfl rfl (fun x => by first | rfl | (simp [go_sem]; done)) (fun W hW => by
      have := same_F HSA.out (FY W hW) (FM W hW)
      rwa [decide_eq_true rfl] at this) ?_
    simp only [Act.put, List.setIfInBounds_toArray, List.set_cons_succ, List.set_cons_zero]
    repeat (refine wpF_pure rfl rfl ?_; go_big_quiet_step (fail); refine wpQuiet_nil ?_)
    refine wpF_load (ad := ⟨w6.heap.size, 0, none⟩) (.agg (mC (mproj A 1) Px Cx)) rfl (by rfl) (by rfl) (by rfl) lX ?_
    simp only [Act.put, List.setIfInBounds_toArray, List.set_cons_succ, List.set_cons_zero]
    refine wpF_load (ad := ⟨w8.heap.size, 0, none⟩) (.agg (mC A Py Cy)) rfl (by rfl) (by rfl) (by rfl) lY ?_
    simp only [Act.put, List.setIfInBounds_toArray, List.set_cons_succ, List.set_cons_zero]
    refine wpF_callsrc 67 (f := 23) (args := #[.agg (mC A Py Cy), .int .i64 1]) (by simp) rfl rfl rfl (fun x => by first | rfl | (simp [go_sem]; done)) (fun W hW => proj_F 1 HSA.out (FY W hW)) ?_
    simp only [Act.put, List.setIfInBounds_toArray, List.set_cons_succ, List.set_cons_zero]
    refine wpF_use 67 24 (f := 22) (fun x => #[.agg (mC (mproj A 1) Px Cx), x]) (.bool true) (by simp) rfl (by kernel_rfl) (by kernel_rfl) (by kernel_rfl) (fun x => by rfl) (fun x W => by first | rfl | (simp [go_sem]; done)) (fun x W hW hx => by
      have := same_F hsP (FX W hW) hx
      rwa [decide_eq_true rfl] at this) ?_
    simp only [Act.put, List.setIfInBounds_toArray, List.set_cons_succ, List.set_cons_zero]
    repeat (refine wpF_pure rfl rfl ?_; go_big_quiet_step (fail); refine wpQuiet_nil ?_)
    intro xs w10 hb10 hxs
    have HF := Lib.hid (HB3.out.trans ((HB39.out.trans (hb10.mono HB39.out.size)).mono HB3.out.size))
    clear lY lX lM FM FY FX hxs hb10
    simp only [fill, Act.put, List.setIfInBounds_toArray, List.set_cons_succ, List.set_cons_zero]
    go_wp2
    go_ret
    exact ⟨rfl, HF.out⟩
  · have hr1 : benc A 1 = ([], mck A) := by unfold benc; rw [if_neg (by decide), if_pos hck]
    have hr2 : benc A 2 = ([], mck A) := by unfold benc; rw [if_neg (by decide), if_pos hck]
    rw [hr1, hr2]
    obtain ⟨E, hE⟩ : ∃ E, mck A = E := ⟨_, rfl⟩
    rw [hE] at hck ⊢
    have e1 : (E != 0) = true := by simpa using hck
    have e2 : (E != E) = false := by simp
    clear HM45 HM5 hr1 hr2 hE
    go_wp2_with fail
    refine (bdknown_any w5).mono ?_
    rintro e w6 ⟨rfl, hb6⟩
    have HB6 := Lib.hid (HB5.out.trans (hb6.mono HB5.out.size))
    clear hb6
    go_wp2
    go_ret
    exact ⟨rfl, HB6.out⟩
end Go.Proofs.Ytmjbimmbphofjaa

namespace Go.Proofs.Ytmjbimmbphofjaa.bodyVersions
open Go.ChangeShapes Go.WideShapes Go.ChangeAt Go.RowKit
open Go.ChangeMaps (open_string shut_string)
set_option linter.unusedVariables false

theorem own : ownKnob Try.prog.godebug = none := by kernel_rfl
theorem laidOut : laidOutB Try.prog = true := by kernel_rfl

set_option maxRecDepth 100000 in
theorem lifted (os : Os) (started : os.Started) (H : Type) (enc : TypeId × Value → H) :
    ReturnsInHanded {} Try.checked os 6 .any (Rows.bodyVersionsSpec.pre6 enc Try.prog Try.f6 Rows.bodyVersionsRow.domain false) (Rows.bodyVersionsSpec.post enc Try.prog Try.f6 false true false false) := by
  refine returnsInHanded_of_change (C := Try.checked) own started (by kernel_rfl) Try.func6
    (ChangeSpec.witness6 (enc := enc) (C := Try.checked) false ⟨#[], #[.agg #[.int .i64 0, .int .i64 0, .int .i64 0, .int .i64 0, .int .i64 0, .int .i64 0, .int .i64 0, .slice none 0 0, .slice none 0 0, .string ⟨#[]⟩, .string ⟨#[]⟩]], []⟩ 8 (by kernel_rfl) (by kernel_rfl) (by kernel_rfl) (by kernel_rfl)) ?_
  intro W base args ds gs before hval0 hW hcnd _
  have hval : ∀ (j : Nat) t v, Try.f6.params[j]? = some t → args[j]? = some v → Value.okWide Try.prog W .any base t v := hval0
  have hW' := hW
  obtain ⟨p, q, hA0, hV, rfl, hfz, hnd⟩ := hW
  have hA : DataW.TrodAll enc Try.prog W 0 (fun _ => true) true Try.f6.params.toList args.toList ds p := hA0
  rw [Try.params6] at hA hval
  obtain ⟨v0, vs0, d0, ds0, p0, q0, hargs, rfl, rfl, h0, r0⟩ := trodAll_cons hA
  obtain ⟨rfl, rfl, rfl⟩ := trodAll_nil r0
  obtain rfl : args = #[v0] := by cases args; simp_all
  obtain ⟨rfl, rfl⟩ := trodVars_none hV
  have k0 := h0
  have lt0 : ∀ x ∈ p0, x.block < W.heap.size := by obtain ⟨m, hm⟩ := k0; exact DataW.trod_lt m _ _ _ hm
  obtain ⟨mM0, mP0, mC0, rfl, y0⟩ := open_msg (hval 0 26 v0 rfl rfl) h0
  clear hA0 hval0
  refine (versions_go mM0 mP0 mC0 W y0).mono fun e W' ⟨he, bel⟩ => ?_
  subst he
  exact ⟨_, rfl, _, _, _, [], _, [], hW', trodAll_mk1 (shut_bool Try.underlying4 _), (trodAll_cons_mk (Below.trod laidOut (by kernel_rfl) (of_decide_eq_true (by kernel_rfl)) k0 bel lt0) trodAll_mk0), rfl, bel.frame _, fun h => by cases h⟩

theorem over : Rows.bodyVersionsRow.holds Try.pinned (OpenSpec.ofChange Rows.bodyVersionsSpec) :=
  OpenClaim.holds_of_wide 6 Try.f6 rfl rfl rfl rfl rfl rfl rfl ⟨rfl, rfl, rfl, rfl, rfl⟩ rfl rfl rfl rfl rfl (by kernel_rfl) Try.func6 (by kernel_rfl)
    (of_decide_eq_true (by kernel_rfl)) (by unfold Func.isWrapper; first | (rw [if_pos (by decide +kernel)]; kernel_rfl) | (rw [if_neg (by decide +kernel)]; exact ⟨rfl, rfl⟩))
    (fun os started H enc _ => lifted os started H enc)

theorem proved : Rows.BodyVersionsSaid := over
#print axioms proved
end Go.Proofs.Ytmjbimmbphofjaa.bodyVersions
