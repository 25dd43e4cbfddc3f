/-
  Contract of the document's Chunks.
-/
import Derived.Test.YtemafhaeppifoaaFenV
import Derived.Test.YtemafhaeppifoaaLs1
namespace Go.Proofs.Ytemafhaeppifoaa
open Go.RowKit Go.Shelf
set_option maxRecDepth 100000
attribute [local go_sem] Oper.semAt_some

/-- what the document's Chunks leaves -/
def RCh (w : World) (ps : List (List Int)) (e : Ending) (w' : World) : Prop := ∃ A c, e = .returned (.slice A ps.length c) ∧ ps.length ≤ c ∧ ListAt .u8 w' w'.heap.size A ps ∧ Below w.heap.size w w'
theorem RCh.of {w w' : World} {ps O : List (List Int)} {v : Value} {xs : List Value} {te tl : TypeId} {base : Nat} (h : L1 te tl .u8 base w' v xs O) (he : ps = O) (hb : Below w.heap.size w w') : RCh w ps (.returned v) w' := by
  subst he
  obtain ⟨A, c, rfl, hc, hl⟩ := h.lies
  exact ⟨A, c, rfl, hc, hl, hb⟩
theorem parts_one {zs : List Int} {ps : List (List Int)} (h : Fc.Parts [(zs.length : Int)] 0 zs ps) : ps = if zs = [] then [] else [zs] := by
  by_cases h0 : zs = []
  · rw [if_pos h0]; exact h.nil h0
  · rw [if_neg h0]
    obtain ⟨s, qs, hs, hp, hr⟩ := h.cons h0
    simp at hs
    subst hs
    have hc : Fc.clip (zs.length : Int) zs.length = zs.length := by unfold Fc.clip; omega
    rw [hc, List.take_length] at hp
    rw [hc, List.drop_length] at hr
    rw [hp, hr.nil rfl]
def lsLen : Value → Nat
  | .slice _ n _ => n
  | _ => 0

set_option maxHeartbeats 4000000 in
theorem rchunks_any (a : Option Addr) (n c : Nat) (zs : List Int) (a2 : Option Addr) (q c2 : Nat) (ss R : List Int) (ps : List (List Int)) (w : World) (hn : zs.length = n) (hc : n ≤ c) (hl : n ≤ 1000000) (h1 : Nums .u8 w w.heap.size a zs)
    (hn2 : ss.length = q) (hl2 : q ≤ 1000000) (hcc : q ≤ c2) (h2 : Nums .i64 w w.heap.size a2 ss) (hr : rnd ss n R) (hp : Fc.Parts R 0 zs ps) (hpl : ps.length ≤ 1000000) :
    Calls Try.prog 15 #[.slice a n c, .slice a2 q c2] w (RCh w ps) := by
  obtain ⟨i0, hi, hz0, hzz1, hzz2⟩ := info_parts byteInfo
  obtain ⟨j0, hj, hj0, hj1, hj2⟩ := info_parts listInfo
  have HL := Lib.hid hn
  have HQ := Lib.hid hn2
  have HR := Lib.hid hr
  have HP := Lib.hid hp
  clear hn hn2 hr hp
  go_enter Try.func15, Try.ntmps15
  go_wp2
  go_loopw [5, 6] (fun bv iv wr => ∃ (k : Nat) (bb : Bool), k ≤ q ∧ iv = .int .i64 (k : Int) ∧ bv = .bool bb ∧ Hid (bb = true → ∀ s ∈ ss.take k, s ≤ 0) ∧ Hid (bb = false → ∃ s ∈ ss, 0 < s) ∧ wr = w) (fun _ iv _ => q - (intOf iv).toNat)
  case atStart => exact ⟨0, true, by omega, rfl, rfl, fun _ s hs => by simp at hs, fun h => by simp at h, rfl⟩
  case round =>
    obtain ⟨k, bb, hk, rfl, rfl, HT, HF, rfl⟩ := hrel
    by_cases hlt : k < q
    · obtain ⟨z, hz⟩ : ∃ z, ss[k]? = some z := ⟨_, List.getElem?_eq_getElem (by rw [HQ.out]; exact hlt)⟩
      obtain ⟨b1, o1, rfl, hb1, hc1⟩ := h2.open hz
      have hlt' : (k : Int) < (q : Int) := by omega
      by_cases hz0 : 0 < z
      · have HF2 : Hid (false = false → ∃ s ∈ ss, 0 < s) := fun _ => ⟨z, List.mem_of_getElem? hz, hz0⟩
        clear hz h1 h2
        go_wp2
        go_roundw
        case rel => exact ⟨k + 1, false, by omega, by go_num, rfl, fun h => by simp at h, HF2, trivial⟩
        case measure => simp [intOf]; omega
      · have HT2 : Hid (bb = true → ∀ s ∈ ss.take (k + 1), s ≤ 0) := fun hb => by
          rw [List.take_add_one, hz]
          intro s hs
          rcases List.mem_append.1 hs with h | h
          · exact HT.out hb s h
          · simp at h; subst h; omega
        clear hz h1 h2
        go_wp2
        go_roundw
        case rel => exact ⟨k + 1, bb, by omega, by go_num, rfl, HT2, HF, trivial⟩
        case measure => simp [intOf]; omega
    · have hkq : k = q := by omega
      subst hkq
      cases bb with
      | true =>
        have hall : ∀ s ∈ ss, s ≤ 0 := by
          have := HT.out rfl
          rwa [List.take_of_length_le (by rw [HQ.out]; omega)] at this
        have hps : ps = if zs = [] then [] else [zs] := by
          rcases HR.out with ⟨⟨s, hs, h0⟩, _⟩ | ⟨_, hR⟩
          · have := hall s hs; omega
          · have h := HP.out
            rw [hR, ← HL.out] at h
            exact parts_one h
        clear HT HF hall hlt
        by_cases hn0 : n = 0
        · have hz : zs = [] := List.eq_nil_of_length_eq_zero (HL.out.trans hn0)
          have HE : Hid (ps = []) := by show _ = _; rw [hps, if_pos hz]
          have hn1 : ¬ (0 : Int) < (n : Int) := by omega
          clear hps hz
          go_wp2
          go_ret
          exact RCh.of (L1.start 5 22 .u8 wr.heap.size wr) HE.out (Below.refl _ _)
        · have hz : ¬ zs = [] := fun e => hn0 (by rw [← HL.out, e]; rfl)
          have HE : Hid (ps = [zs]) := by show _ = _; rw [hps, if_neg hz]
          have hn1 : (0 : Int) < (n : Int) := by omega
          have HK1 := Lib.hid (MadeK.lit 5 .u8 (Below.refl wr.heap.size wr))
          have HA1 := Lib.hid (h1.below ((Below.refl wr.heap.size wr).alloc (Nat.le_refl _) (.cells #[] 5)))
          have HX1 : Hid (([] : List Int).length + n ≤ maxLen) := by show _ ≤ _; unfold maxLen; simp only [List.length_nil]; omega
          have HX2 : Hid ((([] : List Int).length + n) * 1 ≤ 140737488355328) := by show _ ≤ _; simp only [List.length_nil]; omega
          clear hps hz h1 h2
          go_wp2_with (at_builtin; refine wpList_append_any rfl (.tmp 27) (.tmp 28) 22 rfl _ 5 i0 (.int .u8 0) 1 Try.underlying22 hi hz0 hzz1 hzz2 rfl .u8 [] zs _ rfl HK1.out.1 _ _ _ _ rfl HL.out HA1.out HX1.out HX2.out HK1.out.2.size ?_)
          intro v1 w1 hown hg
          have HM1 := Lib.hid (HK1.out.more (zs := zs) (v' := v1) (by simpa using hown) hg)
          rw [List.nil_append] at HM1
          clear hown hg HK1 HA1 HX1 HX2
          obtain ⟨A1, k1, rfl, hk1, _⟩ := HM1.out.slice
          have HEl := Lib.hid (El1.of_made HM1.out (Nat.le_refl _))
          have hb1 := HM1.out.2
          have hs1 := hb1.size
          rw [HL.out] at HEl hk1 ⊢
          have HY1 : Hid (([] : List (List Int)).length + 1 ≤ maxLen) := by show _ ≤ _; unfold maxLen; simp
          have HY2 : Hid ((([] : List (List Int)).length + 1) * 24 ≤ 140737488355328) := by show _ ≤ _; simp
          have HY3 : Hid (wr.heap.size ≤ (w1.alloc (.cells #[.slice A1 n k1] 22)).heap.size) := by show _ ≤ _; rw [World.size_alloc]; omega
          have HS0 := Lib.hid (L1.start 5 22 .u8 wr.heap.size w1)
          clear HM1
          go_wp2_with (at_builtin; refine wpList_append_own_at _ rfl (.tmp 26) (.tmp 30) 23 rfl wr.heap.size 22 j0 (.slice none 0 0) 1 24 Try.underlying23 hj hj0 hj1 hj2 rfl (by decide) _ _ _ rfl (HS0.out.out.alloc _) ⟨w1.heap.size, 0, none⟩ 1 1 [_] rfl rfl (cell_one_new _ _ _) (by simp [Value.oneCell']) HY1.out HY2.out HY3.out ?_)
          intro v2 w2 hown hg _ _
          have HL2 := Lib.hid (HS0.out.push (b := zs) (by decide) HEl.out hown hg)
          have HB2 := Lib.hid ((hb1.alloc hs1 (.cells #[.slice A1 n k1] 22)).grown hg (by rw [World.size_alloc]; omega) (fun g hk => (HS0.out.out.lt g hk).1))
          clear hown hg
          go_wp2
          go_ret
          exact RCh.of HL2.out HE.out HB2.out
      | false =>
        have hex := HF.out rfl
        have hRs : R = ss := by
          rcases HR.out with ⟨_, h⟩ | ⟨hall, _⟩
          · exact h
          · obtain ⟨s, hs, h0⟩ := hex; have := hall s hs; omega
        have hq0 : 0 < k := by
          obtain ⟨s, hs, h0⟩ := hex
          rw [← HQ.out]
          exact List.length_pos_of_mem hs
        have HPs : Hid (Fc.Parts ss 0 zs ps) := by
          have h := HP.out
          rw [hRs] at h
          exact h
        obtain ⟨wz, hwz⟩ : ∃ wz, wr = wz := ⟨_, rfl⟩
        rw [hwz] at h1 h2
        have HWZ := Lib.hid hwz
        clear HT HF hex hRs hlt hwz HR HP
        go_wp2
        go_loopw [7, 8, 9] (fun v av iv wi => ∃ (p : Nat) (pre rest : List (List Int)) (xs : List Value), p ≤ n ∧ av = .int .i64 (p : Int) ∧ iv = .int .i64 ((pre.length : Nat) : Int) ∧ lsLen v = pre.length ∧ Hid (Fc.Parts ss (pre.length % k) (zs.drop p) rest) ∧ Hid (ps = pre ++ rest) ∧ Hid (L1 5 22 .u8 wz.heap.size wi v xs pre) ∧ Hid (Below wz.heap.size wz wi))
          (fun v _ _ _ => ps.length - lsLen v)
        case atStart => exact ⟨0, [], ps, [], by omega, rfl, rfl, rfl, by rw [List.length_nil, Nat.zero_mod]; exact HPs, rfl, L1.start _ _ _ _ _, by rw [HWZ.out]; exact Below.refl _ _⟩
        case round =>
          obtain ⟨p, pre, rest, xs, hpn, rfl, rfl, hvl, HPr, HE, HV, HB⟩ := hrel
          by_cases hlt : p < n
          · have hLn : zs.drop p ≠ [] := fun e => by have := congrArg List.length e; rw [List.length_drop, HL.out] at this; simp at this; omega
            obtain ⟨s, qs, hs, hrest, hPn⟩ := HPr.out.cons hLn
            have hdl : (zs.drop p).length = n - p := by rw [List.length_drop, HL.out]
            rw [hdl] at hrest hPn
            rw [HQ.out] at hPn
            obtain ⟨cl, hcl⟩ : ∃ cl, Fc.clip s (n - p) = cl := ⟨_, rfl⟩
            have hclm := Fc.clip_le s (n - p)
            have hcase : (s < 0 ∧ cl = 0) ∨ (0 ≤ s ∧ s = (cl : Int) ∧ cl ≤ n - p) ∨ (((n : Int) - (p : Int)) < s ∧ 0 ≤ s ∧ cl = n - p) := by
              rw [← hcl]; unfold Fc.clip; omega
            rw [hcl] at hrest hPn hclm
            obtain ⟨b2, o2, rfl, hb2, hcell⟩ := (h2.below HB.out).open hs
            have hpl2 : pre.length < ps.length := by rw [HE.out, hrest, List.length_append, List.length_cons]; omega
            obtain ⟨i, hi2⟩ : ∃ i, pre.length = i := ⟨_, rfl⟩
            have HI := Lib.hid hi2
            rw [hi2] at hPn hs hcell hpl2 hvl ⊢
            obtain ⟨r, hr⟩ : ∃ r, i % k = r := ⟨_, rfl⟩
            have hrk : r < k := by rw [← hr]; exact Nat.mod_lt _ hq0
            have hrem : Int.tmod (i : Int) (k : Int) = (r : Int) := by rw [← hr]; exact (Int.ofNat_tmod i k).symm ▸ rfl
            have HRm := Lib.hid hr
            rw [hr] at hs hcell hPn
            have hk0 : ¬ (k : Int) = 0 := by omega
            have hrk' : (r : Int) < (k : Int) := by omega
            have hkc : (k : Int) ≤ (c2 : Int) := by omega
            have hlt' : (p : Int) < (n : Int) := by omega
            have hnc : (n : Int) ≤ (c : Int) := by omega
            have HC := Lib.hid hcell
            have hbr := HB.out
            have hbs := hbr.size
            have htl : ((zs.drop p).take cl).length = cl := by rw [List.length_take, hdl]; omega
            have hdd : zs.drop (p + cl) = (zs.drop p).drop cl := by rw [List.drop_drop]
            have HDD := Lib.hid hdd
            have HK1 := Lib.hid (MadeK.lit 5 .u8 (Below.refl wr.heap.size wr))
            have HA1 : Hid (Nums .u8 (wr.alloc (.cells #[] 5)) wz.heap.size (a.map (·.add p)) ((zs.drop p).take cl)) := by
              have h := (h1.below (hbr.alloc hbs (.cells #[] 5))).drop (i := p) (cap := c) (by rw [HL.out]; exact hc)
              rw [if_neg (by omega)] at h
              exact h.take cl
            have HY1 : Hid (pre.length + 1 ≤ maxLen) := by show _ ≤ _; unfold maxLen; omega
            have HY2 : Hid ((pre.length + 1) * 24 ≤ 140737488355328) := by show _ ≤ _; omega
            have hsum : (p : Int) + ((n : Int) - (p : Int)) = (n : Int) := by omega
            have HPN := Lib.hid hPn
            have HE2 : Hid (ps = (pre ++ [(zs.drop p).take cl]) ++ qs) := by show _ = _; rw [HE.out, hrest, List.append_assoc]; rfl
            have hrr : (i + 1) % k = (r + 1) % k := by rw [← HRm.out, Nat.mod_add_mod]
            have HRR := Lib.hid hrr
            obtain ⟨cs, hcs⟩ : ∃ cs, (zs.drop p).take cl = cs := ⟨_, rfl⟩
            rw [hcs] at HA1 HE2 htl
            have HTL := Lib.hid htl
            have hcpn : cl ≤ n - p := hclm
            clear hcs htl hdd
            clear hs hLn hdl hcl hi2 hr hpn hPn hrest hrr HE HPr
            obtain ⟨d, hd⟩ : ∃ d, n - p = d := ⟨_, rfl⟩
            have hd2 : n = p + d := by omega
            rcases hcase with ⟨hs0, hc0⟩ | ⟨hs0, hs1, hs2⟩ | ⟨hs0, hs1, hs2⟩
            · have hf1 : ¬ (n : Int) - (p : Int) < 0 := by omega
              have HF := Lib.hid hc0
              clear hc0 hd hd2 hclm hcpn
              go_wp2_with (at_builtin; refine wpList_append_any rfl (.tmp 59) (.tmp 65) 22 rfl _ 5 i0 (.int .u8 0) 1 Try.underlying22 hi hz0 hzz1 hzz2 rfl .u8 [] cs _ rfl HK1.out.1 _ _ _ _ rfl ?hmA HA1.out ?caA ?cbA HK1.out.2.size ?_)
              all_goals try (first | exact HTL.out | exact List.eq_nil_of_length_eq_zero (HTL.out.trans HF.out) | (show cs.length = _; rw [HTL.out]; first | omega | (have := HF.out; omega)) | (show _ ≤ maxLen; unfold maxLen; omega) | (show _ ≤ maxLen + _; unfold maxLen; omega) | (show _ ≤ _; omega))
              intro v1 w1 hown hg
              have HM1 := Lib.hid (HK1.out.more (zs := cs) (v' := v1) (by simpa using hown) hg)
              rw [List.nil_append] at HM1
              clear hown hg HK1 HA1
              obtain ⟨A1, k1, rfl, hk1, _⟩ := HM1.out.slice
              have HEl := Lib.hid (El1.of_made HM1.out hbs)
              have hb1 := HM1.out.2
              have HV1 := Lib.hid (HV.out.below hb1)
              have hbw1 := hbr.trans (hb1.mono hbs)
              have hs1 := hbw1.size
              have HY3 : Hid (wz.heap.size ≤ (w1.alloc (.cells #[.slice A1 cs.length k1] 22)).heap.size) := by show _ ≤ _; rw [World.size_alloc]; omega
              clear HM1 hb1 hk1
              go_wp2_with (at_builtin; refine wpList_append_own_at _ rfl (.tmp 58) (.tmp 67) 23 rfl wz.heap.size 22 j0 (.slice none 0 0) 1 24 Try.underlying23 hj hj0 hj1 hj2 rfl (by decide) _ _ _ rfl (HV1.out.out.alloc _) ⟨w1.heap.size, 0, none⟩ 1 1 [_] rfl rfl (cell_one_new _ _ _) (by simp [Value.oneCell']) HY1.out HY2.out HY3.out ?_)
              intro v2 w2 hown hg _ _
              obtain ⟨g2, cap2, rfl⟩ := ownsRow_succ hown
              have HL2 := Lib.hid (HV1.out.push (b := cs) (by decide) HEl.out hown hg)
              have HB2 := Lib.hid ((hbw1.alloc hs1 (.cells #[.slice A1 cs.length k1] 22)).grown hg (by rw [World.size_alloc]; omega) (fun g hk => (HV1.out.out.lt g hk).1))
              have HPF : Hid (Fc.Parts ss ((pre ++ [cs]).length % k) (zs.drop (p + cl)) qs) := by
                show Fc.Parts _ _ _ _
                rw [List.length_append, List.length_singleton, HI.out, HRR.out, HDD.out]; exact HPN.out
              have hpl3 : (pre ++ [cs]).length = i + 1 := by rw [List.length_append, List.length_singleton, HI.out]
              have HPL := Lib.hid hpl3
              clear hown hg hpl3
              go_wp2
              go_roundw
              case rel => exact ⟨p + cl, pre ++ [cs], qs, _, by have := HF.out; omega, by have := HF.out; first | go_num | (congr 1; omega), by rw [HPL.out]; go_num, by rw [HPL.out]; show _ = _; rw [← HI.out]; rfl, HPF, HE2, HL2, HB2⟩
              case measure =>
                have h9 := HI.out
                rw [hvl]
                show ps.length - (pre.length + 1) < _
                omega
            · subst hs1
              have hf1 : ¬ (n : Int) - (p : Int) < (cl : Int) := by omega
              have hf2 : ¬ (cl : Int) < 0 := by omega
              clear hd hd2
              go_wp2_with (at_builtin; refine wpList_append_any rfl (.tmp 59) (.tmp 65) 22 rfl _ 5 i0 (.int .u8 0) 1 Try.underlying22 hi hz0 hzz1 hzz2 rfl .u8 [] cs _ rfl HK1.out.1 _ _ _ _ rfl ?hmB HA1.out ?caB ?cbB HK1.out.2.size ?_)
              all_goals try (first | exact HTL.out | (show cs.length = _; rw [HTL.out]; first | omega | (have := HF.out; omega)) | (show _ ≤ maxLen; unfold maxLen; omega) | (show _ ≤ maxLen + _; unfold maxLen; omega) | (show _ ≤ _; omega))
              intro v1 w1 hown hg
              have HM1 := Lib.hid (HK1.out.more (zs := cs) (v' := v1) (by simpa using hown) hg)
              rw [List.nil_append] at HM1
              clear hown hg HK1 HA1
              obtain ⟨A1, k1, rfl, hk1, _⟩ := HM1.out.slice
              have HEl := Lib.hid (El1.of_made HM1.out hbs)
              have hb1 := HM1.out.2
              have HV1 := Lib.hid (HV.out.below hb1)
              have hbw1 := hbr.trans (hb1.mono hbs)
              have hs1 := hbw1.size
              have HY3 : Hid (wz.heap.size ≤ (w1.alloc (.cells #[.slice A1 cs.length k1] 22)).heap.size) := by show _ ≤ _; rw [World.size_alloc]; omega
              clear HM1 hb1 hk1
              go_wp2_with (at_builtin; refine wpList_append_own_at _ rfl (.tmp 58) (.tmp 67) 23 rfl wz.heap.size 22 j0 (.slice none 0 0) 1 24 Try.underlying23 hj hj0 hj1 hj2 rfl (by decide) _ _ _ rfl (HV1.out.out.alloc _) ⟨w1.heap.size, 0, none⟩ 1 1 [_] rfl rfl (cell_one_new _ _ _) (by simp [Value.oneCell']) HY1.out HY2.out HY3.out ?_)
              intro v2 w2 hown hg _ _
              obtain ⟨g2, cap2, rfl⟩ := ownsRow_succ hown
              have HL2 := Lib.hid (HV1.out.push (b := cs) (by decide) HEl.out hown hg)
              have HB2 := Lib.hid ((hbw1.alloc hs1 (.cells #[.slice A1 cs.length k1] 22)).grown hg (by rw [World.size_alloc]; omega) (fun g hk => (HV1.out.out.lt g hk).1))
              have HPF : Hid (Fc.Parts ss ((pre ++ [cs]).length % k) (zs.drop (p + cl)) qs) := by
                show Fc.Parts _ _ _ _
                rw [List.length_append, List.length_singleton, HI.out, HRR.out, HDD.out]; exact HPN.out
              have hpl3 : (pre ++ [cs]).length = i + 1 := by rw [List.length_append, List.length_singleton, HI.out]
              have HPL := Lib.hid hpl3
              clear hown hg hpl3
              go_wp2
              go_roundw
              case rel => exact ⟨p + cl, pre ++ [cs], qs, _, by omega, by first | go_num | (congr 1; omega), by rw [HPL.out]; go_num, by rw [HPL.out]; show _ = _; rw [← HI.out]; rfl, HPF, HE2, HL2, HB2⟩
              case measure =>
                have h9 := HI.out
                rw [hvl]
                show ps.length - (pre.length + 1) < _
                omega
            · have hf2 : ¬ s < 0 := by omega
              have HF := Lib.hid hs2
              clear hs2 hd hd2 hclm hcpn
              go_wp2_with (at_builtin; refine wpList_append_any rfl (.tmp 59) (.tmp 65) 22 rfl _ 5 i0 (.int .u8 0) 1 Try.underlying22 hi hz0 hzz1 hzz2 rfl .u8 [] cs _ rfl HK1.out.1 _ _ _ _ rfl ?hmC HA1.out ?caC ?cbC HK1.out.2.size ?_)
              all_goals try (first | exact HTL.out | exact List.eq_nil_of_length_eq_zero (HTL.out.trans HF.out) | (show cs.length = _; rw [HTL.out]; first | omega | (have := HF.out; omega)) | (show _ ≤ maxLen; unfold maxLen; omega) | (show _ ≤ maxLen + _; unfold maxLen; omega) | (show _ ≤ _; omega))
              intro v1 w1 hown hg
              have HM1 := Lib.hid (HK1.out.more (zs := cs) (v' := v1) (by simpa using hown) hg)
              rw [List.nil_append] at HM1
              clear hown hg HK1 HA1
              obtain ⟨A1, k1, rfl, hk1, _⟩ := HM1.out.slice
              have HEl := Lib.hid (El1.of_made HM1.out hbs)
              have hb1 := HM1.out.2
              have HV1 := Lib.hid (HV.out.below hb1)
              have hbw1 := hbr.trans (hb1.mono hbs)
              have hs1 := hbw1.size
              have HY3 : Hid (wz.heap.size ≤ (w1.alloc (.cells #[.slice A1 cs.length k1] 22)).heap.size) := by show _ ≤ _; rw [World.size_alloc]; omega
              clear HM1 hb1 hk1
              go_wp2_with (at_builtin; refine wpList_append_own_at _ rfl (.tmp 58) (.tmp 67) 23 rfl wz.heap.size 22 j0 (.slice none 0 0) 1 24 Try.underlying23 hj hj0 hj1 hj2 rfl (by decide) _ _ _ rfl (HV1.out.out.alloc _) ⟨w1.heap.size, 0, none⟩ 1 1 [_] rfl rfl (cell_one_new _ _ _) (by simp [Value.oneCell']) HY1.out HY2.out HY3.out ?_)
              intro v2 w2 hown hg _ _
              obtain ⟨g2, cap2, rfl⟩ := ownsRow_succ hown
              have HL2 := Lib.hid (HV1.out.push (b := cs) (by decide) HEl.out hown hg)
              have HB2 := Lib.hid ((hbw1.alloc hs1 (.cells #[.slice A1 cs.length k1] 22)).grown hg (by rw [World.size_alloc]; omega) (fun g hk => (HV1.out.out.lt g hk).1))
              have HPF : Hid (Fc.Parts ss ((pre ++ [cs]).length % k) (zs.drop (p + cl)) qs) := by
                show Fc.Parts _ _ _ _
                rw [List.length_append, List.length_singleton, HI.out, HRR.out, HDD.out]; exact HPN.out
              have hpl3 : (pre ++ [cs]).length = i + 1 := by rw [List.length_append, List.length_singleton, HI.out]
              have HPL := Lib.hid hpl3
              clear hown hg hpl3
              go_wp2
              go_roundw
              case rel => exact ⟨p + cl, pre ++ [cs], qs, _, by have := HF.out; omega, by have := HF.out; first | go_num | (congr 1; omega), by rw [HPL.out]; go_num, by rw [HPL.out]; show _ = _; rw [← HI.out]; rfl, HPF, HE2, HL2, HB2⟩
              case measure =>
                have h9 := HI.out
                rw [hvl]
                show ps.length - (pre.length + 1) < _
                omega
          · have hz : zs.drop p = [] := List.drop_eq_nil_of_le (by rw [HL.out]; omega)
            have hF : ps = pre := by rw [HE.out, HPr.out.nil hz, List.append_nil]
            have HF2 := Lib.hid hF
            clear hz hF
            go_wp2
            go_ret
            rw [HWZ.out]
            exact RCh.of HV.out HF2.out HB.out
end Go.Proofs.Ytemafhaeppifoaa
