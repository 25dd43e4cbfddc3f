/-
  The law ScanFeeds (in whatever parts bytes are fed) returns true for every input, under no condition of ours.
-/
import Derived.Deep.Matrix
import Derived.ProofKit
import Derived.OpenShut
import Derived.Deep.Slices
import Derived.ChangeSame
import Derived.Test.YtcfgemdpnbimoaaRows
import Derived.Below
import Derived.WalkKit
import Derived.ShutString
import Derived.ChangeOld
import Derived.Test.YtcfgemdpnbimoaaMB3
namespace Go.Proofs.Ytcfgemdpnbimoaa
open Go.RowKit Go.Shelf
set_option maxRecDepth 100000
attribute [local go_sem] Oper.semAt_some

theorem scan_shift (q : Nat) : ∀ (L : List Int) (p : Nat) (now : List Int), now.length ≤ p → Fc.scan (p + q) now L = (Fc.scan p now L).map (fun x => (x.1 + q, x.2))
  | [], p, now, _ => by simp [Fc.scan]
  | z :: r, p, now, h => by
    by_cases hz : z = 0
    · subst hz
      rw [Fc.scan_zero, Fc.scan_zero, List.map_append, ← scan_shift q r (p + 1) [] (by simp), show p + q + 1 = p + 1 + q by omega]
      congr 1
      split
      · rfl
      · simp; omega
    · rw [Fc.scan_ne hz, Fc.scan_ne hz, ← scan_shift q r (p + 1) (now ++ [z]) (by simp; omega), show p + q + 1 = p + 1 + q by omega]
/-- a segment's place is set -/
theorem SgsAt.set {w : World} {S : Nat → Prop} {A : Option Addr} {xs : List Sg} {k b off p : Nat} {x : Sg} (h : SgsAt w S A xs) (hx : xs[k]? = some x) (hA : A = some ⟨b, off, none⟩) :
    SgsAt (w.setCell ⟨b, off + k * 4 + 3, none⟩ (.int .u64 (p : Int))) S A (xs.set k ⟨x.a, x.cp, p, x.b⟩) := fun j y hy => by
  subst hA
  obtain ⟨b', o', e', _, _, _, _, d3, _, _⟩ := SgsAt.at h hx
  injection e' with e'
  injection e' with e1 e2
  subst e1 e2
  have hpay : ∀ a zs, NumsS .u8 w S a zs → NumsS .u8 (w.setCell ⟨b, off + k * 4 + 3, none⟩ (.int .u64 (p : Int))) S a zs := fun a zs hn h0 => by
    obtain ⟨g, o, e, hg, hc⟩ := hn h0
    refine ⟨g, o, e, hg, fun i z hi => (World.cell?_setCell_other _ _ _ _ (fun e2 => ?_)).trans (hc i z hi)⟩
    have h3 := hc i z hi
    rw [← e2, d3] at h3
    simp at h3
  have hlt := (List.getElem?_eq_some_iff.1 hx).1
  by_cases hj : j = k
  · subst hj
    rw [List.getElem?_set_self hlt] at hy
    injection hy with hy
    subst hy
    obtain ⟨b2, o2, e2, hb, hc, hl, hn⟩ := h j x hx
    injection e2 with e2
    injection e2 with e3 e4
    subst e3 e4
    refine ⟨b, off, rfl, hb, fun q u hq => ?_, hl, hpay _ _ hn⟩
    by_cases h3 : q = 3
    · subst h3
      obtain rfl : (Value.int .u64 (p : Int)) = u := by simpa [Sg.cs] using hq
      exact World.cell?_setCell_same _ _ _ d3
    · refine (World.cell?_setCell_other _ _ _ _ (fun e => by simp only [Addr.mk.injEq] at e; omega)).trans (hc q u ?_)
      have hq4 : q < 4 := (Array.getElem?_eq_some_iff.1 hq).1
      rcases q with _ | _ | _ | _ | q
      · exact hq
      · exact hq
      · exact hq
      · exact absurd rfl h3
      · omega
  · rw [List.getElem?_set_ne (fun e => hj e.symm)] at hy
    obtain ⟨b2, o2, e2, hb, hc, hl, hn⟩ := h j y hy
    injection e2 with e2
    injection e2 with e3 e4
    subst e3 e4
    refine ⟨b, off, rfl, hb, fun q u hq => (World.cell?_setCell_other _ _ _ _ (fun e => ?_)).trans (hc q u hq), hl, hpay _ _ hn⟩
    have hq4 : q < 4 := (Array.getElem?_eq_some_iff.1 hq).1
    simp only [Addr.mk.injEq] at e
    omega
theorem ScTo.belowB {w w' : World} {b lo B p p0 : Nat} {v v' : Value} {now n0 : List Int} (h : ScTo w w' b lo v v' p now) (h0 : ScanAt w b lo v p0 n0) (hb : B ≤ b) (hlo : B ≤ lo) (hB : B ≤ w.heap.size) : Below B w w' :=
  h.off.below (fun k hk => by
    rcases hk with hk | hk
    · omega
    · have := (h0.own.lt k hk).1; omega) hB
theorem nums_data {w : World} {B b : Nat} {own : Option Nat} {a : Option Addr} {zs : List Int} (h : Nums .u8 w B a zs) (hB : B ≤ w.heap.size) (hb : B ≤ b) (ho : ∀ g, own = some g → B ≤ g) : NumsS .u8 w (fun k => k < w.heap.size ∧ k ≠ b ∧ own ≠ some k) a zs :=
  h.numsS fun k hk => ⟨by omega, by omega, fun e => by have := ho k e; omega⟩
set_option maxHeartbeats 8000000 in
theorem resets_go (a1 a2 : Option Addr) (n1 m1 c1 n2 m2 c2 : Nat) (es fs : List Int) (w : World) (hn1 : es.length = n1) (hc1 : n1 ≤ c1) (hz1 : Bytes es) (h1 : Nums .u8 w w.heap.size a1 es)
    (hn2 : fs.length = n2) (hc2 : n2 ≤ c2) (hz2 : Bytes fs) (h2 : Nums .u8 w w.heap.size a2 fs)
    (hm1 : min (n1 : Int) 300 = (m1 : Int)) (hmn1 : m1 ≤ n1) (hm31 : m1 ≤ 300) (hm2 : min (n2 : Int) 300 = (m2 : Int)) (hmn2 : m2 ≤ n2) (hm32 : m2 ≤ 300) :
    Calls Try.prog 6 #[.slice a1 n1 c1, .slice a2 n2 c2] w fun e w' => e = .returned (.bool true) ∧ Below w.heap.size w w' := by
  have hmc1 : (m1 : Int) ≤ (c1 : Int) := by omega
  have hmc2 : (m2 : Int) ≤ (c2 : Int) := by omega
  have hl1 : (es.take m1).length = m1 := by rw [List.length_take]; omega
  have hl2 : (fs.take m2).length = m2 := by rw [List.length_take]; omega
  have hzb1 := hz1.take m1
  have hzb2 := hz2.take m2
  have hnum1 := h1.take m1
  have hnum2 := h2.take m2
  generalize es.take m1 = xs at *
  generalize fs.take m2 = ys at *
  clear hz1 hz2 h1 h2 hn1 hn2
  have HZ1 := Lib.hid hzb1
  have HZ2 := Lib.hid hzb2
  have HL1 := Lib.hid hl1
  have HL2 := Lib.hid hl2
  have HN1 := Lib.hid hnum1
  have HN2 := Lib.hid hnum2
  clear hzb1 hzb2 hl1 hl2 hnum1 hnum2
  go_enter Try.func6, Try.ntmps6
  go_wp2
  go_quiet (fail)
  have hbd : Below w.heap.size w (w.drewN nq) := below_drewN (Below.refl _ _) nq
  generalize w.drewN nq = wd at *
  have hsd := hbd.size
  have HBd := Lib.hid hbd
  clear hbd
  go_wp2_with fail
  refine (snew_any wd).mono ?_
  rintro e w1 ⟨rfl, hat1, hb1, hs1⟩
  go_wp2_with fail
  refine (snew_any w1).mono ?_
  rintro e w2 ⟨rfl, hat2, hb2, hs2⟩
  have hb02 := HBd.out.trans ((hb1.trans (hb2.mono (by omega))).mono hsd)
  have A1 : ScanAt w2 wd.heap.size w2.heap.size (.slice none 0 0) 0 [] := ⟨(hat1.below hb2).blk, World.ownsRow_nil _ _ _ _⟩
  have A2 : ScanAt w2 (wd.heap.size + 1) w2.heap.size (.slice none 0 0) 0 [] := ⟨by rw [← hs1]; exact hat2.blk, World.ownsRow_nil _ _ _ _⟩
  have F1 := feed_any A1 (Nat.le_refl _) a1 m1 c1 xs HL1.out (by omega) (by omega) HZ1.out (by simp) (by omega) (nums_data (HN1.out.below hb02) (by omega) (by omega) (fun g hg => by cases hg))
  have HB02 := Lib.hid hb02
  have HA1 := Lib.hid A1
  have HA2 := Lib.hid A2
  clear hat1 hat2 hb1 hb2 hb02 A1 A2
  go_wp2_with fail
  refine F1.mono ?_
  rintro e w3 ⟨_, _, _, v1, rfl, _, _, hto, _, _⟩
  have hb23 := hto.belowB HA1.out (B := w.heap.size) (by omega) (by omega) (by omega)
  have hs23 := hto.off.size
  have B2 : ScanAt w3 (wd.heap.size + 1) w2.heap.size (.slice none 0 0) 0 [] := HA2.out.off hto.off (fun e => by rcases e with e | e; omega; cases e) (fun g hg => by cases hg)
  have R := reset_any hto.at'
  have HB03 := Lib.hid (HB02.out.trans hb23)
  have HB2 := Lib.hid B2
  clear F1 hto hb23 B2 HA1 HA2 HB02
  go_wp2_with fail
  refine R.mono ?_
  rintro e w4 ⟨⟨x, rfl⟩, hat4, ho4, hs4⟩
  have HB04 := Lib.hid (HB03.out.trans (ho4.below (B := w.heap.size) (fun k hk => by omega) (by omega)))
  have C1 : ScanAt w4 wd.heap.size w4.heap.size (.slice none 0 0) (0 + m1) [] := ⟨hat4.blk, World.ownsRow_nil _ _ _ _⟩
  have C2 : ScanAt w4 (wd.heap.size + 1) w2.heap.size (.slice none 0 0) 0 [] := HB2.out.off ho4 (by omega) (fun g hg => by cases hg)
  have HC1 := Lib.hid C1
  have HC2 := Lib.hid C2
  have T1 := held_any C1
  have T2 := sopen_any C1
  have T3 := fed_any C1
  rw [show (((held []).length : Nat) : Int) = 0 from rfl] at T1
  rw [show decide (([] : List Int) ≠ []) = false from rfl] at T2
  rw [show ((0 + m1 : Nat) : Int) = (m1 : Int) by omega] at T3
  clear R hat4 ho4 C1 C2 HB2 HB03
  go_wp2_with (first
    | (go_at_call 14; refine T1.mono ?_; rintro e wq ⟨rfl, hq⟩; rw [hq]; clear hq)
    | (go_at_call 16; refine T2.mono ?_; rintro e wq ⟨rfl, hq⟩; rw [hq]; clear hq)
    | (go_at_call 15; refine T3.mono ?_; rintro e wq ⟨rfl, hq⟩; rw [hq]; clear hq))
  clear T1 T2 T3
  have F2 := feed_any HC1.out (Nat.le_refl _) a2 m2 c2 ys HL2.out (by omega) (by omega) HZ2.out (by simp) (by omega) (nums_data (HN2.out.below HB04.out) (by omega) (by omega) (fun g hg => by cases hg))
  refine F2.mono ?_
  rintro e w5 ⟨Ax, cx, X, v5, rfl, hcx, hX, hto5, hsx, _⟩
  have hb45 := hto5.belowB HC1.out (B := w.heap.size) (by omega) (by omega) (by omega)
  have hs5 := hto5.off.size
  have D2 : ScanAt w5 (wd.heap.size + 1) w5.heap.size (.slice none 0 0) 0 [] := ⟨(hto5.off.block (wd.heap.size + 1) (by omega) (fun e => by rcases e with e | e; omega; cases e)).trans HC2.out.blk, World.ownsRow_nil _ _ _ _⟩
  have HB05 := Lib.hid (HB04.out.trans hb45)
  have HD2 := Lib.hid D2
  have HSX := Lib.hid hsx
  have HX := Lib.hid hX
  clear F2 hto5 hb45 D2 HC1 HC2 hsx hX HB04
  go_wp2_with fail
  have F3 := feed_any HD2.out (Nat.le_refl _) a2 m2 c2 ys HL2.out (by omega) (by omega) HZ2.out (by simp) (by omega) (nums_data (HN2.out.below HB05.out) (by omega) (by omega) (fun g hg => by cases hg))
  refine F3.mono ?_
  rintro e w6 ⟨Ay, cy, Y, v6, rfl, hcy, hY, hto6, hsy, hrow⟩
  have hb56 := hto6.belowB HD2.out (B := w.heap.size) (by omega) (by omega) (by omega)
  have hs6 := hto6.off.size
  have hkx : KeepS (Told wd.heap.size (FQ w4.heap.size w4.heap.size none) v5.ownBlock w5) w5 w6 := ⟨hs6, fun k hk => hto6.off.block k hk.2.1 (fun e => by
    rcases e with e | e
    · have := hk.1.1; omega
    · cases e)⟩
  have hsx6 := HSX.out.keeps hkx
  have hlen : X.length = Y.length := by
    have e1 := congrArg List.length HX.out
    have e2 := congrArg List.length hY
    rw [scan_shift m1 ys 0 [] (by simp), List.length_map, List.length_map] at e1
    rw [List.length_map] at e2
    omega
  obtain ⟨N, hN⟩ : ∃ N, Y.length = N := ⟨_, rfl⟩
  have hNl : N ≤ 300 := by
    have e2 := congrArg List.length hY
    have := Fc.scan_length ys 0 []
    rw [List.length_map] at e2
    have := HL2.out
    omega
  have HXY : Hid (X.map Sg.pb = Y.map (fun y => (y.p + m1, y.b))) := by
    show _ = _
    rw [HX.out, scan_shift m1 ys 0 [] (by simp), ← hY, List.map_map]
    rfl
  have hbY : ∀ y ∈ Y, y.p ≤ 1000 := fun y hy => by
    have hm : y.pb ∈ Fc.scan 0 [] ys := by rw [← hY]; exact List.mem_map_of_mem hy
    have := Fc.scan_place ys 0 [] (by simp) _ hm
    have h3 := HL2.out
    have h4 : y.pb.1 = y.p := rfl
    omega
  have hbX : ∀ x ∈ X, Bytes x.b := fun x hx => by
    have hm : x.pb ∈ Fc.scan (0 + m1) [] ys := by rw [← HX.out]; exact List.mem_map_of_mem hx
    exact Fc.scan_isBytes ys (0 + m1) [] (fun c hc => by cases hc) HZ2.out _ hm
  rw [hlen, hN] at hcx
  rw [hN] at hcy
  rw [hlen, hN]
  have HB06 := Lib.hid (HB05.out.trans hb56)
  have HSX6 := Lib.hid hsx6
  have HSY := Lib.hid hsy
  have HROW := Lib.hid hrow
  have HNN := Lib.hid hN
  have HLE := Lib.hid hlen
  have HBY := Lib.hid hbY
  have HBX := Lib.hid hbX
  have HY := Lib.hid hY
  clear F3 hto6 hb56 hkx hsx6 hlen hN hbY hbX HX hsy hrow HD2 HSX HB05 hY
  have hcx' : (N : Int) ≤ (cx : Int) := by omega
  have hcy' : (N : Int) ≤ (cy : Int) := by omega
  go_wp2
  go_loopw [9] (fun v wr => ∃ (k : Nat) (Z : List Sg), k ≤ N ∧ v = .int .i64 (k : Int) ∧ Z.length = N ∧ Hid (SgsAt wr (Told (wd.heap.size + 1) (FQ w5.heap.size w5.heap.size none) v6.ownBlock w6) Ay Z) ∧ Hid (∀ (j : Nat) (y : Sg), Y[j]? = some y → Z[j]? = some (if j < k then ⟨y.a, y.cp, y.p + m1, y.b⟩ else y)) ∧ Hid (Off (fun g => w5.heap.size ≤ g) w6 wr) ∧ Hid (SgRow wr Ay))
    (fun v _ => N - (intOf v).toNat)
  case atStart => exact ⟨0, Y, by omega, rfl, HNN.out, HSY.out, fun j y hy => by rw [if_neg (by omega)]; exact hy, Off.refl _ _, HROW.out⟩
  case round =>
    obtain ⟨k, Z, hk, rfl, hZl, HZs, HZe, HOf, HRW⟩ := hrel
    by_cases hlt : k < N
    · obtain ⟨y, hy⟩ : ∃ y, Y[k]? = some y := ⟨_, List.getElem?_eq_getElem (by rw [HNN.out]; exact hlt)⟩
      have hzk : Z[k]? = some y := by rw [HZe.out k y hy, if_neg (by omega)]
      have hyp := HBY.out y (List.mem_of_getElem? hy)
      obtain ⟨b, o, rfl, hb, d0, d1, d2, d3, _, _⟩ := SgsAt.at HZs.out hzk
      have hZ2 := HZs.out.set (p := y.p + m1) hzk rfl
      obtain ⟨cs, hcs⟩ := HRW.out b o none rfl
      have hfz : wr.frozen? ⟨b, o + k * 4 + 3, none⟩ = false := by simp [World.frozen?, hcs]
      have hrw2 : SgRow (wr.setCell ⟨b, o + k * 4 + 3, none⟩ (.int .u64 ((y.p + m1 : Nat) : Int))) (some ⟨b, o, none⟩) := fun g o' s h => by
        injection h with h
        injection h with h1
        subst h1
        exact ⟨_, setCell_at hcs⟩
      have hof2 := HOf.out.setCell (p := ⟨b, o + k * 4 + 3, none⟩) hb.1.1 (.int .u64 ((y.p + m1 : Nat) : Int))
      rw [show ((y.p + m1 : Nat) : Int) = (y.p : Int) + (m1 : Int) by omega] at hZ2 hrw2 hof2
      have HE2 : Hid (∀ (j : Nat) (u : Sg), Y[j]? = some u → (Z.set k ⟨y.a, y.cp, y.p + m1, y.b⟩)[j]? = some (if j < k + 1 then ⟨u.a, u.cp, u.p + m1, u.b⟩ else u)) := fun j u hu => by
        by_cases hj : j = k
        · subst hj
          rw [hy] at hu
          injection hu with hu
          subst hu
          rw [List.getElem?_set_self (by omega), if_pos (by omega)]
        · rw [List.getElem?_set_ne (fun e => hj e.symm), HZe.out j u hu]
          by_cases h : j < k
          · rw [if_pos h, if_pos (by omega)]
          · rw [if_neg h, if_neg (by omega)]
      have HZ2 := Lib.hid hZ2
      have HR2 := Lib.hid hrw2
      have HO2 := Lib.hid hof2
      have hlt' : (k : Int) < (N : Int) := by omega
      have hyp' : (y.p : Int) ≤ 1000 := by omega
      have hm1' : (m1 : Int) ≤ 300 := by omega
      clear d0 d1 d2 hZ2 hrw2 hof2 hcs HRW HOf HZs HSY HROW
      go_wp2
      go_roundw
      case rel => exact ⟨k + 1, _, by omega, by go_num, by rw [List.length_set]; exact hZl, HZ2.out, HE2, HO2.out, HR2.out⟩
      case measure => simp [intOf]; omega
    · have hkn : k = N := by omega
      subst hkn
      have hZX : X.map Sg.pb = Z.map Sg.pb := by
        rw [HXY.out]
        refine List.ext_getElem? fun j => ?_
        rw [List.getElem?_map, List.getElem?_map]
        by_cases hj : j < k
        · obtain ⟨y, hy⟩ : ∃ y, Y[j]? = some y := ⟨_, List.getElem?_eq_getElem (by rw [HNN.out]; exact hj)⟩
          rw [HZe.out j y hy, hy, if_pos hj]; rfl
        · rw [List.getElem?_eq_none (by rw [HNN.out]; omega), List.getElem?_eq_none (by omega)]; rfl
      have hof := HOf.out
      have hsr := hof.size
      have hsx : SgsAt wr (Told wd.heap.size (FQ w4.heap.size w4.heap.size none) v5.ownBlock w5) Ax X :=
        HSX6.out.keeps ⟨hsr, fun g hg => hof.block g (by have := hg.2.1; omega) (fun e => by have := hg.2.1; omega)⟩
      have hb6 : Below w.heap.size w6 wr := hof.below (fun g hg => by omega) (by omega)
      have HB := Lib.hid (HB06.out.trans hb6)
      have hXl : X.length = k := HLE.out.trans HNN.out
      have hzs := HZs.out
      have KN := scknown_any wr
      have KS : ∀ wk, Below wr.heap.size wr wk → Calls Try.prog 12 #[.slice Ax k cx, .slice Ay k cy] wk fun e w' => e = .returned (.bool true) ∧ Below wk.heap.size wk w' := fun wk hk =>
        ssame_any wr.heap.size Ax Ay k cx cy _ _ X Z wk hXl hcx hcy (by omega) hZX HBX.out
          (hsx.keeps ⟨hk.size, fun g hg => hk.block g (by have := hg.2.1; omega)⟩) (hzs.keeps ⟨hk.size, fun g hg => hk.block g (by have := hg.2.1; omega)⟩) (fun g hg => by have := hg.2.1; omega) (fun g hg => by have := hg.2.1; omega) hk.size
      have HKS := Lib.hid KS
      have hsw := HB.out.size
      clear hsx hb6 hof hzs hZX KS HZs HZe HOf HRW HSX6 HSY HROW
      go_wp2_with fail
      refine KN.mono ?_
      rintro e wk ⟨rfl, hk⟩
      have hkS := HKS.out wk hk
      have HBk := Lib.hid (HB.out.trans (hk.mono hsw))
      have hsk := hk.size
      clear hk KN
      go_wp2_with fail
      refine hkS.mono ?_
      rintro e wf ⟨rfl, hf⟩
      have HBf := Lib.hid (HBk.out.trans (hf.mono (by omega)))
      clear hf hkS
      go_wp2
      go_ret
      exact ⟨rfl, HBf.out⟩
theorem walk_resets (a0 : Option Addr) (len0 cap0 : Nat) (z0 : List Int) (a1 : Option Addr) (len1 cap1 : Nat) (z1 : List Int) (w : World) (w0 : IsRow .u8 w a0 len0 cap0 z0) (w1 : IsRow .u8 w a1 len1 cap1 z1) :
    Calls Try.prog 6 #[.slice a0 len0 cap0, .slice a1 len1 cap1] w fun e w' => e = .returned (.bool true) ∧ Below w.heap.size w w' := by
  obtain ⟨e0, l0, q0, m0, k0, r0⟩ := w0.elems
  obtain ⟨e1, l1, q1, m1, k1, r1⟩ := w1.elems
  exact resets_go a0 a1 len0 (min len0 300) cap0 len1 (min len1 300) cap1 e0 e1 w l0 q0 (bytes_of r0) k0 l1 q1 (bytes_of r1) k1 (by omega) (by omega) (by omega) (by omega) (by omega) (by omega)
end Go.Proofs.Ytcfgemdpnbimoaa

namespace Go.Proofs.Ytcfgemdpnbimoaa
open Go.RowKit Go.Shelf
set_option maxRecDepth 100000

theorem seg_parts : ∃ i, Try.prog.info? 44 = some i ∧ i.zero = some (.agg (sgC (.slice none 0 0) false 0 0)) ∧ i.size = 4 ∧ i.bytes = 48 := by
  have := segInfo
  revert this
  generalize Try.prog.info? 44 = oi
  intro h
  cases oi with
  | none => cases h
  | some i => injection h with h; injection h with h1 h2; injection h2 with h2 h3; exact ⟨i, rfl, h1, h2, h3⟩
theorem run_append_sgs {w : World} (base : Nat) (v : Value) (n : Nat) (xs : List Value) (hown : w.ownsRow base 44 4 v n xs) (A : Option Addr) (m c : Nat) (S : Nat → Prop) (ys : List Sg) (hm : ys.length = m) (hs : SgsAt w S A ys)
    (h63 : n + m ≤ 1000000000) (hbase : base ≤ w.heap.size) :
    ∃ v' w', (Builtin.append_ #[29, 29] 29 #[v, .slice A m c]).run Try.prog w = .ok v' w' ∧ w'.ownsRow base 44 4 v' (n + m) (xs ++ flatS ys) ∧ w.grownBy w' v.ownBlock ∧ (v'.ownBlock = v.ownBlock ∨ v'.ownBlock = some w.heap.size) := by
  obtain ⟨i, hi, hz0, hz1, hz2⟩ := seg_parts
  have ht := Try.underlying29
  subst hm
  by_cases hz : ys = []
  · subst hz
    obtain ⟨b, q, rfl, hle⟩ := own_slice_le hown
    refine ⟨_, _, run_append_nothing w 29 29 29 44 i ht hi b n q hle _ ?_, by simpa [flatS] using hown, ⟨rfl, rfl, rfl, Nat.le_refl _, fun _ _ _ => rfl⟩, .inl rfl⟩
    cases A with
    | none => exact ⟨.inl ⟨_, ht⟩, fun _ => rfl, run_firstCells_none w i.size 0 0 c, run_firstCells_none w.drew i.size 0 0 c, by simp, fun _ h => by cases h⟩
    | some ad => exact Src.ofSlice w ht ad 0 c [] (by simp) (by simp) (fun _ h => by cases h)
  · obtain ⟨y0, hy0⟩ : ∃ y, ys[0]? = some y := ⟨_, List.getElem?_eq_getElem (List.length_pos_iff.2 hz)⟩
    obtain ⟨b, off, rfl, _, _⟩ := hs 0 y0 hy0
    obtain ⟨v', w', h1, h2, h3, _, h5⟩ := run_append_own_at (P := Try.prog) (w := w) base 29 29 44 i (.agg (sgC (.slice none 0 0) false 0 0)) 4 48 ht hi hz0 hz1 hz2 rfl (by decide) v n xs hown ⟨b, off, none⟩ ys.length c (flatS ys) (flatS_len ys) (fun j u hj => by
      obtain ⟨x, hx, hu⟩ := flatS_of hj
      obtain ⟨b2, o2, e, _, hc, _⟩ := hs _ x hx
      injection e with e
      injection e with e1 e2
      subst e1 e2
      rw [Addr.add_lit]
      have := hc _ u hu
      rwa [show off + j / 4 * 4 + j % 4 = off + j by omega] at this) flatS_one (by unfold maxLen; omega) (by omega) hbase
    exact ⟨v', w', h1, h2, h3, h5⟩
/-- a scanner that was fed k bytes, another one; the list of what was told -/
structure Ch (B b1 b2 lo : Nat) (w : World) (zs : List Int) (k : Nat) (wr : World) (vl : Value) (X : List Sg) (u : Value) : Prop where
  row : wr.ownsRow lo 44 4 vl X.length (flatS X)
  told : X.map Sg.pb = Fc.scan 0 [] (zs.take k)
  pay : ∀ x ∈ X, (held x.b).length ≤ x.cp ∧ NumsS .u8 wr (fun g => lo ≤ g ∧ g < wr.heap.size ∧ u.ownBlock ≠ some g ∧ vl.ownBlock ≠ some g) x.a (held x.b)
  one : ScanAt wr b1 lo u k (Fc.opn [] (zs.take k))
  two : ScanAt wr b2 lo (.slice none 0 0) 0 []
  below : Below B w wr
theorem rows_apart {W : World} {lo e1 s1 n1 e2 s2 n2 : Nat} {v1 v2 : Value} {x1 x2 : List Value} (h1 : W.ownsRow lo e1 s1 v1 n1 x1) (h2 : W.ownsRow lo e2 s2 v2 n2 x2) (hne : e1 ≠ e2) : ∀ g, v1.ownBlock = some g → v2.ownBlock ≠ some g := fun g h e => by
  rcases h1.2 with ⟨rfl, _⟩ | ⟨g1, c1, u1, rfl, _, hh, _⟩
  · simp [Value.ownBlock] at h
  · rcases h2.2 with ⟨rfl, _⟩ | ⟨g2, c2, u2, rfl, _, hh2, _⟩
    · simp [Value.ownBlock] at e
    · simp only [Value.ownBlock, Option.some.injEq] at h e
      subst h e
      rw [hh] at hh2
      injection hh2 with hh2
      injection hh2 with _ ht
      exact hne ht
section
variable {B b1 b2 lo k n m' : Nat} {w wr w' w2 : World} {zs : List Int} {vl vl' u v : Value} {X Y : List Sg} {A : Option Addr}
/-- behind the Feed -/
theorem Ch.fed (h : Ch B b1 b2 lo w zs k wr vl X u) (hb1 : b1 < lo) (hb2 : b2 < lo) (hne : b1 ≠ b2) (hB1 : B ≤ b1) (hBl : B ≤ lo) (hlo : lo ≤ wr.heap.size) (hk : k ≤ zs.length)
    (hY : Y.map Sg.pb = Fc.scan k (Fc.opn [] (zs.take k)) ((zs.drop k).take n)) (hto : ScTo wr w' b1 lo u v (k + n) (Fc.opn (Fc.opn [] (zs.take k)) ((zs.drop k).take n))) (hs : SgsAt w' (Told b1 (FQ lo wr.heap.size u.ownBlock) v.ownBlock w') A Y) :
    w'.ownsRow lo 44 4 vl X.length (flatS X) ∧ (X ++ Y).map Sg.pb = Fc.scan 0 [] (zs.take (k + n)) ∧
    (∀ x ∈ X ++ Y, (held x.b).length ≤ x.cp ∧ NumsS .u8 w' (fun g => lo ≤ g ∧ g < w'.heap.size ∧ v.ownBlock ≠ some g ∧ vl.ownBlock ≠ some g) x.a (held x.b)) ∧
    ScanAt w' b1 lo v (k + n) (Fc.opn [] (zs.take (k + n))) ∧ ScanAt w' b2 lo (.slice none 0 0) 0 [] ∧ Below B w w' := by
  have hs0 := hto.off.size
  have hap : ∀ g, vl.ownBlock = some g → u.ownBlock ≠ some g := rows_apart h.row h.one.own (by decide)
  have hvl := h.row.lt
  have hul := h.one.own.lt
  have htk : zs.take (k + n) = zs.take k ++ (zs.drop k).take n := by rw [List.take_add]
  refine ⟨own_off h.row hto.off (fun g hg hS => ?_), ?_, fun x hx => ?_, ?_, h.two.off hto.off (fun e => ?_) (fun g hg => by cases hg), h.below.trans (hto.belowB h.one hB1 hBl (by omega))⟩
  · rcases hS with e | e
    · have := (hvl g hg).1; omega
    · exact hap g hg e
  · rw [List.map_append, h.told, hY, htk, Fc.scan_feed, List.length_take, Nat.zero_add, Nat.min_eq_left hk]
  · rcases List.mem_append.1 hx with hx | hx
    · obtain ⟨p1, p2⟩ := h.pay x hx
      refine ⟨p1, (p2.keeps ⟨hs0, fun g hg => hto.off.block g hg.2.1 (fun e => ?_)⟩).more fun g hg => ⟨hg.1, by omega, fun e => ?_, hg.2.2.2⟩⟩
      · rcases e with e | e
        · omega
        · exact hg.2.2.1 e
      · rcases hto.row with e2 | e2 | ⟨q, e2, e3⟩
        · rw [e2] at e; cases e
        · exact hg.2.2.1 (e2.symm.trans e)
        · rw [e2] at e; injection e with e; omega
    · obtain ⟨j, hj⟩ := List.getElem?_of_mem hx
      obtain ⟨_, _, _, _, _, p1, p2⟩ := hs j x hj
      refine ⟨p1, p2.more fun g hg => ⟨hg.1.1, hg.2.1, hg.2.2.2, fun e => ?_⟩⟩
      rcases hg.1.2 with e2 | e2
      · have := (hvl g e).2; omega
      · exact hap g e e2
  · rw [htk, Fc.opn_feed]; exact hto.at'
  · rcases e with e | e
    · omega
    · have := (hul b2 e).1; omega
/-- behind the append -/
theorem Ch.next (hrow : w'.ownsRow lo 44 4 vl X.length (flatS X)) (htold : (X ++ Y).map Sg.pb = Fc.scan 0 [] (zs.take (k + n)))
    (hpay : ∀ x ∈ X ++ Y, (held x.b).length ≤ x.cp ∧ NumsS .u8 w' (fun g => lo ≤ g ∧ g < w'.heap.size ∧ v.ownBlock ≠ some g ∧ vl.ownBlock ≠ some g) x.a (held x.b)) (h1 : ScanAt w' b1 lo v (k + n) (Fc.opn [] (zs.take (k + n)))) (h2 : ScanAt w' b2 lo (.slice none 0 0) 0 []) (hb : Below B w w')
    (hb1 : b1 < lo) (hb2 : b2 < lo) (hBl : B ≤ lo) (hlo : lo ≤ w'.heap.size) (hY : Y.length = m') (hown : w2.ownsRow lo 44 4 vl' (X.length + m') (flatS X ++ flatS Y)) (hg : w'.grownBy w2 vl.ownBlock) (hat : vl'.ownBlock = vl.ownBlock ∨ vl'.ownBlock = some w'.heap.size) :
    Ch B b1 b2 lo w zs (k + n) w2 vl' (X ++ Y) v := by
  have hvl := hrow.lt
  have hs2 := hg.size
  have hO : Off (fun g => vl.ownBlock = some g) w' w2 := ⟨hg.os, hg.tape, hg.output, hg.size, fun g h3 h4 => hg.block g h3 (fun e => h4 e.symm)⟩
  have hap : ∀ g, vl.ownBlock = some g → v.ownBlock ≠ some g := rows_apart hrow h1.own (by decide)
  refine ⟨by rw [List.length_append, hY, flatS_append]; exact hown, htold, fun x hx => ?_, h1.off hO (fun e => ?_) (fun g e1 e2 => hap g e2 e1), h2.off hO (fun e => ?_) (fun g e => by cases e), hb.trans (hO.below (fun g e => by have := (hvl g e).1; omega) (by omega))⟩
  · obtain ⟨p1, p2⟩ := hpay x hx
    refine ⟨p1, (p2.keeps ⟨hs2, fun g hg' => hO.block g hg'.2.1 hg'.2.2.2⟩).more fun g hg' => ⟨hg'.1, by omega, hg'.2.2.1, fun e => ?_⟩⟩
    rcases hat with h3 | h3
    · exact hg'.2.2.2 (h3.symm.trans e)
    · rw [h3] at e; injection e with e; omega
  · have := (hvl b1 e).1; omega
  · have := (hvl b2 e).1; omega
/-- the list as it lies -/
theorem Ch.list (h : Ch B b1 b2 lo w zs k wr vl X u) : ∃ A c, vl = .slice A X.length c ∧ X.length ≤ c ∧ SgsAt wr (fun g => lo ≤ g ∧ g < wr.heap.size) A X := by
  rcases h.row.2 with ⟨rfl, h0⟩ | ⟨g, cap, cur, rfl, hg, hh, hle, _⟩
  · refine ⟨none, 0, by rw [h0], by omega, fun j x hx => ?_⟩
    rw [List.eq_nil_of_length_eq_zero h0] at hx
    simp at hx
  · refine ⟨_, cap, rfl, hle, fun j x hx => ⟨g, 0, rfl, ⟨hg, (Array.getElem?_eq_some_iff.1 hh).1⟩, fun q z hq => ?_, (h.pay x (List.mem_of_getElem? hx)).1, (h.pay x (List.mem_of_getElem? hx)).2.more fun g hg => ⟨hg.1, hg.2.1⟩⟩⟩
    have h9 := h.row.cells (g := g) rfl (j * 4 + q) z (flatS_at hx hq)
    rw [Addr.add_lit] at h9
    rw [Nat.add_assoc]
    exact h9
end
end Go.Proofs.Ytcfgemdpnbimoaa

namespace Go.Proofs.Ytcfgemdpnbimoaa
open Go.RowKit Go.Shelf
set_option maxRecDepth 100000
attribute [local go_sem] Oper.semAt_some

theorem rsInfo : (Try.prog.info? 54).map (·.size) = some 4 := by kernel_rfl
theorem rs_store (w : World) (R : Nat) (old cs : Array Value) (h : w.heap[R]? = some (.cells old 54 (0, 0))) (ho : old.size = 4) (hc : cs.size = 4) (h1 : cs.all (·.oneCell') = true) :
    (Instr.storeAt 54 (.pointer (some ⟨R, 0, none⟩)) (.agg cs)).run Try.prog w = .ok () (w.setRow R cs) := by
  simp only [Instr.storeAt, Instr.sureAddr, Sem.run_bind, Sem.run_pure, Result.andThen]
  exact run_storeVar_row w R 54 54 old cs h (by rw [hc]; exact rsInfo) (by omega) h1
theorem rsInfo2 : (Try.prog.info? 54).map (fun i => (i.zero, i.size, i.bytes)) = some (some (.agg (sgC (.slice none 0 0) false 0 0)), 4, 48) := by kernel_rfl
theorem rs_parts : ∃ i, Try.prog.info? 54 = some i ∧ i.zero = some (.agg (sgC (.slice none 0 0) false 0 0)) ∧ i.size = 4 ∧ i.bytes = 48 := by
  have := rsInfo2
  revert this
  generalize Try.prog.info? 54 = oi
  intro h
  cases oi with
  | none => cases h
  | some i => injection h with h; injection h with h1 h2; injection h2 with h2 h3; exact ⟨i, rfl, h1, h2, h3⟩
/-- a new variable of that type -/
def FSr (H : Nat) (q : Tmp) (x : Value) (W : World) : Prop := q = 9 ∧ ∃ g, x = .pointer (some ⟨g, 0, none⟩) ∧ H ≤ g ∧ W.heap[g]? = some (.cells (sgC (.slice none 0 0) false 0 0) 54 (0, 0))
theorem FSr.later {H : Nat} {q : Tmp} {x : Value} {W W' : World} (hh : FSr H q x W) (hb : Below W.heap.size W W') : FSr H q x W' := by
  obtain ⟨h, g, e, hg, hc⟩ := hh
  exact ⟨h, g, e, hg, (hb.block g (Array.getElem?_eq_some_iff.1 hc).1).trans hc⟩
/-- what All leaves -/
def AllR (w : World) (zs : List Int) (e : Ending) (w' : World) : Prop :=
  ∃ A c W A3 c3, e = .returned (.tuple #[.slice A W.length c, .slice A3 (Fc.opn [] zs).length c3]) ∧ W.length ≤ c ∧ (Fc.opn [] zs).length ≤ c3 ∧ W.map Sg.pb = Fc.scan 0 [] zs ∧ SgsAt w' (fun k => w.heap.size ≤ k ∧ k < w'.heap.size) A W ∧ Below w.heap.size w w'
set_option maxHeartbeats 8000000 in
theorem rall_any (a : Option Addr) (n c : Nat) (zs : List Int) (w : World) (hn : zs.length = n) (hl : n ≤ 100000) (h1 : Nums .u8 w w.heap.size a zs) :
    Calls Try.prog 9 #[.slice a n c] w fun e w' => AllR w zs e w' := by
  have SP := rsplit2_any a n c zs w hn (by omega) h1
  have HL := Lib.hid hn
  clear hn h1
  obtain ⟨i0, hi, hz0, hz1, hz2⟩ := rs_parts
  go_enter Try.func9, Try.ntmps9
  go_wp2_with fail
  refine SP.mono ?_
  rintro e w1 ⟨A1, k1, A2, k2, A3, k3, rfl, hk1, hk2, hk3, hLA, hNP, hNO, hb1, hNew⟩
  obtain ⟨N, hN⟩ : ∃ N, (Fc.segs zs).length = N := ⟨_, rfl⟩
  have hsN : (Fc.scan 0 [] zs).length = N := by rw [← hN]; unfold Fc.segs; rw [List.length_map]
  have hNl : N ≤ 100000 := by have := Fc.segs_len zs; have := HL.out; omega
  obtain ⟨M, hM⟩ : ∃ M, (Fc.opn [] zs).length = M := ⟨_, rfl⟩
  rw [hN] at hk1 hk2
  rw [hM] at hk3
  rw [hN, hM]
  have HN := Lib.hid hN
  have HSN := Lib.hid hsN
  have HM := Lib.hid hM
  have HLA := Lib.hid hLA
  have HNP := Lib.hid hNP
  have HB1 := Lib.hid hb1
  have HNew := Lib.hid hNew
  clear SP hN hsN hM hLA hNP hNO hb1 hNew
  go_wp2
  go_loopw [7, 8] (fun vl iv wr => ∃ (k : Nat) (W : List Sg), k ≤ N ∧ iv = .int .i64 (k : Int) ∧ W.length = k ∧ Hid (W.map Sg.pb = (Fc.scan 0 [] zs).take k) ∧ Hid (wr.ownsRow w1.heap.size 54 4 vl W.length (flatS W)) ∧
      Hid (∀ x ∈ W, (held x.b).length ≤ x.cp ∧ NumsS .u8 w1 (fun g => w.heap.size ≤ g ∧ g < w1.heap.size) x.a (held x.b)) ∧ Hid (Below w1.heap.size w1 wr))
    (fun _ iv _ => N - (intOf iv).toNat)
  case atStart => exact ⟨0, [], by omega, rfl, rfl, (show _ = _ by simp), World.ownsRow_nil _ _ _ _, fun x hx => (by cases hx), Below.refl _ _⟩
  case round =>
    obtain ⟨k, W, hk, rfl, hWl, HW, HR, HP, HB⟩ := hrel
    rw [hWl] at HR
    by_cases hlt : k < N
    · obtain ⟨⟨p, b⟩, hpb⟩ : ∃ x, (Fc.scan 0 [] zs)[k]? = some x := ⟨_, List.getElem?_eq_getElem (by rw [HSN.out]; exact hlt)⟩
      have hsk : (Fc.segs zs)[k]? = some b := by unfold Fc.segs; rw [List.getElem?_map, hpb]; rfl
      obtain ⟨g1, Ab, cb, rfl, hg1, hcell, hcb, _⟩ := HLA.out k b hsk
      obtain ⟨g1', Ab', cb', e1, hcell', hnb⟩ := HNew.out k b hsk
      injection e1 with e1
      injection e1 with e1
      subst e1
      rw [hcell] at hcell'
      injection hcell' with hcell'
      injection hcell' with e2 _ e3
      subst e2 e3
      obtain ⟨g2, o2, rfl, hg2, hplc⟩ := HNP.out.open (j := k) (c := (p : Int)) (by unfold plc; rw [List.getElem?_map, hpb]; rfl)
      have hbe := HB.out
      have hsz := hbe.size
      have hlt' : (k : Int) < (N : Int) := by omega
      have hp : p ≤ 100000 := by
        have := Fc.scan_place zs 0 [] (by simp) _ (List.mem_of_getElem? hpb)
        simp only at this
        have := HL.out
        omega
      have hbl : b.length ≤ 100000 := by
        have := (Fc.scan_mem zs 0 [] (fun c hc => by cases hc) _ (List.mem_of_getElem? hpb)).2.2
        simp only [List.length_nil] at this
        have := HL.out
        omega
      have hp' : (p : Int) ≤ 100000 := by omega
      obtain ⟨L, hL⟩ : ∃ L, b.length = L := ⟨_, rfl⟩
      rw [hL] at hcell hbl hcb
      obtain ⟨SC, hSC⟩ : ∃ SC, sgC (.slice Ab L cb) false L (p : Int) = SC := ⟨_, rfl⟩
      have hSz : SC.size = 4 := by rw [← hSC]; rfl
      have hS1 : SC.all (·.oneCell') = true := by rw [← hSC]; exact sg_one _ _ _ _ _ _
      have hlA : ∀ V, Below wr.heap.size wr V → (Instr.loadAt 25 (.pointer (some ⟨g1, k, none⟩))).run Try.prog V = .ok (.slice Ab L cb) V := fun V hV => by
        have := (hV.cell (p := ⟨g1, k, none⟩) (by simp only; omega)).trans ((hbe.cell (p := ⟨g1, k, none⟩) hg1).trans hcell)
        simp [Instr.loadAt, go_sem, this]
      have hlP : ∀ V, Below wr.heap.size wr V → (Instr.loadAt 3 (.pointer (some ⟨g2, o2 + k, none⟩))).run Try.prog V = .ok (.int .i64 (p : Int)) V := fun V hV => by
        have := (hV.cell (p := ⟨g2, o2 + k, none⟩) (by simp only; omega)).trans ((hbe.cell (p := ⟨g2, o2 + k, none⟩) hg2).trans hplc)
        simp [Instr.loadAt, go_sem, this]
      have HCE := Lib.hid ((hbe.cell (p := ⟨g1, k, none⟩) hg1).trans hcell)
      have hg1w : g1 < wr.heap.size := by omega
      obtain ⟨Av, cv, rfl, hcv⟩ := own_slice_le HR.out
      have HNB := Lib.hid hnb
      have HPB := Lib.hid hpb
      have HLL := Lib.hid hL
      clear hcell hplc hnb hpb hsk hbe
      go_wp2_with fail
      refine wp_region_FS 51 16 6 [9] (FSr wr.heap.size) (fun V => Below wr.heap.size wr V) (fun xs V V' => ∃ g, xs 9 = .pointer (some ⟨g, 0, none⟩) ∧ V' = V.setRow g SC) (by kernel_rfl) (by kernel_rfl) (by rfl) (by kernel_rfl) (by rfl) (by simp) (fun W W' h hb => h.trans (hb.mono h.size)) (fun q x W W' h hb => h.later hb) (Below.refl _ _).drew ?_
      repeat (refine wpFS_step (wpF_pure rfl rfl ?_); go_big_quiet_step (fail); refine wpQuiet_nil ?_; simp only [wpF])
      refine wpFS_step (wpF_load (.slice Ab L cb) rfl (by rfl) (by rfl) (by rfl) hlA ?_)
      simp only [wpF, Act.put, List.setIfInBounds_toArray, List.set_cons_succ, List.set_cons_zero]
      repeat (refine wpFS_step (wpF_pure rfl rfl ?_); go_big_quiet_step (fail); refine wpQuiet_nil ?_; simp only [wpF])
      refine wpFS_step (wpF_load (.slice Ab L cb) rfl (by rfl) (by rfl) (by rfl) hlA ?_)
      simp only [wpF, Act.put, List.setIfInBounds_toArray, List.set_cons_succ, List.set_cons_zero]
      repeat (refine wpFS_step (wpF_pure rfl rfl ?_); go_big_quiet_step (fail); refine wpQuiet_nil ?_; simp only [wpF])
      refine wpFS_step (wpF_load (.int .i64 (p : Int)) rfl (by rfl) (by rfl) (by rfl) hlP ?_)
      simp only [wpF, Act.put, List.setIfInBounds_toArray, List.set_cons_succ, List.set_cons_zero]
      repeat (refine wpFS_step (wpF_pure rfl rfl ?_); go_big_quiet_step (fail); refine wpQuiet_nil ?_; simp only [wpF])
      refine wpFS_step (wpF_val (.agg SC) rfl rfl (fun V hV => by rw [← hSC]; simp [go_sem, sgC]) ?_)
      simp only [wpF, Act.put, List.setIfInBounds_toArray, List.set_cons_succ, List.set_cons_zero]
      refine wpFS_step (wpF_src 9 (by simp) rfl (by kernel_rfl) (by kernel_rfl) (fun V hV => ⟨.pointer (some ⟨V.heap.size, 0, none⟩), V.alloc (.cells (sgC (.slice none 0 0) false 0 0) 54), ?_, ⟨rfl, _, rfl, hV.size, World.alloc_heap_new _ _⟩, (Below.refl _ _).alloc (Nat.le_refl _) _⟩) ?_)
      · simp [go_sem, sgC]
      simp only [wpF, Act.put, List.setIfInBounds_toArray, List.set_cons_succ, List.set_cons_zero]
      refine wpFS_storeX rfl rfl rfl (fun xs V hV hx => ?_) ?_
      · obtain ⟨_, g, e4, hg, hcg⟩ := hx 9 (by simp)
        refine ⟨_, ?_, g, e4, rfl⟩
        simp only [fill, Act.put, List.setIfInBounds_toArray, List.set_cons_succ, List.set_cons_zero, e4]
        exact rs_store V g _ SC hcg rfl hSz hS1
      simp only [wpFS]
      rintro xs V V' hV hx ⟨g, e4, rfl⟩
      obtain ⟨_, g', e4', hg, hcg⟩ := hx 9 (by simp)
      obtain rfl : g = g' := by rw [e4] at e4'; injection e4' with e4'; injection e4' with e4'; injection e4'
      simp only [fill, Act.put, List.setIfInBounds_toArray, List.set_cons_succ, List.set_cons_zero, e4]
      have hWf := setRow_heap V g _ SC _ _ hcg
      have hoF : Off (fun k => k = g) V (V.setRow g SC) := Off.setRow (S := fun k => k = g) (Off.refl _ V) rfl _
      have hbF : Below wr.heap.size wr (V.setRow g SC) := hV.trans (hoF.below (fun k hk => by omega) hV.size)
      generalize V.setRow g SC = Wf at *
      clear hx e4 e4' hlA hlP hV hcg hoF
      -- behind the element's making
      have HEND : Hid (∀ (V : World) (sg : Sg) (v' : Value) (V4 : World), Below wr.heap.size wr V → sg.pb = (p, b) → (held sg.b).length ≤ sg.cp → NumsS .u8 w1 (fun g => w.heap.size ≤ g ∧ g < w1.heap.size) sg.a (held sg.b) →
          V4.ownsRow w1.heap.size 54 4 v' (k + 1) (flatS W ++ sg.cs.toList) → V.grownBy V4 (Value.slice Av k cv).ownBlock →
          (W ++ [sg]).map Sg.pb = (Fc.scan 0 [] zs).take (k + 1) ∧ V4.ownsRow w1.heap.size 54 4 v' (W ++ [sg]).length (flatS (W ++ [sg])) ∧
          (∀ x ∈ W ++ [sg], (held x.b).length ≤ x.cp ∧ NumsS .u8 w1 (fun g => w.heap.size ≤ g ∧ g < w1.heap.size) x.a (held x.b)) ∧ Below w1.heap.size w1 V4) := fun V sg v' V4 hV e1 e2 e3 hown hgr => by
        refine ⟨?_, ?_, fun x hx => ?_, HB.out.trans ((hV.mono hsz).trans ⟨hgr.os, hgr.tape, hgr.output, hgr.size, fun q hq => hgr.block q (by have := hV.size; omega) (fun e => ?_)⟩)⟩
        · rw [List.map_append, HW.out, List.take_add_one, HPB.out, List.map_singleton, e1]; rfl
        · rw [List.length_append, List.length_singleton, flatS_push, hWl]; exact hown
        · rcases List.mem_append.1 hx with hx | hx
          · exact HP.out x hx
          · obtain rfl : x = sg := by simpa using hx
            exact ⟨e2, e3⟩
        · have := (HR.out.lt q e.symm).1; omega
      have HWF := Lib.hid hWf
      have HBF := Lib.hid hbF
      have hsF := hbF.size
      have kA : Wf.cell? ⟨g1, k, none⟩ = some (.slice Ab L cb) := (hbF.cell (p := ⟨g1, k, none⟩) hg1w).trans HCE.out
      have hX1 : Hid (k + 1 ≤ maxLen) := by show _ ≤ _; unfold maxLen; omega
      have hX2 : Hid ((k + 1) * 48 ≤ 140737488355328) := by show _ ≤ _; omega
      by_cases hlong : 255 < L
      · have hlong' : (255 : Int) < (L : Int) := by omega
        have hfz0 : Wf.frozen? ⟨g, 0, none⟩ = false := by simp [World.frozen?, hWf]
        have hfz1 : Wf.frozen? ⟨g, 1, none⟩ = false := by simp [World.frozen?, hWf]
        rw [← hSC] at hWf
        obtain ⟨d0, d1, d2, d3⟩ := sg_block hWf
        have hW2 : ((Wf.setCell ⟨g, 0, none⟩ (.slice none 0 0)).setCell ⟨g, 1, none⟩ (.bool true)).heap[g]? = some (.cells (sgC (.slice none 0 0) true L (p : Int)) 54 (0, 0)) := by
          rw [setCell_at (setCell_at hWf)]; rfl
        have hb2 : Below wr.heap.size wr ((Wf.setCell ⟨g, 0, none⟩ (.slice none 0 0)).setCell ⟨g, 1, none⟩ (.bool true)) := (hbF.setCell (p := ⟨g, 0, none⟩) hg _).setCell (p := ⟨g, 1, none⟩) hg _
        have HW2 := Lib.hid hW2
        have HB2 := Lib.hid hb2
        have HO2 := Lib.hid ((own_off HR.out (Off.of_below (S := fun _ => False) hb2) (fun _ _ h => h)).alloc (.cells #[.slice none 0 0, .bool true, .int .i64 (L : Int), .int .u64 (p : Int)] 54))
        have HL2 := Lib.hid hlong
        clear hWf hbF hW2 hb2 hlong
        go_wp2_with (at_builtin; refine wpList_append_own_at _ rfl (.tmp 45) (.tmp 47) 26 rfl w1.heap.size 54 i0 (.agg (sgC (.slice none 0 0) false 0 0)) 4 48 Try.underlying26 hi hz0 hz1 hz2 rfl (by decide) _ k (flatS W) rfl HO2.out ⟨Wf.heap.size, 0, none⟩ 1 1 [.slice none 0 0, .bool true, .int .i64 (L : Int), .int .u64 (p : Int)] ?c0 rfl ?c2 ?c3 hX1.out hX2.out ?c4 ?_)
        case c3 => exact ⟨rfl, rfl, rfl, rfl⟩
        case c4 => omega
        intro v' V4 hown hgr _ _
        have hlb : 255 < b.length := by rw [HLL.out]; exact HL2.out
        have hcs : (Sg.mk none 0 p b).cs.toList = [.slice none 0 0, .bool true, .int .i64 (L : Int), .int .u64 (p : Int)] := by
          have := HLL.out
          simp [Sg.cs, held_long hlb, HLL.out, HL2.out]
        obtain ⟨q1, q2, q3, q4⟩ := HEND.out _ (Sg.mk none 0 p b) v' V4 (HB2.out.alloc (by simp [World.setCell]; omega) _) rfl (by simp [held_long hlb]) (by rw [show held (Sg.mk none 0 p b).b = [] from held_long hlb]; exact NumsS.nil) (by rw [hcs]; exact hown) hgr
        have Q1 := Lib.hid q1
        have Q2 := Lib.hid q2
        have Q3 := Lib.hid q3
        have Q4 := Lib.hid q4
        obtain ⟨Av', cv', rfl, _⟩ := own_slice_le hown
        clear q1 q2 q3 q4 hown hgr HEND
        go_wp2
        go_roundw
        case rel => exact ⟨k + 1, _, by omega, by go_num, by rw [List.length_append, List.length_singleton, hWl], Q1.out, Q2.out, Q3.out, Q4.out⟩
        case measure => simp [intOf]; omega
      · have hlong' : ¬ (255 : Int) < (L : Int) := by omega
        rw [← hSC] at hWf
        obtain ⟨d0, d1, d2, d3⟩ := sg_block hWf
        have HO2 := Lib.hid ((own_off HR.out (Off.of_below (S := fun _ => False) hbF) (fun _ _ h => h)).alloc (.cells #[.slice Ab L cb, .bool false, .int .i64 (L : Int), .int .u64 (p : Int)] 54))
        have HL2 := Lib.hid hlong
        clear hWf hbF hlong
        go_wp2_with (at_builtin; refine wpList_append_own_at _ rfl (.tmp 45) (.tmp 47) 26 rfl w1.heap.size 54 i0 (.agg (sgC (.slice none 0 0) false 0 0)) 4 48 Try.underlying26 hi hz0 hz1 hz2 rfl (by decide) _ k (flatS W) rfl HO2.out ⟨Wf.heap.size, 0, none⟩ 1 1 [.slice Ab L cb, .bool false, .int .i64 (L : Int), .int .u64 (p : Int)] ?e0 rfl ?e2 ?e3 hX1.out hX2.out ?e4 ?_)
        case e3 => exact ⟨rfl, rfl, rfl, rfl⟩
        case e4 => omega
        intro v' V4 hown hgr _ _
        have hlb : b.length ≤ 255 := by rw [HLL.out]; have := HL2.out; omega
        have hcs : (Sg.mk Ab cb p b).cs.toList = [.slice Ab L cb, .bool false, .int .i64 (L : Int), .int .u64 (p : Int)] := by
          have := HLL.out
          have := HL2.out
          simp [Sg.cs, held_short hlb, HLL.out]
          omega
        obtain ⟨q1, q2, q3, q4⟩ := HEND.out _ (Sg.mk Ab cb p b) v' V4 (HBF.out.alloc (by omega) _) rfl (by simp only [held_short hlb]; rw [HLL.out]; exact hcb) (by rw [show held (Sg.mk Ab cb p b).b = b from held_short hlb]; exact HNB.out) (by rw [hcs]; exact hown) hgr
        have Q1 := Lib.hid q1
        have Q2 := Lib.hid q2
        have Q3 := Lib.hid q3
        have Q4 := Lib.hid q4
        obtain ⟨Av', cv', rfl, _⟩ := own_slice_le hown
        clear q1 q2 q3 q4 hown hgr HEND
        go_wp2
        go_roundw
        case rel => exact ⟨k + 1, _, by omega, by go_num, by rw [List.length_append, List.length_singleton, hWl], Q1.out, Q2.out, Q3.out, Q4.out⟩
        case measure => simp [intOf]; omega
    · have hkn : k = N := by omega
      subst hkn
      have htk : (Fc.scan 0 [] zs).take k = Fc.scan 0 [] zs := List.take_of_length_le (by rw [HSN.out]; exact Nat.le_refl _)
      have hWm := HW.out
      rw [htk] at hWm
      have hbe := HB.out
      have hs1 := HB1.out.size
      have hsz := hbe.size
      obtain ⟨Av, cv, rfl, hcv⟩ := own_slice_le HR.out
      have hls : SgsAt wr (fun g => w.heap.size ≤ g ∧ g < wr.heap.size) Av W := by
        rcases HR.out.2 with ⟨e, h0⟩ | ⟨g, cap, cur, e, hg, hh, hle, _⟩
        · intro j x hx
          rw [List.eq_nil_of_length_eq_zero (hWl.trans h0)] at hx
          simp at hx
        · injection e with e1 e2 e3
          subst e1 e3
          intro j x hx
          obtain ⟨p1, p2⟩ := HP.out x (List.mem_of_getElem? hx)
          refine ⟨g, 0, rfl, ⟨by omega, (Array.getElem?_eq_some_iff.1 hh).1⟩, fun q z hq => ?_, p1, (p2.keeps (KeepS.of_below hbe fun g hg => hg.2)).more fun g hg => ⟨hg.1, by omega⟩⟩
          have h9 := HR.out.cells (g := g) rfl (j * 4 + q) z (flatS_at hx hq)
          rw [Addr.add_lit] at h9
          rw [Nat.add_assoc]
          exact h9
      have HF := Lib.hid (show AllR w zs (.returned (.tuple #[.slice Av W.length cv, .slice A3 (Fc.opn [] zs).length k3])) wr from ⟨Av, cv, W, A3, k3, rfl, by omega, by rw [HM.out]; exact hk3, hWm, hls, HB1.out.trans (hbe.mono hs1)⟩)
      rw [HM.out, hWl] at HF
      clear hls hbe hWm htk HR
      go_wp2
      go_ret2
      exact HF.out
end Go.Proofs.Ytcfgemdpnbimoaa

namespace Go.Proofs.Ytcfgemdpnbimoaa
open Go.RowKit Go.Shelf
set_option maxRecDepth 100000
attribute [local go_sem] Oper.semAt_some

theorem rseg_same (B : Nat) (A1 A2 : Option Addr) (h c1 c2 : Nat) (bl : Bool) (l p : Int) (hs : List Int) (w : World) (hh : hs.length = h) (hl : h ≤ 1000000000) (h1 : Nums .u8 w B A1 hs) (h2 : Nums .u8 w B A2 hs) (hB : B ≤ w.heap.size) :
    Calls Try.prog 26 #[.agg (sgC (.slice A1 h c1) bl l p), .agg (sgC (.slice A2 h c2) bl l p)] w fun e w' => e = .returned (.bool true) ∧ Below w.heap.size w w' := by
  obtain ⟨w0, hw0⟩ : ∃ w0, (w.alloc (.cells (sgC (.slice A1 h c1) bl l p) 54)).alloc (.cells (sgC (.slice A2 h c2) bl l p) 54) = w0 := ⟨_, rfl⟩
  have hb : Below w.heap.size w w0 := by rw [← hw0]; exact ((Below.refl _ w).alloc (Nat.le_refl _) _).alloc (by simp) _
  have E := same_len B A1 A2 h h c1 c2 hs hs w0 rfl hh hh (by omega) (h1.below (hb.mono hB)) (h2.below (hb.mono hB))
  have k1 : w0.heap[w.heap.size]? = some (.cells (sgC (.slice A1 h c1) bl l p) 54 (0, 0)) := by
    rw [← hw0]; exact (Below.heap_alloc _ _ _ (by simp)).trans (World.alloc_heap_new _ _)
  have k2 : w0.heap[w.heap.size + 1]? = some (.cells (sgC (.slice A2 h c2) bl l p) 54 (0, 0)) := by
    rw [← hw0]
    have := World.alloc_heap_new (w.alloc (.cells (sgC (.slice A1 h c1) bl l p) 54)) (.cells (sgC (.slice A2 h c2) bl l p) 54)
    rwa [World.size_alloc] at this
  obtain ⟨d0, d1, d2, d3⟩ := sg_block k1
  obtain ⟨e0, e1, e2, e3⟩ := sg_block k2
  have hs0 : w0.heap.size = w.heap.size + 2 := by rw [← hw0]; simp
  have hC : ∀ w1, (∃ n, w1 = w0.drewN n) → Below w.heap.size w w1 ∧ w1.cell? ⟨w.heap.size, 1, none⟩ = some (.bool bl) ∧ w1.cell? ⟨w.heap.size, 2, none⟩ = some (.int .i64 l) ∧ w1.cell? ⟨w.heap.size, 3, none⟩ = some (.int .u64 p) ∧
      w1.cell? ⟨w.heap.size + 1, 1, none⟩ = some (.bool bl) ∧ w1.cell? ⟨w.heap.size + 1, 2, none⟩ = some (.int .i64 l) ∧ w1.cell? ⟨w.heap.size + 1, 3, none⟩ = some (.int .u64 p) := by
    rintro w1 ⟨n, rfl⟩
    exact ⟨below_drewN hb n, d1, d2, d3, e1, e2, e3⟩
  have HC := Lib.hid hC
  have HW := Lib.hid hw0
  unfold sgC at HW ⊢
  clear hb hw0 k1 k2 h1 h2 hC hs0 d1 d2 d3 e1 e2 e3
  go_enter Try.func26, Try.ntmps26
  go_wp2_with (go_at_call 27; rw [HW.out]; refine E.mono ?_; rintro e w1 ⟨rfl, hq⟩; obtain ⟨f0, f1, f2, f3, f4, f5, f6⟩ := HC.out w1 hq; have HB := Lib.hid f0; clear f0 hq)
  go_ret
  exact ⟨by simp, HB.out⟩
set_option maxHeartbeats 4000000 in
theorem lsame_any (B : Nat) (A1 A2 : Option Addr) (n c1 n2 c2 from_ : Nat) (S1 S2 : Nat → Prop) (xs ys : List Sg) (w : World) (hn1 : xs.length = n) (hn2 : ys.length = n2) (hl1 : n ≤ c1) (hf : n + from_ = n2) (hn : n2 ≤ 1000000) (he : xs.map Sg.pb = (ys.map Sg.pb).drop from_) (h1 : SgsAt w S1 A1 xs) (h2 : SgsAt w S2 A2 ys) (hS1 : ∀ k, S1 k → k < B) (hS2 : ∀ k, S2 k → k < B) (hB : B ≤ w.heap.size) :
    Calls Try.prog 13 #[.slice A1 n c1, .slice A2 n2 c2, .int .i64 (from_ : Int)] w fun e w' => e = .returned (.bool true) ∧ Below w.heap.size w w' := by
  have HL := Lib.hid hn1
  have HL2 := Lib.hid hn2
  have HE := Lib.hid he
  have hf' : (n2 : Int) - (from_ : Int) = (n : Int) := by omega
  have hfr : from_ ≤ 1000000 := by omega
  clear hn1 he hn2
  go_enter Try.func13, Try.ntmps13
  go_wp2
  go_loopw [7] (fun v wr => ∃ k : Nat, k ≤ n ∧ v = .int .i64 (k : Int) ∧ Hid (Below w.heap.size w wr)) (fun v _ => n - (intOf v).toNat)
  case atStart => exact ⟨0, by omega, rfl, Below.refl _ _⟩
  case round =>
    obtain ⟨k, hk, rfl, HBe⟩ := hrel
    by_cases hlt : k < n
    · obtain ⟨x, hx⟩ : ∃ x, xs[k]? = some x := ⟨_, List.getElem?_eq_getElem (by rw [HL.out]; exact hlt)⟩
      obtain ⟨y, hy, hxy⟩ : ∃ y, ys[from_ + k]? = some y ∧ y.pb = x.pb := by
        have h3 := congrArg (·[k]?) HE.out
        simp only [List.getElem?_map, hx, Option.map_some, List.getElem?_drop] at h3
        cases hy : ys[from_ + k]? with
        | none => rw [hy] at h3; cases h3
        | some y => rw [hy] at h3; injection h3 with h3; exact ⟨y, rfl, h3.symm⟩
      obtain ⟨xa, xc, xp, xb⟩ := x
      obtain ⟨ya, yc, yp, yb⟩ := y
      obtain ⟨rfl, rfl⟩ : yp = xp ∧ yb = xb := by simpa [Sg.pb] using hxy
      have hbe := HBe.out
      obtain ⟨b1, o1, rfl, hb1, d0, d1, d2, d3, hnx, _⟩ := SgsAt.at h1 hx
      obtain ⟨b2, o2, rfl, hb2, e0, e1, e2, e3, hny, _⟩ := SgsAt.at h2 hy
      have hbb1 := hS1 _ hb1
      have hbb2 := hS2 _ hb2
      have hhl := held_len yb
      obtain ⟨H, hH⟩ : ∃ H, (held yb).length = H := ⟨_, rfl⟩
      rw [hH] at hhl
      obtain ⟨bl, hbl⟩ : ∃ bl, decide (255 < yb.length) = bl := ⟨_, rfl⟩
      obtain ⟨L, hL⟩ : ∃ L, yb.length = L := ⟨_, rfl⟩
      simp only [hH, hbl] at d0 d1 e0 e1
      simp only [hL] at d2 e2
      have hsz := hbe.size
      have hlo1 : ∀ V, Below wr.heap.size wr V → (Instr.loadAt 44 (.pointer (some ⟨b1, o1 + k * 4, none⟩))).run Try.prog V = .ok (.agg #[.slice xa H xc, .bool bl, .int .i64 (L : Int), .int .u64 (yp : Int)]) V := fun V hV => by
        have hbV := hbe.trans (hV.mono hsz)
        have g0 := (hbV.cell (p := ⟨b1, o1 + k * 4, none⟩) (by simp only; omega)).trans d0
        have g1 := (hbV.cell (p := ⟨b1, o1 + k * 4 + 1, none⟩) (by simp only; omega)).trans d1
        have g2 := (hbV.cell (p := ⟨b1, o1 + k * 4 + 2, none⟩) (by simp only; omega)).trans d2
        have g3 := (hbV.cell (p := ⟨b1, o1 + k * 4 + 3, none⟩) (by simp only; omega)).trans d3
        simp [Instr.loadAt, go_sem, g0, g1, g2, g3]
      have hlo2 : ∀ V, Below wr.heap.size wr V → (Instr.loadAt 54 (.pointer (some ⟨b2, o2 + (from_ + k) * 4, none⟩))).run Try.prog V = .ok (.agg #[.slice ya H yc, .bool bl, .int .i64 (L : Int), .int .u64 (yp : Int)]) V := fun V hV => by
        have hbV := hbe.trans (hV.mono hsz)
        have g0 := (hbV.cell (p := ⟨b2, o2 + (from_ + k) * 4, none⟩) (by simp only; omega)).trans e0
        have g1 := (hbV.cell (p := ⟨b2, o2 + (from_ + k) * 4 + 1, none⟩) (by simp only; omega)).trans e1
        have g2 := (hbV.cell (p := ⟨b2, o2 + (from_ + k) * 4 + 2, none⟩) (by simp only; omega)).trans e2
        have g3 := (hbV.cell (p := ⟨b2, o2 + (from_ + k) * 4 + 3, none⟩) (by simp only; omega)).trans e3
        simp [Instr.loadAt, go_sem, g0, g1, g2, g3]
      have SM : ∀ V, Below wr.heap.size wr V → Calls Try.prog 26 #[.agg #[.slice xa H xc, .bool bl, .int .i64 (L : Int), .int .u64 (yp : Int)], .agg #[.slice ya H yc, .bool bl, .int .i64 (L : Int), .int .u64 (yp : Int)]] V fun e w' => e = .returned (.bool true) ∧ Below V.heap.size V w' := fun V hV =>
        rseg_same B xa ya H xc yc bl L yp (held yb) V hH (by omega) (((hnx.nums hS1).below (hbe.mono hB)).below (hV.mono (by omega))) (((hny.nums hS2).below (hbe.mono hB)).below (hV.mono (by omega))) (by have := hV.size; omega)
      have HB2 : Hid (∀ V, Below wr.heap.size wr V → Below w.heap.size w V) := fun V hV => hbe.trans (hV.mono hsz)
      have hlt' : (k : Int) < (n : Int) := by omega
      have hlt2 : (from_ : Int) + (k : Int) < (n2 : Int) := by omega
      clear d0 d1 d2 d3 e0 e1 e2 e3 hnx hny hx hy hxy hH hbl hL hbe
      go_wp2_with fail
      refine wp_region_F 33 [] (fun _ _ _ => True) (fun V => Below wr.heap.size wr V) (by kernel_rfl) (by kernel_rfl) (by rfl) (by simp) (fun W W' h hb => h.trans (hb.mono h.size)) (fun _ _ _ _ _ _ => trivial) (Below.refl _ _).drew ?_
      repeat (refine wpF_pure rfl rfl ?_; go_big_quiet_step (fail); refine wpQuiet_nil ?_)
      refine wpF_load (.agg #[.slice xa H xc, .bool bl, .int .i64 (L : Int), .int .u64 (yp : Int)]) rfl (by rfl) (by rfl) (by rfl) hlo1 ?_
      simp only [Act.put, List.setIfInBounds_toArray, List.set_cons_succ, List.set_cons_zero]
      repeat (refine wpF_pure rfl rfl ?_; go_big_quiet_step (fail); refine wpQuiet_nil ?_)
      refine wpF_load (.agg #[.slice ya H yc, .bool bl, .int .i64 (L : Int), .int .u64 (yp : Int)]) rfl (by rfl) (by rfl) (by rfl) hlo2 ?_
      simp only [Act.put, List.setIfInBounds_toArray, List.set_cons_succ, List.set_cons_zero]
      refine wpF_call (f := 26) (args := #[.agg #[.slice xa H xc, .bool bl, .int .i64 (L : Int), .int .u64 (yp : Int)], .agg #[.slice ya H yc, .bool bl, .int .i64 (L : Int), .int .u64 (yp : Int)]]) (.bool true) rfl rfl (fun x => by first | rfl | (simp [go_sem]; done)) SM ?_
      simp only [Act.put, List.setIfInBounds_toArray, List.set_cons_succ, List.set_cons_zero]
      repeat (refine wpF_pure rfl rfl ?_; go_big_quiet_step (fail); refine wpQuiet_nil ?_)
      intro xs' V hV _
      simp only [fill]
      have HB9 := Lib.hid (HB2.out V hV)
      clear hlo1 hlo2 SM hV
      go_wp2_with fail
      go_roundw
      case rel => exact ⟨k + 1, by omega, by go_num, HB9.out⟩
      case measure => simp [intOf]; omega
    · have hkn : k = n := by omega
      subst hkn
      have hB2 := HBe.out
      go_wp2
      go_ret
      exact ⟨rfl, hB2⟩
/-- what Copy's operations hand on -/
def FCp (h p : Nat) (now : List Int) (q : Tmp) (x : Value) (W : World) : Prop :=
  if q = 22 ∨ q = 2 then ∃ b v, x = .pointer (some ⟨b, 0, none⟩) ∧ h ≤ b ∧ ScanAt W b h v p now
  else ∃ v, W.ownsRow h 5 1 v (held now).length ((held now).map (Value.int .u8)) ∧ x = (if q = 19 then v else if q = 20 then .agg #[.int .i64 (now.length : Int), v] else .agg #[.int .u64 (p : Int), .int .i64 (now.length : Int), v])
theorem FCp.later {h p : Nat} {now : List Int} {q : Tmp} {x : Value} {W W' : World} (hh : FCp h p now q x W) (hb : Below W.heap.size W W') : FCp h p now q x W' := by
  unfold FCp at hh ⊢
  split at hh
  · rename_i hq
    rw [if_pos hq]
    obtain ⟨b, v, e, hl, hat⟩ := hh
    exact ⟨b, v, e, hl, hat.below hb⟩
  · rename_i hq
    rw [if_neg hq]
    obtain ⟨v, hv, e⟩ := hh
    exact ⟨v, own_below hv hb, e⟩
set_option maxHeartbeats 4000000 in
theorem sccopy_any {w : World} {b lo p : Nat} {v : Value} {now : List Int} (h : ScanAt w b lo v p now) :
    Calls Try.prog 10 #[.pointer (some ⟨b, 0, none⟩)] w fun e w' => ∃ b' v', e = .returned (.pointer (some ⟨b', 0, none⟩)) ∧ w.heap.size ≤ b' ∧ ScanAt w' b' w.heap.size v' p now ∧ Below w.heap.size w w' := by
  obtain ⟨A, c, rfl, hcl⟩ := h.slice
  have hcell : ∀ V, Below w.heap.size w V → V.cell? ⟨b, 0, none⟩ = some (.int .u64 (p : Int)) ∧ V.cell? ⟨b, 1, none⟩ = some (.int .i64 (now.length : Int)) ∧ V.cell? ⟨b, 2, none⟩ = some (.slice A (held now).length c) := fun V hV => (h.below hV).cells
  have hnum : ∀ V, Below w.heap.size w V → Nums .u8 V V.heap.size A (held now) := fun V hV => by
    obtain ⟨A', c', e, _, hn⟩ := (h.below hV).nums
    injection e with e1
    subst e1
    exact hn
  have hhl := held_len now
  have hl0 : ∀ V, Below w.heap.size w V → (Instr.loadAt 34 (.pointer (some ⟨b, 0, none⟩))).run Try.prog V = .ok (.int .u64 (p : Int)) V := fun V hV => by simp [Instr.loadAt, go_sem, (hcell V hV).1]
  have hl1 : ∀ V, Below w.heap.size w V → (Instr.loadAt 3 (.pointer (some ⟨b, 1, none⟩))).run Try.prog V = .ok (.int .i64 (now.length : Int)) V := fun V hV => by simp [Instr.loadAt, go_sem, (hcell V hV).2.1]
  have hl2 : ∀ V, Below w.heap.size w V → (Instr.loadAt 25 (.pointer (some ⟨b, 2, none⟩))).run Try.prog V = .ok (.slice A (held now).length c) V := fun V hV => by simp [Instr.loadAt, go_sem, (hcell V hV).2.2]
  clear h
  go_enter Try.func10, Try.ntmps10
  go_wp2_with fail
  refine wp_region_F 23 [19, 20, 21, 22, 2] (FCp w.heap.size p now) (fun V => Below w.heap.size w V) (by kernel_rfl) (by kernel_rfl) (by rfl) (by simp) (fun W W' h hb => h.trans (hb.mono h.size)) (fun q x W W' h hb => h.later hb) (Below.refl _ _).drew ?_
  repeat (first | (refine wpF_nil rfl rfl rfl rfl ?_; simp only [Act.put, List.setIfInBounds_toArray, List.set_cons_succ, List.set_cons_zero]) | (refine wpF_pure rfl rfl ?_; go_big_quiet_step (fail); refine wpQuiet_nil ?_))
  refine wpF_load (.int .u64 (p : Int)) rfl (by rfl) (by rfl) (by rfl) hl0 ?_
  simp only [Act.put, List.setIfInBounds_toArray, List.set_cons_succ, List.set_cons_zero]
  repeat (first | (refine wpF_nil rfl rfl rfl rfl ?_; simp only [Act.put, List.setIfInBounds_toArray, List.set_cons_succ, List.set_cons_zero]) | (refine wpF_pure rfl rfl ?_; go_big_quiet_step (fail); refine wpQuiet_nil ?_))
  refine wpF_load (.int .i64 (now.length : Int)) rfl (by rfl) (by rfl) (by rfl) hl1 ?_
  simp only [Act.put, List.setIfInBounds_toArray, List.set_cons_succ, List.set_cons_zero]
  repeat (first | (refine wpF_nil rfl rfl rfl rfl ?_; simp only [Act.put, List.setIfInBounds_toArray, List.set_cons_succ, List.set_cons_zero]) | (refine wpF_pure rfl rfl ?_; go_big_quiet_step (fail); refine wpQuiet_nil ?_))
  refine wpF_load (.slice A (held now).length c) rfl (by rfl) (by rfl) (by rfl) hl2 ?_
  simp only [Act.put, List.setIfInBounds_toArray, List.set_cons_succ, List.set_cons_zero]
  refine wpF_callsrc 19 (f := 21) (args := #[.slice A (held now).length c]) (by simp) rfl rfl rfl (fun x => by first | rfl | (simp [go_sem]; done)) (fun V hV => (clone_any A (held now).length c (held now) V rfl (by omega) (hnum V hV)).mono fun e V' ⟨x, he, hm⟩ => ⟨x, he, ?_, hm.2⟩) ?_
  · unfold FCp
    rw [if_neg (by decide)]
    exact ⟨x, ownsRow_lower hm.1 hV.size, by rw [if_pos rfl]⟩
  simp only [Act.put, List.setIfInBounds_toArray, List.set_cons_succ, List.set_cons_zero]
  refine wpF_mix 20 [19] (by simp) rfl (by kernel_rfl) (by kernel_rfl) (fun xs => by rfl) (fun xs V hV hx => ?_) ?_
  · have h19 := hx 19 (by simp)
    unfold FCp at h19
    rw [if_neg (by decide)] at h19
    obtain ⟨v, hv, e⟩ := h19
    rw [if_pos rfl] at e
    obtain ⟨Av, cv, rfl, _⟩ := own_slice_le hv
    refine ⟨.agg #[.int .i64 (now.length : Int), .slice Av (held now).length cv], V, ?_, ?_, Below.refl _ _⟩
    · simp [execOp, fill, Act.put, Act.eval, e, go_sem]
    · unfold FCp
      rw [if_neg (by decide)]
      exact ⟨_, hv, by rw [if_neg (by decide), if_pos rfl]⟩
  simp only [Act.put, List.setIfInBounds_toArray, List.set_cons_succ, List.set_cons_zero]
  refine wpF_mix 21 [20] (by simp) rfl (by kernel_rfl) (by kernel_rfl) (fun xs => by rfl) (fun xs V hV hx => ?_) ?_
  · have h19 := hx 20 (by simp)
    unfold FCp at h19
    rw [if_neg (by decide)] at h19
    obtain ⟨v, hv, e⟩ := h19
    rw [if_neg (by decide), if_pos rfl] at e
    obtain ⟨Av, cv, rfl, _⟩ := own_slice_le hv
    refine ⟨.agg #[.int .u64 (p : Int), .int .i64 (now.length : Int), .slice Av (held now).length cv], V, ?_, ?_, Below.refl _ _⟩
    · simp [execOp, fill, Act.put, Act.eval, e, go_sem]
    · unfold FCp
      rw [if_neg (by decide)]
      exact ⟨_, hv, by rw [if_neg (by decide), if_neg (by decide)]⟩
  simp only [Act.put, List.setIfInBounds_toArray, List.set_cons_succ, List.set_cons_zero]
  refine wpF_mix 22 [21] (by simp) rfl (by kernel_rfl) (by kernel_rfl) (fun xs => by rfl) (fun xs V hV hx => ?_) ?_
  · have h19 := hx 21 (by simp)
    unfold FCp at h19
    rw [if_neg (by decide)] at h19
    obtain ⟨v, hv, e⟩ := h19
    rw [if_neg (by decide), if_neg (by decide)] at e
    obtain ⟨Av, cv, rfl, _⟩ := own_slice_le hv
    have hbA : Below V.heap.size V (V.alloc (.cells #[.int .u64 (p : Int), .int .i64 (now.length : Int), .slice Av (held now).length cv] 51)) := (Below.refl _ _).alloc (Nat.le_refl _) _
    refine ⟨.pointer (some ⟨V.heap.size, 0, none⟩), _, ?_, ?_, hbA⟩
    · simp [execOp, fill, Act.put, Act.eval, e, go_sem]
    · unfold FCp
      rw [if_pos (by decide)]
      exact ⟨V.heap.size, _, rfl, hV.size, World.alloc_heap_new _ _, own_below hv hbA⟩
  simp only [Act.put, List.setIfInBounds_toArray, List.set_cons_succ, List.set_cons_zero]
  refine wpF_mix 2 [22] (by simp) rfl (by kernel_rfl) (by kernel_rfl) (fun xs => by rfl) (fun xs V hV hx => ?_) ?_
  · have h19 := hx 22 (by simp)
    unfold FCp at h19
    rw [if_pos (by decide)] at h19
    obtain ⟨b', v, e, hl, hat⟩ := h19
    refine ⟨.pointer (some ⟨b', 0, none⟩), V, ?_, ?_, Below.refl _ _⟩
    · simp [execOp, fill, Act.put, Act.eval, e, go_sem]
    · unfold FCp
      rw [if_pos (by decide)]
      exact ⟨b', v, rfl, hl, hat⟩
  simp only [Act.put, List.setIfInBounds_toArray, List.set_cons_succ, List.set_cons_zero]
  intro xs V hV hx
  have h2 := hx 2 (by simp)
  unfold FCp at h2
  rw [if_pos (by decide)] at h2
  obtain ⟨b', v, e, hl, hat⟩ := h2
  simp only [fill, Act.put, List.setIfInBounds_toArray, List.set_cons_succ, List.set_cons_zero, e]
  have HF := Lib.hid (And.intro hl (And.intro hat hV))
  clear hx hat hV hl0 hl1 hl2 hcell hnum
  generalize xs 19 = x19
  generalize xs 20 = x20
  generalize xs 21 = x21
  generalize xs 22 = x22
  go_wp2_with fail
  go_ret
  exact ⟨b', v, rfl, HF.out.1, HF.out.2.1, HF.out.2.2⟩
end Go.Proofs.Ytcfgemdpnbimoaa

namespace Go.Proofs.Ytcfgemdpnbimoaa
open Go.RowKit Go.ChangeShapes Go.WideShapes Go.Deep
set_option maxRecDepth 100000

/-- the lists bl lie at A -/
def ListArg (w : World) (A : Option Addr) (bl : List (List Int)) : Prop :=
  ∀ (i : Nat) (b : List Int), bl[i]? = some b → ∃ (g o : Nat) (Ai : Option Addr) (ci : Nat), A = some ⟨g, o, none⟩ ∧ g < w.heap.size ∧ w.cell? ⟨g, o + i, none⟩ = some (.slice Ai b.length ci) ∧ b.length ≤ ci ∧ ci ≤ maxLen ∧ Nums .u8 w w.heap.size Ai b ∧ ∀ z ∈ b, (Lit.int .u8 z).wf = true

theorem nums_of_cells {k : IntKind} {w : World} {A : Option Addr} {zs : List Int} (h0 : A = none → zs = []) (hc : ∀ a, A = some a → ∀ c, c < zs.length → w.cell? (a.add c) = some (.int k (zs.getD c 0))) : Nums k w w.heap.size A zs := fun hn => by
  cases A with
  | none => exact absurd (h0 rfl) hn
  | some x =>
    have hp : 0 < zs.length := by
      rcases Nat.eq_zero_or_pos zs.length with h | h
      · exact absurd (List.eq_nil_of_length_eq_zero h) hn
      · exact h
    obtain ⟨b, off, spot⟩ := x
    have hc0 := hc _ rfl 0 hp
    have hspot : spot = none := by simpa [Addr.add] using World.cell?_spot hc0
    subst hspot
    refine ⟨b, off, rfl, by simpa [Addr.add] using block_of_cell hc0, fun j c hj => ?_⟩
    have hlt : j < zs.length := by
      rcases Nat.lt_or_ge j zs.length with h | h
      · exact h
      · rw [List.getElem?_eq_none h] at hj; simp at hj
    have hcj := hc _ rfl j hlt
    rw [List.getD, hj] at hcj
    by_cases hj0 : j = 0
    · subst hj0; simpa [Addr.add] using hcj
    · simpa [Addr.add, hj0] using hcj

theorem rows_of {H : Type} {enc : TypeId × Value → H} {w : World} {base : Nat} {held : Bool} {fuel : Nat} {a : Option Addr} {len cap : Nat} {x : DataW H × List MemPlace}
    (h : DataW.trod enc Try.prog w base (fun _ => true) held fuel 22 [Value.slice a len cap] = some x) :
    ∃ ds : List (List Int), ds.length = len ∧ len ≤ 9223372036854775807 ∧ ListArg w a ds := by
  rcases open_int_rows Try.underlying22 Try.underlying25 Try.underlying5 (by kernel_rfl) (by kernel_rfl) h with ⟨hcs, _⟩ | ⟨ad, l, c, A, L, C, Z, hcs, hb, hl, hm, _, hr⟩
  · simp at hcs
    obtain ⟨rfl, rfl, rfl⟩ := hcs
    exact ⟨[], rfl, by omega, fun i b hi => by simp at hi⟩
  · simp at hcs
    obtain ⟨rfl, rfl, rfl⟩ := hcs
    refine ⟨(List.range len).map fun r => (Z r).take (L r), by simp, by unfold maxLen at hm; omega, fun i b hi => ?_⟩
    rw [List.getElem?_map] at hi
    obtain ⟨r, hr1, rfl⟩ := Option.map_eq_some_iff.1 hi
    have hil : i < len := by
      rcases Nat.lt_or_ge i len with h1 | h1
      · exact h1
      · rw [List.getElem?_eq_none (by simpa using h1)] at hr1; cases hr1
    rw [List.getElem?_range hil] at hr1
    injection hr1 with hr1
    subst hr1
    obtain ⟨h1, h2, h3, h4, h5, h6, h7⟩ := hr i (by omega)
    obtain ⟨g, o, spot⟩ := ad
    have hspot : spot = none := by
      have h8 := (hr 0 (by omega)).1
      simpa [Addr.add] using World.cell?_spot h8
    subst hspot
    have hlen : ((Z i).take (L i)).length = L i := by rw [List.length_take]; omega
    rw [Addr.add_lit] at h1
    refine ⟨g, o, A i, C i, rfl, block_of_cell h1, by rw [hlen]; exact h1, by rw [hlen]; exact h2, h3, ?_, fun z hz => h5 z (List.mem_of_mem_take hz)⟩
    refine Nums.take (nums_of_cells (fun e => List.eq_nil_of_length_eq_zero (by rw [h4]; exact h6 e)) fun a' ha c hc => (h7 a' ha).2 c (by omega)) _
end Go.Proofs.Ytcfgemdpnbimoaa

namespace Go.Proofs.Ytcfgemdpnbimoaa
open Go.RowKit Go.Shelf
set_option maxRecDepth 100000
attribute [local go_sem] Oper.semAt_some

/-- behind so many parts: the bytes that were fed lie in a row of their own; the scanner was fed them -/
structure Fs (B h b1 : Nat) (w : World) (wr : World) (va : Value) (zs : List Int) (u : Value) : Prop where
  row : wr.ownsRow h 5 1 va zs.length (zs.map (Value.int .u8))
  one : ScanAt wr b1 h u zs.length (Fc.opn [] zs)
  sep : ∀ g, va.ownBlock = some g → u.ownBlock ≠ some g
  below : Below B w wr
  size : h ≤ wr.heap.size
section
variable {B h b1 m : Nat} {w wr w2 w3 w5 w6 : World} {va va' u v : Value} {zs bs : List Int}
theorem Fs.later (hf : Fs B h b1 w wr va zs u) (hB : B ≤ h) (hb : Below wr.heap.size wr w2) : Fs B h b1 w w2 va zs u :=
  ⟨own_below hf.row hb, hf.one.below hb, hf.sep, hf.below.trans (hb.mono (by have := hf.size; omega)), by have := hf.size; have := hb.size; omega⟩
/-- behind the append: the scanner is as it was -/
theorem Fs.app (hf : Fs B h b1 w w2 va zs u) (hB : B ≤ h) (hb1 : b1 < h) (hown : w3.ownsRow h 5 1 va' (zs.length + m) (zs.map (Value.int .u8) ++ bs.map (Value.int .u8))) (hm : bs.length = m) (hg : w2.grownBy w3 va.ownBlock) (hat : va'.ownBlock = va.ownBlock ∨ va'.ownBlock = some w2.heap.size) :
    w3.ownsRow h 5 1 va' (zs ++ bs).length ((zs ++ bs).map (Value.int .u8)) ∧ ScanAt w3 b1 h u zs.length (Fc.opn [] zs) ∧ (∀ g, va'.ownBlock = some g → u.ownBlock ≠ some g) ∧ Below B w w3 ∧ h ≤ w3.heap.size ∧ (∀ g, va'.ownBlock = some g → g ≤ w2.heap.size) := by
  have hO : Off (fun g => va.ownBlock = some g) w2 w3 := ⟨hg.os, hg.tape, hg.output, hg.size, fun g h3 h4 => hg.block g h3 (fun e => h4 e.symm)⟩
  have hva := hf.row.lt
  have hs := hf.size
  refine ⟨by rw [List.length_append, hm, List.map_append]; exact hown, hf.one.off hO (fun e => by have := (hva b1 e).1; omega) (fun g e1 e2 => hf.sep g e2 e1), fun g e1 e2 => ?_, hf.below.trans (hO.below (fun g e => by have := (hva g e).1; omega) (by omega)), by have := hg.size; omega, fun g e => ?_⟩
  · rcases hat with h1 | h1
    · exact hf.sep g (h1.symm.trans e1) e2
    · rw [h1] at e1; injection e1 with e1; have := (hf.one.own.lt g e2).2; omega
  · rcases hat with h1 | h1
    · have := (hva g (h1.symm.trans e)).2; omega
    · rw [h1] at e; injection e with e; omega
end
set_option maxHeartbeats 16000000 in
theorem feeds_go (A : Option Addr) (n c : Nat) (bl : List (List Int)) (w : World) (hn : bl.length = n) (hnl : n ≤ 9223372036854775807) (h1 : ListArg w A bl) :
    Calls Try.prog 3 #[.slice A n c] w fun e w' => e = .returned (.bool true) ∧ Below w.heap.size w w' := by
  have HN := Lib.hid hn
  have HA := Lib.hid h1
  clear hn h1
  obtain ⟨i0, hi0, hz0, hz1, hz2⟩ := info_parts byteInfo
  go_enter Try.func3, Try.ntmps3
  go_wp2_with fail
  refine (snew_any w).mono ?_
  rintro e w1 ⟨rfl, hat1, hb1, hs1⟩
  have A1 : ScanAt w1 w.heap.size w1.heap.size (.slice none 0 0) 0 [] := ⟨hat1.blk, World.ownsRow_nil _ _ _ _⟩
  have F0 : Fs w.heap.size w1.heap.size w.heap.size w w1 (.slice none 0 0) [] (.slice none 0 0) := ⟨World.ownsRow_nil _ _ _ _, A1, fun g e => (by cases e), hb1, Nat.le_refl _⟩
  have HF0 := Lib.hid F0
  clear hat1 A1 F0 hb1
  go_wp2
  go_loopw [4, 5] (fun va iv wr => ∃ (k : Nat) (zs : List Int) (u : Value), k ≤ n ∧ k ≤ 20 ∧ iv = .int .i64 (k : Int) ∧ zs.length ≤ 400 * k ∧ Hid (Bytes zs) ∧ Hid (Fs w.heap.size w1.heap.size w.heap.size w wr va zs u))
    (fun _ iv _ => 20 - (intOf iv).toNat)
  case atStart => exact ⟨0, [], _, by omega, by omega, rfl, by simp, fun z hz => (by cases hz), HF0.out⟩
  case round =>
    obtain ⟨k, zs, u, hkn, hk20, rfl, hzl, HZ, HF⟩ := hrel
    by_cases hlt : k < n ∧ k < 20
    · obtain ⟨hlt1, hlt2⟩ := hlt
      obtain ⟨bb, hbb⟩ : ∃ b, bl[k]? = some b := ⟨_, List.getElem?_eq_getElem (by rw [HN.out]; exact hlt1)⟩
      obtain ⟨g, o, Ai, ci, rfl, hg, hcell, hci, hcm, hnum, hwf⟩ := HA.out k bb hbb
      have hf := HF.out
      have hsz := hf.below.size
      have hl1' : (k : Int) < (n : Int) := by omega
      have hl2' : (k : Int) < 20 := by omega
      obtain ⟨Av, cv, rfl, hcv⟩ := own_slice_le hf.row
      have hlc : ∀ V, Below wr.heap.size wr V → V.cell? ⟨g, o + k, none⟩ = some (.slice Ai bb.length ci) := fun V hV => ((hf.below.trans (hV.mono hsz)).cell (p := ⟨g, o + k, none⟩) hg).trans hcell
      obtain ⟨N0, hN0⟩ : ∃ N0, bb.length = N0 := ⟨_, rfl⟩
      obtain ⟨m, hm, hmN, hm4⟩ : ∃ m : Nat, min (N0 : Int) 400 = (m : Int) ∧ m ≤ N0 ∧ m ≤ 400 := ⟨min N0 400, by omega, by omega, by omega⟩
      have hbz : Bytes (bb.take m) := (bytes_of hwf).take m
      have hbl : (bb.take m).length = m := by rw [List.length_take]; omega
      have hbn := hnum.take m
      obtain ⟨bs, hbs⟩ : ∃ bs, bb.take m = bs := ⟨_, rfl⟩
      rw [hbs] at hbz hbl hbn
      rw [hN0] at hlc hci
      have hmc : (m : Int) ≤ (ci : Int) := by omega
      have hcr := hlc wr (Below.refl _ _)
      have HBZ := Lib.hid hbz
      have HBL := Lib.hid hbl
      have HBN := Lib.hid hbn
      clear hbz hbl hbn hcell hnum hwf hbs hbb hf
      go_wp2_with fail
      go_quiet (fail)
      have HFd := Lib.hid (HF.out.later (by omega) (below_drewN (Below.refl _ _) nq))
      generalize wr.drewN nq = wd at *
      clear HF hlc hcr
      obtain ⟨q, hq⟩ : ∃ q, zs.length = q := ⟨_, rfl⟩
      rw [hq] at HFd
      have hfd := HFd.out
      have hwd := hfd.below.size
      have hh1 := hfd.size
      have hna : Nums .u8 wd wd.heap.size Av zs := Nums.of_own (by rw [hq]; have h9 := hfd.row; rw [hq] at h9; exact h9)
      rw [hq] at hcv hzl ⊢
      have R1 := rall_any Av q cv zs wd hq (by omega) hna
      clear hfd hna
      go_wp2_with fail
      refine R1.mono ?_
      rintro e w2 ⟨AW, cW, W0, A3, c3, rfl, _, _, hW0, _, hb2⟩
      obtain ⟨q0, hq0⟩ : ∃ q0, W0.length = q0 := ⟨_, rfl⟩
      obtain ⟨q1, hq1⟩ : ∃ q1, (Fc.opn [] zs).length = q1 := ⟨_, rfl⟩
      rw [hq0, hq1]
      have HF2 := Lib.hid (HFd.out.later (by omega) hb2)
      have HW0 := Lib.hid hW0
      have HQ0 := Lib.hid hq0
      have HQ := Lib.hid hq
      have hs2 := hb2.size
      clear R1 hb2 HFd hW0 hq0 hq1 hq
      have hrow2 := HF2.out.row
      rw [HQ.out] at hrow2
      obtain ⟨va', w3, hrun, hown, hg, hat⟩ := run_append_any_at (P := Try.prog) (w := w2) 25 25 w1.heap.size 5 i0 (.int .u8 0) 1 Try.underlying25 hi0 hz0 hz1 hz2 rfl .u8 q _ bs _ hrow2 Ai m ci w2.heap.size HBL.out ((HBN.out.below HF2.out.below).mono HF2.out.below.size) (by unfold maxLen; omega) (by omega) HF2.out.size
      obtain ⟨g1, g2, g3, g4, g5, g6⟩ := HF2.out.app (by omega) (by omega) (by rw [HQ.out]; exact hown) HBL.out hg hat
      have hs3 := hg.size
      obtain ⟨Av', cv', rfl, hcv'⟩ := own_slice_le hown
      have HRUN := Lib.hid hrun
      have hlen3 : (zs ++ bs).length = q + m := by rw [List.length_append, HQ.out, HBL.out]
      rw [HQ.out] at g2
      have hu2 : ∀ g, u.ownBlock = some g → w1.heap.size ≤ g ∧ g < w2.heap.size := fun g hg => HF2.out.one.own.lt g hg
      have hna3 : Nums .u8 w3 w3.heap.size Av' (zs ++ bs) := Nums.of_own (by rw [hlen3]; rw [hlen3] at g1; exact g1)
      have R3 := rall_any Av' (q + m) cv' (zs ++ bs) w3 hlen3 (by omega) hna3
      have G1 := Lib.hid g1
      have G2 := Lib.hid g2
      have G3 := Lib.hid g3
      have G4 := Lib.hid g4
      have G6 := Lib.hid g6
      have HL3 := Lib.hid hlen3
      have HU2 := Lib.hid hu2
      clear hrun hown hg hat g1 g2 g3 g4 g6 hrow2 HF2 hna3 hlen3 hu2
      go_wp2_with (at_builtin; refine Lib.wpList_append_run _ rfl (.tmp 43) (.tmp 44) 25 25 rfl _ _ rfl rfl _ _ HRUN.out ?_)
      refine R3.mono ?_
      rintro e w4 ⟨AX, cX, W, A5, c5, rfl, hcX, _, hW, hsW, hb4⟩
      obtain ⟨M, hM⟩ : ∃ M, (Fc.opn [] (zs ++ bs)).length = M := ⟨_, rfl⟩
      have hMl : M ≤ 8000 := by
        have := Fc.opn_length (zs ++ bs) []
        rw [HL3.out, hM, List.length_nil] at this
        omega
      rw [hM]
      have hs4 := hb4.size
      have at4 := G2.out.below hb4
      have ro4 := own_below G1.out hb4
      have b04 := G4.out.trans (hb4.mono (by omega))
      have HM := Lib.hid hM
      have HW := Lib.hid hW
      have CP := sccopy_any at4
      clear R3 hM hW
      go_wp2_with fail
      refine CP.mono ?_
      rintro e w5 ⟨bc, vc, rfl, hbc, atc5, hb5⟩
      have hs5 := hb5.size
      have hbc5 := atc5.lt
      have at5 := at4.below hb5
      have ro5 := own_below ro4 hb5
      have b05 := b04.trans (hb5.mono (by omega))
      have sW5 := hsW.keeps (KeepS.of_below hb5 fun k hk => hk.2)
      have hvc : ∀ g, vc.ownBlock = some g → w4.heap.size ≤ g ∧ g < w5.heap.size := fun g hg => atc5.own.lt g hg
      clear CP at4 ro4 b04 hsW hb4 hb5
      have hopz := Fc.opn_length zs []
      rw [HQ.out, List.length_nil, Nat.zero_add] at hopz
      have F := feed_any at5 (by omega) Ai m ci bs HBL.out (by omega) (by omega) HBZ.out (by omega) (by omega) (nums_data (HBN.out.below b05) b05.size (Nat.le_refl _) (fun g hg => by have := (HU2.out g hg).1; omega))
      have B05 := Lib.hid b05
      have A5' := Lib.hid at5
      have AC5 := Lib.hid atc5
      have R5 := Lib.hid ro5
      have S5 := Lib.hid sW5
      have HVC := Lib.hid hvc
      clear at5 atc5 ro5 sW5 b05 hvc
      go_wp2_with fail
      refine F.mono ?_
      rintro e w6 ⟨AL, cL, xs, v, rfl, hcL, hxs, hto, hsx, _⟩
      have hs6 := hto.off.size
      have at6 := hto.at'
      have hu5 : ∀ g, u.ownBlock = some g → g < w3.heap.size := fun g hg => by have := (HU2.out g hg).2; omega
      have atc6 := AC5.out.off hto.off (fun e => by
        rcases e with e | e
        · omega
        · have := hu5 _ e; omega) (fun g hg e => by
        have h2 := HVC.out g hg
        rcases e with e | e
        · omega
        · have := hu5 _ e; omega)
      have ro6 := own_off R5.out hto.off (fun g hg e => by
        rcases e with e | e
        · have := (R5.out.lt g hg).1; omega
        · exact G3.out g hg e)
      have sW6 := S5.out.keeps ⟨hs6, fun g hg => hto.off.block g (by omega) (fun e => by
        rcases e with e | e
        · omega
        · have := hu5 _ e; omega)⟩
      have b06 := B05.out.trans (hto.belowB A5'.out (Nat.le_refl _) (by omega) (by omega))
      have sep6 : ∀ g, Value.ownBlock (.slice Av' (q + m) cv') = some g → v.ownBlock ≠ some g := fun g hg e => by
        have h2 := G6.out g hg
        rcases hto.row with e2 | e2 | ⟨q9, e2, e3⟩
        · rw [e2] at e; cases e
        · exact G3.out g hg (e2.symm.trans e)
        · rw [e2] at e; injection e with e; omega
      have hv6 : ∀ g, v.ownBlock = some g → g < w4.heap.size ∨ w5.heap.size ≤ g := fun g hg => by
        rcases hto.row with e2 | e2 | ⟨q9, e2, e3⟩
        · rw [e2] at hg; cases hg
        · have := hu5 g (e2.symm.trans hg); omega
        · rw [e2] at hg; injection hg with hg; omega
      have hopn : Fc.opn (Fc.opn [] zs) bs = Fc.opn [] (zs ++ bs) := (Fc.opn_feed zs bs []).symm
      have hall : Fc.scan 0 [] (zs ++ bs) = Fc.scan 0 [] zs ++ Fc.scan q (Fc.opn [] zs) bs := by rw [Fc.scan_feed, HQ.out, Nat.zero_add]
      rw [hopn] at at6
      have F2 := feed_any atc6 (by omega) Ai m ci bs HBL.out (by omega) (by omega) HBZ.out (by omega) (by omega) (nums_data (HBN.out.below b06) b06.size (by omega) (fun g hg => by have := (HVC.out g hg).1; omega))
      have AT6 := Lib.hid at6
      have AC6 := Lib.hid atc6
      have R6 := Lib.hid ro6
      have S6 := Lib.hid sW6
      have B06 := Lib.hid b06
      have SP6 := Lib.hid sep6
      have HV6 := Lib.hid hv6
      have SX6 := Lib.hid hsx
      have HXS := Lib.hid hxs
      have HALL := Lib.hid hall
      have HU5 := Lib.hid hu5
      clear F hto at6 atc6 ro6 sW6 b06 sep6 hv6 hsx hxs hall hu5 hopn A5' AC5 R5 S5 B05
      obtain ⟨Hh, hHh, hHc⟩ : ∃ Hh, (held (Fc.opn [] (zs ++ bs))).length = Hh ∧ Hh = (if 255 < M then 0 else M) := by
        refine ⟨_, rfl, ?_⟩
        unfold held
        rw [HM.out]
        split
        · rfl
        · exact HM.out
      have HHH := Lib.hid hHh
      clear hHh
      obtain hc3 | hc3 | hc3 : M = 0 ∨ (0 < M ∧ M ≤ 255) ∨ 255 < M := by omega
      case' inl =>
        subst hc3
        rw [if_neg (by omega)] at hHc
        subst hHc
        obtain ⟨bo, hbo⟩ : ∃ bo, decide (Fc.opn [] (zs ++ bs) ≠ []) = bo := ⟨_, rfl⟩
        have hbo2 : bo = false := by rw [← hbo, decide_eq_false_iff_not]; exact fun h => h (List.eq_nil_of_length_eq_zero HM.out)
        subst hbo2
        have HBO := Lib.hid hbo
        clear hbo
        go_wp2_with fail
      case' inr.inl =>
        have hM1 : (0 : Int) < (M : Int) := by omega
        have hM2 : ¬ (255 : Int) < (M : Int) := by omega
        rw [if_neg (by omega)] at hHc
        subst hHc
        obtain ⟨bo, hbo⟩ : ∃ bo, decide (Fc.opn [] (zs ++ bs) ≠ []) = bo := ⟨_, rfl⟩
        have hbo2 : bo = true := by rw [← hbo, decide_eq_true_iff]; exact fun h => by have := HM.out; rw [h, List.length_nil] at this; omega
        subst hbo2
        have HBO := Lib.hid hbo
        clear hbo hc3
        go_wp2_with fail
      case' inr.inr =>
        have hM1 : (0 : Int) < (M : Int) := by omega
        have hM2 : (255 : Int) < (M : Int) := by omega
        rw [if_pos (by omega)] at hHc
        subst hHc
        obtain ⟨bo, hbo⟩ : ∃ bo, decide (Fc.opn [] (zs ++ bs) ≠ []) = bo := ⟨_, rfl⟩
        have hbo2 : bo = true := by rw [← hbo, decide_eq_true_iff]; exact fun h => by have := HM.out; rw [h, List.length_nil] at this; omega
        subst hbo2
        have HBO := Lib.hid hbo
        clear hbo hc3
        go_wp2_with fail
      all_goals
        refine F2.mono ?_
        rintro e w7 ⟨AY, cY, ys, v7, rfl, hcY, hys, hto, hsy, _⟩
        have hs7 := hto.off.size
        have hno : ∀ k, ¬ (ScB bc vc.ownBlock) k ∨ (w4.heap.size ≤ k ∧ k < w5.heap.size) := fun k => by
          by_cases h : ScB bc vc.ownBlock k
          · right
            rcases h with e | e
            · omega
            · exact HVC.out k e
          · exact .inl h
        have hno1 : ∀ k, k < w4.heap.size ∨ w5.heap.size ≤ k → ¬ ScB bc vc.ownBlock k := fun k h => by
          rcases hno k with h2 | h2
          · exact h2
          · omega
        have at7 := AT6.out.off hto.off (hno1 _ (by omega)) (fun g hg => hno1 g (HV6.out g hg))
        have ro7 := own_off R6.out hto.off (fun g hg => hno1 g (by have := (G1.out.lt g hg).2; omega))
        have sW7 := S6.out.keeps ⟨hs7, fun g hg => hto.off.block g (by omega) (hno1 g (by omega))⟩
        have sx7 := SX6.out.keeps ⟨hs7, fun g hg => hto.off.block g hg.2.1 (hno1 g (by
          rcases hg.1.2 with h | h
          · omega
          · have := HU5.out g h; omega))⟩
        have b07 := B06.out.trans (hto.belowB AC6.out (B := w.heap.size) (by omega) (by omega) (by omega))
        have atc7 := hto.at'
        have hyx : ys.map Sg.pb = xs.map Sg.pb := by rw [hys, HXS.out]
        have hxl : ys.length = xs.length := by have := congrArg List.length hyx; rwa [List.length_map, List.length_map] at this
        have hyb : ∀ x ∈ ys, Bytes x.b := fun x hx => by
          have hm : x.pb ∈ Fc.scan q (Fc.opn [] zs) bs := by rw [← hys]; exact List.mem_map_of_mem hx
          exact Fc.scan_isBytes bs q (Fc.opn [] zs) (Fc.opn_bytes zs (fun c hc => by cases hc) HZ.out) HBZ.out _ hm
        have hxl4 : xs.length ≤ 400 := by
          have h9 := congrArg List.length HXS.out
          have h8 := Fc.scan_length bs q (Fc.opn [] zs)
          rw [List.length_map] at h9
          have := HBL.out
          omega
        have hWx : xs.map Sg.pb = (W.map Sg.pb).drop q0 := by
          have h9 := congrArg List.length HW0.out
          rw [List.length_map, HQ0.out] at h9
          rw [HXS.out, HW.out, HALL.out, h9, List.drop_left]
        have hWl : xs.length + q0 = W.length := by
          have h9 := congrArg List.length hWx
          rw [List.length_map, List.length_drop, List.length_map] at h9
          have h8 := congrArg List.length HW.out
          have h7 := congrArg List.length HW0.out
          rw [HALL.out, List.length_append, List.length_map] at h8
          rw [List.length_map, HQ0.out] at h7
          omega
        have hWl2 : W.length ≤ 8000 := by
          have h8 := congrArg List.length HW.out
          have h7 := Fc.scan_length (zs ++ bs) 0 []
          rw [List.length_map] at h8
          have := HL3.out
          omega
        rw [hxl] at hcY ⊢
        have S1 := ssame_any w7.heap.size AY AL xs.length cY cL _ _ ys xs w7 hxl hcY hcL (by omega) hyx hyb hsy sx7 (fun g hg => hg.2.1) (fun g hg => by have := hg.2.1; omega) (Nat.le_refl _)
        have S2 : ∀ V, Below w7.heap.size w7 V → Calls Try.prog 13 #[.slice AL xs.length cL, .slice AX W.length cX, .int .i64 (q0 : Int)] V fun e w' => e = .returned (.bool true) ∧ Below V.heap.size V w' := fun V hV =>
          lsame_any w7.heap.size AL AX xs.length cL W.length cX q0 _ _ xs W V rfl rfl hcL hWl (by omega) hWx (sx7.keeps (KeepS.of_below hV fun g hg => by have := hg.2.1; omega)) (sW7.keeps (KeepS.of_below hV fun g hg => by omega)) (fun g hg => by have := hg.2.1; omega) (fun g hg => by omega) hV.size
        have AT7 := Lib.hid at7
        have AC7 := Lib.hid atc7
        have R7 := Lib.hid ro7
        have B07 := Lib.hid b07
        have HS2 := Lib.hid S2
        clear F2 hto hno hno1 at7 ro7 sW7 sx7 b07 atc7 hyx hyb hWx S2 hsy AT6 AC6 R6 S6 B06 SX6
        go_wp2_with fail
        refine S1.mono ?_
        rintro e w8 ⟨rfl, h8⟩
        have S2' := HS2.out w8 h8
        have hs8 := h8.size
        have H8 := Lib.hid h8
        clear S1 h8
        go_wp2_with fail
        refine S2'.mono ?_
        rintro e w9 ⟨rfl, h9⟩
        have h79 := H8.out.trans (h9.mono hs8)
        have at9 := AT7.out.below h79
        have atc9 := AC7.out.below h79
        have ro9 := own_below R7.out h79
        have b09 := B07.out.trans (h79.mono (by have := B07.out.size; omega))
        have hs9 := h79.size
        have T1 := held_any at9
        have T2 := fed_any at9
        have T3 := sopen_any at9
        have T4 := held_any atc9
        have hopn : Fc.opn (Fc.opn [] zs) bs = Fc.opn [] (zs ++ bs) := (Fc.opn_feed zs bs []).symm
        rw [hopn] at T4
        rw [HHH.out] at T1 T4
        rw [HBO.out] at T3
        rw [show ((q + m : Nat) : Int) = (q : Int) + (m : Int) by omega] at T2
        try rw [show ((0 : Nat) : Int) = 0 from rfl] at T1 T4
        have HFF : Hid (Fs w.heap.size w1.heap.size w.heap.size w w9 (.slice Av' (q + m) cv') (zs ++ bs) v) := ⟨ro9, by rw [HL3.out]; exact at9, SP6.out, b09, by omega⟩
        have hqm : q + m ≤ 400 * (k + 1) := by omega
        clear S2' h9 h79 at9 atc9 ro9 b09 hopn AT7 AC7 R7 B07 HS2 H8
        go_wp2_with fail
        refine T1.mono ?_
        rintro e wq ⟨rfl, hq⟩
        rw [hq]
        clear hq
        go_wp2_with fail
        refine T2.mono ?_
        rintro e wq ⟨rfl, hq⟩
        rw [hq]
        clear hq
        go_wp2_with fail
        refine T3.mono ?_
        rintro e wq ⟨rfl, hq⟩
        rw [hq]
        clear hq
        go_wp2_with fail
        refine T4.mono ?_
        rintro e wq ⟨rfl, hq⟩
        rw [hq]
        clear hq
        go_wp2_with fail
        go_roundw
        case rel => exact ⟨k + 1, zs ++ bs, v, by omega, by omega, by go_num, by rw [HL3.out]; omega, HZ.out.append HBZ.out, HFF⟩
        case measure => simp [intOf]; omega
    · have hf := HF.out
      have hsz := hf.below.size
      have hl' : ¬ ((k : Int) < (n : Int) ∧ (k : Int) < 20) := by omega
      have HB := Lib.hid hf.below
      obtain ⟨Av, cv, rfl, hcv⟩ := own_slice_le hf.row
      have KN := scknown_any wr
      clear hf HF
      by_cases hl1 : (k : Int) < (n : Int)
      · have hl2 : ¬ (k : Int) < 20 := by omega
        clear hl'
        go_wp2_with (go_at_call 17; refine KN.mono ?_; rintro e wk ⟨rfl, hk⟩; have HK := Lib.hid (HB.out.trans (hk.mono hsz)); clear hk)
        go_ret
        exact ⟨rfl, HK.out⟩
      · clear hl'
        go_wp2_with (go_at_call 17; refine KN.mono ?_; rintro e wk ⟨rfl, hk⟩; have HK := Lib.hid (HB.out.trans (hk.mono hsz)); clear hk)
        go_ret
        exact ⟨rfl, HK.out⟩
end Go.Proofs.Ytcfgemdpnbimoaa

namespace Go.Proofs.Ytcfgemdpnbimoaa.scanFeeds
open Go.ChangeShapes Go.WideShapes Go.ChangeAt Go.RowKit
open Go.ChangeMaps (open_string shut_string)
set_option linter.unusedVariables false

theorem own : ownKnob Try.prog.godebug = none := by kernel_rfl
theorem laidOut : laidOutB Try.prog = true := by kernel_rfl

set_option maxRecDepth 100000 in
theorem lifted (os : Os) (started : os.Started) (H : Type) (enc : TypeId × Value → H) :
    ReturnsInHanded {} Try.checked os 3 .any (Rows.scanFeedsSpec.pre6 enc Try.prog Try.f3 Rows.scanFeedsRow.domain false) (Rows.scanFeedsSpec.post enc Try.prog Try.f3 false true false false) := by
  refine returnsInHanded_of_change (C := Try.checked) own started (by kernel_rfl) Try.func3
    (ChangeSpec.witness6 (enc := enc) (C := Try.checked) false ⟨#[], #[.slice none 0 0], []⟩ 8 (by kernel_rfl) (by kernel_rfl) (by kernel_rfl) (by kernel_rfl)) ?_
  intro W base args ds gs before hval0 hW hcnd _
  have hval : ∀ (j : Nat) t v, Try.f3.params[j]? = some t → args[j]? = some v → Value.okWide Try.prog W .any base t v := hval0
  have hW' := hW
  obtain ⟨p, q, hA0, hV, rfl, hfz, hnd⟩ := hW
  have hA : DataW.TrodAll enc Try.prog W 0 (fun _ => true) true Try.f3.params.toList args.toList ds p := hA0
  rw [Try.params3] at hA hval
  obtain ⟨v0, vs0, d0, ds0, p0, q0, hargs, rfl, rfl, h0, r0⟩ := trodAll_cons hA
  obtain ⟨rfl, rfl, rfl⟩ := trodAll_nil r0
  obtain rfl : args = #[v0] := by cases args; simp_all
  obtain ⟨rfl, rfl⟩ := trodVars_none hV
  obtain ⟨a0, len0, cap0, rfl⟩ := okWide_slice Try.underlying22 (hval 0 22 v0 rfl rfl)
  have k0 := h0
  have lt0 : ∀ x ∈ p0, x.block < W.heap.size := by obtain ⟨m, hm⟩ := k0; exact DataW.trod_lt m _ _ _ hm
  obtain ⟨e0, hd0, hm0, w0⟩ : ∃ ds, ds.length = len0 ∧ len0 ≤ 9223372036854775807 ∧ ListArg W a0 ds := by
    obtain ⟨fuel, hf⟩ := h0
    exact rows_of hf
  clear hA0 hval0
  refine (feeds_go a0 len0 cap0 e0 W hd0 hm0 w0).mono fun e W' ⟨he, bel⟩ => ?_
  subst he
  exact ⟨_, rfl, _, _, _, [], _, [], hW', trodAll_mk1 (shut_bool Try.underlying4 _), (trodAll_cons_mk (Below.trod laidOut (by kernel_rfl) (of_decide_eq_true (by kernel_rfl)) k0 bel lt0) trodAll_mk0), rfl, bel.frame _, fun h => by cases h⟩

theorem over : Rows.scanFeedsRow.holds Try.pinned (OpenSpec.ofChange Rows.scanFeedsSpec) :=
  OpenClaim.holds_of_wide 3 Try.f3 rfl rfl rfl rfl rfl rfl rfl ⟨rfl, rfl, rfl, rfl, rfl⟩ rfl rfl rfl rfl rfl (by kernel_rfl) Try.func3 (by kernel_rfl)
    (of_decide_eq_true (by kernel_rfl)) (by unfold Func.isWrapper; first | (rw [if_pos (by decide +kernel)]; kernel_rfl) | (rw [if_neg (by decide +kernel)]; exact ⟨rfl, rfl⟩))
    (fun os started H enc _ => lifted os started H enc)

theorem proved : Rows.ScanFeedsSaid := over
#print axioms proved
end Go.Proofs.Ytcfgemdpnbimoaa.scanFeeds
