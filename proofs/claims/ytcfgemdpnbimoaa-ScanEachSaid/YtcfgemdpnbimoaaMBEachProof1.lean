/-
  ScanEach: what one by one ranging tells is what Feed tells; a loop may end at any segment
-/
import Derived.OrdersIn
import Derived.TacticsIn
import Derived.RangeFuncCalls
import Derived.Test.YtcfgemdpnbimoaaRows
import Derived.Below
import Derived.WalkKit
import Derived.ProofKit
import Derived.OpenShut
import Derived.ShutString
import Derived.ChangeOld
import Derived.Test.YtcfgemdpnbimoaaMB3
namespace Go.Proofs.Ytcfgemdpnbimoaa
open Go.RowKit Go.Shelf
set_option maxRecDepth 100000
attribute [local go_sem] Oper.semAt_some

theorem scan_shift (q : Nat) : ∀ (L : List Int) (p : Nat) (now : List Int), now.length ≤ p → Fc.scan (p + q) now L = (Fc.scan p now L).map (fun x => (x.1 + q, x.2))
  | [], p, now, _ => by simp [Fc.scan]
  | z :: r, p, now, h => by
    by_cases hz : z = 0
    · subst hz
      rw [Fc.scan_zero, Fc.scan_zero, List.map_append, ← scan_shift q r (p + 1) [] (by simp), show p + q + 1 = p + 1 + q by omega]
      congr 1
      split
      · rfl
      · simp; omega
    · rw [Fc.scan_ne hz, Fc.scan_ne hz, ← scan_shift q r (p + 1) (now ++ [z]) (by simp; omega), show p + q + 1 = p + 1 + q by omega]
/-- a segment's place is set -/
theorem SgsAt.set {w : World} {S : Nat → Prop} {A : Option Addr} {xs : List Sg} {k b off p : Nat} {x : Sg} (h : SgsAt w S A xs) (hx : xs[k]? = some x) (hA : A = some ⟨b, off, none⟩) :
    SgsAt (w.setCell ⟨b, off + k * 4 + 3, none⟩ (.int .u64 (p : Int))) S A (xs.set k ⟨x.a, x.cp, p, x.b⟩) := fun j y hy => by
  subst hA
  obtain ⟨b', o', e', _, _, _, _, d3, _, _⟩ := SgsAt.at h hx
  injection e' with e'
  injection e' with e1 e2
  subst e1 e2
  have hpay : ∀ a zs, NumsS .u8 w S a zs → NumsS .u8 (w.setCell ⟨b, off + k * 4 + 3, none⟩ (.int .u64 (p : Int))) S a zs := fun a zs hn h0 => by
    obtain ⟨g, o, e, hg, hc⟩ := hn h0
    refine ⟨g, o, e, hg, fun i z hi => (World.cell?_setCell_other _ _ _ _ (fun e2 => ?_)).trans (hc i z hi)⟩
    have h3 := hc i z hi
    rw [← e2, d3] at h3
    simp at h3
  have hlt := (List.getElem?_eq_some_iff.1 hx).1
  by_cases hj : j = k
  · subst hj
    rw [List.getElem?_set_self hlt] at hy
    injection hy with hy
    subst hy
    obtain ⟨b2, o2, e2, hb, hc, hl, hn⟩ := h j x hx
    injection e2 with e2
    injection e2 with e3 e4
    subst e3 e4
    refine ⟨b, off, rfl, hb, fun q u hq => ?_, hl, hpay _ _ hn⟩
    by_cases h3 : q = 3
    · subst h3
      obtain rfl : (Value.int .u64 (p : Int)) = u := by simpa [Sg.cs] using hq
      exact World.cell?_setCell_same _ _ _ d3
    · refine (World.cell?_setCell_other _ _ _ _ (fun e => by simp only [Addr.mk.injEq] at e; omega)).trans (hc q u ?_)
      have hq4 : q < 4 := (Array.getElem?_eq_some_iff.1 hq).1
      rcases q with _ | _ | _ | _ | q
      · exact hq
      · exact hq
      · exact hq
      · exact absurd rfl h3
      · omega
  · rw [List.getElem?_set_ne (fun e => hj e.symm)] at hy
    obtain ⟨b2, o2, e2, hb, hc, hl, hn⟩ := h j y hy
    injection e2 with e2
    injection e2 with e3 e4
    subst e3 e4
    refine ⟨b, off, rfl, hb, fun q u hq => (World.cell?_setCell_other _ _ _ _ (fun e => ?_)).trans (hc q u hq), hl, hpay _ _ hn⟩
    have hq4 : q < 4 := (Array.getElem?_eq_some_iff.1 hq).1
    simp only [Addr.mk.injEq] at e
    omega
theorem ScTo.belowB {w w' : World} {b lo B p p0 : Nat} {v v' : Value} {now n0 : List Int} (h : ScTo w w' b lo v v' p now) (h0 : ScanAt w b lo v p0 n0) (hb : B ≤ b) (hlo : B ≤ lo) (hB : B ≤ w.heap.size) : Below B w w' :=
  h.off.below (fun k hk => by
    rcases hk with hk | hk
    · omega
    · have := (h0.own.lt k hk).1; omega) hB
theorem nums_data {w : World} {B b : Nat} {own : Option Nat} {a : Option Addr} {zs : List Int} (h : Nums .u8 w B a zs) (hB : B ≤ w.heap.size) (hb : B ≤ b) (ho : ∀ g, own = some g → B ≤ g) : NumsS .u8 w (fun k => k < w.heap.size ∧ k ≠ b ∧ own ≠ some k) a zs :=
  h.numsS fun k hk => ⟨by omega, by omega, fun e => by have := ho k e; omega⟩
set_option maxHeartbeats 8000000 in
theorem resets_go (a1 a2 : Option Addr) (n1 m1 c1 n2 m2 c2 : Nat) (es fs : List Int) (w : World) (hn1 : es.length = n1) (hc1 : n1 ≤ c1) (hz1 : Bytes es) (h1 : Nums .u8 w w.heap.size a1 es)
    (hn2 : fs.length = n2) (hc2 : n2 ≤ c2) (hz2 : Bytes fs) (h2 : Nums .u8 w w.heap.size a2 fs)
    (hm1 : min (n1 : Int) 300 = (m1 : Int)) (hmn1 : m1 ≤ n1) (hm31 : m1 ≤ 300) (hm2 : min (n2 : Int) 300 = (m2 : Int)) (hmn2 : m2 ≤ n2) (hm32 : m2 ≤ 300) :
    Calls Try.prog 6 #[.slice a1 n1 c1, .slice a2 n2 c2] w fun e w' => e = .returned (.bool true) ∧ Below w.heap.size w w' := by
  have hmc1 : (m1 : Int) ≤ (c1 : Int) := by omega
  have hmc2 : (m2 : Int) ≤ (c2 : Int) := by omega
  have hl1 : (es.take m1).length = m1 := by rw [List.length_take]; omega
  have hl2 : (fs.take m2).length = m2 := by rw [List.length_take]; omega
  have hzb1 := hz1.take m1
  have hzb2 := hz2.take m2
  have hnum1 := h1.take m1
  have hnum2 := h2.take m2
  generalize es.take m1 = xs at *
  generalize fs.take m2 = ys at *
  clear hz1 hz2 h1 h2 hn1 hn2
  have HZ1 := Lib.hid hzb1
  have HZ2 := Lib.hid hzb2
  have HL1 := Lib.hid hl1
  have HL2 := Lib.hid hl2
  have HN1 := Lib.hid hnum1
  have HN2 := Lib.hid hnum2
  clear hzb1 hzb2 hl1 hl2 hnum1 hnum2
  go_enter Try.func6, Try.ntmps6
  go_wp2
  go_quiet (fail)
  have hbd : Below w.heap.size w (w.drewN nq) := below_drewN (Below.refl _ _) nq
  generalize w.drewN nq = wd at *
  have hsd := hbd.size
  have HBd := Lib.hid hbd
  clear hbd
  go_wp2_with fail
  refine (snew_any wd).mono ?_
  rintro e w1 ⟨rfl, hat1, hb1, hs1⟩
  go_wp2_with fail
  refine (snew_any w1).mono ?_
  rintro e w2 ⟨rfl, hat2, hb2, hs2⟩
  have hb02 := HBd.out.trans ((hb1.trans (hb2.mono (by omega))).mono hsd)
  have A1 : ScanAt w2 wd.heap.size w2.heap.size (.slice none 0 0) 0 [] := ⟨(hat1.below hb2).blk, World.ownsRow_nil _ _ _ _⟩
  have A2 : ScanAt w2 (wd.heap.size + 1) w2.heap.size (.slice none 0 0) 0 [] := ⟨by rw [← hs1]; exact hat2.blk, World.ownsRow_nil _ _ _ _⟩
  have F1 := feed_any A1 (Nat.le_refl _) a1 m1 c1 xs HL1.out (by omega) (by omega) HZ1.out (by simp) (by omega) (nums_data (HN1.out.below hb02) (by omega) (by omega) (fun g hg => by cases hg))
  have HB02 := Lib.hid hb02
  have HA1 := Lib.hid A1
  have HA2 := Lib.hid A2
  clear hat1 hat2 hb1 hb2 hb02 A1 A2
  go_wp2_with fail
  refine F1.mono ?_
  rintro e w3 ⟨_, _, _, v1, rfl, _, _, hto, _, _⟩
  have hb23 := hto.belowB HA1.out (B := w.heap.size) (by omega) (by omega) (by omega)
  have hs23 := hto.off.size
  have B2 : ScanAt w3 (wd.heap.size + 1) w2.heap.size (.slice none 0 0) 0 [] := HA2.out.off hto.off (fun e => by rcases e with e | e; omega; cases e) (fun g hg => by cases hg)
  have R := reset_any hto.at'
  have HB03 := Lib.hid (HB02.out.trans hb23)
  have HB2 := Lib.hid B2
  clear F1 hto hb23 B2 HA1 HA2 HB02
  go_wp2_with fail
  refine R.mono ?_
  rintro e w4 ⟨⟨x, rfl⟩, hat4, ho4, hs4⟩
  have HB04 := Lib.hid (HB03.out.trans (ho4.below (B := w.heap.size) (fun k hk => by omega) (by omega)))
  have C1 : ScanAt w4 wd.heap.size w4.heap.size (.slice none 0 0) (0 + m1) [] := ⟨hat4.blk, World.ownsRow_nil _ _ _ _⟩
  have C2 : ScanAt w4 (wd.heap.size + 1) w2.heap.size (.slice none 0 0) 0 [] := HB2.out.off ho4 (by omega) (fun g hg => by cases hg)
  have HC1 := Lib.hid C1
  have HC2 := Lib.hid C2
  have T1 := held_any C1
  have T2 := sopen_any C1
  have T3 := fed_any C1
  rw [show (((held []).length : Nat) : Int) = 0 from rfl] at T1
  rw [show decide (([] : List Int) ≠ []) = false from rfl] at T2
  rw [show ((0 + m1 : Nat) : Int) = (m1 : Int) by omega] at T3
  clear R hat4 ho4 C1 C2 HB2 HB03
  go_wp2_with (first
    | (go_at_call 14; refine T1.mono ?_; rintro e wq ⟨rfl, hq⟩; rw [hq]; clear hq)
    | (go_at_call 16; refine T2.mono ?_; rintro e wq ⟨rfl, hq⟩; rw [hq]; clear hq)
    | (go_at_call 15; refine T3.mono ?_; rintro e wq ⟨rfl, hq⟩; rw [hq]; clear hq))
  clear T1 T2 T3
  have F2 := feed_any HC1.out (Nat.le_refl _) a2 m2 c2 ys HL2.out (by omega) (by omega) HZ2.out (by simp) (by omega) (nums_data (HN2.out.below HB04.out) (by omega) (by omega) (fun g hg => by cases hg))
  refine F2.mono ?_
  rintro e w5 ⟨Ax, cx, X, v5, rfl, hcx, hX, hto5, hsx, _⟩
  have hb45 := hto5.belowB HC1.out (B := w.heap.size) (by omega) (by omega) (by omega)
  have hs5 := hto5.off.size
  have D2 : ScanAt w5 (wd.heap.size + 1) w5.heap.size (.slice none 0 0) 0 [] := ⟨(hto5.off.block (wd.heap.size + 1) (by omega) (fun e => by rcases e with e | e; omega; cases e)).trans HC2.out.blk, World.ownsRow_nil _ _ _ _⟩
  have HB05 := Lib.hid (HB04.out.trans hb45)
  have HD2 := Lib.hid D2
  have HSX := Lib.hid hsx
  have HX := Lib.hid hX
  clear F2 hto5 hb45 D2 HC1 HC2 hsx hX HB04
  go_wp2_with fail
  have F3 := feed_any HD2.out (Nat.le_refl _) a2 m2 c2 ys HL2.out (by omega) (by omega) HZ2.out (by simp) (by omega) (nums_data (HN2.out.below HB05.out) (by omega) (by omega) (fun g hg => by cases hg))
  refine F3.mono ?_
  rintro e w6 ⟨Ay, cy, Y, v6, rfl, hcy, hY, hto6, hsy, hrow⟩
  have hb56 := hto6.belowB HD2.out (B := w.heap.size) (by omega) (by omega) (by omega)
  have hs6 := hto6.off.size
  have hkx : KeepS (Told wd.heap.size (FQ w4.heap.size w4.heap.size none) v5.ownBlock w5) w5 w6 := ⟨hs6, fun k hk => hto6.off.block k hk.2.1 (fun e => by
    rcases e with e | e
    · have := hk.1.1; omega
    · cases e)⟩
  have hsx6 := HSX.out.keeps hkx
  have hlen : X.length = Y.length := by
    have e1 := congrArg List.length HX.out
    have e2 := congrArg List.length hY
    rw [scan_shift m1 ys 0 [] (by simp), List.length_map, List.length_map] at e1
    rw [List.length_map] at e2
    omega
  obtain ⟨N, hN⟩ : ∃ N, Y.length = N := ⟨_, rfl⟩
  have hNl : N ≤ 300 := by
    have e2 := congrArg List.length hY
    have := Fc.scan_length ys 0 []
    rw [List.length_map] at e2
    have := HL2.out
    omega
  have HXY : Hid (X.map Sg.pb = Y.map (fun y => (y.p + m1, y.b))) := by
    show _ = _
    rw [HX.out, scan_shift m1 ys 0 [] (by simp), ← hY, List.map_map]
    rfl
  have hbY : ∀ y ∈ Y, y.p ≤ 1000 := fun y hy => by
    have hm : y.pb ∈ Fc.scan 0 [] ys := by rw [← hY]; exact List.mem_map_of_mem hy
    have := Fc.scan_place ys 0 [] (by simp) _ hm
    have h3 := HL2.out
    have h4 : y.pb.1 = y.p := rfl
    omega
  have hbX : ∀ x ∈ X, Bytes x.b := fun x hx => by
    have hm : x.pb ∈ Fc.scan (0 + m1) [] ys := by rw [← HX.out]; exact List.mem_map_of_mem hx
    exact Fc.scan_isBytes ys (0 + m1) [] (fun c hc => by cases hc) HZ2.out _ hm
  rw [hlen, hN] at hcx
  rw [hN] at hcy
  rw [hlen, hN]
  have HB06 := Lib.hid (HB05.out.trans hb56)
  have HSX6 := Lib.hid hsx6
  have HSY := Lib.hid hsy
  have HROW := Lib.hid hrow
  have HNN := Lib.hid hN
  have HLE := Lib.hid hlen
  have HBY := Lib.hid hbY
  have HBX := Lib.hid hbX
  have HY := Lib.hid hY
  clear F3 hto6 hb56 hkx hsx6 hlen hN hbY hbX HX hsy hrow HD2 HSX HB05 hY
  have hcx' : (N : Int) ≤ (cx : Int) := by omega
  have hcy' : (N : Int) ≤ (cy : Int) := by omega
  go_wp2
  go_loopw [9] (fun v wr => ∃ (k : Nat) (Z : List Sg), k ≤ N ∧ v = .int .i64 (k : Int) ∧ Z.length = N ∧ Hid (SgsAt wr (Told (wd.heap.size + 1) (FQ w5.heap.size w5.heap.size none) v6.ownBlock w6) Ay Z) ∧ Hid (∀ (j : Nat) (y : Sg), Y[j]? = some y → Z[j]? = some (if j < k then ⟨y.a, y.cp, y.p + m1, y.b⟩ else y)) ∧ Hid (Off (fun g => w5.heap.size ≤ g) w6 wr) ∧ Hid (SgRow wr Ay))
    (fun v _ => N - (intOf v).toNat)
  case atStart => exact ⟨0, Y, by omega, rfl, HNN.out, HSY.out, fun j y hy => by rw [if_neg (by omega)]; exact hy, Off.refl _ _, HROW.out⟩
  case round =>
    obtain ⟨k, Z, hk, rfl, hZl, HZs, HZe, HOf, HRW⟩ := hrel
    by_cases hlt : k < N
    · obtain ⟨y, hy⟩ : ∃ y, Y[k]? = some y := ⟨_, List.getElem?_eq_getElem (by rw [HNN.out]; exact hlt)⟩
      have hzk : Z[k]? = some y := by rw [HZe.out k y hy, if_neg (by omega)]
      have hyp := HBY.out y (List.mem_of_getElem? hy)
      obtain ⟨b, o, rfl, hb, d0, d1, d2, d3, _, _⟩ := SgsAt.at HZs.out hzk
      have hZ2 := HZs.out.set (p := y.p + m1) hzk rfl
      obtain ⟨cs, hcs⟩ := HRW.out b o none rfl
      have hfz : wr.frozen? ⟨b, o + k * 4 + 3, none⟩ = false := by simp [World.frozen?, hcs]
      have hrw2 : SgRow (wr.setCell ⟨b, o + k * 4 + 3, none⟩ (.int .u64 ((y.p + m1 : Nat) : Int))) (some ⟨b, o, none⟩) := fun g o' s h => by
        injection h with h
        injection h with h1
        subst h1
        exact ⟨_, setCell_at hcs⟩
      have hof2 := HOf.out.setCell (p := ⟨b, o + k * 4 + 3, none⟩) hb.1.1 (.int .u64 ((y.p + m1 : Nat) : Int))
      rw [show ((y.p + m1 : Nat) : Int) = (y.p : Int) + (m1 : Int) by omega] at hZ2 hrw2 hof2
      have HE2 : Hid (∀ (j : Nat) (u : Sg), Y[j]? = some u → (Z.set k ⟨y.a, y.cp, y.p + m1, y.b⟩)[j]? = some (if j < k + 1 then ⟨u.a, u.cp, u.p + m1, u.b⟩ else u)) := fun j u hu => by
        by_cases hj : j = k
        · subst hj
          rw [hy] at hu
          injection hu with hu
          subst hu
          rw [List.getElem?_set_self (by omega), if_pos (by omega)]
        · rw [List.getElem?_set_ne (fun e => hj e.symm), HZe.out j u hu]
          by_cases h : j < k
          · rw [if_pos h, if_pos (by omega)]
          · rw [if_neg h, if_neg (by omega)]
      have HZ2 := Lib.hid hZ2
      have HR2 := Lib.hid hrw2
      have HO2 := Lib.hid hof2
      have hlt' : (k : Int) < (N : Int) := by omega
      have hyp' : (y.p : Int) ≤ 1000 := by omega
      have hm1' : (m1 : Int) ≤ 300 := by omega
      clear d0 d1 d2 hZ2 hrw2 hof2 hcs HRW HOf HZs HSY HROW
      go_wp2
      go_roundw
      case rel => exact ⟨k + 1, _, by omega, by go_num, by rw [List.length_set]; exact hZl, HZ2.out, HE2, HO2.out, HR2.out⟩
      case measure => simp [intOf]; omega
    · have hkn : k = N := by omega
      subst hkn
      have hZX : X.map Sg.pb = Z.map Sg.pb := by
        rw [HXY.out]
        refine List.ext_getElem? fun j => ?_
        rw [List.getElem?_map, List.getElem?_map]
        by_cases hj : j < k
        · obtain ⟨y, hy⟩ : ∃ y, Y[j]? = some y := ⟨_, List.getElem?_eq_getElem (by rw [HNN.out]; exact hj)⟩
          rw [HZe.out j y hy, hy, if_pos hj]; rfl
        · rw [List.getElem?_eq_none (by rw [HNN.out]; omega), List.getElem?_eq_none (by omega)]; rfl
      have hof := HOf.out
      have hsr := hof.size
      have hsx : SgsAt wr (Told wd.heap.size (FQ w4.heap.size w4.heap.size none) v5.ownBlock w5) Ax X :=
        HSX6.out.keeps ⟨hsr, fun g hg => hof.block g (by have := hg.2.1; omega) (fun e => by have := hg.2.1; omega)⟩
      have hb6 : Below w.heap.size w6 wr := hof.below (fun g hg => by omega) (by omega)
      have HB := Lib.hid (HB06.out.trans hb6)
      have hXl : X.length = k := HLE.out.trans HNN.out
      have hzs := HZs.out
      have KN := scknown_any wr
      have KS : ∀ wk, Below wr.heap.size wr wk → Calls Try.prog 12 #[.slice Ax k cx, .slice Ay k cy] wk fun e w' => e = .returned (.bool true) ∧ Below wk.heap.size wk w' := fun wk hk =>
        ssame_any wr.heap.size Ax Ay k cx cy _ _ X Z wk hXl hcx hcy (by omega) hZX HBX.out
          (hsx.keeps ⟨hk.size, fun g hg => hk.block g (by have := hg.2.1; omega)⟩) (hzs.keeps ⟨hk.size, fun g hg => hk.block g (by have := hg.2.1; omega)⟩) (fun g hg => by have := hg.2.1; omega) (fun g hg => by have := hg.2.1; omega) hk.size
      have HKS := Lib.hid KS
      have hsw := HB.out.size
      clear hsx hb6 hof hzs hZX KS HZs HZe HOf HRW HSX6 HSY HROW
      go_wp2_with fail
      refine KN.mono ?_
      rintro e wk ⟨rfl, hk⟩
      have hkS := HKS.out wk hk
      have HBk := Lib.hid (HB.out.trans (hk.mono hsw))
      have hsk := hk.size
      clear hk KN
      go_wp2_with fail
      refine hkS.mono ?_
      rintro e wf ⟨rfl, hf⟩
      have HBf := Lib.hid (HBk.out.trans (hf.mono (by omega)))
      clear hf hkS
      go_wp2
      go_ret
      exact ⟨rfl, HBf.out⟩
theorem walk_resets (a0 : Option Addr) (len0 cap0 : Nat) (z0 : List Int) (a1 : Option Addr) (len1 cap1 : Nat) (z1 : List Int) (w : World) (w0 : IsRow .u8 w a0 len0 cap0 z0) (w1 : IsRow .u8 w a1 len1 cap1 z1) :
    Calls Try.prog 6 #[.slice a0 len0 cap0, .slice a1 len1 cap1] w fun e w' => e = .returned (.bool true) ∧ Below w.heap.size w w' := by
  obtain ⟨e0, l0, q0, m0, k0, r0⟩ := w0.elems
  obtain ⟨e1, l1, q1, m1, k1, r1⟩ := w1.elems
  exact resets_go a0 a1 len0 (min len0 300) cap0 len1 (min len1 300) cap1 e0 e1 w l0 q0 (bytes_of r0) k0 l1 q1 (bytes_of r1) k1 (by omega) (by omega) (by omega) (by omega) (by omega) (by omega)
end Go.Proofs.Ytcfgemdpnbimoaa

namespace Go.Proofs.Ytcfgemdpnbimoaa
open Go.RowKit Go.Shelf
set_option maxRecDepth 100000

theorem seg_parts : ∃ i, Try.prog.info? 44 = some i ∧ i.zero = some (.agg (sgC (.slice none 0 0) false 0 0)) ∧ i.size = 4 ∧ i.bytes = 48 := by
  have := segInfo
  revert this
  generalize Try.prog.info? 44 = oi
  intro h
  cases oi with
  | none => cases h
  | some i => injection h with h; injection h with h1 h2; injection h2 with h2 h3; exact ⟨i, rfl, h1, h2, h3⟩
theorem run_append_sgs {w : World} (base : Nat) (v : Value) (n : Nat) (xs : List Value) (hown : w.ownsRow base 44 4 v n xs) (A : Option Addr) (m c : Nat) (S : Nat → Prop) (ys : List Sg) (hm : ys.length = m) (hs : SgsAt w S A ys)
    (h63 : n + m ≤ 1000000000) (hbase : base ≤ w.heap.size) :
    ∃ v' w', (Builtin.append_ #[29, 29] 29 #[v, .slice A m c]).run Try.prog w = .ok v' w' ∧ w'.ownsRow base 44 4 v' (n + m) (xs ++ flatS ys) ∧ w.grownBy w' v.ownBlock ∧ (v'.ownBlock = v.ownBlock ∨ v'.ownBlock = some w.heap.size) := by
  obtain ⟨i, hi, hz0, hz1, hz2⟩ := seg_parts
  have ht := Try.underlying29
  subst hm
  by_cases hz : ys = []
  · subst hz
    obtain ⟨b, q, rfl, hle⟩ := own_slice_le hown
    refine ⟨_, _, run_append_nothing w 29 29 29 44 i ht hi b n q hle _ ?_, by simpa [flatS] using hown, ⟨rfl, rfl, rfl, Nat.le_refl _, fun _ _ _ => rfl⟩, .inl rfl⟩
    cases A with
    | none => exact ⟨.inl ⟨_, ht⟩, fun _ => rfl, run_firstCells_none w i.size 0 0 c, run_firstCells_none w.drew i.size 0 0 c, by simp, fun _ h => by cases h⟩
    | some ad => exact Src.ofSlice w ht ad 0 c [] (by simp) (by simp) (fun _ h => by cases h)
  · obtain ⟨y0, hy0⟩ : ∃ y, ys[0]? = some y := ⟨_, List.getElem?_eq_getElem (List.length_pos_iff.2 hz)⟩
    obtain ⟨b, off, rfl, _, _⟩ := hs 0 y0 hy0
    obtain ⟨v', w', h1, h2, h3, _, h5⟩ := run_append_own_at (P := Try.prog) (w := w) base 29 29 44 i (.agg (sgC (.slice none 0 0) false 0 0)) 4 48 ht hi hz0 hz1 hz2 rfl (by decide) v n xs hown ⟨b, off, none⟩ ys.length c (flatS ys) (flatS_len ys) (fun j u hj => by
      obtain ⟨x, hx, hu⟩ := flatS_of hj
      obtain ⟨b2, o2, e, _, hc, _⟩ := hs _ x hx
      injection e with e
      injection e with e1 e2
      subst e1 e2
      rw [Addr.add_lit]
      have := hc _ u hu
      rwa [show off + j / 4 * 4 + j % 4 = off + j by omega] at this) flatS_one (by unfold maxLen; omega) (by omega) hbase
    exact ⟨v', w', h1, h2, h3, h5⟩
/-- a scanner that was fed k bytes, another one; the list of what was told -/
structure Ch (B b1 b2 lo : Nat) (w : World) (zs : List Int) (k : Nat) (wr : World) (vl : Value) (X : List Sg) (u : Value) : Prop where
  row : wr.ownsRow lo 44 4 vl X.length (flatS X)
  told : X.map Sg.pb = Fc.scan 0 [] (zs.take k)
  pay : ∀ x ∈ X, (held x.b).length ≤ x.cp ∧ NumsS .u8 wr (fun g => lo ≤ g ∧ g < wr.heap.size ∧ u.ownBlock ≠ some g ∧ vl.ownBlock ≠ some g) x.a (held x.b)
  one : ScanAt wr b1 lo u k (Fc.opn [] (zs.take k))
  two : ScanAt wr b2 lo (.slice none 0 0) 0 []
  below : Below B w wr
theorem rows_apart {W : World} {lo e1 s1 n1 e2 s2 n2 : Nat} {v1 v2 : Value} {x1 x2 : List Value} (h1 : W.ownsRow lo e1 s1 v1 n1 x1) (h2 : W.ownsRow lo e2 s2 v2 n2 x2) (hne : e1 ≠ e2) : ∀ g, v1.ownBlock = some g → v2.ownBlock ≠ some g := fun g h e => by
  rcases h1.2 with ⟨rfl, _⟩ | ⟨g1, c1, u1, rfl, _, hh, _⟩
  · simp [Value.ownBlock] at h
  · rcases h2.2 with ⟨rfl, _⟩ | ⟨g2, c2, u2, rfl, _, hh2, _⟩
    · simp [Value.ownBlock] at e
    · simp only [Value.ownBlock, Option.some.injEq] at h e
      subst h e
      rw [hh] at hh2
      injection hh2 with hh2
      injection hh2 with _ ht
      exact hne ht
section
variable {B b1 b2 lo k n m' : Nat} {w wr w' w2 : World} {zs : List Int} {vl vl' u v : Value} {X Y : List Sg} {A : Option Addr}
/-- behind the Feed -/
theorem Ch.fed (h : Ch B b1 b2 lo w zs k wr vl X u) (hb1 : b1 < lo) (hb2 : b2 < lo) (hne : b1 ≠ b2) (hB1 : B ≤ b1) (hBl : B ≤ lo) (hlo : lo ≤ wr.heap.size) (hk : k ≤ zs.length)
    (hY : Y.map Sg.pb = Fc.scan k (Fc.opn [] (zs.take k)) ((zs.drop k).take n)) (hto : ScTo wr w' b1 lo u v (k + n) (Fc.opn (Fc.opn [] (zs.take k)) ((zs.drop k).take n))) (hs : SgsAt w' (Told b1 (FQ lo wr.heap.size u.ownBlock) v.ownBlock w') A Y) :
    w'.ownsRow lo 44 4 vl X.length (flatS X) ∧ (X ++ Y).map Sg.pb = Fc.scan 0 [] (zs.take (k + n)) ∧
    (∀ x ∈ X ++ Y, (held x.b).length ≤ x.cp ∧ NumsS .u8 w' (fun g => lo ≤ g ∧ g < w'.heap.size ∧ v.ownBlock ≠ some g ∧ vl.ownBlock ≠ some g) x.a (held x.b)) ∧
    ScanAt w' b1 lo v (k + n) (Fc.opn [] (zs.take (k + n))) ∧ ScanAt w' b2 lo (.slice none 0 0) 0 [] ∧ Below B w w' := by
  have hs0 := hto.off.size
  have hap : ∀ g, vl.ownBlock = some g → u.ownBlock ≠ some g := rows_apart h.row h.one.own (by decide)
  have hvl := h.row.lt
  have hul := h.one.own.lt
  have htk : zs.take (k + n) = zs.take k ++ (zs.drop k).take n := by rw [List.take_add]
  refine ⟨own_off h.row hto.off (fun g hg hS => ?_), ?_, fun x hx => ?_, ?_, h.two.off hto.off (fun e => ?_) (fun g hg => by cases hg), h.below.trans (hto.belowB h.one hB1 hBl (by omega))⟩
  · rcases hS with e | e
    · have := (hvl g hg).1; omega
    · exact hap g hg e
  · rw [List.map_append, h.told, hY, htk, Fc.scan_feed, List.length_take, Nat.zero_add, Nat.min_eq_left hk]
  · rcases List.mem_append.1 hx with hx | hx
    · obtain ⟨p1, p2⟩ := h.pay x hx
      refine ⟨p1, (p2.keeps ⟨hs0, fun g hg => hto.off.block g hg.2.1 (fun e => ?_)⟩).more fun g hg => ⟨hg.1, by omega, fun e => ?_, hg.2.2.2⟩⟩
      · rcases e with e | e
        · omega
        · exact hg.2.2.1 e
      · rcases hto.row with e2 | e2 | ⟨q, e2, e3⟩
        · rw [e2] at e; cases e
        · exact hg.2.2.1 (e2.symm.trans e)
        · rw [e2] at e; injection e with e; omega
    · obtain ⟨j, hj⟩ := List.getElem?_of_mem hx
      obtain ⟨_, _, _, _, _, p1, p2⟩ := hs j x hj
      refine ⟨p1, p2.more fun g hg => ⟨hg.1.1, hg.2.1, hg.2.2.2, fun e => ?_⟩⟩
      rcases hg.1.2 with e2 | e2
      · have := (hvl g e).2; omega
      · exact hap g e e2
  · rw [htk, Fc.opn_feed]; exact hto.at'
  · rcases e with e | e
    · omega
    · have := (hul b2 e).1; omega
/-- behind the append -/
theorem Ch.next (hrow : w'.ownsRow lo 44 4 vl X.length (flatS X)) (htold : (X ++ Y).map Sg.pb = Fc.scan 0 [] (zs.take (k + n)))
    (hpay : ∀ x ∈ X ++ Y, (held x.b).length ≤ x.cp ∧ NumsS .u8 w' (fun g => lo ≤ g ∧ g < w'.heap.size ∧ v.ownBlock ≠ some g ∧ vl.ownBlock ≠ some g) x.a (held x.b)) (h1 : ScanAt w' b1 lo v (k + n) (Fc.opn [] (zs.take (k + n)))) (h2 : ScanAt w' b2 lo (.slice none 0 0) 0 []) (hb : Below B w w')
    (hb1 : b1 < lo) (hb2 : b2 < lo) (hBl : B ≤ lo) (hlo : lo ≤ w'.heap.size) (hY : Y.length = m') (hown : w2.ownsRow lo 44 4 vl' (X.length + m') (flatS X ++ flatS Y)) (hg : w'.grownBy w2 vl.ownBlock) (hat : vl'.ownBlock = vl.ownBlock ∨ vl'.ownBlock = some w'.heap.size) :
    Ch B b1 b2 lo w zs (k + n) w2 vl' (X ++ Y) v := by
  have hvl := hrow.lt
  have hs2 := hg.size
  have hO : Off (fun g => vl.ownBlock = some g) w' w2 := ⟨hg.os, hg.tape, hg.output, hg.size, fun g h3 h4 => hg.block g h3 (fun e => h4 e.symm)⟩
  have hap : ∀ g, vl.ownBlock = some g → v.ownBlock ≠ some g := rows_apart hrow h1.own (by decide)
  refine ⟨by rw [List.length_append, hY, flatS_append]; exact hown, htold, fun x hx => ?_, h1.off hO (fun e => ?_) (fun g e1 e2 => hap g e2 e1), h2.off hO (fun e => ?_) (fun g e => by cases e), hb.trans (hO.below (fun g e => by have := (hvl g e).1; omega) (by omega))⟩
  · obtain ⟨p1, p2⟩ := hpay x hx
    refine ⟨p1, (p2.keeps ⟨hs2, fun g hg' => hO.block g hg'.2.1 hg'.2.2.2⟩).more fun g hg' => ⟨hg'.1, by omega, hg'.2.2.1, fun e => ?_⟩⟩
    rcases hat with h3 | h3
    · exact hg'.2.2.2 (h3.symm.trans e)
    · rw [h3] at e; injection e with e; omega
  · have := (hvl b1 e).1; omega
  · have := (hvl b2 e).1; omega
/-- the list as it lies -/
theorem Ch.list (h : Ch B b1 b2 lo w zs k wr vl X u) : ∃ A c, vl = .slice A X.length c ∧ X.length ≤ c ∧ SgsAt wr (fun g => lo ≤ g ∧ g < wr.heap.size) A X := by
  rcases h.row.2 with ⟨rfl, h0⟩ | ⟨g, cap, cur, rfl, hg, hh, hle, _⟩
  · refine ⟨none, 0, by rw [h0], by omega, fun j x hx => ?_⟩
    rw [List.eq_nil_of_length_eq_zero h0] at hx
    simp at hx
  · refine ⟨_, cap, rfl, hle, fun j x hx => ⟨g, 0, rfl, ⟨hg, (Array.getElem?_eq_some_iff.1 hh).1⟩, fun q z hq => ?_, (h.pay x (List.mem_of_getElem? hx)).1, (h.pay x (List.mem_of_getElem? hx)).2.more fun g hg => ⟨hg.1, hg.2.1⟩⟩⟩
    have h9 := h.row.cells (g := g) rfl (j * 4 + q) z (flatS_at hx hq)
    rw [Addr.add_lit] at h9
    rw [Nat.add_assoc]
    exact h9
end
end Go.Proofs.Ytcfgemdpnbimoaa

namespace Go.Proofs.Ytcfgemdpnbimoaa
open Go.RowKit Go.Shelf
set_option maxRecDepth 100000
attribute [local go_sem] Oper.semAt_some

theorem boxed_below {U W : World} {b : Nat} {t : TypeId} {v : Value} (h : Boxed U b t v) (hW : Below U.heap.size U W) : Boxed W b t v := (hW.block b h.lt).trans h
theorem sreset_nil (w : World) : Calls Try.prog 19 #[.pointer none] w fun e w' => (∃ x, e = .returned x) ∧ w' = w := by
  go_enter Try.func19, Try.ntmps19
  go_wp2
  go_end0
  exact ⟨⟨_, rfl⟩, rfl⟩
theorem sheld_nil (w : World) : Calls Try.prog 14 #[.pointer none] w fun e w' => e = .returned (.int .i64 0) ∧ w' = w := by
  go_enter Try.func14, Try.ntmps14
  go_wp2
  go_ret
  exact ⟨rfl, rfl⟩
theorem sfed_nil (w : World) : Calls Try.prog 15 #[.pointer none] w fun e w' => e = .returned (.int .u64 0) ∧ w' = w := by
  go_enter Try.func15, Try.ntmps15
  go_wp2
  go_ret
  exact ⟨rfl, rfl⟩
theorem sopen_nil (w : World) : Calls Try.prog 16 #[.pointer none] w fun e w' => e = .returned (.bool false) ∧ w' = w := by
  go_enter Try.func16, Try.ntmps16
  go_wp2
  go_ret
  exact ⟨rfl, rfl⟩
theorem scopy_nil (w : World) : Calls Try.prog 10 #[.pointer none] w fun e w' => e = .returned (.pointer none) ∧ w' = w := by
  go_enter Try.func10, Try.ntmps10
  go_wp2
  go_ret
  exact ⟨rfl, rfl⟩
/-- what Each leaves: the scanner's pointer in the box Bs, a copy of the part in the box Bb -/
structure EachR (s : Option Addr) (n : Nat) (zs : List Int) (w : World) (Bs Bb : Nat) (A : Option Addr) (c : Nat) (w' : World) : Prop where
  loS : w.heap.size ≤ Bs
  hiS : Bs < w'.heap.size
  loB : w.heap.size ≤ Bb
  hiB : Bb < w'.heap.size
  ne : Bs ≠ Bb
  boxS : Boxed w' Bs 23 (.pointer s)
  boxB : Boxed w' Bb 25 (.slice A n c)
  room : n ≤ c
  nums : NumsS .u8 w' (fun k => w.heap.size ≤ k ∧ k < w'.heap.size ∧ k ≠ Bs ∧ k ≠ Bb) A zs
  below : Below w.heap.size w w'
theorem each_any (s : Option Addr) (a : Option Addr) (n c : Nat) (zs : List Int) (w : World) (hn : zs.length = n) (hl : n ≤ 140737488351232) (h1 : Nums .u8 w w.heap.size a zs) :
    Calls Try.prog 18 #[.pointer s, .slice a n c] w fun e w' => ∃ Bs Bb A c', e = .returned (.func (.func 28) #[] #[.pointer (some ⟨Bs, 0, none⟩), .pointer (some ⟨Bb, 0, none⟩)]) ∧ EachR s n zs w Bs Bb A c' w' := by
  have C := clone_big a n c zs w hn hl h1
  have HN := Lib.hid hn
  clear h1 hn
  go_enter Try.func18, Try.ntmps18
  go_wp2_with fail
  refine C.mono ?_
  rintro e w1 ⟨v, rfl, hm⟩
  obtain ⟨A, c', rfl, hc, hnum⟩ := hm.slice
  rw [HN.out] at hc ⊢
  have hS := hm.numsS rfl
  have hb1 := hm.2
  have K := ended_any s A n c' w1
  have HS := Lib.hid hS
  have HB := Lib.hid hb1
  clear hm hnum hS hb1 C
  go_wp2_with fail
  refine K.mono ?_
  rintro e w2 ⟨rfl, hw2⟩
  have HW := Lib.hid hw2
  clear hw2 K
  go_wp2
  go_ret
  have hw2 := HW.out
  have hb := HB.out
  have hsz := hb.size
  have hb2 : Below w1.heap.size w1 w2 := by rw [hw2]; exact ((Below.refl _ w1).alloc (Nat.le_refl _) _).alloc (by simp) _
  have hs2 : w2.heap.size = w1.heap.size + 2 := by rw [hw2]; simp
  refine ⟨w1.heap.size, w1.heap.size + 1, A, c', rfl, hsz, by omega, by omega, by omega, by omega, ?_, ?_, hc, ?_, hb.trans (hb2.mono hsz)⟩
  · rw [hw2]; exact (Boxed.new w1 _ _).alloc _
  · rw [hw2]
    have := Boxed.new (w1.alloc (.cells #[.pointer s] 23)) 25 (.slice A n c')
    rwa [World.size_alloc] at this
  · exact (HS.out.keeps (KeepS.of_below hb2 fun k hk => hk.2)).more fun k hk => ⟨hk.1, by omega, by omega, by omega⟩
theorem each_not_nil (Bs Bb : Nat) (w : World) : (binOp .eql 41 (.func (.func 28) #[] #[.pointer (some ⟨Bs, 0, none⟩), .pointer (some ⟨Bb, 0, none⟩)]) .nilFunc).run Try.prog w = .ok (.bool false) w := by
  kernel_rfl
/-- the iterator of a nil scanner -/
theorem ended_nil_in (n : Nat) (l Bs Bb : Nat) (w : World) (hBs : w.cell? ⟨Bs, 0, none⟩ = some (.pointer none)) :
    CallsIn Fence.wide n Try.prog 28 #[.func (.yield l) #[] #[], .pointer (some ⟨Bs, 0, none⟩), .pointer (some ⟨Bb, 0, none⟩)] w fun e W' => (∃ v, e = .returned v) ∧ W' = w := by
  refine callsIn_of_wp Try.func28 rfl trivial ?_ rfl
  simp only [Try.ntmps28, List.size_toArray, List.length_cons, List.length_nil, Nat.reduceAdd, Nat.reduceSub, Array.replicate_succ, Array.replicate_zero, List.push_toArray, List.append_toArray, List.nil_append, List.cons_append]
  gi_wp2
  refine wpIn_wide.2 (wp_scope_straight ((wpIn_wide (n := n)).1 ?_))
  gi_wp2
  simp only [Exit.noGoto]
  refine bodyPost_ret (results_none rfl _ _ _) rfl ?_
  exact ⟨⟨_, rfl⟩, rfl⟩
theorem feed_nil (a : Option Addr) (n c : Nat) (w : World) :
    Calls Try.prog 11 #[.pointer none, .slice a n c] w fun e w' => e = .returned (.slice none 0 0) ∧ Below w.heap.size w w' := by
  obtain ⟨w0, hw0⟩ : ∃ w0, w.alloc (.cells #[.slice none 0 0] 29) = w0 := ⟨_, rfl⟩
  have hs0 : w0.heap.size = w.heap.size + 1 := by rw [← hw0]; simp
  have hb0 : Below w.heap.size w w0 := by rw [← hw0]; exact (Below.refl _ w).alloc (Nat.le_refl _) _
  have bL0 : Boxed w0 w.heap.size 29 (.slice none 0 0) := by rw [← hw0]; exact Boxed.new w _ _
  have K1 := ended_any none a n c w0
  obtain ⟨w1, hw1⟩ : ∃ w1, (w0.alloc (.cells #[.pointer none] 23)).alloc (.cells #[.slice a n c] 25) = w1 := ⟨_, rfl⟩
  have hs1 : w1.heap.size = w.heap.size + 3 := by rw [← hw1]; simp [hs0]
  have hb1 : Below w0.heap.size w0 w1 := by rw [← hw1]; exact ((Below.refl _ w0).alloc (Nat.le_refl _) _).alloc (by simp) _
  have bL1 : Boxed w1 w.heap.size 29 (.slice none 0 0) := (hb1.block _ (by omega)).trans bL0
  have bS1 : Boxed w1 (w.heap.size + 1) 23 (.pointer none) := by
    rw [← hw1, ← hs0]; exact (Boxed.new w0 _ _).alloc _
  rw [hw1, hs0] at K1
  have hb01 := hb0.trans (hb1.mono (by omega))
  clear hw1
  have HW0 := Lib.hid hw0
  clear hw0
  refine (callsIn_wide (n := 9)).1 ?_
  refine callsIn_of_wp_marks Try.func11 rfl trivial ?_ rfl
  simp only [Try.ntmps11, List.size_toArray, List.length_cons, List.length_nil, Nat.reduceAdd, Nat.reduceSub, Array.replicate_succ, Array.replicate_zero, List.push_toArray, List.append_toArray, List.nil_append, List.cons_append]
  gi_wp2_with fail
  rw [HW0.out]
  refine ⟨trivial, ?_⟩
  refine (callsIn_wide.2 K1).mono ?_
  rintro e w1' ⟨rfl, rfl⟩
  gi_wp2_with fail
  clear K1
  refine range_stopb rfl (by omega) (gf := 28) (lb := #[.pointer (some ⟨w.heap.size + 1, 0, none⟩), .pointer (some ⟨w.heap.size + 1 + 1, 0, none⟩)]) rfl trivial (enters_of Try.func28 (by kernel_rfl) rfl)
    (fun _ : Unit => #[Value.int .i64 0]) (fun _ => rfl)
    (fun _ _ _ => False) (fun _ _ _ _ => False) (fun _ V => Below w1'.heap.size w1' V) (fun _ _ => False) (fun _ _ => True) 0
    (fun _ _ _ _ _ _ _ h _ _ _ => h.elim)
    (fun _ V l o o' h hl _ _ => h.trans (below_put V o' hl))
    (fun _ _ _ _ _ h _ _ _ => h)
    (fun _ _ _ _ _ => trivial) (fun _ _ _ _ _ _ _ => trivial)
    (fun o => ((Below.refl w1'.heap.size w1').alloc (Nat.le_refl _) _).alloc (by simp) _) ?round ?iter ?done ?stop
  case round =>
    rintro l j x V K h
    exact h.elim
  case iter =>
    intro Bk X l V hBk hBlt hX hl2 hD hB hY
    refine (ended_nil_in 8 l (w.heap.size + 1) (w.heap.size + 1 + 1) V (boxed_below bS1 hD).cell).mono ?_
    rintro e W' ⟨hv, rfl⟩
    exact ⟨hv, .inl ⟨hD, hB⟩⟩
  case done =>
    rintro D V hD hV hK
    have kB := (boxed_below bL1 hV).cell
    have hfin := Lib.hid ((hb01.trans (hV.mono hb01.size)).trans (below_put (B := w.heap.size) V (.deferred none) (by omega : w.heap.size ≤ D)))
    clear hV bL1 bS1 bL0
    gi_wp2_with fail
    refine ⟨by simp, .inl ⟨_, _, rfl, run_takeDeferred hK, ?_⟩⟩
    refine ⟨_, results_tmp rfl _ _ _, ?_⟩
    exact ⟨rfl, hfin.out⟩
  case stop =>
    rintro D cd V _ h _
    exact h.elim
end Go.Proofs.Ytcfgemdpnbimoaa

namespace Go.Proofs.Ytcfgemdpnbimoaa
open Go.RowKit
section
variable {P : Program} {ops : Array Oper} {Q : Exit → Act → World → Prop} {md : Region.Mode}
/-- Orders.lean's, with no way out by what an operation asks for -/
def wpOpS (P : Program) (ops : Array Oper) (Q : Exit → Act → World → Prop) (i : Nat) (K : Act → World → Prop) (a : Act) (w : World) : Prop :=
  match ops[i]? with
  | none => K a w
  | some o => if Region.wanted o (yielded ops a.tmps) then o.wp P a w K Q else K (a.put o.dst undef) w
def wpAnyS (P : Program) (md : Region.Mode) (ops : Array Oper) (Q : Exit → Act → World → Prop) : Nat → Array Bool → Act → World → Prop
  | 0, listed, a, w => Region.ready md ops listed = [] ∧ Q .normal a w
  | fuel + 1, listed, a, w =>
    (Region.ready md ops listed = [] → Q .normal a w) ∧
    ∀ i ∈ Region.ready md ops listed, wpOpS P ops Q i (wpAnyS P md ops Q fuel (listed.setIfInBounds i true)) a w
theorem oper_in {lr n : Nat} {o : Oper} {a : Act} {w : World} {K K' : Act → World → Prop} (hd : ∀ c, o.op ≠ .defer c) (hK : ∀ a w, K a w → K' a w) (h : o.wp P a w K Q) : o.wpIn (Fence.wide.inRound lr) n P a w K' Q := by
  refine ⟨fun _ _ => trivial, ?_⟩
  rw [Fence.inRound_round, Oper.semAt_some lr a.eval o hd]
  unfold Oper.wp at h
  generalize (execOp a.eval o).run P w = r at h
  cases r with
  | ok x w' =>
    cases x <;> simp only [Oper.upon, Oper.uponIn] at h ⊢
    case value v => exact hK _ _ h
    case skip => exact hK _ _ h
    case defer d => exact hK _ _ h
    case enter f args =>
      refine ⟨fun hh => by simp [Fence.wide] at hh, CallsIn.inRound lr (callsIn_wide.2 h |>.mono fun e w'' he => ?_)⟩
      cases e <;> first | exact hK _ _ he | exact he
    case row row args => exact ⟨fun hh => by simp [Fence.wide] at hh, fun c cs _ => let ⟨v, w3, r, s⟩ := h c cs; ⟨v, w3, hK _ _ r, stepsIn_wide.2 s⟩⟩
  | halt x w' => cases x <;> simp only [Oper.upon, Oper.uponIn] at h ⊢ <;> exact h
theorem wpAnyIn_of_S {lr n : Nat} (hd : ∀ (j : Nat) o, ops[j]? = some o → ∀ c, o.op ≠ .defer c) : ∀ (fuel : Nat) (listed : Array Bool) (a : Act) (w : World), wpAnyS P md ops Q fuel listed a w → wpAnyIn (Fence.wide.inRound lr) n P md ops Q fuel listed a w
  | 0, _, _, _, h => h
  | fuel + 1, listed, a, w, h => by
    refine ⟨h.1, fun i hi => ?_⟩
    have h1 := h.2 i hi
    unfold wpOpS at h1
    unfold wpOpIn
    cases ho : ops[i]? with
    | none => rw [ho] at h1; exact wpAnyIn_of_S hd fuel _ _ _ h1
    | some o =>
      rw [ho] at h1
      simp only at h1 ⊢
      split
      · rename_i hw
        rw [if_pos hw] at h1
        exact oper_in (hd i o ho) (fun a w hk => wpAnyIn_of_S hd fuel _ a w hk) h1
      · rename_i hw
        rw [if_neg hw] at h1
        exact ⟨fun _ _ => trivial, wpAnyIn_of_S hd fuel _ _ _ h1⟩
end
section
variable {P : Program} {l : List Oper} {vs : List Value} {fs : List Tmp} {FS : Tmp → Value → World → Prop} {I : World → Prop} {a0 : Act}
/-- one operation of such a run -/
theorem op_of_S {N : Nat} {Q' : Exit → Act → World → Prop} {K : Act → World → Prop} (hR : RG .any l.toArray N) (hN : N ≤ a0.tmps.size) (hlen : vs.length = l.length) {listed : Array Bool} {b : Act} {w : World} {i : Nat} {o : Oper} {v : Value}
    (h : Inv l vs fs FS I a0 listed b w) (ho2 : l[i]? = some o) (hun : listed.getD i true = false) (hp : ∀ e ∈ o.after, Region.binds .any e = true → listed.getD e.on true = true) (hv : vs[i]? = some v) (hob : Ob P l.toArray I fs FS o v (lex l vs a0 i))
    (hK : ∀ u w', Below w.heap.size w w' → (∀ d, o.dst = some d → (d ∈ fs → FS d u w') ∧ (d ∉ fs → vs[i]? = some u)) → K (b.put o.dst u) w') : wpOpS P l.toArray Q' i K b w := by
  have ho : l.toArray[i]? = some o := by simpa using ho2
  have hsel : ∀ cs c, o.op ≠ .select cs c := fun cs c => hR.sel i o cs c ho
  have ag : ∀ d ∈ o.looksAt l.toArray, d ∉ fs → (lex l vs a0 i).tmps[d]? = b.tmps[d]? := fun d hd hf => h.agree hR hN hlen ho2 hun hp hd hf
  unfold wpOpS
  simp only [ho]
  rcases hob with ⟨h1, h2, hcalm⟩ | ⟨s, hs, hds, h1, hwt, hsrc⟩ | ⟨s, hs, ⟨j, hj, hje⟩, h1, h2, huse⟩ | ⟨s, R, hs, hds, hRs, h1, hmix⟩
  · have he := exec_agree (ops := l.toArray) hsel fun d hd => ag d hd (h1 d hd)
    have hw := wanted_agree (ops := l.toArray) fun d hd => ag d hd (h1 d hd)
    have kv : ∀ w', Below w.heap.size w w' → K (b.put o.dst v) w' := fun w' hb => hK v w' hb fun d hd => ⟨fun hf => absurd hf (h2 d hd), fun _ => hv⟩
    rcases hcalm with ⟨hwt, hval⟩ | ⟨hwf, rfl⟩
    · rw [hw] at hwt
      rw [if_pos hwt]
      have h3 := hval w h.cls
      rw [he] at h3
      unfold Oper.wp
      generalize (execOp b.eval o).run P w = r at h3
      cases r with
      | ok n w' =>
        cases n <;> simp only [calmUpon] at h3 <;> simp only [Oper.upon]
        case value u => obtain ⟨rfl, rfl⟩ := h3; exact kv _ (Below.refl _ _)
        case skip => obtain ⟨rfl, rfl⟩ := h3; exact kv _ (Below.refl _ _)
        case enter f args =>
          obtain ⟨rfl, hcc⟩ := h3
          exact hcc.mono fun e w'' ⟨he, hb⟩ => by subst he; exact kv _ hb
      | halt x w' => simp only [calmUpon] at h3
    · rw [hw] at hwf
      rw [hwf, if_neg (by simp)]
      exact kv w (Below.refl _ _)
  · have he := exec_agree (ops := l.toArray) hsel fun d hd => ag d hd (h1 d hd)
    have hw := wanted_agree (ops := l.toArray) fun d hd => ag d hd (h1 d hd)
    rw [hw] at hwt
    rw [if_pos hwt]
    have h3 := hsrc w h.cls
    rw [he] at h3
    have kf : ∀ u w', FS s u w' → Below w.heap.size w w' → K (b.put o.dst u) w' := fun u w' hf hb => hK u w' hb fun d hd => by
      obtain rfl : d = s := Option.some.inj (hd.symm.trans hds)
      exact ⟨fun _ => hf, fun hnf => absurd hs hnf⟩
    unfold Oper.wp
    generalize (execOp b.eval o).run P w = r at h3
    cases r with
    | ok n w' =>
      cases n <;> simp only [srcUpon] at h3 <;> simp only [Oper.upon]
      case value u => exact kf u w' h3.1 h3.2
      case enter f args =>
        obtain ⟨rfl, hcc⟩ := h3
        exact hcc.mono fun e w'' ⟨u, he, hf, hb⟩ => by subst he; exact kf u w'' hf hb
    | halt x w' => simp only [srcUpon] at h3
  · obtain ⟨e, hee, heb⟩ := Array.any_eq_true'.1 hje
    simp only [Bool.and_eq_true, beq_iff_eq] at heb
    obtain ⟨hbe, rfl⟩ := heb
    obtain ⟨oj, hoj, hdj⟩ := Option.bind_eq_some_iff.1 hj
    have hoj2 : l[e.on]? = some oj := by simpa using hoj
    obtain ⟨vj, hvj⟩ : ∃ v, vs[e.on]? = some v := ⟨_, List.getElem?_eq_getElem (by rw [hlen]; exact (List.getElem?_eq_some_iff.1 hoj2).1)⟩
    obtain ⟨x, hbx, hfx⟩ := (h.ins e.on oj s vj hoj2 (hp e hee hbe) hdj hvj).1 hs
    have hslt : s < (lex l vs a0 i).tmps.size := by rw [(lex_size l vs a0 i).1]; exact Nat.lt_of_lt_of_le (hR.small _ _ _ hoj hdj) hN
    have ag2 : ∀ d ∈ o.looksAt l.toArray, ((lex l vs a0 i).put (some s) x).tmps[d]? = b.tmps[d]? := fun d hd => by
      by_cases hsd : s = d
      · subst hsd
        rw [put_same x hslt, hbx]
      · rw [put_other x (by simpa using hsd)]
        exact ag d hd fun hf => hsd (h1 d hd hf).symm
    obtain ⟨hwt, h3⟩ := huse x w h.cls hfx
    rw [wanted_agree (ops := l.toArray) ag2] at hwt
    rw [exec_agree (ops := l.toArray) hsel ag2] at h3
    have kv : ∀ w', Below w.heap.size w w' → K (b.put o.dst v) w' := fun w' hb => hK v w' hb fun d hd => ⟨fun hf => absurd hf (h2 d hd), fun _ => hv⟩
    rw [if_pos hwt]
    unfold Oper.wp
    generalize (execOp b.eval o).run P w = r at h3
    cases r with
    | ok n w' =>
      cases n <;> simp only [calmUpon] at h3 <;> simp only [Oper.upon]
      case value u => obtain ⟨rfl, rfl⟩ := h3; exact kv _ (Below.refl _ _)
      case skip => obtain ⟨rfl, rfl⟩ := h3; exact kv _ (Below.refl _ _)
      case enter f args =>
        obtain ⟨rfl, hcc⟩ := h3
        exact hcc.mono fun e w'' ⟨he, hb⟩ => by subst he; exact kv _ hb
    | halt x w' => simp only [calmUpon] at h3

  · have got : ∀ r ∈ R, ∃ x, b.tmps[r]? = some x ∧ FS r x w ∧ r < (lex l vs a0 i).tmps.size := fun r hr => by
      obtain ⟨hrf, j, hj, hje⟩ := hRs r hr
      obtain ⟨e, hee, heb⟩ := Array.any_eq_true'.1 hje
      simp only [Bool.and_eq_true, beq_iff_eq] at heb
      obtain ⟨hbe, rfl⟩ := heb
      obtain ⟨oj, hoj, hdj⟩ := Option.bind_eq_some_iff.1 hj
      have hoj2 : l[e.on]? = some oj := by simpa using hoj
      obtain ⟨vj, hvj⟩ : ∃ v, vs[e.on]? = some v := ⟨_, List.getElem?_eq_getElem (by rw [hlen]; exact (List.getElem?_eq_some_iff.1 hoj2).1)⟩
      obtain ⟨x, hbx, hfx⟩ := (h.ins e.on oj r vj hoj2 (hp e hee hbe) hdj hvj).1 hrf
      exact ⟨x, hbx, hfx, by rw [(lex_size l vs a0 i).1]; exact Nat.lt_of_lt_of_le (hR.small _ _ _ hoj hdj) hN⟩
    have ag2 : ∀ d ∈ o.looksAt l.toArray, (fill R (fun s => b.tmps.getD s undef) (lex l vs a0 i)).tmps[d]? = b.tmps[d]? := fun d hd => by
      by_cases hdR : d ∈ R
      · obtain ⟨x, hbx, _, hlt⟩ := got d hdR
        rw [fill_in R _ _ d hdR hlt, hbx]
        simp [hbx]
      · rw [fill_out R _ _ d hdR]
        exact ag d hd fun hf => hdR (h1 d hd hf)
    obtain ⟨hwt, h3⟩ := hmix (fun s => b.tmps.getD s undef) w h.cls fun r hr => by
      obtain ⟨x, hbx, hfx, _⟩ := got r hr
      simpa [hbx] using hfx
    rw [wanted_agree (ops := l.toArray) ag2] at hwt
    rw [exec_agree (ops := l.toArray) hsel ag2] at h3
    rw [if_pos hwt]
    have kf : ∀ u w', FS s u w' → Below w.heap.size w w' → K (b.put o.dst u) w' := fun u w' hf hb => hK u w' hb fun d hd => by
      obtain rfl : d = s := Option.some.inj (hd.symm.trans hds)
      exact ⟨fun _ => hf, fun hnf => absurd hs hnf⟩
    unfold Oper.wp
    generalize (execOp b.eval o).run P w = r at h3
    cases r with
    | ok n w' =>
      cases n <;> simp only [srcUpon] at h3 <;> simp only [Oper.upon]
      case value u => exact kf u w' h3.1 h3.2
      case enter f args =>
        obtain ⟨rfl, hcc⟩ := h3
        exact hcc.mono fun e w'' ⟨u, he, hf, hb⟩ => by subst he; exact kf u w'' hf hb
    | halt x w' => simp only [srcUpon] at h3

theorem any_of_S {N : Nat} {Q' : Exit → Act → World → Prop} (hR : RG .any l.toArray N) (hN : N ≤ a0.tmps.size) (hlen : vs.length = l.length) (hI : Closed I) (hF : ∀ s x w w', FS s x w → Below w.heap.size w w' → FS s x w')
    (hob : ∀ (k : Nat) o v, l[k]? = some o → vs[k]? = some v → Ob P l.toArray I fs FS o v (lex l vs a0 k))
    (hQ : ∀ (listed : Array Bool) b w, (∀ j, listed.getD j true = true) → Inv l vs fs FS I a0 listed b w → Q' .normal b w) :
    ∀ (fuel : Nat) (listed : Array Bool) (b : Act) (w : World), listed.toList.count false ≤ fuel → Inv l vs fs FS I a0 listed b w → wpAnyS P .any l.toArray Q' fuel listed b w
  | 0, listed, b, w, hc, h => by
    have hall := count_zero (L := listed) (by omega)
    refine ⟨?_, hQ listed b w hall h⟩
    rw [List.eq_nil_iff_forall_not_mem]
    intro i hi
    have := (mem_ready.1 hi).1
    rw [hall i] at this
    cases this
  | fuel + 1, listed, b, w, hc, h => by
    refine ⟨fun h0 => hQ listed b w (ready_all hR h.lsize h0) h, fun i hi => ?_⟩
    obtain ⟨hun, o, ho, hall⟩ := mem_ready.1 hi
    have ho2 : l[i]? = some o := by simpa using ho
    have hp : ∀ e ∈ o.after, Region.binds .any e = true → listed.getD e.on true = true := fun e he hb => by
      have h1 := hall e he hb
      rw [Array.getD_eq_getD_getElem?] at h1 ⊢
      cases hx : listed[e.on]? with
      | none => rfl
      | some y => rw [hx] at h1; simpa using h1
    obtain ⟨v, hv⟩ : ∃ v, vs[i]? = some v := ⟨_, List.getElem?_eq_getElem (by rw [hlen]; exact (List.getElem?_eq_some_iff.1 ho2).1)⟩
    exact op_of_S hR hN hlen h ho2 hun hp hv (hob i o v ho2 hv) fun u w' hb hu =>
      any_of_S hR hN hlen hI hF hob hQ fuel _ _ _ (by have := count_set hun; omega) (h.next hR hN hI hF ho2 hp hb hu)

/-- .. in a round of a loop over a function -/
theorem wpIn_region_F {lr n : Nat} {id : Nat} {Q : Exit → Act → World → Prop} {a : Act} {w : World} {l : List Oper} (N : Nat) (fs : List Tmp) (FS : Tmp → Value → World → Prop) (I : World → Prop) (hm : P.follows .mixedOrders = true) (hB : rgB .any l.toArray N = true)
    (hfs : (fs.all fun s => l.any fun o => o.dst == some s) = true) (hN : N ≤ a.tmps.size) (hI : Closed I) (hF : ∀ s x w w', FS s x w → Below w.heap.size w w' → FS s x w') (hC : I w.drew) (hdf : (l.all fun o => match o.op with | .defer _ => false | _ => true) = true)
    (h : wpF P l.toArray I fs FS (fun a' => ∀ xs w', I w' → (∀ s ∈ fs, FS s (xs s) w') → Q .normal (fill fs xs a') w') l a) : (Code.region id l.toArray true).wpIn (Fence.wide.inRound lr) n P Q a w := by
  have hR := rgB_spec hB
  obtain ⟨vs, hlen, hob, hE⟩ := wpF_vals l a h
  refine wpIn_region_any hm (wpAnyIn_of_S (fun j o ho c hc => ?_) _ _ _ _ ?_)
  · have hmem : o ∈ l := List.mem_of_getElem? (by simpa using ho)
    rw [List.all_eq_true] at hdf
    have := hdf o hmem
    rw [hc] at this
    cases this
  refine any_of_S (l := l) (vs := vs) (fs := fs) (FS := FS) (I := I) (a0 := a) hR hN hlen hI hF hob ?_ _ _ _ _ ?_ ?_
  · intro listed b w' hall hinv
    have hw : ∀ s ∈ fs, ∃ x, b.tmps[s]? = some x ∧ FS s x w' := fun s hs => by
      rw [List.all_eq_true] at hfs
      have h1 := hfs s hs
      rw [List.any_eq_true] at h1
      obtain ⟨o, ho, hd⟩ := h1
      obtain ⟨j, hj, rfl⟩ := List.getElem_of_mem ho
      have hd' : (l[j]).dst = some s := by simpa using hd
      obtain ⟨v, hv⟩ : ∃ v, vs[j]? = some v := ⟨_, List.getElem?_eq_getElem (by rw [hlen]; exact hj)⟩
      exact (hinv.ins j l[j] s v (List.getElem?_eq_getElem hj) (hall j) hd' hv).1 hs
    have hb : b = fill fs (fun s => b.tmps.getD s undef) (lex l vs a l.length) := by
      have ht : b.tmps = (fill fs (fun s => b.tmps.getD s undef) (lex l vs a l.length)).tmps := by
        apply Array.ext_getElem?
        intro d
        by_cases hd : d ∈ fs
        · obtain ⟨x, hx, _⟩ := hw d hd
          have hlt : d < (lex l vs a l.length).tmps.size := by
            rw [(lex_size l vs a l.length).1, ← hinv.size]
            exact (Array.getElem?_eq_some_iff.1 hx).1
          rw [fill_in fs _ _ d hd hlt, hx]
          simp [hx]
        · rw [fill_out fs _ _ d hd]
          by_cases hwr : ∃ (j : Nat) (oj : Oper), l[j]? = some oj ∧ oj.dst = some d
          · obtain ⟨j, oj, hj, hdj⟩ := hwr
            obtain ⟨v, hv⟩ : ∃ v, vs[j]? = some v := ⟨_, List.getElem?_eq_getElem (by rw [hlen]; exact (List.getElem?_eq_some_iff.1 hj).1)⟩
            have hj' : l.toArray[j]? = some oj := by simpa using hj
            rw [(hinv.ins j oj d v hj (hall j) hdj hv).2 hd]
            exact (lex_in l vs a l.length j oj d v hj (List.getElem?_eq_some_iff.1 hj).1 hv hdj (Nat.lt_of_lt_of_le (hR.small _ _ _ hj' hdj) hN) fun i oi hi _ hne => hR.once i j oi oj d (by simpa using hi) hj' hdj hne).symm
          · rw [lex_out l vs a l.length d fun i oi hi _ hdi => hwr ⟨i, oi, hi, hdi⟩]
            exact hinv.out d fun i oi hi _ hdi => hwr ⟨i, oi, hi, hdi⟩
      have hd : b.defers = (fill fs (fun s => b.tmps.getD s undef) (lex l vs a l.length)).defers := by
        rw [(fill_size ..).2, (lex_size ..).2]
        exact hinv.defers
      cases b
      simp only at ht hd
      rw [Act.mk.injEq]
      exact ⟨ht, hd⟩
    rw [hb]
    refine hE _ w' hinv.cls fun s hs => ?_
    obtain ⟨x, hx, hf⟩ := hw s hs
    simpa [hx] using hf
  · simp
  · refine ⟨hC, rfl, rfl, fun _ _ => rfl, fun j o d v hj hlj => ?_, fun j o hj hlj => ?_, by simp⟩
    all_goals
      have hlt := (List.getElem?_eq_some_iff.1 hj).1
      rw [Array.getD_eq_getD_getElem?] at hlj
      simp [hlt] at hlj
end
end Go.Proofs.Ytcfgemdpnbimoaa

namespace Go.Proofs.Ytcfgemdpnbimoaa
section
variable {P : Program} {ops : Array Oper} {md : Region.Mode}

/-- 0: it looks at no memory and enters no function; 1: a load; 2: a store; 3: all others -/
def kind3 (o : Oper) : Nat :=
  if pureOp o then 0 else match o.op with
    | .load _ _ => 1
    | .store _ _ _ => 2
    | _ => 3
theorem kind3_pure {o : Oper} (h : kind3 o = 0) : kindOf o = 0 := by
  unfold kind3 at h
  unfold kindOf
  split at h
  · rename_i hp; rw [if_pos hp]
  · split at h <;> simp at h
theorem kind3_load {o : Oper} (h : kind3 o = 1) : ∃ t x, o.op = .load t x := by
  unfold kind3 at h
  split at h
  · simp at h
  · split at h
    · exact ⟨_, _, by assumption⟩
    · simp at h
    · simp at h
theorem load_no_enter {o : Oper} {t : TypeId} {x : Operand} (ho : o.op = .load t x) (ρ : Operand → Value) (w w' : World) (f : FuncId) (args : Array Value) : (execOp ρ o).run P w ≠ .ok (.enter f args) w' := by
  unfold execOp
  simp only [ho]
  exact run_value _ _ _ _ _
theorem yields_load {o : Oper} {v : Value} {a : Act} {C D : World → Prop} (hk : kind3 o = 1) (h : YieldsIn P ops C o v a) (hD : ∀ w, D w → C w) : YieldsIn P ops D o v a := by
  obtain ⟨t, x, ho⟩ := kind3_load hk
  rcases h with ⟨hw, h⟩ | h
  · refine .inl ⟨hw, fun w hwD => ?_⟩
    have h1 := h w (hD w hwD)
    have h2 := load_no_enter (P := P) ho a.eval w
    unfold Oper.quietAt at h1 ⊢
    generalize (execOp a.eval o).run P w = r at h1 h2
    cases r with
    | ok n w' =>
      cases n with
      | enter f args => exact absurd rfl (h2 w' f args)
      | _ => exact h1
    | halt x w' => exact h1
  · exact .inr h

def famUpon (P : Program) (V : Value → Prop) (C' : Value → World → Prop) : Result Next → Prop
  | .ok (.value u) w' => V u ∧ C' u w'
  | .ok (.enter f args) w' => Calls P f args w' fun e w'' => ∃ v, e = .returned v ∧ V v ∧ C' v w''
  | _ => False
/-- one operation, in a class of worlds -/
def Step3 (P : Program) (ops : Array Oper) (o : Oper) (a : Act) (C : World → Prop) (K : (World → Prop) → Act → Prop) : Prop :=
  (kind3 o = 0 ∧ ∃ v, YieldsIn P ops (fun _ => True) o v a ∧ K C (a.put o.dst v)) ∨
  (kind3 o = 1 ∧ ∃ v, YieldsIn P ops C o v a ∧ K C (a.put o.dst v)) ∨
  (kind3 o = 2 ∧ ∃ v C', StepsIn P ops C C' o v a ∧ K C' (a.put o.dst v)) ∨
  (kind3 o = 3 ∧ ((Region.wanted o (yielded ops a.tmps) = false ∧ K C (a.put o.dst undef)) ∨ (Region.wanted o (yielded ops a.tmps) = true ∧ ∃ (V : Value → Prop) (C' : Value → World → Prop), (∀ v w, C' v w → C w) ∧ (∀ w, C w → famUpon P V C' ((execOp a.eval o).run P w)) ∧ ∀ v, V v → K (C' v) (a.put o.dst v))))

def wpAny3 (P : Program) (md : Region.Mode) (ops : Array Oper) (Q : (World → Prop) → Act → Prop) : Nat → Array Bool → (World → Prop) → Act → Prop
  | 0, listed, C, a => Region.ready md ops listed = [] ∧ Q C a
  | fuel + 1, listed, C, a =>
    (Region.ready md ops listed = [] → Q C a) ∧
    ∀ i ∈ Region.ready md ops listed, ∀ o, ops[i]? = some o → Step3 P ops o a C (wpAny3 P md ops Q fuel (listed.setIfInBounds i true))
theorem Step3.wpOp {C : World → Prop} {i : Nat} {o : Oper} {a : Act} {K : (World → Prop) → Act → Prop} {K' : Act → World → Prop} {Q' : Exit → Act → World → Prop} {w : World} (hi : ops[i]? = some o) (h : Step3 P ops o a C K) (hC : C w) (hK : ∀ (C' : World → Prop) a' w', C' w' → K C' a' → K' a' w') : wpOp P ops Q' i K' a w := by
  rcases h with ⟨hk, v, hy, hn⟩ | ⟨hk, v, hy, hn⟩ | ⟨hk, v, C', hy, hn⟩ | ⟨hk, h⟩
  · exact OpR.wpOp (C := C) (C' := C) hi (.inl ⟨kind3_pure hk, rfl, hy⟩) hC fun w' hw' => hK C _ w' hw' hn
  · have hk1 : kindOf o = 1 := by
      obtain ⟨t, x, ho⟩ := kind3_load hk
      simp [kindOf, pureOp, ho]
    exact OpR.wpOp (C := C) (C' := C) hi (.inr (.inl ⟨hk1, rfl, hy⟩)) hC fun w' hw' => hK C _ w' hw' hn
  · have hk2 : kindOf o = 2 := by
      unfold kind3 at hk
      unfold kindOf
      split at hk
      · simp at hk
      · rename_i hp
        rw [if_neg hp]
        split at hk
        · simp at hk
        · rename_i heq; simp [heq]
        · simp at hk
    exact OpR.wpOp (C := C) (C' := C') hi (.inr (.inr ⟨hk2, hy⟩)) hC fun w' hw' => hK C' _ w' hw' hn
  · unfold Go.wpOp
    simp only [hi]
    rcases h with ⟨hw, hn⟩ | ⟨hw, V, C', _, hv, hn⟩
    · simp only [hw, Bool.false_eq_true, if_false]
      exact hK C _ w hC hn
    · simp only [hw, if_true]
      left
      have h1 := hv w hC
      unfold Oper.wp
      generalize (execOp a.eval o).run P w = r at h1
      cases r with
      | ok n w' =>
        cases n <;> simp only [famUpon] at h1 <;> simp only [Oper.upon]
        case value u => exact hK (C' u) _ w' h1.2 (hn u h1.1)
        case enter f args =>
          refine h1.mono fun e w'' ⟨v, he, hV, hc⟩ => ?_
          subst he
          exact hK (C' v) _ w'' hc (hn v hV)
      | halt x w' => simp only [famUpon] at h1
theorem wpAny_of_3 {Q : (World → Prop) → Act → Prop} {Q' : Exit → Act → World → Prop} (hQ : ∀ (C : World → Prop) a w, C w → Q C a → Q' .normal a w) : ∀ (fuel : Nat) (listed : Array Bool) (C : World → Prop) (a : Act) (w : World), C w →
    wpAny3 P md ops Q fuel listed C a → wpAny P md ops Q' fuel listed a w
  | 0, _, _, _, _, hw, h => ⟨h.1, hQ _ _ _ hw h.2⟩
  | fuel + 1, _, _, _, _, hw, h => ⟨fun h0 => hQ _ _ _ hw (h.1 h0), fun i hi => by
      obtain ⟨_, o, ho, _⟩ := mem_ready.1 hi
      exact (h.2 i hi o ho).wpOp ho hw fun C' a' w' hw' hn => wpAny_of_3 hQ fuel _ C' a' w' hw' hn⟩

/-- what waits for k, through others too -/
def blocked (md : Region.Mode) (ops : Array Oper) (k : Nat) : Array Bool :=
  (List.range ops.size).foldl (fun u j => u.push (j == k || (match ops[j]? with | some oj => oj.after.any (fun e => Region.binds md e && u.getD e.on false) | none => false))) #[]
def free3 (md : Region.Mode) (ops : Array Oper) (listed : Array Bool) (k : Nat) : Bool :=
  let U := blocked md ops k
  U.getD k false && U.size == ops.size &&
  match ops[k]? with
  | none => false
  | some ok => (List.range ops.size).all fun j =>
    match ops[j]? with
    | some oj =>
      if U.getD j false then !listed.getD j false && (j == k || oj.after.any (fun e => Region.binds md e && U.getD e.on false))
      else listed.getD j true || (ok.apart ops oj && (kind3 ok == 0 || (kind3 ok == 1 && kind3 oj != 2)))
    | none => true
structure Free3 (md : Region.Mode) (ops : Array Oper) (listed : Array Bool) (i : Nat) (oi : Oper) (U : Array Bool) : Prop where
  size : U.size = ops.size
  own : U.getD i false = true
  wait : ∀ j oj, ops[j]? = some oj → U.getD j false = true → j ≠ i → ∃ e ∈ oj.after, Region.binds md e = true ∧ U.getD e.on false = true
  un : ∀ j, U.getD j false = true → listed.getD j false = false
  free : ∀ j oj, ops[j]? = some oj → U.getD j false = false → listed.getD j true = false → oi.apart ops oj = true ∧ (kind3 oi = 0 ∨ (kind3 oi = 1 ∧ kind3 oj ≠ 2))
theorem free3_spec {i : Nat} {oi : Oper} {listed : Array Bool} (hi : ops[i]? = some oi) (h : free3 md ops listed i = true) : Free3 md ops listed i oi (blocked md ops i) := by
  simp only [free3, hi, List.all_eq_true, List.mem_range, Bool.and_eq_true, beq_iff_eq] at h
  obtain ⟨⟨hown, hsz⟩, h⟩ := h
  have at_ : ∀ j oj, ops[j]? = some oj → (if (blocked md ops i).getD j false = true then (!listed.getD j false && (j == i || oj.after.any (fun e => Region.binds md e && (blocked md ops i).getD e.on false))) = true
      else (listed.getD j true || (oi.apart ops oj && (kind3 oi == 0 || (kind3 oi == 1 && kind3 oj != 2)))) = true) := fun j oj hj => by
    have h1 := h j (Array.getElem?_eq_some_iff.1 hj).1
    simp only [hj] at h1
    split at h1 <;> rename_i hu
    · rw [if_pos hu]; exact h1
    · rw [if_neg hu]; exact h1
  refine ⟨hsz, hown, fun j oj hj hu hne => ?_, fun j hu => ?_, fun j oj hj hu hun => ?_⟩
  · have h1 := at_ j oj hj
    rw [if_pos hu] at h1
    simp only [Bool.and_eq_true, Bool.or_eq_true, beq_iff_eq, hne, false_or] at h1
    obtain ⟨e, he, hb⟩ := Array.any_eq_true'.1 h1.2
    simp only [Bool.and_eq_true] at hb
    exact ⟨e, he, hb.1, hb.2⟩
  · have hlt : j < ops.size := by
      rw [← hsz]
      rcases Nat.lt_or_ge j (blocked md ops i).size with h' | h'
      · exact h'
      · simp [Array.getElem?_eq_none h'] at hu
    have h1 := at_ j _ (Array.getElem?_eq_getElem hlt)
    rw [if_pos hu] at h1
    simp only [Bool.and_eq_true, Bool.not_eq_true'] at h1
    exact h1.1
  · have h1 := at_ j oj hj
    rw [if_neg (by rw [hu]; exact Bool.false_ne_true)] at h1
    simp only [hun, Bool.or_eq_true, Bool.false_eq_true, false_or, Bool.and_eq_true, beq_iff_eq, bne_iff_ne, ne_eq] at h1
    exact h1
theorem Free3.ready {i j : Nat} {oi oj : Oper} {listed U : Array Bool} (h : Free3 md ops listed i oi U) (hj : ops[j]? = some oj) (hji : j ≠ i) (hall : ∀ e ∈ oj.after, Region.binds md e = true → listed.getD e.on false = true) : U.getD j false = false := by
  cases hu : U.getD j false with
  | false => rfl
  | true =>
    obtain ⟨e, he, hb, hue⟩ := h.wait j oj hj hu hji
    have h1 := hall e he hb
    rw [h.un e.on hue] at h1
    cases h1
theorem Free3.set {i j : Nat} {oi : Oper} {listed U : Array Bool} (h : Free3 md ops listed i oi U) (hu : U.getD j false = false) : Free3 md ops (listed.setIfInBounds j true) i oi U := by
  refine ⟨h.size, h.own, h.wait, fun k hk => ?_, fun k ok hk hku hun => h.free k ok hk hku ?_⟩
  · have hne : j ≠ k := fun e => by subst e; rw [hu] at hk; cases hk
    rw [getD_set_ne false hne]; exact h.un k hk
  · by_cases hjk : j = k
    · subst hjk
      rcases Nat.lt_or_ge j listed.size with h' | h'
      · simp [h'] at hun
      · simp [Array.getElem?_eq_none (show (listed.setIfInBounds j true).size ≤ j by simpa using h')] at hun
    · rw [getD_set_ne true hjk] at hun; exact hun
/-- an operation apart: its step is the same whether another's value is in its slot or not -/
theorem Step3.put {oi oj : Oper} {v : Value} {a : Act} {C : World → Prop} {K1 K2 : (World → Prop) → Act → Prop} (hap : oi.apart ops oj = true) (hsj : ∀ cs b, oj.op ≠ .select cs b)
    (hK : ∀ (C' : World → Prop) u, (C' = C ∨ (kind3 oj = 3 ∧ ∀ w, C' w → C w) ∨ kind3 oj = 2) → K1 C' ((a.put oi.dst v).put oj.dst u) → K2 C' (a.put oj.dst u)) (h : Step3 P ops oj (a.put oi.dst v) C K1) : Step3 P ops oj a C K2 := by
  obtain ⟨p1, p2, p3⟩ := Oper.apart_spec hap
  have he := execOp_put oj hsj a oi.dst v p1
  have hw := wanted_put oj a oi.dst v p1
  rcases h with ⟨hk, u, hy, hn⟩ | ⟨hk, u, hy, hn⟩ | ⟨hk, u, C', hy, hn⟩ | ⟨hk, h⟩
  · exact .inl ⟨hk, u, hy.of_same he.symm hw.symm, hK C u (.inl rfl) hn⟩
  · exact .inr (.inl ⟨hk, u, hy.of_same he.symm hw.symm, hK C u (.inl rfl) hn⟩)
  · refine .inr (.inr (.inl ⟨hk, u, C', ?_, hK C' u (.inr (.inr hk)) hn⟩))
    unfold StepsIn at hy ⊢
    rwa [he, hw] at hy
  · refine .inr (.inr (.inr ⟨hk, ?_⟩))
    rcases h with ⟨hwf, hn⟩ | ⟨hwt, V, C', hsub, hv, hn⟩
    · exact .inl ⟨by rw [← hw]; exact hwf, hK C undef (.inl rfl) hn⟩
    · exact .inr ⟨by rw [← hw]; exact hwt, V, C', hsub, by rwa [he] at hv, fun u hu => hK (C' u) u (.inr (.inl ⟨hk, hsub u⟩)) (hn u hu)⟩
theorem wpAny3_first {Q : (World → Prop) → Act → Prop} {i : Nat} {oi : Oper} (hi : ops[i]? = some oi) (hsel : ∀ (j : Nat) (o : Oper) cs b, ops[j]? = some o → o.op ≠ .select cs b) :
    ∀ (fuel : Nat) (listed : Array Bool) (C : World → Prop) (a : Act) (U : Array Bool), Free3 md ops listed i oi U → i ∈ Region.ready md ops listed →
      Step3 P ops oi a C (wpAny3 P md ops Q fuel (listed.setIfInBounds i true)) → wpAny3 P md ops Q (fuel + 1) listed C a := by
  intro fuel
  induction fuel with
  | zero =>
    intro listed C a U hfree hr H
    refine ⟨fun h => (by rw [h] at hr; cases hr), fun j hj o ho => ?_⟩
    by_cases hji : j = i
    · subst hji
      have : o = oi := Option.some.inj (ho.symm.trans hi)
      subst this
      exact H
    · exfalso
      have hmono := ready_mono hj hji
      obtain ⟨hjun, oj', hoj', hall⟩ := mem_ready.1 hj
      have hju := hfree.ready hoj' hji hall
      obtain ⟨_, hkind⟩ := hfree.free j oj' hoj' hju hjun
      have nil : ∀ {C' : World → Prop} {a' : Act}, wpAny3 P md ops Q 0 (listed.setIfInBounds i true) C' a' → False := fun h => by
        rw [h.1] at hmono; cases hmono
      rcases H with ⟨_, _, _, hn⟩ | ⟨_, _, _, hn⟩ | ⟨hk, _⟩ | ⟨hk, _⟩
      · exact nil hn
      · exact nil hn
      · rcases hkind with h | ⟨h, _⟩ <;> rw [hk] at h <;> simp at h
      · rcases hkind with h | ⟨h, _⟩ <;> rw [hk] at h <;> simp at h
  | succ fuel ih =>
    intro listed C a U hfree hr H
    refine ⟨fun h => (by rw [h] at hr; cases hr), fun j hj oj hoj => ?_⟩
    by_cases hji : j = i
    · subst hji
      have : oj = oi := Option.some.inj (hoj.symm.trans hi)
      subst this
      exact H
    · obtain ⟨hjun, oj', hoj', hall⟩ := mem_ready.1 hj
      have : oj' = oj := Option.some.inj (hoj'.symm.trans hoj)
      subst this
      have hju := hfree.ready hoj' hji hall
      obtain ⟨hap, hkind⟩ := hfree.free j oj' hoj hju hjun
      obtain ⟨p1, p2, p3⟩ := Oper.apart_spec hap
      have hsi : ∀ cs b, oi.op ≠ .select cs b := fun cs b => hsel i oi cs b hi
      have hsj : ∀ cs b, oj'.op ≠ .select cs b := fun cs b => hsel j oj' cs b hoj
      have hfree' := hfree.set hju
      have hr' := ready_mono hr (Ne.symm hji)
      have next : ∀ v, (kind3 oi = 0 ∧ YieldsIn P ops (fun _ => True) oi v a ∨ kind3 oi = 1 ∧ YieldsIn P ops C oi v a) → wpAny3 P md ops Q (fuel + 1) (listed.setIfInBounds i true) C (a.put oi.dst v) → Step3 P ops oj' a C (wpAny3 P md ops Q (fuel + 1) (listed.setIfInBounds j true)) := by
        intro v hy hn
        refine Step3.put (v := v) hap hsj (fun C' u hC' h3 => ih _ C' _ U hfree' hr' ?_) (hn.2 j (ready_mono hj hji) oj' hoj)
        have h4 : wpAny3 P md ops Q fuel ((listed.setIfInBounds j true).setIfInBounds i true) C' ((a.put oj'.dst u).put oi.dst v) := by
          rw [Array.setIfInBounds_comm _ _ hji]
          rw [Act.put_comm a v u p2] at h3
          exact h3
        have hs1 := execOp_put oi hsi a oj'.dst u p3
        have hs2 := wanted_put oi a oj'.dst u p3
        rcases hy with ⟨hk, hy⟩ | ⟨hk, hy⟩
        · exact .inl ⟨hk, v, hy.of_same hs1 hs2, h4⟩
        · refine .inr (.inl ⟨hk, v, yields_load hk (hy.of_same hs1 hs2) ?_, h4⟩)
          rcases hC' with rfl | ⟨_, h⟩ | h
          · exact fun _ h => h
          · exact h
          · rcases hkind with h' | ⟨_, h'⟩
            · rw [hk] at h'; simp at h'
            · exact absurd h h'
      rcases H with ⟨hk, v, hy, hn⟩ | ⟨hk, v, hy, hn⟩ | ⟨hk, _⟩ | ⟨hk, _⟩
      · exact next v (.inl ⟨hk, hy⟩) hn
      · exact next v (.inr ⟨hk, hy⟩) hn
      · rcases hkind with h | ⟨h, _⟩ <;> rw [hk] at h <;> simp at h
      · rcases hkind with h | ⟨h, _⟩ <;> rw [hk] at h <;> simp at h

/-- may the operations be walked in this order? -/
def orderB (md : Region.Mode) (ops : Array Oper) : List Nat → Array Bool → Bool
  | [], listed => (Region.ready md ops listed).isEmpty
  | k :: r, listed => (Region.ready md ops listed).contains k && free3 md ops listed k && orderB md ops r (listed.setIfInBounds k true)
def order3 (md : Region.Mode) (ops : Array Oper) (ks : List Nat) : Bool := Region.noSelect ops && ks.length == ops.size && orderB md ops ks (Array.replicate ops.size false)
/-- the walk in that order -/
def wpO3 (P : Program) (ops : Array Oper) (Q : (World → Prop) → Act → Prop) : List Nat → (World → Prop) → Act → Prop
  | [], C, a => Q C a
  | k :: r, C, a => ∃ o, ops[k]? = some o ∧ Step3 P ops o a C (wpO3 P ops Q r)
theorem Step3.mono {o : Oper} {a : Act} {C : World → Prop} {K K' : (World → Prop) → Act → Prop} (h : Step3 P ops o a C K) (hK : ∀ C a, K C a → K' C a) : Step3 P ops o a C K' := by
  rcases h with ⟨hk, v, hy, hn⟩ | ⟨hk, v, hy, hn⟩ | ⟨hk, v, C', hy, hn⟩ | ⟨hk, h⟩
  · exact .inl ⟨hk, v, hy, hK _ _ hn⟩
  · exact .inr (.inl ⟨hk, v, hy, hK _ _ hn⟩)
  · exact .inr (.inr (.inl ⟨hk, v, C', hy, hK _ _ hn⟩))
  · refine .inr (.inr (.inr ⟨hk, ?_⟩))
    rcases h with ⟨hw, hn⟩ | ⟨hw, V, C', hs, hv, hn⟩
    · exact .inl ⟨hw, hK _ _ hn⟩
    · exact .inr ⟨hw, V, C', hs, hv, fun v hV => hK _ _ (hn v hV)⟩
theorem wpAny3_order {Q : (World → Prop) → Act → Prop} (hs : Region.noSelect ops = true) : ∀ (ks : List Nat) (listed : Array Bool) (C : World → Prop) (a : Act),
    orderB md ops ks listed = true → wpO3 P ops Q ks C a → wpAny3 P md ops Q ks.length listed C a
  | [], _, _, _, hB, h => ⟨by simpa [orderB] using hB, h⟩
  | k :: r, listed, C, a, hB, h => by
    obtain ⟨o, ho, h⟩ := h
    simp only [orderB, Bool.and_eq_true] at hB
    obtain ⟨⟨hr, hf⟩, hB'⟩ := hB
    exact wpAny3_first ho (Region.noSelect_spec hs) r.length listed C a _ (free3_spec ho hf) (by simpa using hr) (h.mono fun C' a' hn => wpAny3_order hs r _ C' a' hB' hn)
theorem wp_region_order {id : Nat} {Q : Exit → Act → World → Prop} {a : Act} {w : World} {l : List Oper} (ks : List Nat) {C : World → Prop} (hm : P.follows .mixedOrders = true) (hB : order3 .any l.toArray ks = true) (hC : C w.drew)
    (h : wpO3 P l.toArray (fun C a' => ∀ w', C w' → Q .normal a' w') ks C a) : (Code.region id l.toArray true).wp P Q a w := by
  simp only [order3, Bool.and_eq_true, beq_iff_eq] at hB
  refine wp_region_any hm (wpAny_of_3 (Q := fun C a' => ∀ w', C w' → Q .normal a' w') (fun C a w' hw' h => h w' hw') _ _ C _ _ hC ?_)
  have := wpAny3_order (md := .any) hB.1.1 ks (Array.replicate l.toArray.size false) C a hB.2 h
  rwa [hB.1.2] at this
/-! one operation of the walk -/
theorem yields_of_quiet {o : Oper} {C : World → Prop} {a : Act} {K : Act → Prop} (h : wpQuiet P ops C K [o] a) : ∃ v, YieldsIn P ops C o v a ∧ K (a.put o.dst v) := by
  unfold wpQuiet at h
  by_cases hw : Region.wanted o (yielded ops a.tmps) = true
  · simp only [hw, if_true] at h
    obtain ⟨v, h1, h2⟩ := h
    exact ⟨v, .inl ⟨hw, h1⟩, h2⟩
  · simp only [hw] at h
    exact ⟨undef, .inr ⟨by simpa using hw, rfl⟩, h⟩
theorem wpO3_pure {Q : (World → Prop) → Act → Prop} {o : Oper} {k : Nat} {r : List Nat} {C : World → Prop} {a : Act} (ho : ops[k]? = some o) (hk : kind3 o = 0) (h : wpQuiet P ops (fun _ => True) (fun a' => wpO3 P ops Q r C a') [o] a) : wpO3 P ops Q (k :: r) C a :=
  ⟨o, ho, .inl ⟨hk, yields_of_quiet h⟩⟩
theorem wpO3_load {Q : (World → Prop) → Act → Prop} {o : Oper} {k : Nat} {r : List Nat} {C : World → Prop} {a : Act} (ho : ops[k]? = some o) (hk : kind3 o = 1) (h : wpQuiet P ops C (fun a' => wpO3 P ops Q r C a') [o] a) : wpO3 P ops Q (k :: r) C a :=
  ⟨o, ho, .inr (.inl ⟨hk, yields_of_quiet h⟩)⟩
theorem wpO3_skip {Q : (World → Prop) → Act → Prop} {o : Oper} {k : Nat} {r : List Nat} {C : World → Prop} {a : Act} (ho : ops[k]? = some o) (hk : kind3 o = 3) (hw : Region.wanted o (yielded ops a.tmps) = false) (h : wpO3 P ops Q r C (a.put o.dst undef)) : wpO3 P ops Q (k :: r) C a :=
  ⟨o, ho, .inr (.inr (.inr ⟨hk, .inl ⟨hw, h⟩⟩))⟩
/-- a call: by its contract, in every world of the class -/
theorem wpO3_call {Q : (World → Prop) → Act → Prop} {o : Oper} {k : Nat} {r : List Nat} {C : World → Prop} {a : Act} (V : Value → Prop) (C' : Value → World → Prop) {f : FuncId} {args : Array Value} (ho : ops[k]? = some o) (hk : kind3 o = 3) (hw : Region.wanted o (yielded ops a.tmps) = true) (hsub : ∀ v w, C' v w → C w)
    (hrun : ∀ w, (execOp a.eval o).run P w = .ok (.enter f args) w) (hc : ∀ w, C w → Calls P f args w fun e w'' => ∃ v, e = .returned v ∧ V v ∧ C' v w'') (h : ∀ v, V v → wpO3 P ops Q r (C' v) (a.put o.dst v)) : wpO3 P ops Q (k :: r) C a :=
  ⟨o, ho, .inr (.inr (.inr ⟨hk, .inr ⟨hw, V, C', hsub, fun w hC => by rw [hrun w]; exact hc w hC, h⟩⟩))⟩
/-- a load, by what every world of the class holds there -/
theorem wpO3_load1 {Q : (World → Prop) → Act → Prop} {o : Oper} {k : Nat} {r : List Nat} {C : World → Prop} {a : Act} {t : TypeId} {x : Operand} {ad : Addr} (v : Value) (ho : ops[k]? = some o) (hop : o.op = .load t x) (hw : Region.wanted o (yielded ops a.tmps) = true) (hx : a.eval x = .pointer (some ad))
    (hrun : ∀ w, C w → (Instr.loadAt t (.pointer (some ad))).run P w = .ok v w) (h : wpO3 P ops Q r C (a.put o.dst v)) : wpO3 P ops Q (k :: r) C a := by
  refine ⟨o, ho, .inr (.inl ⟨by simp [kind3, pureOp, hop], v, .inl ⟨hw, fun w hC => ?_⟩, h⟩)⟩
  unfold Oper.quietAt execOp
  simp only [hop, hx]
  rw [Sem.run_bind, hrun w hC]
  exact ⟨rfl, rfl⟩
/-! the same, the region's operations as a list: so each operation comes written out -/
section
variable {l : List Oper} {Q : (World → Prop) → Act → Prop} {o : Oper} {k : Nat} {r : List Nat} {C : World → Prop} {a : Act}
theorem at_list (ho : l[k]? = some o) : l.toArray[k]? = some o := by simpa using ho
theorem wpO3_pureL (ho : l[k]? = some o) (hk : kind3 o = 0) (h : wpQuiet P l.toArray (fun _ => True) (fun a' => wpO3 P l.toArray Q r C a') [o] a) : wpO3 P l.toArray Q (k :: r) C a := wpO3_pure (at_list ho) hk h
theorem wpO3_skipL (ho : l[k]? = some o) (hk : kind3 o = 3) (hw : Region.wanted o (yielded l.toArray a.tmps) = false) (h : wpO3 P l.toArray Q r C (a.put o.dst undef)) : wpO3 P l.toArray Q (k :: r) C a := wpO3_skip (at_list ho) hk hw h
theorem wpO3_callL (V : Value → Prop) (C' : Value → World → Prop) {f : FuncId} {args : Array Value} (ho : l[k]? = some o) (hk : kind3 o = 3) (hw : Region.wanted o (yielded l.toArray a.tmps) = true) (hsub : ∀ v w, C' v w → C w)
    (hrun : ∀ w, (execOp a.eval o).run P w = .ok (.enter f args) w) (hc : ∀ w, C w → Calls P f args w fun e w'' => ∃ v, e = .returned v ∧ V v ∧ C' v w'') (h : ∀ v, V v → wpO3 P l.toArray Q r (C' v) (a.put o.dst v)) : wpO3 P l.toArray Q (k :: r) C a := wpO3_call V C' (at_list ho) hk hw hsub hrun hc h
theorem wpO3_loadL {t : TypeId} {x : Operand} {ad : Addr} (v : Value) (ho : l[k]? = some o) (hop : o.op = .load t x) (hw : Region.wanted o (yielded l.toArray a.tmps) = true) (hx : a.eval x = .pointer (some ad))
    (hrun : ∀ w, C w → (Instr.loadAt t (.pointer (some ad))).run P w = .ok v w) (h : wpO3 P l.toArray Q r C (a.put o.dst v)) : wpO3 P l.toArray Q (k :: r) C a := wpO3_load1 v (at_list ho) hop hw hx hrun h
end
end
end Go.Proofs.Ytcfgemdpnbimoaa

namespace Go.Proofs.Ytcfgemdpnbimoaa
section
variable {P : Program} {ops : Array Oper} {md : Region.Mode} {I : World → Prop}

/-- one operation, in a class of worlds -/
def Step4 (P : Program) (ops : Array Oper) (I : World → Prop) (o : Oper) (a : Act) (C : World → Prop) (K : (World → Prop) → Act → Prop) : Prop :=
  (kind3 o = 0 ∧ ∃ v, YieldsIn P ops (fun _ => True) o v a ∧ K C (a.put o.dst v)) ∨
  (kind3 o = 1 ∧ ∃ v, YieldsIn P ops I o v a ∧ K C (a.put o.dst v)) ∨
  (kind3 o = 2 ∧ ∃ v C', (∀ w, C' w → I w) ∧ StepsIn P ops C C' o v a ∧ K C' (a.put o.dst v)) ∨
  (kind3 o = 3 ∧ ((Region.wanted o (yielded ops a.tmps) = false ∧ K C (a.put o.dst undef)) ∨ (Region.wanted o (yielded ops a.tmps) = true ∧ ∃ (V : Value → Prop) (C' : Value → World → Prop), (∀ v w, C' v w → I w) ∧ (∀ w, C w → famUpon P V C' ((execOp a.eval o).run P w)) ∧ ∀ v, V v → K (C' v) (a.put o.dst v))))

def wpAny4 (P : Program) (md : Region.Mode) (ops : Array Oper) (I : World → Prop) (Q : (World → Prop) → Act → Prop) : Nat → Array Bool → (World → Prop) → Act → Prop
  | 0, listed, C, a => Region.ready md ops listed = [] ∧ Q C a
  | fuel + 1, listed, C, a =>
    (Region.ready md ops listed = [] → Q C a) ∧
    ∀ i ∈ Region.ready md ops listed, ∀ o, ops[i]? = some o → Step4 P ops I o a C (wpAny4 P md ops I Q fuel (listed.setIfInBounds i true))
theorem Step4.wpOp {C : World → Prop} {i : Nat} {o : Oper} {a : Act} {K : (World → Prop) → Act → Prop} {K' : Act → World → Prop} {Q' : Exit → Act → World → Prop} {w : World} (hi : ops[i]? = some o) (h : Step4 P ops I o a C K) (hC : C w) (hCI : ∀ w, C w → I w) (hK : ∀ (C' : World → Prop) a' w', C' w' → (∀ w, C' w → I w) → K C' a' → K' a' w') : wpOp P ops Q' i K' a w := by
  rcases h with ⟨hk, v, hy, hn⟩ | ⟨hk, v, hy, hn⟩ | ⟨hk, v, C', hI, hy, hn⟩ | ⟨hk, h⟩
  · exact OpR.wpOp (C := C) (C' := C) hi (.inl ⟨kind3_pure hk, rfl, hy⟩) hC fun w' hw' => hK C _ w' hw' hCI hn
  · have hk1 : kindOf o = 1 := by
      obtain ⟨t, x, ho⟩ := kind3_load hk
      simp [kindOf, pureOp, ho]
    exact OpR.wpOp (C := C) (C' := C) hi (.inr (.inl ⟨hk1, rfl, yields_load hk hy hCI⟩)) hC fun w' hw' => hK C _ w' hw' hCI hn
  · have hk2 : kindOf o = 2 := by
      unfold kind3 at hk
      unfold kindOf
      split at hk
      · simp at hk
      · rename_i hp
        rw [if_neg hp]
        split at hk
        · simp at hk
        · rename_i heq; simp [heq]
        · simp at hk
    exact OpR.wpOp (C := C) (C' := C') hi (.inr (.inr ⟨hk2, hy⟩)) hC fun w' hw' => hK C' _ w' hw' hI hn
  · unfold Go.wpOp
    simp only [hi]
    rcases h with ⟨hw, hn⟩ | ⟨hw, V, C', hI, hv, hn⟩
    · simp only [hw, Bool.false_eq_true, if_false]
      exact hK C _ w hC hCI hn
    · simp only [hw, if_true]
      left
      have h1 := hv w hC
      unfold Oper.wp
      generalize (execOp a.eval o).run P w = r at h1
      cases r with
      | ok n w' =>
        cases n <;> simp only [famUpon] at h1 <;> simp only [Oper.upon]
        case value u => exact hK (C' u) _ w' h1.2 (hI u) (hn u h1.1)
        case enter f args =>
          refine h1.mono fun e w'' ⟨v, he, hV, hc⟩ => ?_
          subst he
          exact hK (C' v) _ w'' hc (hI v) (hn v hV)
      | halt x w' => simp only [famUpon] at h1
theorem wpAny_of_4 {Q : (World → Prop) → Act → Prop} {Q' : Exit → Act → World → Prop} (hQ : ∀ (C : World → Prop) a w, C w → Q C a → Q' .normal a w) : ∀ (fuel : Nat) (listed : Array Bool) (C : World → Prop) (a : Act) (w : World), C w → (∀ w, C w → I w) →
    wpAny4 P md ops I Q fuel listed C a → wpAny P md ops Q' fuel listed a w
  | 0, _, _, _, _, hw, _, h => ⟨h.1, hQ _ _ _ hw h.2⟩
  | fuel + 1, _, _, _, _, hw, hI, h => ⟨fun h0 => hQ _ _ _ hw (h.1 h0), fun i hi => by
      obtain ⟨_, o, ho, _⟩ := mem_ready.1 hi
      exact (h.2 i hi o ho).wpOp ho hw hI fun C' a' w' hw' hI' hn => wpAny_of_4 hQ fuel _ C' a' w' hw' hI' hn⟩
/-- an operation apart: its step is the same whether another's value is in its slot or not -/
theorem Step4.put {oi oj : Oper} {v : Value} {a : Act} {C : World → Prop} {K1 K2 : (World → Prop) → Act → Prop} (hap : oi.apart ops oj = true) (hsj : ∀ cs b, oj.op ≠ .select cs b)
    (hK : ∀ (C' : World → Prop) u, K1 C' ((a.put oi.dst v).put oj.dst u) → K2 C' (a.put oj.dst u)) (h : Step4 P ops I oj (a.put oi.dst v) C K1) : Step4 P ops I oj a C K2 := by
  obtain ⟨p1, p2, p3⟩ := Oper.apart_spec hap
  have he := execOp_put oj hsj a oi.dst v p1
  have hw := wanted_put oj a oi.dst v p1
  rcases h with ⟨hk, u, hy, hn⟩ | ⟨hk, u, hy, hn⟩ | ⟨hk, u, C', hI, hy, hn⟩ | ⟨hk, h⟩
  · exact .inl ⟨hk, u, hy.of_same he.symm hw.symm, hK C u hn⟩
  · exact .inr (.inl ⟨hk, u, hy.of_same he.symm hw.symm, hK C u hn⟩)
  · refine .inr (.inr (.inl ⟨hk, u, C', hI, ?_, hK C' u hn⟩))
    unfold StepsIn at hy ⊢
    rwa [he, hw] at hy
  · refine .inr (.inr (.inr ⟨hk, ?_⟩))
    rcases h with ⟨hwf, hn⟩ | ⟨hwt, V, C', hsub, hv, hn⟩
    · exact .inl ⟨by rw [← hw]; exact hwf, hK C undef hn⟩
    · exact .inr ⟨by rw [← hw]; exact hwt, V, C', hsub, by rwa [he] at hv, fun u hu => hK (C' u) u (hn u hu)⟩
theorem wpAny4_first {Q : (World → Prop) → Act → Prop} {i : Nat} {oi : Oper} (hi : ops[i]? = some oi) (hsel : ∀ (j : Nat) (o : Oper) cs b, ops[j]? = some o → o.op ≠ .select cs b) :
    ∀ (fuel : Nat) (listed : Array Bool) (C : World → Prop) (a : Act) (U : Array Bool), Free3 md ops listed i oi U → i ∈ Region.ready md ops listed →
      Step4 P ops I oi a C (wpAny4 P md ops I Q fuel (listed.setIfInBounds i true)) → wpAny4 P md ops I Q (fuel + 1) listed C a := by
  intro fuel
  induction fuel with
  | zero =>
    intro listed C a U hfree hr H
    refine ⟨fun h => (by rw [h] at hr; cases hr), fun j hj o ho => ?_⟩
    by_cases hji : j = i
    · subst hji
      have : o = oi := Option.some.inj (ho.symm.trans hi)
      subst this
      exact H
    · exfalso
      have hmono := ready_mono hj hji
      obtain ⟨hjun, oj', hoj', hall⟩ := mem_ready.1 hj
      have hju := hfree.ready hoj' hji hall
      obtain ⟨_, hkind⟩ := hfree.free j oj' hoj' hju hjun
      have nil : ∀ {C' : World → Prop} {a' : Act}, wpAny4 P md ops I Q 0 (listed.setIfInBounds i true) C' a' → False := fun h => by
        rw [h.1] at hmono; cases hmono
      rcases H with ⟨_, _, _, hn⟩ | ⟨_, _, _, hn⟩ | ⟨hk, _⟩ | ⟨hk, _⟩
      · exact nil hn
      · exact nil hn
      · rcases hkind with h | ⟨h, _⟩ <;> rw [hk] at h <;> simp at h
      · rcases hkind with h | ⟨h, _⟩ <;> rw [hk] at h <;> simp at h
  | succ fuel ih =>
    intro listed C a U hfree hr H
    refine ⟨fun h => (by rw [h] at hr; cases hr), fun j hj oj hoj => ?_⟩
    by_cases hji : j = i
    · subst hji
      have : oj = oi := Option.some.inj (hoj.symm.trans hi)
      subst this
      exact H
    · obtain ⟨hjun, oj', hoj', hall⟩ := mem_ready.1 hj
      have : oj' = oj := Option.some.inj (hoj'.symm.trans hoj)
      subst this
      have hju := hfree.ready hoj' hji hall
      obtain ⟨hap, hkind⟩ := hfree.free j oj' hoj hju hjun
      obtain ⟨p1, p2, p3⟩ := Oper.apart_spec hap
      have hsi : ∀ cs b, oi.op ≠ .select cs b := fun cs b => hsel i oi cs b hi
      have hsj : ∀ cs b, oj'.op ≠ .select cs b := fun cs b => hsel j oj' cs b hoj
      have hfree' := hfree.set hju
      have hr' := ready_mono hr (Ne.symm hji)
      have next : ∀ v, (kind3 oi = 0 ∧ YieldsIn P ops (fun _ => True) oi v a ∨ kind3 oi = 1 ∧ YieldsIn P ops I oi v a) → wpAny4 P md ops I Q (fuel + 1) (listed.setIfInBounds i true) C (a.put oi.dst v) → Step4 P ops I oj' a C (wpAny4 P md ops I Q (fuel + 1) (listed.setIfInBounds j true)) := by
        intro v hy hn
        refine Step4.put (v := v) hap hsj (fun C' u h3 => ih _ C' _ U hfree' hr' ?_) (hn.2 j (ready_mono hj hji) oj' hoj)
        have h4 : wpAny4 P md ops I Q fuel ((listed.setIfInBounds j true).setIfInBounds i true) C' ((a.put oj'.dst u).put oi.dst v) := by
          rw [Array.setIfInBounds_comm _ _ hji]
          rw [Act.put_comm a v u p2] at h3
          exact h3
        have hs1 := execOp_put oi hsi a oj'.dst u p3
        have hs2 := wanted_put oi a oj'.dst u p3
        rcases hy with ⟨hk, hy⟩ | ⟨hk, hy⟩
        · exact .inl ⟨hk, v, hy.of_same hs1 hs2, h4⟩
        · exact .inr (.inl ⟨hk, v, hy.of_same hs1 hs2, h4⟩)
      rcases H with ⟨hk, v, hy, hn⟩ | ⟨hk, v, hy, hn⟩ | ⟨hk, _⟩ | ⟨hk, _⟩
      · exact next v (.inl ⟨hk, hy⟩) hn
      · exact next v (.inr ⟨hk, hy⟩) hn
      · rcases hkind with h | ⟨h, _⟩ <;> rw [hk] at h <;> simp at h
      · rcases hkind with h | ⟨h, _⟩ <;> rw [hk] at h <;> simp at h

/-- the walk in that order -/
def wpO4 (P : Program) (ops : Array Oper) (I : World → Prop) (Q : (World → Prop) → Act → Prop) : List Nat → (World → Prop) → Act → Prop
  | [], C, a => Q C a
  | k :: r, C, a => ∃ o, ops[k]? = some o ∧ Step4 P ops I o a C (wpO4 P ops I Q r)
theorem Step4.mono {o : Oper} {a : Act} {C : World → Prop} {K K' : (World → Prop) → Act → Prop} (h : Step4 P ops I o a C K) (hK : ∀ C a, K C a → K' C a) : Step4 P ops I o a C K' := by
  rcases h with ⟨hk, v, hy, hn⟩ | ⟨hk, v, hy, hn⟩ | ⟨hk, v, C', hI, hy, hn⟩ | ⟨hk, h⟩
  · exact .inl ⟨hk, v, hy, hK _ _ hn⟩
  · exact .inr (.inl ⟨hk, v, hy, hK _ _ hn⟩)
  · exact .inr (.inr (.inl ⟨hk, v, C', hI, hy, hK _ _ hn⟩))
  · refine .inr (.inr (.inr ⟨hk, ?_⟩))
    rcases h with ⟨hw, hn⟩ | ⟨hw, V, C', hs, hv, hn⟩
    · exact .inl ⟨hw, hK _ _ hn⟩
    · exact .inr ⟨hw, V, C', hs, hv, fun v hV => hK _ _ (hn v hV)⟩
theorem wpAny4_order {Q : (World → Prop) → Act → Prop} (hs : Region.noSelect ops = true) : ∀ (ks : List Nat) (listed : Array Bool) (C : World → Prop) (a : Act),
    orderB md ops ks listed = true → wpO4 P ops I Q ks C a → wpAny4 P md ops I Q ks.length listed C a
  | [], _, _, _, hB, h => ⟨by simpa [orderB] using hB, h⟩
  | k :: r, listed, C, a, hB, h => by
    obtain ⟨o, ho, h⟩ := h
    simp only [orderB, Bool.and_eq_true] at hB
    obtain ⟨⟨hr, hf⟩, hB'⟩ := hB
    exact wpAny4_first ho (Region.noSelect_spec hs) r.length listed C a _ (free3_spec ho hf) (by simpa using hr) (h.mono fun C' a' hn => wpAny4_order hs r _ C' a' hB' hn)
theorem wp_region_order4 {id : Nat} {Q : Exit → Act → World → Prop} {a : Act} {w : World} {l : List Oper} (ks : List Nat) (I : World → Prop) {C : World → Prop} (hm : P.follows .mixedOrders = true) (hB : order3 .any l.toArray ks = true) (hC : C w.drew) (hI : ∀ w, C w → I w)
    (h : wpO4 P l.toArray I (fun C a' => ∀ w', C w' → Q .normal a' w') ks C a) : (Code.region id l.toArray true).wp P Q a w := by
  simp only [order3, Bool.and_eq_true, beq_iff_eq] at hB
  refine wp_region_any hm (wpAny_of_4 (I := I) (Q := fun C a' => ∀ w', C w' → Q .normal a' w') (fun C a w' hw' h => h w' hw') _ _ C _ _ hC hI ?_)
  have := wpAny4_order (md := .any) hB.1.1 ks (Array.replicate l.toArray.size false) C a hB.2 h
  rwa [hB.1.2] at this
end
/-! one operation of the walk -/
section
variable {P : Program} {I : World → Prop} {l : List Oper} {Q : (World → Prop) → Act → Prop} {o : Oper} {k : Nat} {r : List Nat} {C : World → Prop} {a : Act}
theorem wpO4_pure (ho : l[k]? = some o) (hk : kind3 o = 0) (h : wpQuiet P l.toArray (fun _ => True) (fun a' => wpO4 P l.toArray I Q r C a') [o] a) : wpO4 P l.toArray I Q (k :: r) C a :=
  ⟨o, at_list ho, .inl ⟨hk, yields_of_quiet h⟩⟩
theorem wpO4_load {t : TypeId} {x : Operand} {ad : Addr} (v : Value) (ho : l[k]? = some o) (hop : o.op = .load t x) (hw : Region.wanted o (yielded l.toArray a.tmps) = true) (hx : a.eval x = .pointer (some ad))
    (hrun : ∀ w, I w → (Instr.loadAt t (.pointer (some ad))).run P w = .ok v w) (h : wpO4 P l.toArray I Q r C (a.put o.dst v)) : wpO4 P l.toArray I Q (k :: r) C a := by
  refine ⟨o, at_list ho, .inr (.inl ⟨by simp [kind3, pureOp, hop], v, .inl ⟨hw, fun w hC => ?_⟩, h⟩)⟩
  unfold Oper.quietAt execOp
  simp only [hop, hx]
  rw [Sem.run_bind, hrun w hC]
  exact ⟨rfl, rfl⟩
theorem wpO4_call (V : Value → Prop) (C' : Value → World → Prop) {f : FuncId} {args : Array Value} (ho : l[k]? = some o) (hk : kind3 o = 3) (hw : Region.wanted o (yielded l.toArray a.tmps) = true) (hsub : ∀ v w, C' v w → I w)
    (hrun : ∀ w, (execOp a.eval o).run P w = .ok (.enter f args) w) (hc : ∀ w, C w → Calls P f args w fun e w'' => ∃ v, e = .returned v ∧ V v ∧ C' v w'') (h : ∀ v, V v → wpO4 P l.toArray I Q r (C' v) (a.put o.dst v)) : wpO4 P l.toArray I Q (k :: r) C a :=
  ⟨o, at_list ho, .inr (.inr (.inr ⟨hk, .inr ⟨hw, V, C', hsub, fun w hC => by rw [hrun w]; exact hc w hC, h⟩⟩))⟩
theorem wpO4_skip (ho : l[k]? = some o) (hk : kind3 o = 3) (hw : Region.wanted o (yielded l.toArray a.tmps) = false) (h : wpO4 P l.toArray I Q r C (a.put o.dst undef)) : wpO4 P l.toArray I Q (k :: r) C a :=
  ⟨o, at_list ho, .inr (.inr (.inr ⟨hk, .inl ⟨hw, h⟩⟩))⟩
theorem wpO4_store (C' : World → Prop) {t : TypeId} {x y : Operand} (ho : l[k]? = some o) (hop : o.op = .store t x y) (hd : o.dst = none) (hg : o.guard = none) (ad : Addr) (v : Value) (hx : a.eval x = .pointer (some ad)) (hy : a.eval y = v) (hsub : ∀ w, C' w → I w)
    (hrun : ∀ w, C w → ∃ w', (Instr.storeAt t (.pointer (some ad)) v).run P w = .ok () w' ∧ C' w') (h : wpO4 P l.toArray I Q r C' a) : wpO4 P l.toArray I Q (k :: r) C a := by
  refine ⟨o, at_list ho, .inr (.inr (.inl ⟨by simp [kind3, pureOp, hop], undef, C', hsub, .inl ⟨by simp [Region.wanted, hg], fun w hw => ?_⟩, ?_⟩))⟩
  · obtain ⟨w', hr, hc⟩ := hrun w hw
    unfold execOp
    simp only [hop, hx, hy]
    rw [Sem.run_bind, hr]
    exact ⟨rfl, hc⟩
  · rw [hd]; exact h
end
end Go.Proofs.Ytcfgemdpnbimoaa

namespace Go.Proofs.Ytcfgemdpnbimoaa
open Go.RowKit Go.Shelf
set_option maxRecDepth 100000
attribute [local go_sem] Oper.semAt_some

/-- what is behind a segment's 0 is scanned as it stands -/
theorem scan_split : ∀ (L : List Int) (p0 : Nat) (now : List Int) (j p : Nat) (b : List Int), now.length ≤ p0 → (Fc.scan p0 now L)[j]? = some (p, b) →
    p0 ≤ p + b.length ∧ p + b.length + 1 ≤ p0 + L.length ∧ (Fc.scan p0 now L).drop (j + 1) = Fc.scan (p + b.length + 1) [] (L.drop (p + b.length + 1 - p0)) ∧ Fc.opn now L = Fc.opn [] (L.drop (p + b.length + 1 - p0))
  | [], p0, now, j, p, b, _, h => by simp [Fc.scan] at h
  | z :: r, p0, now, j, p, b, hl, h => by
    by_cases hz : z = 0
    · subst hz
      rw [Fc.scan_zero] at h
      rw [Fc.scan_zero, Fc.opn_zero]
      by_cases h0 : now = []
      · rw [if_pos h0, List.nil_append] at h ⊢
        obtain ⟨e1, e2, e3, e4⟩ := scan_split r (p0 + 1) [] j p b (by simp) h
        refine ⟨by omega, by simp only [List.length_cons]; omega, ?_, ?_⟩
        · rw [e3, show p + b.length + 1 - p0 = (p + b.length + 1 - (p0 + 1)) + 1 by omega, List.drop_succ_cons]
        · rw [e4, show p + b.length + 1 - p0 = (p + b.length + 1 - (p0 + 1)) + 1 by omega, List.drop_succ_cons]
      · rw [if_neg h0] at h ⊢
        cases j with
        | zero =>
          simp at h
          obtain ⟨rfl, rfl⟩ := h
          refine ⟨by omega, by simp only [List.length_cons]; omega, ?_, ?_⟩
          · rw [show p0 - now.length + now.length + 1 - p0 = 1 by omega, show p0 - now.length + now.length + 1 = p0 + 1 by omega]; rfl
          · rw [show p0 - now.length + now.length + 1 - p0 = 1 by omega]; rfl
        | succ j =>
          have h' : (Fc.scan (p0 + 1) [] r)[j]? = some (p, b) := by simpa using h
          obtain ⟨e1, e2, e3, e4⟩ := scan_split r (p0 + 1) [] j p b (by simp) h'
          refine ⟨by omega, by simp only [List.length_cons]; omega, ?_, ?_⟩
          · rw [show p + b.length + 1 - p0 = (p + b.length + 1 - (p0 + 1)) + 1 by omega, List.drop_succ_cons, ← e3]; rfl
          · rw [e4, show p + b.length + 1 - p0 = (p + b.length + 1 - (p0 + 1)) + 1 by omega, List.drop_succ_cons]
    · rw [Fc.scan_ne hz] at h
      obtain ⟨e1, e2, e3, e4⟩ := scan_split r (p0 + 1) (now ++ [z]) j p b (by simp; omega) h
      rw [Fc.scan_ne hz, Fc.opn_ne hz]
      refine ⟨by omega, by simp only [List.length_cons]; omega, ?_, ?_⟩
      · rw [e3, show p + b.length + 1 - p0 = (p + b.length + 1 - (p0 + 1)) + 1 by omega, List.drop_succ_cons]
      · rw [e4, show p + b.length + 1 - p0 = (p + b.length + 1 - (p0 + 1)) + 1 by omega, List.drop_succ_cons]
/-- one segment as a literal -/
theorem SgsAt.lit {w : World} {x : Sg} (hl : (held x.b).length ≤ x.cp) (hn : Nums .u8 w w.heap.size x.a (held x.b)) (t : TypeId) : SgsAt (w.alloc (.cells x.cs t)) (fun k => k < (w.alloc (.cells x.cs t)).heap.size) (some ⟨w.heap.size, 0, none⟩) [x] := fun j y hy => by
  cases j with
  | succ j => simp at hy
  | zero =>
    obtain rfl : x = y := by simpa using hy
    refine ⟨w.heap.size, 0, rfl, by simp, fun q u hu => ?_, hl, ((hn.below ((Below.refl _ w).alloc (Nat.le_refl _) (.cells x.cs t))).numsS fun k hk => by rw [World.size_alloc]; omega)⟩
    rw [World.cell?_alloc_at _ _ _ _ rfl]
    simpa using hu
/-- a part of a list -/
theorem SgsAt.drop {w : World} {S : Nat → Prop} {A : Option Addr} {xs : List Sg} (h : SgsAt w S A xs) (i : Nat) : SgsAt w S (A.map (·.add (i * 4))) (xs.drop i) := fun j x hx => by
  rw [List.getElem?_drop] at hx
  obtain ⟨b, o, rfl, hb, hc, r⟩ := h (i + j) x hx
  refine ⟨b, o + i * 4, by rw [Option.map_some, Addr.add_lit], hb, fun q u hu => ?_, r⟩
  have := hc q u hu
  rwa [show o + (i + j) * 4 + q = o + i * 4 + j * 4 + q by omega] at this
theorem SgsAt.take {w : World} {S : Nat → Prop} {A : Option Addr} {xs : List Sg} (h : SgsAt w S A xs) (i : Nat) : SgsAt w S A (xs.take i) := fun j x hx => by
  rw [List.getElem?_take] at hx
  split at hx
  · exact h j x hx
  · cases hx
/-- behind j rounds -/
structure Eh (w7 : World) (b1 Bi : Nat) (st : Int) (j : Nat) (V : World) : Prop where
  cnt : Boxed V Bi 3 (.int .i64 (j : Int))
  off : Off (fun k => k = Bi ∨ k = b1) w7 V
  ne : ∀ q : Nat, q < j → (q : Int) ≠ st
section
variable {w7 V V' : World} {b1 Bi j : Nat} {st : Int}
theorem Eh.tn (h : Eh w7 b1 Bi st j V) (hne : b1 ≠ Bi) (ht : Tn b1 none j V V') : Eh w7 b1 Bi st j V' := by
  have hs := h.off.size
  refine ⟨(ht.off.block Bi h.cnt.lt (fun e => by rcases e with e | ⟨_, e⟩; exact hne e.symm; cases e)).trans h.cnt, h.off.trans ht.off (fun k hk hS => ?_), h.ne⟩
  rcases hS with e | ⟨_, e⟩
  · exact .inr e
  · cases e
theorem Eh.below (h : Eh w7 b1 Bi st j V) (hi : Bi < w7.heap.size) (hB : Below w7.heap.size V V') : Eh w7 b1 Bi st j V' :=
  ⟨(hB.block Bi hi).trans h.cnt, off_below h.off hB, h.ne⟩
theorem Eh.putObj {l : Nat} {o' : Obj} (h : Eh w7 b1 Bi st j V) (hi : Bi < w7.heap.size) (hl : w7.heap.size ≤ l) : Eh w7 b1 Bi st j (V.putObj l o') := h.below hi (below_put V o' hl)
theorem Eh.next (h : Eh w7 b1 Bi st j V) (hi : Bi < w7.heap.size) (hB : Below w7.heap.size V V') (hj : (j : Int) ≠ st) : Eh w7 b1 Bi st (j + 1) (V'.setCell ⟨Bi, 0, none⟩ (.int .i64 ((j : Int) + 1))) := by
  have h2 := h.below hi hB
  refine ⟨by rw [Int.natCast_succ]; exact Boxed.set _ h2.cnt, h2.off.setCell (p := ⟨Bi, 0, none⟩) (.inl rfl) _, fun q hq => ?_⟩
  rcases Nat.lt_or_ge q j with h3 | h3
  · exact h.ne q h3
  · rw [show q = j by omega]; exact hj
end
/-- a slice of one segment that a call makes for another one -/
def FSo (sg : Sg) (v : Value) (w : World) : Prop := ∃ A B, v = .slice A 1 1 ∧ B ≤ w.heap.size ∧ SgsAt w (fun k => k < B) A [sg]
theorem FSo.later {sg : Sg} {v : Value} {w w' : World} (h : FSo sg v w) (hb : Below w.heap.size w w') : FSo sg v w' := by
  obtain ⟨A, B, h1, h2, h3⟩ := h
  have := hb.size
  exact ⟨A, B, h1, by omega, h3.keeps (KeepS.of_below hb fun k hk => by omega)⟩
theorem FSo.lit {sg : Sg} {w : World} (hl : (held sg.b).length ≤ sg.cp) (hn : Nums .u8 w w.heap.size sg.a (held sg.b)) (t : TypeId) : FSo sg (.slice (some ⟨w.heap.size, 0, none⟩) 1 1) (w.alloc (.cells sg.cs t)) :=
  ⟨_, _, rfl, Nat.le_refl _, SgsAt.lit hl hn t⟩
theorem FSo.same {sg y : Sg} {v : Value} {w : World} {S : Nat → Prop} {A : Option Addr} {c : Nat} (h : FSo sg v w) (hp : sg.pb = y.pb) (hz : Bytes sg.b) (hy : SgsAt w S A [y]) (hS : ∀ k, S k → k < w.heap.size) (hc : 1 ≤ c) :
    Calls Try.prog 12 #[v, .slice A 1 c] w fun e w' => e = .returned (.bool true) ∧ Below w.heap.size w w' := by
  obtain ⟨A1, B, rfl, h2, h3⟩ := h
  exact ssame_any w.heap.size A1 A 1 1 c _ S [sg] [y] w rfl (by omega) hc (by omega) (by simp [hp]) (fun x hx => by rw [List.mem_singleton] at hx; rw [hx]; exact hz) h3 hy (fun k hk => by omega) hS (Nat.le_refl _)
set_option maxHeartbeats 16000000 in
theorem each_go (a : Option Addr) (n m c : Nat) (es : List Int) (st : Int) (w : World) (hn : es.length = n) (hc : n ≤ c) (hz : Bytes es) (h1 : Nums .u8 w w.heap.size a es)
    (hm : min (n : Int) 600 = (m : Int)) (hmn : m ≤ n) (hm6 : m ≤ 600) :
    Calls Try.prog 5 #[.slice a n c, .int .i64 st] w fun e w' => e = .returned (.bool true) ∧ Below w.heap.size w w' := by
  have hmc : (m : Int) ≤ (c : Int) := by omega
  have hlen : (es.take m).length = m := by rw [List.length_take]; omega
  have hzb := hz.take m
  have hnum := h1.take m
  generalize es.take m = zs at *
  clear hz h1 hn
  have HZ := Lib.hid hzb
  have HL := Lib.hid hlen
  have HNUM := Lib.hid hnum
  obtain ⟨w0, hw0⟩ : ∃ w0, (w.alloc (.cells #[.int .i64 st] 3)).alloc (.cells #[.bool false] 4) = w0 := ⟨_, rfl⟩
  have bS0 : Boxed w0 w.heap.size 3 (.int .i64 st) := by rw [← hw0]; exact (Boxed.new w _ _).alloc _
  have bR0 : Boxed w0 (w.heap.size + 1) 4 (.bool false) := by
    rw [← hw0]
    have := Boxed.new (w.alloc (.cells #[.int .i64 st] 3)) 4 (.bool false)
    rwa [World.size_alloc] at this
  have hs0 : w.heap.size + 2 ≤ w0.heap.size ∧ w0.heap.size ≤ w.heap.size + 2 := by rw [← hw0]; simp
  have hbw : Below w.heap.size w w0 := by rw [← hw0]; exact ((Below.refl _ w).alloc (Nat.le_refl _) _).alloc (by simp) _
  have HW0 := Lib.hid hw0
  clear hzb hlen hnum hw0
  refine (callsIn_wide (n := 9)).1 ?_
  refine callsIn_of_wp_marks Try.func5 rfl trivial ?_ rfl
  simp only [Try.ntmps5, List.size_toArray, List.length_cons, List.length_nil, Nat.reduceAdd, Nat.reduceSub, Array.replicate_succ, Array.replicate_zero, List.push_toArray, List.append_toArray, List.nil_append, List.cons_append]
  gi_wp2_with fail
  refine ⟨trivial, ?_⟩
  rw [HW0.out]
  refine (callsIn_wide.2 (snew_any w0)).mono ?_
  rintro e w1 ⟨rfl, hat1, hb1, hs1'⟩
  have hs1 : w0.heap.size + 1 ≤ w1.heap.size ∧ w1.heap.size ≤ w0.heap.size + 1 := by omega
  clear hs1'
  gi_wp2_with fail
  refine ⟨trivial, ?_⟩
  refine (callsIn_wide.2 (snew_any w1)).mono ?_
  rintro e w2 ⟨rfl, hat2, hb2, hs2'⟩
  have hs2 : w1.heap.size + 1 ≤ w2.heap.size ∧ w2.heap.size ≤ w1.heap.size + 1 := by omega
  clear hs2'
  obtain ⟨w3, hw3⟩ : ∃ w3, w2.alloc (.cells #[.pointer (some ⟨w0.heap.size, 0, none⟩)] 23) = w3 := ⟨_, rfl⟩
  have hs3 : w2.heap.size + 1 ≤ w3.heap.size ∧ w3.heap.size ≤ w2.heap.size + 1 := by rw [← hw3]; simp
  have hb3 : Below w2.heap.size w2 w3 := by rw [← hw3]; exact (Below.refl _ w2).alloc (Nat.le_refl _) _
  have bP3 : Boxed w3 w2.heap.size 23 (.pointer (some ⟨w0.heap.size, 0, none⟩)) := by rw [← hw3]; exact Boxed.new w2 _ _
  have hb02 := hb1.trans (hb2.mono (by omega))
  have hb03 := hb02.trans (hb3.mono (by omega))
  have A1 : ScanAt w3 w0.heap.size w3.heap.size (.slice none 0 0) 0 [] := ⟨((hat1.below hb2).below hb3).blk, World.ownsRow_nil _ _ _ _⟩
  have A2 : ScanAt w3 w1.heap.size w3.heap.size (.slice none 0 0) 0 [] := ⟨(hat2.below hb3).blk, World.ownsRow_nil _ _ _ _⟩
  have hw03 := hbw.trans (hb03.mono hbw.size)
  have F1 := feed_any A2 (Nat.le_refl _) a m c zs HL.out (by omega) (by omega) HZ.out (by simp) (by omega) (nums_data (HNUM.out.below hw03) (by omega) (by omega) (fun g hg => by cases hg))
  have HW3 := Lib.hid hw3
  have HA1 := Lib.hid A1
  have HA2 := Lib.hid A2
  have HB03 := Lib.hid hb03
  have kP3 := bP3.cell
  clear hat1 hat2 hb1 hb2 hb3 hb02 hb03 A1 A2 hw3
  gi_wp2_with fail
  rw [HW3.out]
  refine ⟨trivial, ?_⟩
  refine (callsIn_wide.2 F1).mono ?_
  rintro e w4 ⟨AY, cY, Y, v2, rfl, hcY, hY, hto, hsY, _⟩
  have hs4 := hto.off.size
  have h14 := HA1.out.off hto.off (fun e => by rcases e with e | e; omega; cases e) (fun g hg => by cases hg)
  have h24 := hto.at'
  have hg24 : ∀ g, v2.ownBlock = some g → w3.heap.size ≤ g ∧ g < w4.heap.size := fun g hg => h24.own.lt g hg
  rw [show 0 + m = m by omega] at h24
  have hP4 : Boxed w4 w2.heap.size 23 (.pointer (some ⟨w0.heap.size, 0, none⟩)) := (hto.off.block w2.heap.size (by omega) (fun e => by rcases e with e | e; omega; cases e)).trans bP3
  have hb34 : Below w0.heap.size w3 w4 := hto.belowB HA2.out (by omega) (by omega) (by omega)
  obtain ⟨N, hN⟩ : ∃ N, Y.length = N := ⟨_, rfl⟩
  have hN6 : N ≤ 600 := by
    have e2 := congrArg List.length hY
    have := Fc.scan_length zs 0 []
    rw [List.length_map] at e2
    have := HL.out
    omega
  rw [hN] at hcY ⊢
  obtain ⟨w6, hw6⟩ : ∃ w6, (w4.alloc (.cells #[.slice AY N cY] 29)).alloc (.cells #[.int .i64 0] 3) = w6 := ⟨_, rfl⟩
  have hs6 : w4.heap.size + 2 ≤ w6.heap.size ∧ w6.heap.size ≤ w4.heap.size + 2 := by rw [← hw6]; simp
  have hb46 : Below w4.heap.size w4 w6 := by rw [← hw6]; exact ((Below.refl _ w4).alloc (Nat.le_refl _) _).alloc (by simp) _
  have bL6 : Boxed w6 w4.heap.size 29 (.slice AY N cY) := by rw [← hw6]; exact (Boxed.new w4 _ _).alloc _
  have bI6 : Boxed w6 (w4.heap.size + 1) 3 (.int .i64 ((0 : Nat) : Int)) := by
    rw [← hw6]
    have := Boxed.new (w4.alloc (.cells #[.slice AY N cY] 29)) 3 (.int .i64 0)
    rwa [World.size_alloc] at this
  have kP4 := hP4.cell
  have hP6 := boxed_below hP4 hb46
  have h16 := h14.below hb46
  have h26 := h24.below hb46
  have hsY6 := hsY.keeps (KeepS.of_below hb46 fun k hk => hk.2.1)
  have hw06 : Below w.heap.size w w6 := hbw.trans ((HB03.out.mono hbw.size).trans ((hb34.mono (by omega)).trans (hb46.mono (by omega))))
  have KE := each_any (some ⟨w0.heap.size, 0, none⟩) a m c zs w6 HL.out (by omega) ((HNUM.out.below hw06).mono hw06.size)
  have b06 : Below w0.heap.size w0 w6 := HB03.out.trans (hb34.trans (hb46.mono (by omega)))
  have HW6 := Lib.hid hw6
  have HNY := Lib.hid hN
  have HY := Lib.hid hY
  have kP6 := hP6.cell
  have hPl := hP4.lt
  clear hw6 hN hY hto hsY h14 h24 hP4 hb34 hb46 F1 bP3 kP3
  gi_wp2_with fail
  rw [HW6.out]
  refine ⟨trivial, ?_⟩
  refine (callsIn_wide.2 KE).mono ?_
  rintro e w7 ⟨Bs, Bb, A7, c7, rfl, hE⟩
  have hfn := each_not_nil Bs Bb
  have hbE := hE.below
  have hs7 := hbE.size
  have bS := hE.boxS
  have bB := hE.boxB
  have hroom := hE.room
  have hnE := hE.nums
  have hloS := hE.loS
  have hhiS := hE.hiS
  have hloB := hE.loB
  have hhiB := hE.hiB
  have bL7 := boxed_below bL6 hbE
  have bI7 := boxed_below bI6 hbE
  have bP7 := boxed_below hP6 hbE
  have h17 := h16.below hbE
  have h27 := h26.below hbE
  have hsY7 := hsY6.keeps (KeepS.of_below hbE fun k hk => by have := hk.2.1; omega)
  have b07 := b06.trans (hbE.mono b06.size)
  have bS7 := (show Boxed w7 w.heap.size 3 (.int .i64 st) from (b07.block _ (by omega)).trans bS0)
  have bR7 := (show Boxed w7 (w.heap.size + 1) 4 (.bool false) from (b07.block _ (by omega)).trans bR0)
  have hw07 := hw06.trans (hbE.mono hw06.size)
  clear KE hE hbE bL6 bI6 hP6 h16 h26 hsY6 b06 hw06 kP6 kP4
  gi_wp2_with fail
  obtain ⟨SG, hSG⟩ : ∃ SG, Fc.scan 0 [] zs = SG := ⟨_, rfl⟩
  have hYS : Y.map Sg.pb = SG := HY.out.trans hSG
  have hNS : SG.length = N := by rw [← hYS, List.length_map]; exact HNY.out
  have hBi : w4.heap.size + 1 < w7.heap.size := by omega
  have hb1 : w0.heap.size < w7.heap.size := by omega
  have hne : w0.heap.size ≠ w4.heap.size + 1 := by omega
  have hE0 : Eh w7 w0.heap.size (w4.heap.size + 1) st 0 w7 := ⟨bI7, Off.refl _ _, fun q h => by omega⟩
  refine range_stopb rfl (by omega) (gf := 28) (lb := #[.pointer (some ⟨Bs, 0, none⟩), .pointer (some ⟨Bb, 0, none⟩)]) rfl trivial (enters_of Try.func28 (by kernel_rfl) rfl)
    itS (fun _ => rfl)
    (fun j x V => Eh w7 w0.heap.size (w4.heap.size + 1) st j V ∧ SG[j]? = some x.1 ∧ El1 5 .u8 w3.heap.size V x.2 (held x.1.2) ∧ ScanAt V w0.heap.size w3.heap.size (.slice none 0 0) (x.1.1 + x.1.2.length + 1) [])
    (fun j x q V => Eh w7 w0.heap.size (w4.heap.size + 1) st j V ∧ SG[j]? = some x.1 ∧ (∃ sg : Sg, sg.pb = x.1 ∧ SgP w0.heap.size (fun _ => True) V sg ∧ V.heap[q]? = some (.cells sg.cs 44 (0, 0))) ∧ ScanAt V w0.heap.size w3.heap.size (.slice none 0 0) (x.1.1 + x.1.2.length + 1) [])
    (fun j V => (j ≤ N ∧ Eh w7 w0.heap.size (w4.heap.size + 1) st j V ∧ (j = 0 → ScanAt V w0.heap.size w3.heap.size (.slice none 0 0) 0 [])) ∨ (j = N + 1 ∧ Eh w7 w0.heap.size (w4.heap.size + 1) st N V ∧ ∃ v, ScanAt V w0.heap.size w3.heap.size v m (Fc.opn [] zs)))
    (fun cd V => cd = .exit 0 ∧ ∃ (j : Nat) (x : Nat × List Int), (j : Int) = st ∧ SG[j]? = some x ∧ Eh w7 w0.heap.size (w4.heap.size + 1) st j V ∧ ScanAt V w0.heap.size w3.heap.size (.slice none 0 0) (x.1 + x.2.length + 1) [])
    (KeepS (fun k => k < w7.heap.size ∧ k ≠ w4.heap.size + 1)) (N + 1)
    (fun j x q V l o o' h hl ho hc' => by
      obtain ⟨h1, h2, ⟨sg, h3, h4, h5⟩, h6⟩ := h
      exact ⟨h1.putObj hBi hl, h2, ⟨sg, h3, h4.same (same_put ho hc') (World.putObj_heap_other (by omega)), same_put ho hc' _ _ h5 rfl⟩, h6.same (same_put ho hc')⟩)
    (fun j V l o o' h hl ho hc' => by
      rcases h with ⟨h1, h2, h3⟩ | ⟨h1, h2, v, h3⟩
      · exact .inl ⟨h1, h2.putObj hBi hl, fun h0 => (h3 h0).same (same_put ho hc')⟩
      · exact .inr ⟨h1, h2.putObj hBi hl, v, h3.same (same_put ho hc')⟩)
    (fun cd V l o o' h hl ho hc' => by
      obtain ⟨h1, j, x, h2, h3, h4, h5⟩ := h
      exact ⟨h1, j, x, h2, h3, h4.putObj hBi hl, h5.same (same_put ho hc')⟩)
    (fun _ _ _ h k => h.trans k) (fun V l o o' hl ho hc' => ⟨by simp [World.putObj], fun k hk => World.putObj_heap_other (by omega)⟩)
    (fun o => by
      have hb : Below w7.heap.size w7 ((w7.alloc (.deferred (some []))).alloc o) := ((Below.refl w7.heap.size w7).alloc (Nat.le_refl _) _).alloc (by simp) _
      exact .inl ⟨by omega, hE0.below hBi hb, fun _ => h17.below hb⟩) ?round ?iter ?done ?stop
  case round =>
    rintro l j ⟨⟨xp, xb⟩, v⟩ V K ⟨hEh, hxj, hel, hat⟩ hj hK
    simp only at hxj hel hat
    obtain ⟨⟨sa, sc, sp, sb⟩, hpb, rfl, hsp⟩ := hel.sg (p := xp) (by rw [hat.ownS]; rfl) (fun _ => True) (fun g h1 h2 => trivial)
    obtain ⟨rfl, rfl⟩ : sp = xp ∧ sb = xb := by simpa [Sg.pb] using hpb
    have hVs := hEh.off.size
    have hK' := Lib.hid hK
    clear hK
    unfold itS sgC
    simp only
    gi_wp2_with fail
    have hbA : Below V.heap.size V (V.alloc (.cells #[.slice sa (held sb).length sc, .bool (decide (255 < sb.length)), .int .i64 sb.length, .int .u64 sp] 44)) := (Below.refl _ V).alloc (Nat.le_refl _) _
    refine hK'.out _ V.heap.size _ ⟨hEh.below hBi (hbA.mono hVs), hxj, ⟨⟨sa, sc, sp, sb⟩, rfl, hsp.same (same_below hbA) (hbA.block _ (by omega)), World.alloc_heap_new _ _⟩, hat.below hbA⟩ ⟨by simp, fun q o _ ho _ => (Below.heap_alloc _ _ _ (Array.getElem?_eq_some_iff.1 ho).1).trans ho⟩ ⟨by simp, fun k hk => hbA.block k (by omega)⟩ ?_
    clear hbA hK' hEh hVs hsp hel hpb hat
    generalize V.heap.size = q
    clear V
    rintro l V hl ⟨hEh, _, ⟨⟨sa, sc, sp', sb'⟩, hpb, hsp, hq⟩, hat⟩
    obtain ⟨rfl, rfl⟩ : sp' = sp ∧ sb' = sb := by simpa [Sg.pb] using hpb
    have hVs := hEh.off.size
    obtain ⟨y, hy, hyx⟩ : ∃ y, Y[j]? = some y ∧ y.pb = (sp', sb') := by
      rw [← hYS, List.getElem?_map] at hxj
      cases hy : Y[j]? with
      | none => rw [hy] at hxj; cases hxj
      | some y => rw [hy] at hxj; exact ⟨y, rfl, by injection hxj⟩
    have hjN : j < N := by rw [← HNY.out]; exact (List.getElem?_eq_some_iff.1 hy).1
    have hsYV := hsY7.keeps (w' := V) ⟨hVs, fun k hk => hEh.off.block k (by have := hk.2.1; omega) (fun e => by have := hk.1.1; have := hk.2.1; rcases e with e | e <;> omega)⟩
    obtain ⟨gY, oY, hAY, _, _, _⟩ := hsYV j y hy
    have h1Y := (hsYV.drop j).take 1
    rw [show (Y.drop j).take 1 = [y] by
      rw [List.drop_eq_getElem_cons (List.getElem?_eq_some_iff.1 hy).1, (List.getElem?_eq_some_iff.1 hy).2]; rfl] at h1Y
    rw [hAY, Option.map_some, Addr.add_lit] at h1Y
    have hscl := scan_split zs 0 [] j sp' sb' (by simp) (by rw [hSG]; exact hxj)
    have hzsb : Bytes sb' := Fc.scan_isBytes zs 0 [] (fun c hc => by cases hc) HZ.out (sp', sb') (by rw [hSG]; exact List.mem_of_getElem? hxj)
    have hlz := HL.out
    have hlb1 : sp' + sb'.length + 1 ≤ 600 := by have := hscl.2.1; omega
    have hheld : (held sb').length ≤ sc := hsp.1
    have hnumV : Nums .u8 V V.heap.size sa (held sb') := fun hn => by
      obtain ⟨g, cur, e1, _, e3, _, e5⟩ := hsp.2 hn
      exact ⟨g, 0, e1, (Array.getElem?_eq_some_iff.1 e3).1, fun j z hj => by rw [Nat.zero_add, cell_of_row V g j cur _ _ e3]; exact e5 j z hj⟩
    have bIV := hEh.cnt
    have hk7 : ∀ k, k < w7.heap.size → k ≠ w4.heap.size + 1 → k ≠ w0.heap.size → V.heap[k]? = w7.heap[k]? := fun k h1 h2 h3 => hEh.off.block k h1 (fun e => by rcases e with e | e <;> omega)
    have bLV : Boxed V w4.heap.size 29 (.slice AY N cY) := (hk7 _ (by omega) (by omega) (by omega)).trans bL7
    have bSV : Boxed V w.heap.size 3 (.int .i64 st) := (hk7 _ (by omega) (by omega) (by omega)).trans bS7
    have bPV : Boxed V w2.heap.size 23 (.pointer (some ⟨w0.heap.size, 0, none⟩)) := (hk7 _ (by omega) (by omega) (by omega)).trans bP7
    rw [hAY] at bLV
    have hqV : V.heap[q]? = some (.cells (sgC (.slice sa (held sb').length sc) (decide (255 < sb'.length)) sb'.length (sp' : Int)) 44 (0, 0)) := hq
    have hql : q < V.heap.size := (Array.getElem?_eq_some_iff.1 hq).1
    have hlI : ∀ W, Below V.heap.size V W → (Instr.loadAt 3 (.pointer (some ⟨w4.heap.size + 1, 0, none⟩))).run Try.prog W = .ok (.int .i64 (j : Int)) W := fun W hW => by
      have := (boxed_below bIV hW).cell
      simp [Instr.loadAt, go_sem, this]
    have hlL : ∀ W, Below V.heap.size V W → (Instr.loadAt 29 (.pointer (some ⟨w4.heap.size, 0, none⟩))).run Try.prog W = .ok (.slice (some ⟨gY, oY, none⟩) N cY) W := fun W hW => by
      have := (boxed_below bLV hW).cell
      simp [Instr.loadAt, go_sem, this]
    obtain ⟨bl, hbl⟩ : ∃ bl, decide (255 < sb'.length) = bl := ⟨_, rfl⟩
    obtain ⟨H, hH⟩ : ∃ H, (held sb').length = H := ⟨_, rfl⟩
    obtain ⟨L, hL1⟩ : ∃ L, sb'.length = L := ⟨_, rfl⟩
    have hcs : (Sg.mk sa sc sp' sb').cs = #[.slice sa H sc, .bool bl, .int .i64 L, .int .u64 sp'] := by rw [← hbl, ← hH, ← hL1]; rfl
    rw [hbl, hH, hL1] at hqV
    have hlX : ∀ W, Below V.heap.size V W → (Instr.loadAt 44 (.pointer (some ⟨q, 0, none⟩))).run Try.prog W = .ok (.agg #[.slice sa H sc, .bool bl, .int .i64 L, .int .u64 sp']) W := fun W hW => by
      obtain ⟨d0, d1, d2, d3⟩ := sg_block ((hW.block q hql).trans hqV)
      simp [Instr.loadAt, go_sem, d0, d1, d2, d3]
    have HSM : Hid (∀ v W, Below V.heap.size V W → FSo ⟨sa, sc, sp', sb'⟩ v W → Calls Try.prog 12 #[v, .slice (some ⟨gY, oY + j * 4, none⟩) 1 (cY - j)] W fun e w'' => e = .returned (.bool true) ∧ Below W.heap.size W w'') := fun v W hW hv =>
      FSo.same hv hyx.symm hzsb (h1Y.keeps (KeepS.of_below hW fun k hk => by have := hk.2.1; omega)) (fun k hk => by have := hk.2.1; have := hW.size; omega) (by omega)
    have HLIT : Hid (∀ W, Below V.heap.size V W → FSo ⟨sa, sc, sp', sb'⟩ (.slice (some ⟨W.heap.size, 0, none⟩) 1 1) (W.alloc (.cells #[.slice sa H sc, .bool bl, .int .i64 L, .int .u64 sp'] 44))) := fun W hW => by
      have := FSo.lit (sg := ⟨sa, sc, sp', sb'⟩) hheld ((hnumV.below hW).mono hW.size) 44
      rwa [hcs] at this
    have hjN2 : decide ((N : Int) ≤ (j : Int)) = false := by rw [decide_eq_false_iff_not]; omega
    have hjN3 : decide (N ≤ j) = false := by rw [decide_eq_false_iff_not]; omega
    have hNc1 : (N : Int) ≤ (cY : Int) := by omega
    have hj0 : (0 : Int) ≤ (j : Int) := by omega
    have hj1 : (j : Int) + 1 ≤ (cY : Int) := by omega
    have hj2 : (j : Int) ≤ 600 := by omega
    have HEH := Lib.hid hEh
    have HAT := Lib.hid hat
    have HBI := Lib.hid bIV
    have HBS := Lib.hid bSV
    have HBP := Lib.hid bPV
    have HBL := Lib.hid hqV
    have HXJ := Lib.hid hxj
    have HLB := Lib.hid hlb1
    clear hEh hat bIV bSV bPV bLV hqV hq hxj hlb1 hsp hsYV h1Y hscl hzsb hheld hnumV hpb hk7 hy hyx hcs hSG hYS hlz
    gi_wp2_with fail
    refine wpIn_region_F 125 [41] (fun _ => FSo ⟨sa, sc, sp', sb'⟩) (fun W => Below V.heap.size V W) (by kernel_rfl) (by kernel_rfl) (by rfl) (by simp) (fun W W' h hb => h.trans (hb.mono h.size)) (fun s v W W' h hb => h.later hb) (Below.refl _ _).drew (by rfl) ?_
    refine wpF_load (.int .i64 (j : Int)) rfl (by rfl) (by rfl) (by rfl) hlI ?_
    simp only [Act.put, List.setIfInBounds_toArray, List.set_cons_succ, List.set_cons_zero]
    refine wpF_load (.slice (some ⟨gY, oY, none⟩) N cY) rfl (by rfl) (by rfl) (by rfl) hlL ?_
    simp only [Act.put, List.setIfInBounds_toArray, List.set_cons_succ, List.set_cons_zero]
    repeat (refine wpF_pure rfl rfl ?_; go_big_quiet_step (fail); refine wpQuiet_nil ?_)
    refine wpF_load (.agg #[.slice sa H sc, .bool bl, .int .i64 L, .int .u64 sp']) rfl (by rfl) (by rfl) (by rfl) hlX ?_
    simp only [Act.put, List.setIfInBounds_toArray, List.set_cons_succ, List.set_cons_zero]
    refine wpF_src 41 (by simp) rfl rfl rfl (fun W hW => ⟨_, _, ?_, HLIT.out W hW, (Below.refl _ _).alloc (Nat.le_refl _) _⟩) ?_
    · simp [go_sem]
    simp only [Act.put, List.setIfInBounds_toArray, List.set_cons_succ, List.set_cons_zero]
    refine wpF_load (.slice (some ⟨gY, oY, none⟩) N cY) rfl (by rfl) (by rfl) (by rfl) hlL ?_
    simp only [Act.put, List.setIfInBounds_toArray, List.set_cons_succ, List.set_cons_zero]
    refine wpF_load (.int .i64 (j : Int)) rfl (by rfl) (by rfl) (by rfl) hlI ?_
    simp only [Act.put, List.setIfInBounds_toArray, List.set_cons_succ, List.set_cons_zero]
    refine wpF_load (.int .i64 (j : Int)) rfl (by rfl) (by rfl) (by rfl) hlI ?_
    simp only [Act.put, List.setIfInBounds_toArray, List.set_cons_succ, List.set_cons_zero]
    repeat (refine wpF_pure rfl rfl ?_; go_big_quiet_step (fail); refine wpQuiet_nil ?_)
    refine wpF_use 41 6 (f := 12) (fun v => #[v, .slice (some ⟨gY, oY + j * 4, none⟩) 1 (cY - j)]) (.bool true) (by simp) rfl (by kernel_rfl) (by kernel_rfl) (by kernel_rfl) (fun _ => rfl) (fun v x => by first | rfl | (simp [go_sem]; done)) (fun v W hW hv => HSM.out v W hW hv) ?_
    simp only [Act.put, List.setIfInBounds_toArray, List.set_cons_succ, List.set_cons_zero]
    repeat (refine wpF_pure rfl rfl ?_; go_big_quiet_step (fail); refine wpQuiet_nil ?_)
    intro xs W hW _
    simp only [fill]
    clear hlI hlL hlX HLIT HSM
    have HW := Lib.hid hW
    have bIW := boxed_below HBI.out hW
    have bSW := boxed_below HBS.out hW
    have bPW := boxed_below HBP.out hW
    have hatW : ScanAt W w0.heap.size w3.heap.size (.slice none 0 0) (sp' + L + 1) [] := by rw [← hL1]; exact HAT.out.below hW
    have hqW := (hW.block q hql).trans HBL.out
    have hKF : KeepsFrom w7.heap.size V W := ⟨hW.size, fun k o _ ho _ => (hW.block k (Array.getElem?_eq_some_iff.1 ho).1).trans ho⟩
    have hW7 := hW.mono hVs
    by_cases hj : (j : Int) = st
    · have HF := Lib.hid (show KeepsFrom w7.heap.size V W ∧ Code.exit 0 = .exit 0 ∧ ∃ (j : Nat) (x : Nat × List Int), (j : Int) = st ∧ SG[j]? = some x ∧ Eh w7 w0.heap.size (w4.heap.size + 1) st j W ∧ ScanAt W w0.heap.size w3.heap.size (.slice none 0 0) (x.1 + x.2.length + 1) [] from
        ⟨hKF, rfl, j, (sp', sb'), hj, HXJ.out, HEH.out.below hBi hW7, by rw [← hL1] at hatW; exact hatW⟩)
      have KF := fed_any hatW
      have KO := sopen_any hatW
      have hlb2 := HLB.out
      have hu1 : IntKind.u64.wrap (L : Int) = L := by rw [IntKind.wrap_u64]; omega
      have hu2 : IntKind.u64.wrap ((sp' : Int) + L) = (sp' : Int) + L := by rw [IntKind.wrap_u64]; omega
      have hu3 : IntKind.u64.wrap ((sp' : Int) + L + 1) = (sp' : Int) + L + 1 := by rw [IntKind.wrap_u64]; omega
      have hu4 : ((sp' + L + 1 : Nat) : Int) = (sp' : Int) + L + 1 := by omega
      rw [hu4] at KF
      have HJ := Lib.hid hj
      have kI := bIW.cell
      have kS := bSW.cell
      have kP := bPW.cell
      obtain ⟨d0, d1, d2, d3⟩ := sg_block hqW
      clear hW hatW bIW bSW bPW hqW hKF hW7 hu4 HEH HAT HBI HBS HBP HBL hlb2 hj
      have hj8 : ((j : Int) == st) = true := by simpa using HJ.out
      gi_wp2_with fail
      refine ⟨trivial, ?_⟩
      refine (CallsIn.inRound l (callsIn_wide.2 KF)).mono ?_
      rintro e W1 ⟨rfl, rfl⟩
      gi_wp2_with fail
      refine ⟨trivial, ?_⟩
      refine (CallsIn.inRound l (callsIn_wide.2 KO)).mono ?_
      rintro e W1 ⟨rfl, rfl⟩
      rw [show decide (([] : List Int) ≠ []) = false from rfl]
      gi_wp2_with fail
      exact ⟨HF.out.1, rfl, HF.out.2.2⟩
    · have hn := HEH.out.next hBi hW7 hj
      have HF := Lib.hid (show KeepsFrom w7.heap.size V (W.setCell ⟨w4.heap.size + 1, 0, none⟩ (.int .i64 ((j : Int) + 1))) ∧ (j + 1 ≤ N ∧ Eh w7 w0.heap.size (w4.heap.size + 1) st (j + 1) (W.setCell ⟨w4.heap.size + 1, 0, none⟩ (.int .i64 ((j : Int) + 1))) ∧ (j + 1 = 0 → ScanAt (W.setCell ⟨w4.heap.size + 1, 0, none⟩ (.int .i64 ((j : Int) + 1))) w0.heap.size w3.heap.size (Value.slice none 0 0) 0 []) ∨ j + 1 = N + 1 ∧ Eh w7 w0.heap.size (w4.heap.size + 1) st N (W.setCell ⟨w4.heap.size + 1, 0, none⟩ (.int .i64 ((j : Int) + 1))) ∧ ∃ v, ScanAt (W.setCell ⟨w4.heap.size + 1, 0, none⟩ (.int .i64 ((j : Int) + 1))) w0.heap.size w3.heap.size v m (Fc.opn [] zs)) ∧ KeepS (fun k => k < w7.heap.size ∧ k ≠ w4.heap.size + 1) V (W.setCell ⟨w4.heap.size + 1, 0, none⟩ (.int .i64 ((j : Int) + 1))) from
        ⟨hKF.trans ((KeepsOthers.setCell _ _ _).from _), .inl ⟨by omega, hn, fun h => by omega⟩, (KeepS.of_below hW fun k hk => by omega).set (fun h => h.2 rfl) _⟩)
      have kI := bIW.cell
      have fI := bIW.frozen
      have kS := bSW.cell
      clear hW hatW bSW bPW hqW hKF hW7 hn HEH HAT HBI HBS HBP HBL
      have hj8 : ((j : Int) == st) = false := by simpa using hj
      gi_wp2_with fail
      exact HF.out
  case iter =>
    intro Bk X l V hBk hBlt hX hl2 hD hB hY'
    rcases hD with ⟨_, hF, hsc⟩ | ⟨h, _⟩
    · have hsc := hsc rfl
      have hVs := hF.off.size
      have hkw : KeepS (fun k => k < w7.heap.size ∧ k ≠ w0.heap.size ∧ k ≠ w4.heap.size + 1) w7 V := ⟨hVs, fun k hk => hF.off.block k hk.1 (fun e => by rcases e with e | e <;> omega)⟩
      have hBs3 : Bs < w7.heap.size ∧ Bs ≠ w0.heap.size ∧ Bs ≠ w4.heap.size + 1 := ⟨by omega, by omega, by omega⟩
      have hBb3 : Bb < w7.heap.size ∧ Bb ≠ w0.heap.size ∧ Bb ≠ w4.heap.size + 1 := ⟨by omega, by omega, by omega⟩
      refine (ended_in 8 (by omega) 7 l Bs Bb w0.heap.size w3.heap.size m c7 0 (fun k => k < w7.heap.size ∧ k ≠ w0.heap.size ∧ k ≠ w4.heap.size + 1) V A7 zs [] (.slice none 0 0) HL.out (by omega) HZ.out hroom (by simp) (by omega) hsc (by omega) (fun k hk => ⟨by omega, hk.2.1, fun e => by cases e⟩)
        ((hkw.cell (p := ⟨Bs, 0, none⟩) hBs3).trans bS.cell) ((hkw.cell (p := ⟨Bb, 0, none⟩) hBb3).trans bB.cell) ⟨by omega, by omega, by omega⟩ ((hnE.more fun k hk => ⟨hk.2.1, by omega, by omega⟩).keeps hkw)
        (fun j V => Eh w7 w0.heap.size (w4.heap.size + 1) st j V ∧ Bk V) X (fun j W W' hj ht => ⟨hj.1.tn hne (by simpa [Value.ownBlock] using ht), hBk _ _ hj.2 ht.off.size (fun k h1 h2 => ht.off.block k (by have := hBlt _ hj.2; omega) (fun e => by
          rcases e with e | ⟨_, e⟩
          · omega
          · cases e))⟩)
        (fun j x v W hj hk hx hs he hfr => ?_) ⟨hF, hB⟩).mono ?_
      · rw [hSG] at hx
        have hjl : j < SG.length := by
          rcases Nat.lt_or_ge j SG.length with h | h
          · exact h
          · rw [List.getElem?_eq_none h] at hx; cases hx
        refine (hY' j (x, v) W ⟨hj.1, hx, he, hs⟩ hj.2 (by omega)).mono ?_
        rintro e V2 (⟨rfl, ⟨hd, hb2⟩, hkk, _⟩ | ⟨rfl, hx, _⟩)
        · refine .inl ⟨rfl, ⟨?_, hb2⟩, ⟨hkk.1, fun k hk => hkk.2 k (by rcases hk with hk | hk <;> omega)⟩⟩
          rcases hd with ⟨_, h2, _⟩ | ⟨h1, _⟩
          · exact h2
          · omega
        · exact .inr ⟨rfl, hx⟩
      · rintro e W' ⟨hv, h⟩
        refine ⟨hv, ?_⟩
        rw [hSG, hNS, show 0 + m = m by omega] at h
        rcases h with ⟨v, h1, h2, _⟩ | h
        · exact .inl ⟨.inr ⟨rfl, h2.1, v, h1⟩, h2.2⟩
        · exact .inr h
    · omega
  case done =>
    rintro D V hD hDn hK
    rcases hDn with ⟨h, _⟩ | ⟨_, hF, v, hsc⟩
    · omega
    · have hVs := hF.off.size
      have hk7 : ∀ k, k < w7.heap.size → k ≠ w4.heap.size + 1 → k ≠ w0.heap.size → V.heap[k]? = w7.heap[k]? := fun k h1 h2 h3 => hF.off.block k h1 (fun e => by rcases e with e | e <;> omega)
      have bSV : Boxed V w.heap.size 3 (.int .i64 st) := (hk7 _ (by omega) (by omega) (by omega)).trans bS7
      have bLV : Boxed V w4.heap.size 29 (.slice AY N cY) := (hk7 _ (by omega) (by omega) (by omega)).trans bL7
      have bPV : Boxed V w2.heap.size 23 (.pointer (some ⟨w0.heap.size, 0, none⟩)) := (hk7 _ (by omega) (by omega) (by omega)).trans bP7
      have bRV : Boxed V (w.heap.size + 1) 4 (.bool false) := (hk7 _ (by omega) (by omega) (by omega)).trans bR7
      have kS := bSV.cell
      have kL := bLV.cell
      have hst : st < 0 ∨ (N : Int) ≤ st := by
        rcases Int.lt_or_le st 0 with h | h
        · exact .inl h
        · refine .inr ?_
          rcases Int.lt_or_le st N with h2 | h2
          · exact absurd (show ((st.toNat : Nat) : Int) = st by omega) (hF.ne st.toNat (by omega))
          · exact h2
      have HBV := Lib.hid (show Below w.heap.size w V from hw07.trans ⟨hF.off.os, hF.off.tape, hF.off.output, hF.off.size, fun k hk => hF.off.block k (by omega) (fun e => by rcases e with e | e <;> omega)⟩)
      have HF := Lib.hid hF
      have HSC := Lib.hid hsc
      have hb2V := h27.off hF.off (fun e => by rcases e with e | e <;> omega) (fun g hg => by have := hg24 g hg; exact fun e => by rcases e with e | e <;> omega)
      have HS2 := Lib.hid hb2V
      have HBP := Lib.hid bPV
      have HBR := Lib.hid bRV
      have HBL := Lib.hid bLV
      clear hF hsc hb2V bSV bLV bPV bRV hk7
      rcases hst with hst | hst
      · have hd1 : decide ((0 : Int) ≤ st) = false := by rw [decide_eq_false_iff_not]; omega
        gi_wp2_with fail
        refine ⟨trivial, ?_⟩
        refine (callsIn_wide.2 (scknown_any V)).mono ?_
        rintro e W1 ⟨rfl, hb⟩
        have s1 := HSC.out.below hb
        have o1 := HS2.out.below hb
        have KF := fed_any s1
        have KO := fed_any o1
        have KH := held_any s1
        have KG := held_any o1
        have kI := (boxed_below HF.out.cnt hb).cell
        have kL2 := (boxed_below HBL.out hb).cell
        have kP := (boxed_below HBP.out hb).cell
        have bR := boxed_below HBR.out hb
        have fR := bR.frozen
        have kR := bR.cell
        have bR9 : Boxed (W1.setCell ⟨w.heap.size + 1, 0, none⟩ (.bool true)) (w.heap.size + 1) 4 (.bool true) := Boxed.set _ bR
        have hDV : D < V.heap.size := (Array.getElem?_eq_some_iff.1 hK).1
        have hK9 : (W1.setCell ⟨w.heap.size + 1, 0, none⟩ (.bool true)).heap[D]? = some (.deferred (some [])) := (Below.heap_setCell W1 _ _ _ (by simp only; omega)).trans ((hb.block _ hDV).trans hK)
        have hb9 := (HBV.out.trans (hb.mono (by omega))).setCell (p := ⟨w.heap.size + 1, 0, none⟩) (by simp only; omega) (.bool true)
        have bRh : Boxed ((W1.setCell ⟨w.heap.size + 1, 0, none⟩ (.bool true)).putObj D (.deferred none)) (w.heap.size + 1) 4 (.bool true) := (World.putObj_heap_other (by omega)).trans bR9
        have hbh := hb9.trans (below_put (B := w.heap.size) (W1.setCell ⟨w.heap.size + 1, 0, none⟩ (.bool true)) (.deferred none) (by omega : w.heap.size ≤ D))
        have kRh := bRh.cell
        have HFIN := Lib.hid (And.intro hK9 hbh)
        clear hK9 hb9 hbh bR9 bRh hb s1 o1 HF HSC HS2 HBP HBR HBL HBV
        gi_wp2_with fail
        refine ⟨trivial, ?_⟩
        refine (callsIn_wide.2 KF).mono ?_
        rintro e W2 ⟨rfl, rfl⟩
        gi_wp2_with fail
        refine ⟨trivial, ?_⟩
        refine (callsIn_wide.2 KO).mono ?_
        rintro e W2 ⟨rfl, rfl⟩
        gi_wp2_with fail
        refine ⟨trivial, ?_⟩
        refine (callsIn_wide.2 KH).mono ?_
        rintro e W2 ⟨rfl, rfl⟩
        gi_wp2_with fail
        refine ⟨trivial, ?_⟩
        refine (callsIn_wide.2 KG).mono ?_
        rintro e W2 ⟨rfl, rfl⟩
        gi_wp2_with fail
        refine ⟨by simp, .inl ⟨_, _, rfl, run_takeDeferred HFIN.out.1, ?_⟩⟩
        refine ⟨.bool true, ?_, rfl, HFIN.out.2⟩
        simp [results, Try.f5, go_sem, kRh]
      · have hd1 : decide ((0 : Int) ≤ st) = true := by rw [decide_eq_true_eq]; omega
        have hd2 : decide (st < (N : Int)) = false := by rw [decide_eq_false_iff_not]; omega
        gi_wp2_with fail
        refine ⟨trivial, ?_⟩
        refine (callsIn_wide.2 (scknown_any V)).mono ?_
        rintro e W1 ⟨rfl, hb⟩
        have s1 := HSC.out.below hb
        have o1 := HS2.out.below hb
        have KF := fed_any s1
        have KO := fed_any o1
        have KH := held_any s1
        have KG := held_any o1
        have kI := (boxed_below HF.out.cnt hb).cell
        have kL2 := (boxed_below HBL.out hb).cell
        have kP := (boxed_below HBP.out hb).cell
        have bR := boxed_below HBR.out hb
        have fR := bR.frozen
        have kR := bR.cell
        have bR9 : Boxed (W1.setCell ⟨w.heap.size + 1, 0, none⟩ (.bool true)) (w.heap.size + 1) 4 (.bool true) := Boxed.set _ bR
        have hDV : D < V.heap.size := (Array.getElem?_eq_some_iff.1 hK).1
        have hK9 : (W1.setCell ⟨w.heap.size + 1, 0, none⟩ (.bool true)).heap[D]? = some (.deferred (some [])) := (Below.heap_setCell W1 _ _ _ (by simp only; omega)).trans ((hb.block _ hDV).trans hK)
        have hb9 := (HBV.out.trans (hb.mono (by omega))).setCell (p := ⟨w.heap.size + 1, 0, none⟩) (by simp only; omega) (.bool true)
        have bRh : Boxed ((W1.setCell ⟨w.heap.size + 1, 0, none⟩ (.bool true)).putObj D (.deferred none)) (w.heap.size + 1) 4 (.bool true) := (World.putObj_heap_other (by omega)).trans bR9
        have hbh := hb9.trans (below_put (B := w.heap.size) (W1.setCell ⟨w.heap.size + 1, 0, none⟩ (.bool true)) (.deferred none) (by omega : w.heap.size ≤ D))
        have kRh := bRh.cell
        have HFIN := Lib.hid (And.intro hK9 hbh)
        clear hK9 hb9 hbh bR9 bRh hb s1 o1 HF HSC HS2 HBP HBR HBL HBV
        gi_wp2_with fail
        refine ⟨trivial, ?_⟩
        refine (callsIn_wide.2 KF).mono ?_
        rintro e W2 ⟨rfl, rfl⟩
        gi_wp2_with fail
        refine ⟨trivial, ?_⟩
        refine (callsIn_wide.2 KO).mono ?_
        rintro e W2 ⟨rfl, rfl⟩
        gi_wp2_with fail
        refine ⟨trivial, ?_⟩
        refine (callsIn_wide.2 KH).mono ?_
        rintro e W2 ⟨rfl, rfl⟩
        gi_wp2_with fail
        refine ⟨trivial, ?_⟩
        refine (callsIn_wide.2 KG).mono ?_
        rintro e W2 ⟨rfl, rfl⟩
        gi_wp2_with fail
        refine ⟨by simp, .inl ⟨_, _, rfl, run_takeDeferred HFIN.out.1, ?_⟩⟩
        refine ⟨.bool true, ?_, rfl, HFIN.out.2⟩
        simp [results, Try.f5, go_sem, kRh]
  case stop =>
    rintro D cd V hD ⟨rfl, j, ⟨p, b⟩, hj, hx, hF, hsc⟩ hK
    subst hj
    simp only at hsc
    have hVs := hF.off.size
    have hk7 : ∀ k, k < w7.heap.size → k ≠ w4.heap.size + 1 → k ≠ w0.heap.size → V.heap[k]? = w7.heap[k]? := fun k h1 h2 h3 => hF.off.block k h1 (fun e => by rcases e with e | e <;> omega)
    have bIV := hF.cnt
    have bSV : Boxed V w.heap.size 3 (.int .i64 (j : Int)) := (hk7 _ (by omega) (by omega) (by omega)).trans bS7
    have bLV : Boxed V w4.heap.size 29 (.slice AY N cY) := (hk7 _ (by omega) (by omega) (by omega)).trans bL7
    have bPV : Boxed V w2.heap.size 23 (.pointer (some ⟨w0.heap.size, 0, none⟩)) := (hk7 _ (by omega) (by omega) (by omega)).trans bP7
    have bRV : Boxed V (w.heap.size + 1) 4 (.bool false) := (hk7 _ (by omega) (by omega) (by omega)).trans bR7
    have h2V := h27.off hF.off (fun e => by rcases e with e | e <;> omega) (fun g hg => by have := hg24 g hg; exact fun e => by rcases e with e | e <;> omega)
    have hBV : Below w.heap.size w V := hw07.trans ⟨hF.off.os, hF.off.tape, hF.off.output, hF.off.size, fun k hk => hF.off.block k (by omega) (fun e => by rcases e with e | e <;> omega)⟩
    have hjN : j < N := by rw [← hNS]; exact (List.getElem?_eq_some_iff.1 hx).1
    have hsYV := hsY7.keeps (w' := V) ⟨hVs, fun k hk => hF.off.block k (by have := hk.2.1; omega) (fun e => by have := hk.1.1; have := hk.2.1; rcases e with e | e <;> omega)⟩
    obtain ⟨gY, oY, hAY, _, _, _⟩ := hsYV j (Y[j]'(by rw [HNY.out]; exact hjN)) (List.getElem?_eq_getElem _)
    have h1Y := hsYV.drop (j + 1)
    rw [hAY, Option.map_some, Addr.add_lit] at h1Y
    rw [hAY] at bLV
    have hscl := scan_split zs 0 [] j p b (by simp) (by rw [hSG]; exact hx)
    obtain ⟨E, hE⟩ : ∃ E, p + b.length + 1 = E := ⟨_, rfl⟩
    rw [hE] at hsc hscl
    obtain ⟨_, hEm, hdr, hop⟩ := hscl
    rw [Nat.sub_zero] at hdr hop
    rw [HL.out, Nat.zero_add] at hEm
    have hE1 : 1 ≤ E := by omega
    obtain ⟨g0, o0, ha, hg0, hcl⟩ := HNUM.out (by intro e; have := HL.out; rw [e] at this; simp at this; omega)
    subst ha
    have hd1 : decide ((0 : Int) ≤ (j : Int)) = true := by rw [decide_eq_true_eq]; omega
    have hd2 : decide ((j : Int) < (N : Int)) = true := by rw [decide_eq_true_eq]; omega
    have hd3 : decide (j < N) = true := by rw [decide_eq_true_eq]; omega
    obtain ⟨I, hI⟩ : ∃ I : World → Prop, (fun W => Off (fun k => k = w0.heap.size ∨ k = w.heap.size + 1) V W) = I := ⟨_, rfl⟩
    have hIb : ∀ W, Below V.heap.size V W → I W := fun W hW => by rw [← hI]; exact Off.of_below hW
    have lI : ∀ W, I W → (Instr.loadAt 3 (.pointer (some ⟨w4.heap.size + 1, 0, none⟩))).run Try.prog W = .ok (.int .i64 (j : Int)) W := fun W hW => by
      rw [← hI] at hW
      have := (show Boxed W (w4.heap.size + 1) 3 (.int .i64 (j : Int)) from (hW.block _ (by omega) (fun e => by rcases e with e | e <;> omega)).trans bIV).cell
      simp [Instr.loadAt, go_sem, this]
    have lS : ∀ W, I W → (Instr.loadAt 3 (.pointer (some ⟨w.heap.size, 0, none⟩))).run Try.prog W = .ok (.int .i64 (j : Int)) W := fun W hW => by
      rw [← hI] at hW
      have := (show Boxed W w.heap.size 3 (.int .i64 (j : Int)) from (hW.block _ (by omega) (fun e => by rcases e with e | e <;> omega)).trans bSV).cell
      simp [Instr.loadAt, go_sem, this]
    have lP : ∀ W, I W → (Instr.loadAt 23 (.pointer (some ⟨w2.heap.size, 0, none⟩))).run Try.prog W = .ok (.pointer (some ⟨w0.heap.size, 0, none⟩)) W := fun W hW => by
      rw [← hI] at hW
      have := (show Boxed W w2.heap.size 23 (.pointer (some ⟨w0.heap.size, 0, none⟩)) from (hW.block _ (by omega) (fun e => by rcases e with e | e <;> omega)).trans bPV).cell
      simp [Instr.loadAt, go_sem, this]
    have lL : ∀ W, I W → (Instr.loadAt 29 (.pointer (some ⟨w4.heap.size, 0, none⟩))).run Try.prog W = .ok (.slice (some ⟨gY, oY, none⟩) N cY) W := fun W hW => by
      rw [← hI] at hW
      have := (show Boxed W w4.heap.size 29 (.slice (some ⟨gY, oY, none⟩) N cY) from (hW.block _ (by omega) (fun e => by rcases e with e | e <;> omega)).trans bLV).cell
      simp [Instr.loadAt, go_sem, this]
    have kS := bSV.cell
    have kL := bLV.cell
    have HBR := Lib.hid bRV
    have HBV := Lib.hid hBV
    have HF := Lib.hid hF
    have HSC := Lib.hid hsc
    have HS2 := Lib.hid h2V
    have HY1 := Lib.hid h1Y
    have HDR := Lib.hid hdr
    have HOP := Lib.hid hop
    have HCL := Lib.hid hcl
    have HI := Lib.hid hI
    have hNc1 : (N : Int) ≤ (cY : Int) := by omega
    have hj2 : (j : Int) ≤ 600 := by omega
    have hj3 : (j : Int) + 1 ≤ (N : Int) := by omega
    have hE2 : (E : Int) ≤ (m : Int) := by omega
    clear bIV bSV bLV bPV bRV h2V hBV hF hsc h1Y hdr hop hcl hsYV hk7 hx hE hAY
    gi_wp2_with fail
    refine wpIn_wide.2 ?_
    have hIo : ∀ W, Off (fun k => k = w0.heap.size) V W → I W := fun W hW => by
      rw [← HI.out]
      exact ⟨hW.os, hW.tape, hW.output, hW.size, fun k hk hn => hW.block k hk fun e => hn (.inl e)⟩
    have hlY : (Y.drop (j + 1)).length = N - (j + 1) := by rw [List.length_drop, HNY.out]
    have hFeed : ∀ W, Below V.heap.size V W → Calls Try.prog 11 #[.pointer (some ⟨w0.heap.size, 0, none⟩), .slice (if c = E then some ⟨g0, o0, none⟩ else some ⟨g0, o0 + E, none⟩) (m - E) (c - E)] W fun e w'' => ∃ v, e = .returned v ∧ (∃ A c, v = .slice A (N - (j + 1)) c ∧ N - (j + 1) ≤ c) ∧
        (Off (fun k => k = w0.heap.size) V w'' ∧ ∃ A c xs v1, v = .slice A (N - (j + 1)) c ∧ N - (j + 1) ≤ c ∧ xs.map Sg.pb = (Y.drop (j + 1)).map Sg.pb ∧ xs.length = N - (j + 1) ∧ SgsAt w'' (fun k => k < w''.heap.size) A xs ∧ ScanAt w'' w0.heap.size w3.heap.size v1 m (Fc.opn [] zs)) := fun W hW => by
      have hWs := hW.size
      have hbW := HBV.out.trans (hW.mono (by omega))
      refine (feed_any (HSC.out.below hW) (by omega) (if c = E then some ⟨g0, o0, none⟩ else some ⟨g0, o0 + E, none⟩) (m - E) (c - E) (zs.drop E) (by rw [List.length_drop, HL.out]) (by omega) (by omega) (fun z hz => HZ.out z (List.mem_of_mem_drop hz)) (by simp) (by omega)
        (fun hne0 => ⟨g0, o0 + E, if_neg (fun e => hne0 (List.eq_nil_of_length_eq_zero (by rw [List.length_drop, HL.out]; omega))), ⟨by omega, by omega, fun e => by cases e⟩, fun q z hq => by
          rw [List.getElem?_drop] at hq
          have := HCL.out _ _ hq
          rw [Nat.add_assoc]
          exact (hbW.cell (p := ⟨g0, o0 + (E + q), none⟩) hg0).trans this⟩)).mono ?_
      rintro e w'' ⟨A, cA, xs, v1, rfl, h1, h2, h3, h4, _⟩
      rw [show E + (m - E) = m by omega, ← HOP.out] at h3
      rw [← HDR.out, hSG, ← hYS, ← List.map_drop] at h2
      have hxl : xs.length = N - (j + 1) := by have := congrArg List.length h2; rw [List.length_map, List.length_map, hlY] at this; exact this
      rw [hxl] at h1 ⊢
      exact ⟨_, rfl, ⟨A, cA, rfl, h1⟩, (Off.of_below hW).trans h3.off (fun k _ hS => by rcases hS with e | e; exact e; cases e), A, cA, xs, v1, rfl, h1, h2, hxl, h4.more (fun k hk => hk.2.1), h3.at'⟩
    have hSame : ∀ v W, (Off (fun k => k = w0.heap.size) V W ∧ ∃ A c xs v1, v = .slice A (N - (j + 1)) c ∧ N - (j + 1) ≤ c ∧ xs.map Sg.pb = (Y.drop (j + 1)).map Sg.pb ∧ xs.length = N - (j + 1) ∧ SgsAt W (fun k => k < W.heap.size) A xs ∧ ScanAt W w0.heap.size w3.heap.size v1 m (Fc.opn [] zs)) →
        Calls Try.prog 12 #[v, .slice (if cY = j + 1 then some ⟨gY, oY, none⟩ else some ⟨gY, oY + (j + 1) * 4, none⟩) (N - (j + 1)) (cY - (j + 1))] W fun e w'' => ∃ u, e = .returned u ∧ u = .bool true ∧ (Off (fun k => k = w0.heap.size) V w'' ∧ ∃ v1, ScanAt w'' w0.heap.size w3.heap.size v1 m (Fc.opn [] zs)) := fun v W hW => by
      obtain ⟨hO, A, cA, xs, v1, rfl, h1, h2, h3, h4, h5⟩ := hW
      have hOs := hO.size
      have hY8 := HY1.out.keeps (w' := W) ⟨hOs, fun k hk => hO.block k (by have := hk.2.1; omega) (fun e => by have := hk.1.1; omega)⟩
      have hY9 : SgsAt W (Told w1.heap.size (FQ w3.heap.size w3.heap.size (Value.slice none 0 0).ownBlock) v2.ownBlock w4) (if cY = j + 1 then some ⟨gY, oY, none⟩ else some ⟨gY, oY + (j + 1) * 4, none⟩) (Y.drop (j + 1)) := by
        split
        · have h0 : Y.drop (j + 1) = [] := List.eq_nil_of_length_eq_zero (by rw [hlY]; omega)
          rw [h0]
          intro q x hq
          simp at hq
        · exact hY8
      refine (ssame_any W.heap.size A _ (N - (j + 1)) cA (cY - (j + 1)) _ _ xs (Y.drop (j + 1)) W h3 h1 (by omega) (by omega) h2 (fun x hx => ?_) h4 hY9 (fun k hk => hk) (fun k hk => by have := hk.2.1; omega) (Nat.le_refl _)).mono ?_
      · have hm : Sg.pb x ∈ (Y.drop (j + 1)).map Sg.pb := by rw [← h2]; exact List.mem_map_of_mem hx
        obtain ⟨y, hy, hyx⟩ := List.mem_map.1 hm
        have hm2 : Sg.pb x ∈ Fc.scan 0 [] zs := by rw [hSG, ← hYS, ← hyx]; exact List.mem_map_of_mem (List.mem_of_mem_drop hy)
        exact Fc.scan_isBytes zs 0 [] (fun c hc => by cases hc) HZ.out _ hm2
      · rintro e w'' ⟨rfl, hb⟩
        exact ⟨_, rfl, rfl, hO.trans (Off.of_below (S := fun _ => False) hb) (fun k _ h => h.elim), v1, h5.below hb⟩
    refine wp_region_order4 (0 :: 1 :: 2 :: 3 :: 4 :: 5 :: 6 :: 7 :: 8 :: 9 :: 13 :: 14 :: 15 :: 16 :: 10 :: 11 :: 12 :: 17 :: 18 :: 19 :: 20 :: 22 :: 21 :: 23 :: 24 :: 25 :: 26 :: []) I (C := fun W => Below V.heap.size V W) (by kernel_rfl) (by kernel_rfl) (Below.refl _ _).drew hIb ?_
    refine wpO4_call (fun v => v = .bool true) (fun _ W => Below V.heap.size V W) (f := 17) (args := #[]) rfl rfl rfl (fun _ W hW => hIb W hW) (fun x => by first | rfl | (simp [go_sem]; done)) (fun W hW => (scknown_any W).mono (fun e w'' h => ⟨_, h.1, rfl, hW.trans (h.2.mono hW.size)⟩)) ?_
    rintro v rfl
    simp only [Act.put, List.setIfInBounds_toArray, List.set_cons_succ, List.set_cons_zero]
    repeat (refine wpO4_pure rfl rfl ?_; go_big_quiet_step (fail); refine wpQuiet_nil ?_)
    refine wpO4_load (.int .i64 (j : Int)) rfl rfl rfl rfl lI ?_
    simp only [Act.put, List.setIfInBounds_toArray, List.set_cons_succ, List.set_cons_zero]
    refine wpO4_load (.int .i64 (j : Int)) rfl rfl rfl rfl lS ?_
    simp only [Act.put, List.setIfInBounds_toArray, List.set_cons_succ, List.set_cons_zero]
    repeat (refine wpO4_pure rfl rfl ?_; go_big_quiet_step (fail); refine wpQuiet_nil ?_)
    refine wpO4_load (.pointer (some ⟨w0.heap.size, 0, none⟩)) rfl rfl rfl rfl lP ?_
    simp only [Act.put, List.setIfInBounds_toArray, List.set_cons_succ, List.set_cons_zero]
    repeat (refine wpO4_pure rfl rfl ?_; go_big_quiet_step (fail); refine wpQuiet_nil ?_)
    refine wpO4_load (.pointer (some ⟨w0.heap.size, 0, none⟩)) rfl rfl rfl rfl lP ?_
    simp only [Act.put, List.setIfInBounds_toArray, List.set_cons_succ, List.set_cons_zero]
    refine wpO4_load (.slice (some ⟨gY, oY, none⟩) N cY) rfl rfl rfl rfl lL ?_
    simp only [Act.put, List.setIfInBounds_toArray, List.set_cons_succ, List.set_cons_zero]
    refine wpO4_load (.int .i64 (j : Int)) rfl rfl rfl rfl lI ?_
    simp only [Act.put, List.setIfInBounds_toArray, List.set_cons_succ, List.set_cons_zero]
    repeat (refine wpO4_pure rfl rfl ?_; go_big_quiet_step (fail); refine wpQuiet_nil ?_)
    refine wpO4_call (fun v => v = .int .u64 (E : Int)) (fun _ W => Below V.heap.size V W) (f := 15) (args := #[.pointer (some ⟨w0.heap.size, 0, none⟩)]) rfl rfl rfl (fun _ W hW => hIb W hW) (fun x => by first | rfl | (simp [go_sem]; done)) (fun W hW => (fed_any (HSC.out.below hW)).mono (fun e w'' h => ⟨_, h.1, rfl, h.2 ▸ hW⟩)) ?_
    rintro v rfl
    simp only [Act.put, List.setIfInBounds_toArray, List.set_cons_succ, List.set_cons_zero]
    repeat (refine wpO4_pure rfl rfl ?_; go_big_quiet_step (fail); refine wpQuiet_nil ?_)
    refine wpO4_call (fun v => ∃ A c, v = .slice A (N - (j + 1)) c ∧ N - (j + 1) ≤ c) (fun v W => Off (fun k => k = w0.heap.size) V W ∧ ∃ A c xs v1, v = .slice A (N - (j + 1)) c ∧ N - (j + 1) ≤ c ∧ xs.map Sg.pb = (Y.drop (j + 1)).map Sg.pb ∧ xs.length = N - (j + 1) ∧ SgsAt W (fun k => k < W.heap.size) A xs ∧ ScanAt W w0.heap.size w3.heap.size v1 m (Fc.opn [] zs)) (f := 11) (args := #[.pointer (some ⟨w0.heap.size, 0, none⟩), .slice (if c = E then some ⟨g0, o0, none⟩ else some ⟨g0, o0 + E, none⟩) (m - E) (c - E)]) rfl rfl rfl (fun v W hW => hIo W hW.1) (fun x => by by_cases hcE : c = E <;> simp [go_sem, hcE]) hFeed ?_
    rintro v ⟨AX, cX, rfl, hcX⟩
    simp only [Act.put, List.setIfInBounds_toArray, List.set_cons_succ, List.set_cons_zero]
    refine wpO4_call (fun v => v = .bool true) (fun _ W => Off (fun k => k = w0.heap.size) V W ∧ ∃ v1, ScanAt W w0.heap.size w3.heap.size v1 m (Fc.opn [] zs)) (f := 12) (args := #[.slice AX (N - (j + 1)) cX, .slice (if cY = j + 1 then some ⟨gY, oY, none⟩ else some ⟨gY, oY + (j + 1) * 4, none⟩) (N - (j + 1)) (cY - (j + 1))]) rfl rfl rfl (fun v W hW => hIo W hW.1) (fun x => by by_cases hcE : cY = j + 1 <;> simp [go_sem, hcE]) (fun W hW => hSame _ W hW) ?_
    rintro v rfl
    simp only [Act.put, List.setIfInBounds_toArray, List.set_cons_succ, List.set_cons_zero]
    repeat (refine wpO4_pure rfl rfl ?_; go_big_quiet_step (fail); refine wpQuiet_nil ?_)
    refine wpO4_load (.pointer (some ⟨w0.heap.size, 0, none⟩)) rfl rfl rfl rfl lP ?_
    simp only [Act.put, List.setIfInBounds_toArray, List.set_cons_succ, List.set_cons_zero]
    repeat (refine wpO4_pure rfl rfl ?_; go_big_quiet_step (fail); refine wpQuiet_nil ?_)
    refine wpO4_call (fun v => v = .int .u64 (m : Int)) (fun _ W => Off (fun k => k = w0.heap.size) V W ∧ ∃ v1, ScanAt W w0.heap.size w3.heap.size v1 m (Fc.opn [] zs)) (f := 15) (args := #[.pointer (some ⟨w0.heap.size, 0, none⟩)]) rfl rfl rfl (fun v W hW => hIo W hW.1) (fun x => by first | rfl | (simp [go_sem]; done)) (fun W hW => (hW.2.elim fun v1 h => fed_any h).mono (fun e w'' h => ⟨_, h.1, rfl, h.2 ▸ hW⟩)) ?_
    rintro v rfl
    simp only [Act.put, List.setIfInBounds_toArray, List.set_cons_succ, List.set_cons_zero]
    refine wpO4_call (fun v => v = .int .u64 (m : Int)) (fun _ W => Off (fun k => k = w0.heap.size) V W ∧ ∃ v1, ScanAt W w0.heap.size w3.heap.size v1 m (Fc.opn [] zs)) (f := 15) (args := #[.pointer (some ⟨w1.heap.size, 0, none⟩)]) rfl rfl rfl (fun v W hW => hIo W hW.1) (fun x => by first | rfl | (simp [go_sem]; done)) (fun W hW => (fed_any (HS2.out.off hW.1 (by omega) (fun g hg => by have := hg24 g hg; omega))).mono (fun e w'' h => ⟨_, h.1, rfl, h.2 ▸ hW⟩)) ?_
    rintro v rfl
    simp only [Act.put, List.setIfInBounds_toArray, List.set_cons_succ, List.set_cons_zero]
    repeat (refine wpO4_pure rfl rfl ?_; go_big_quiet_step (fail); refine wpQuiet_nil ?_)
    refine wpO4_store (fun W => ∃ W', Off (fun k => k = w0.heap.size) V W' ∧ W = W'.setCell ⟨w.heap.size + 1, 0, none⟩ (.bool true)) rfl rfl rfl rfl ⟨w.heap.size + 1, 0, none⟩ (.bool true) rfl rfl (fun W hW => ?c1) (fun W hW => ?c2) ?_
    case c1 =>
      obtain ⟨W', h1, rfl⟩ := hW
      rw [← HI.out]
      exact Off.setCell (p := ⟨w.heap.size + 1, 0, none⟩) (⟨h1.os, h1.tape, h1.output, h1.size, fun k hk hn => h1.block k hk fun e => hn (.inl e)⟩) (.inr rfl) _
    case c2 =>
      have bR9 : Boxed W (w.heap.size + 1) 4 (.bool false) := (hW.1.block _ (by omega) (by omega)).trans HBR.out
      refine ⟨_, ?_, W, hW.1, rfl⟩
      have kR := bR9.cell
      have fR := bR9.frozen
      simp [Instr.storeAt, go_sem, kR, fR]
    rintro W ⟨W', hO, rfl⟩
    have hDV : D < V.heap.size := (Array.getElem?_eq_some_iff.1 hK).1
    have hOs := hO.size
    have bR : Boxed W' (w.heap.size + 1) 4 (.bool false) := (hO.block _ (by omega) (by omega)).trans HBR.out
    have bR9 : Boxed (W'.setCell ⟨w.heap.size + 1, 0, none⟩ (.bool true)) (w.heap.size + 1) 4 (.bool true) := Boxed.set _ bR
    have hK9 : (W'.setCell ⟨w.heap.size + 1, 0, none⟩ (.bool true)).heap[D]? = some (.deferred (some [])) := (Below.heap_setCell W' _ _ _ (by simp only; omega)).trans ((hO.block _ hDV (by omega)).trans hK)
    have hbW : Below w.heap.size V W' := ⟨hO.os, hO.tape, hO.output, hO.size, fun k hk => hO.block k (by omega) (by omega)⟩
    have hb9 := (HBV.out.trans hbW).setCell (p := ⟨w.heap.size + 1, 0, none⟩) (by simp only; omega) (.bool true)
    have bRh : Boxed ((W'.setCell ⟨w.heap.size + 1, 0, none⟩ (.bool true)).putObj D (.deferred none)) (w.heap.size + 1) 4 (.bool true) := (World.putObj_heap_other (by omega)).trans bR9
    have hbh := hb9.trans (below_put (B := w.heap.size) (W'.setCell ⟨w.heap.size + 1, 0, none⟩ (.bool true)) (.deferred none) (by omega : w.heap.size ≤ D))
    have kRh := bRh.cell
    have HFIN := Lib.hid (And.intro hK9 hbh)
    clear hK9 hb9 hbh bR9 bRh bR hO hbW hFeed hSame hIo hIb lI lS lP lL kS kL
    gi_wp2_with fail
    all_goals (
      refine ⟨by simp, .inl ⟨_, _, rfl, run_takeDeferred HFIN.out.1, ?_⟩⟩
      refine ⟨.bool true, ?_, rfl, HFIN.out.2⟩
      simp [results, Try.f5, go_sem, kRh])

theorem walk_sceach (a0 : Option Addr) (len0 cap0 : Nat) (z0 : List Int) (a1 : Int) (w : World) (w0 : IsRow .u8 w a0 len0 cap0 z0) (_w1 : (Lit.int .i64 a1).wf = true) :
    Calls Try.prog 5 #[.slice a0 len0 cap0, .int .i64 a1] w fun e w' => e = .returned (.bool true) ∧ Below w.heap.size w w' := by
  obtain ⟨e0, l0, q0, m0, k0, r0⟩ := w0.elems
  exact each_go a0 len0 (min len0 600) cap0 e0 a1 w l0 q0 (bytes_of r0) k0 (by omega) (by omega) (by omega)
end Go.Proofs.Ytcfgemdpnbimoaa

namespace Go.Proofs.Ytcfgemdpnbimoaa.scanEach
open Go.ChangeShapes Go.WideShapes Go.ChangeAt Go.RowKit
open Go.ChangeMaps (open_string shut_string)
set_option linter.unusedVariables false

theorem own : ownKnob Try.prog.godebug = none := by kernel_rfl
theorem laidOut : laidOutB Try.prog = true := by kernel_rfl

theorem walk (a0 : Option Addr) (len0 cap0 : Nat) (z0 : List Int) (a1 : Int) (w : World) (w0 : IsRow .u8 w a0 len0 cap0 z0) (w1 : (Lit.int .i64 a1).wf = true) :
    Calls Try.prog 5 #[.slice a0 len0 cap0, .int .i64 a1] w fun e w' => e = .returned (.bool true) ∧ Below w.heap.size w w' := walk_sceach a0 len0 cap0 z0 a1 w w0 w1

set_option maxRecDepth 100000 in
theorem lifted (os : Os) (started : os.Started) (H : Type) (enc : TypeId × Value → H) :
    ReturnsInHanded {} Try.checked os 5 .any (Rows.scanEachSpec.pre6 enc Try.prog Try.f5 Rows.scanEachRow.domain false) (Rows.scanEachSpec.post enc Try.prog Try.f5 false true false false) := by
  refine returnsInHanded_of_change (C := Try.checked) own started (by kernel_rfl) Try.func5
    (ChangeSpec.witness6 (enc := enc) (C := Try.checked) false ⟨#[], #[.slice none 0 0, .int .i64 0], []⟩ 8 (by kernel_rfl) (by kernel_rfl) (by kernel_rfl) (by kernel_rfl)) ?_
  intro W base args ds gs before hval0 hW hcnd _
  have hval : ∀ (j : Nat) t v, Try.f5.params[j]? = some t → args[j]? = some v → Value.okWide Try.prog W .any base t v := hval0
  have hW' := hW
  obtain ⟨p, q, hA0, hV, rfl, hfz, hnd⟩ := hW
  have hA : DataW.TrodAll enc Try.prog W 0 (fun _ => true) true Try.f5.params.toList args.toList ds p := hA0
  rw [Try.params5] at hA hval
  obtain ⟨v0, vs0, d0, ds0, p0, q0, hargs, rfl, rfl, h0, r0⟩ := trodAll_cons hA
  obtain ⟨v1, vs1, d1, ds1, p1, q1, rfl, rfl, rfl, h1, r1⟩ := trodAll_cons r0
  obtain ⟨rfl, rfl, rfl⟩ := trodAll_nil r1
  obtain rfl : args = #[v0, v1] := by cases args; simp_all
  obtain ⟨rfl, rfl⟩ := trodVars_none hV
  obtain ⟨a0, len0, cap0, rfl⟩ := okWide_slice Try.underlying25 (hval 0 25 v0 rfl rfl)
  have k0 := h0
  have lt0 : ∀ x ∈ p0, x.block < W.heap.size := by obtain ⟨m, hm⟩ := k0; exact DataW.trod_lt m _ _ _ hm
  obtain ⟨z0, w0⟩ : ∃ zs, IsRow .u8 W a0 len0 cap0 zs := by
    obtain ⟨fuel, hf⟩ := h0
    rcases open_ints Try.underlying25 Try.underlying5 (by kernel_rfl) hf with ⟨hcs, _⟩ | ⟨x, l, c, zs, hcs, _, hl, hm, hz, _, hcell, hwz⟩
    · simp [Value.cells] at hcs
      obtain ⟨rfl, rfl, rfl⟩ := hcs
      exact ⟨[], .inl ⟨rfl, rfl, rfl, rfl⟩⟩
    · simp [Value.cells] at hcs
      obtain ⟨rfl, rfl, rfl⟩ := hcs
      exact ⟨zs, .inr ⟨_, rfl, hl, hm, by simpa using hz, hcell, hwz⟩⟩
  obtain ⟨a1, rfl, rfl, rfl, w1⟩ := open_int Try.underlying3 (hval 1 3 v1 rfl rfl) h1
  clear hA0 hval0
  refine (walk a0 len0 cap0 z0 a1 W w0 w1).mono fun e W' ⟨he, bel⟩ => ?_
  subst he
  exact ⟨_, rfl, _, _, _, [], _, [], hW', trodAll_mk1 (shut_bool Try.underlying4 _), (trodAll_cons_mk (Below.trod laidOut (by kernel_rfl) (of_decide_eq_true (by kernel_rfl)) k0 bel lt0) (trodAll_cons_mk (shut_int Try.underlying3 w1) trodAll_mk0)), rfl, bel.frame _, fun h => by cases h⟩

theorem over : Rows.scanEachRow.holds Try.pinned (OpenSpec.ofChange Rows.scanEachSpec) :=
  OpenClaim.holds_of_wide 5 Try.f5 rfl rfl rfl rfl rfl rfl rfl ⟨rfl, rfl, rfl, rfl, rfl⟩ rfl rfl rfl rfl rfl (by kernel_rfl) Try.func5 (by kernel_rfl)
    (of_decide_eq_true (by kernel_rfl)) (by unfold Func.isWrapper; first | (rw [if_pos (by decide +kernel)]; kernel_rfl) | (rw [if_neg (by decide +kernel)]; exact ⟨rfl, rfl⟩))
    (fun os started H enc _ => lifted os started H enc)

theorem proved : Rows.ScanEachSaid := over
#print axioms proved
end Go.Proofs.Ytcfgemdpnbimoaa.scanEach
