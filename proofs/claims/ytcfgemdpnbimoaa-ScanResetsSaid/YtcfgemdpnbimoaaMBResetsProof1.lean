/-
  The law ScanResets (what is open is forgotten by a reset) returns true for every input, under no condition of ours.
-/
import Derived.Test.YtcfgemdpnbimoaaRows
import Derived.Below
import Derived.WalkKit
import Derived.ProofKit
import Derived.OpenShut
import Derived.ShutString
import Derived.ChangeOld
import Derived.Test.YtcfgemdpnbimoaaMB3
namespace Go.Proofs.Ytcfgemdpnbimoaa
open Go.RowKit Go.Shelf
set_option maxRecDepth 100000
attribute [local go_sem] Oper.semAt_some

theorem scan_shift (q : Nat) : ∀ (L : List Int) (p : Nat) (now : List Int), now.length ≤ p → Fc.scan (p + q) now L = (Fc.scan p now L).map (fun x => (x.1 + q, x.2))
  | [], p, now, _ => by simp [Fc.scan]
  | z :: r, p, now, h => by
    by_cases hz : z = 0
    · subst hz
      rw [Fc.scan_zero, Fc.scan_zero, List.map_append, ← scan_shift q r (p + 1) [] (by simp), show p + q + 1 = p + 1 + q by omega]
      congr 1
      split
      · rfl
      · simp; omega
    · rw [Fc.scan_ne hz, Fc.scan_ne hz, ← scan_shift q r (p + 1) (now ++ [z]) (by simp; omega), show p + q + 1 = p + 1 + q by omega]
/-- a segment's place is set -/
theorem SgsAt.set {w : World} {S : Nat → Prop} {A : Option Addr} {xs : List Sg} {k b off p : Nat} {x : Sg} (h : SgsAt w S A xs) (hx : xs[k]? = some x) (hA : A = some ⟨b, off, none⟩) :
    SgsAt (w.setCell ⟨b, off + k * 4 + 3, none⟩ (.int .u64 (p : Int))) S A (xs.set k ⟨x.a, x.cp, p, x.b⟩) := fun j y hy => by
  subst hA
  obtain ⟨b', o', e', _, _, _, _, d3, _, _⟩ := SgsAt.at h hx
  injection e' with e'
  injection e' with e1 e2
  subst e1 e2
  have hpay : ∀ a zs, NumsS .u8 w S a zs → NumsS .u8 (w.setCell ⟨b, off + k * 4 + 3, none⟩ (.int .u64 (p : Int))) S a zs := fun a zs hn h0 => by
    obtain ⟨g, o, e, hg, hc⟩ := hn h0
    refine ⟨g, o, e, hg, fun i z hi => (World.cell?_setCell_other _ _ _ _ (fun e2 => ?_)).trans (hc i z hi)⟩
    have h3 := hc i z hi
    rw [← e2, d3] at h3
    simp at h3
  have hlt := (List.getElem?_eq_some_iff.1 hx).1
  by_cases hj : j = k
  · subst hj
    rw [List.getElem?_set_self hlt] at hy
    injection hy with hy
    subst hy
    obtain ⟨b2, o2, e2, hb, hc, hl, hn⟩ := h j x hx
    injection e2 with e2
    injection e2 with e3 e4
    subst e3 e4
    refine ⟨b, off, rfl, hb, fun q u hq => ?_, hl, hpay _ _ hn⟩
    by_cases h3 : q = 3
    · subst h3
      obtain rfl : (Value.int .u64 (p : Int)) = u := by simpa [Sg.cs] using hq
      exact World.cell?_setCell_same _ _ _ d3
    · refine (World.cell?_setCell_other _ _ _ _ (fun e => by simp only [Addr.mk.injEq] at e; omega)).trans (hc q u ?_)
      have hq4 : q < 4 := (Array.getElem?_eq_some_iff.1 hq).1
      rcases q with _ | _ | _ | _ | q
      · exact hq
      · exact hq
      · exact hq
      · exact absurd rfl h3
      · omega
  · rw [List.getElem?_set_ne (fun e => hj e.symm)] at hy
    obtain ⟨b2, o2, e2, hb, hc, hl, hn⟩ := h j y hy
    injection e2 with e2
    injection e2 with e3 e4
    subst e3 e4
    refine ⟨b, off, rfl, hb, fun q u hq => (World.cell?_setCell_other _ _ _ _ (fun e => ?_)).trans (hc q u hq), hl, hpay _ _ hn⟩
    have hq4 : q < 4 := (Array.getElem?_eq_some_iff.1 hq).1
    simp only [Addr.mk.injEq] at e
    omega
theorem ScTo.belowB {w w' : World} {b lo B p p0 : Nat} {v v' : Value} {now n0 : List Int} (h : ScTo w w' b lo v v' p now) (h0 : ScanAt w b lo v p0 n0) (hb : B ≤ b) (hlo : B ≤ lo) (hB : B ≤ w.heap.size) : Below B w w' :=
  h.off.below (fun k hk => by
    rcases hk with hk | hk
    · omega
    · have := (h0.own.lt k hk).1; omega) hB
theorem nums_data {w : World} {B b : Nat} {own : Option Nat} {a : Option Addr} {zs : List Int} (h : Nums .u8 w B a zs) (hB : B ≤ w.heap.size) (hb : B ≤ b) (ho : ∀ g, own = some g → B ≤ g) : NumsS .u8 w (fun k => k < w.heap.size ∧ k ≠ b ∧ own ≠ some k) a zs :=
  h.numsS fun k hk => ⟨by omega, by omega, fun e => by have := ho k e; omega⟩
set_option maxHeartbeats 8000000 in
theorem resets_go (a1 a2 : Option Addr) (n1 m1 c1 n2 m2 c2 : Nat) (es fs : List Int) (w : World) (hn1 : es.length = n1) (hc1 : n1 ≤ c1) (hz1 : Bytes es) (h1 : Nums .u8 w w.heap.size a1 es)
    (hn2 : fs.length = n2) (hc2 : n2 ≤ c2) (hz2 : Bytes fs) (h2 : Nums .u8 w w.heap.size a2 fs)
    (hm1 : min (n1 : Int) 300 = (m1 : Int)) (hmn1 : m1 ≤ n1) (hm31 : m1 ≤ 300) (hm2 : min (n2 : Int) 300 = (m2 : Int)) (hmn2 : m2 ≤ n2) (hm32 : m2 ≤ 300) :
    Calls Try.prog 6 #[.slice a1 n1 c1, .slice a2 n2 c2] w fun e w' => e = .returned (.bool true) ∧ Below w.heap.size w w' := by
  have hmc1 : (m1 : Int) ≤ (c1 : Int) := by omega
  have hmc2 : (m2 : Int) ≤ (c2 : Int) := by omega
  have hl1 : (es.take m1).length = m1 := by rw [List.length_take]; omega
  have hl2 : (fs.take m2).length = m2 := by rw [List.length_take]; omega
  have hzb1 := hz1.take m1
  have hzb2 := hz2.take m2
  have hnum1 := h1.take m1
  have hnum2 := h2.take m2
  generalize es.take m1 = xs at *
  generalize fs.take m2 = ys at *
  clear hz1 hz2 h1 h2 hn1 hn2
  have HZ1 := Lib.hid hzb1
  have HZ2 := Lib.hid hzb2
  have HL1 := Lib.hid hl1
  have HL2 := Lib.hid hl2
  have HN1 := Lib.hid hnum1
  have HN2 := Lib.hid hnum2
  clear hzb1 hzb2 hl1 hl2 hnum1 hnum2
  go_enter Try.func6, Try.ntmps6
  go_wp2
  go_quiet (fail)
  have hbd : Below w.heap.size w (w.drewN nq) := below_drewN (Below.refl _ _) nq
  generalize w.drewN nq = wd at *
  have hsd := hbd.size
  have HBd := Lib.hid hbd
  clear hbd
  go_wp2_with fail
  refine (snew_any wd).mono ?_
  rintro e w1 ⟨rfl, hat1, hb1, hs1⟩
  go_wp2_with fail
  refine (snew_any w1).mono ?_
  rintro e w2 ⟨rfl, hat2, hb2, hs2⟩
  have hb02 := HBd.out.trans ((hb1.trans (hb2.mono (by omega))).mono hsd)
  have A1 : ScanAt w2 wd.heap.size w2.heap.size (.slice none 0 0) 0 [] := ⟨(hat1.below hb2).blk, World.ownsRow_nil _ _ _ _⟩
  have A2 : ScanAt w2 (wd.heap.size + 1) w2.heap.size (.slice none 0 0) 0 [] := ⟨by rw [← hs1]; exact hat2.blk, World.ownsRow_nil _ _ _ _⟩
  have F1 := feed_any A1 (Nat.le_refl _) a1 m1 c1 xs HL1.out (by omega) (by omega) HZ1.out (by simp) (by omega) (nums_data (HN1.out.below hb02) (by omega) (by omega) (fun g hg => by cases hg))
  have HB02 := Lib.hid hb02
  have HA1 := Lib.hid A1
  have HA2 := Lib.hid A2
  clear hat1 hat2 hb1 hb2 hb02 A1 A2
  go_wp2_with fail
  refine F1.mono ?_
  rintro e w3 ⟨_, _, _, v1, rfl, _, _, hto, _, _⟩
  have hb23 := hto.belowB HA1.out (B := w.heap.size) (by omega) (by omega) (by omega)
  have hs23 := hto.off.size
  have B2 : ScanAt w3 (wd.heap.size + 1) w2.heap.size (.slice none 0 0) 0 [] := HA2.out.off hto.off (fun e => by rcases e with e | e; omega; cases e) (fun g hg => by cases hg)
  have R := reset_any hto.at'
  have HB03 := Lib.hid (HB02.out.trans hb23)
  have HB2 := Lib.hid B2
  clear F1 hto hb23 B2 HA1 HA2 HB02
  go_wp2_with fail
  refine R.mono ?_
  rintro e w4 ⟨⟨x, rfl⟩, hat4, ho4, hs4⟩
  have HB04 := Lib.hid (HB03.out.trans (ho4.below (B := w.heap.size) (fun k hk => by omega) (by omega)))
  have C1 : ScanAt w4 wd.heap.size w4.heap.size (.slice none 0 0) (0 + m1) [] := ⟨hat4.blk, World.ownsRow_nil _ _ _ _⟩
  have C2 : ScanAt w4 (wd.heap.size + 1) w2.heap.size (.slice none 0 0) 0 [] := HB2.out.off ho4 (by omega) (fun g hg => by cases hg)
  have HC1 := Lib.hid C1
  have HC2 := Lib.hid C2
  have T1 := held_any C1
  have T2 := sopen_any C1
  have T3 := fed_any C1
  rw [show (((held []).length : Nat) : Int) = 0 from rfl] at T1
  rw [show decide (([] : List Int) ≠ []) = false from rfl] at T2
  rw [show ((0 + m1 : Nat) : Int) = (m1 : Int) by omega] at T3
  clear R hat4 ho4 C1 C2 HB2 HB03
  go_wp2_with (first
    | (go_at_call 14; refine T1.mono ?_; rintro e wq ⟨rfl, hq⟩; rw [hq]; clear hq)
    | (go_at_call 16; refine T2.mono ?_; rintro e wq ⟨rfl, hq⟩; rw [hq]; clear hq)
    | (go_at_call 15; refine T3.mono ?_; rintro e wq ⟨rfl, hq⟩; rw [hq]; clear hq))
  clear T1 T2 T3
  have F2 := feed_any HC1.out (Nat.le_refl _) a2 m2 c2 ys HL2.out (by omega) (by omega) HZ2.out (by simp) (by omega) (nums_data (HN2.out.below HB04.out) (by omega) (by omega) (fun g hg => by cases hg))
  refine F2.mono ?_
  rintro e w5 ⟨Ax, cx, X, v5, rfl, hcx, hX, hto5, hsx, _⟩
  have hb45 := hto5.belowB HC1.out (B := w.heap.size) (by omega) (by omega) (by omega)
  have hs5 := hto5.off.size
  have D2 : ScanAt w5 (wd.heap.size + 1) w5.heap.size (.slice none 0 0) 0 [] := ⟨(hto5.off.block (wd.heap.size + 1) (by omega) (fun e => by rcases e with e | e; omega; cases e)).trans HC2.out.blk, World.ownsRow_nil _ _ _ _⟩
  have HB05 := Lib.hid (HB04.out.trans hb45)
  have HD2 := Lib.hid D2
  have HSX := Lib.hid hsx
  have HX := Lib.hid hX
  clear F2 hto5 hb45 D2 HC1 HC2 hsx hX HB04
  go_wp2_with fail
  have F3 := feed_any HD2.out (Nat.le_refl _) a2 m2 c2 ys HL2.out (by omega) (by omega) HZ2.out (by simp) (by omega) (nums_data (HN2.out.below HB05.out) (by omega) (by omega) (fun g hg => by cases hg))
  refine F3.mono ?_
  rintro e w6 ⟨Ay, cy, Y, v6, rfl, hcy, hY, hto6, hsy, hrow⟩
  have hb56 := hto6.belowB HD2.out (B := w.heap.size) (by omega) (by omega) (by omega)
  have hs6 := hto6.off.size
  have hkx : KeepS (Told wd.heap.size (FQ w4.heap.size w4.heap.size none) v5.ownBlock w5) w5 w6 := ⟨hs6, fun k hk => hto6.off.block k hk.2.1 (fun e => by
    rcases e with e | e
    · have := hk.1.1; omega
    · cases e)⟩
  have hsx6 := HSX.out.keeps hkx
  have hlen : X.length = Y.length := by
    have e1 := congrArg List.length HX.out
    have e2 := congrArg List.length hY
    rw [scan_shift m1 ys 0 [] (by simp), List.length_map, List.length_map] at e1
    rw [List.length_map] at e2
    omega
  obtain ⟨N, hN⟩ : ∃ N, Y.length = N := ⟨_, rfl⟩
  have hNl : N ≤ 300 := by
    have e2 := congrArg List.length hY
    have := Fc.scan_length ys 0 []
    rw [List.length_map] at e2
    have := HL2.out
    omega
  have HXY : Hid (X.map Sg.pb = Y.map (fun y => (y.p + m1, y.b))) := by
    show _ = _
    rw [HX.out, scan_shift m1 ys 0 [] (by simp), ← hY, List.map_map]
    rfl
  have hbY : ∀ y ∈ Y, y.p ≤ 1000 := fun y hy => by
    have hm : y.pb ∈ Fc.scan 0 [] ys := by rw [← hY]; exact List.mem_map_of_mem hy
    have := Fc.scan_place ys 0 [] (by simp) _ hm
    have h3 := HL2.out
    have h4 : y.pb.1 = y.p := rfl
    omega
  have hbX : ∀ x ∈ X, Bytes x.b := fun x hx => by
    have hm : x.pb ∈ Fc.scan (0 + m1) [] ys := by rw [← HX.out]; exact List.mem_map_of_mem hx
    exact Fc.scan_isBytes ys (0 + m1) [] (fun c hc => by cases hc) HZ2.out _ hm
  rw [hlen, hN] at hcx
  rw [hN] at hcy
  rw [hlen, hN]
  have HB06 := Lib.hid (HB05.out.trans hb56)
  have HSX6 := Lib.hid hsx6
  have HSY := Lib.hid hsy
  have HROW := Lib.hid hrow
  have HNN := Lib.hid hN
  have HLE := Lib.hid hlen
  have HBY := Lib.hid hbY
  have HBX := Lib.hid hbX
  have HY := Lib.hid hY
  clear F3 hto6 hb56 hkx hsx6 hlen hN hbY hbX HX hsy hrow HD2 HSX HB05 hY
  have hcx' : (N : Int) ≤ (cx : Int) := by omega
  have hcy' : (N : Int) ≤ (cy : Int) := by omega
  go_wp2
  go_loopw [9] (fun v wr => ∃ (k : Nat) (Z : List Sg), k ≤ N ∧ v = .int .i64 (k : Int) ∧ Z.length = N ∧ Hid (SgsAt wr (Told (wd.heap.size + 1) (FQ w5.heap.size w5.heap.size none) v6.ownBlock w6) Ay Z) ∧ Hid (∀ (j : Nat) (y : Sg), Y[j]? = some y → Z[j]? = some (if j < k then ⟨y.a, y.cp, y.p + m1, y.b⟩ else y)) ∧ Hid (Off (fun g => w5.heap.size ≤ g) w6 wr) ∧ Hid (SgRow wr Ay))
    (fun v _ => N - (intOf v).toNat)
  case atStart => exact ⟨0, Y, by omega, rfl, HNN.out, HSY.out, fun j y hy => by rw [if_neg (by omega)]; exact hy, Off.refl _ _, HROW.out⟩
  case round =>
    obtain ⟨k, Z, hk, rfl, hZl, HZs, HZe, HOf, HRW⟩ := hrel
    by_cases hlt : k < N
    · obtain ⟨y, hy⟩ : ∃ y, Y[k]? = some y := ⟨_, List.getElem?_eq_getElem (by rw [HNN.out]; exact hlt)⟩
      have hzk : Z[k]? = some y := by rw [HZe.out k y hy, if_neg (by omega)]
      have hyp := HBY.out y (List.mem_of_getElem? hy)
      obtain ⟨b, o, rfl, hb, d0, d1, d2, d3, _, _⟩ := SgsAt.at HZs.out hzk
      have hZ2 := HZs.out.set (p := y.p + m1) hzk rfl
      obtain ⟨cs, hcs⟩ := HRW.out b o none rfl
      have hfz : wr.frozen? ⟨b, o + k * 4 + 3, none⟩ = false := by simp [World.frozen?, hcs]
      have hrw2 : SgRow (wr.setCell ⟨b, o + k * 4 + 3, none⟩ (.int .u64 ((y.p + m1 : Nat) : Int))) (some ⟨b, o, none⟩) := fun g o' s h => by
        injection h with h
        injection h with h1
        subst h1
        exact ⟨_, setCell_at hcs⟩
      have hof2 := HOf.out.setCell (p := ⟨b, o + k * 4 + 3, none⟩) hb.1.1 (.int .u64 ((y.p + m1 : Nat) : Int))
      rw [show ((y.p + m1 : Nat) : Int) = (y.p : Int) + (m1 : Int) by omega] at hZ2 hrw2 hof2
      have HE2 : Hid (∀ (j : Nat) (u : Sg), Y[j]? = some u → (Z.set k ⟨y.a, y.cp, y.p + m1, y.b⟩)[j]? = some (if j < k + 1 then ⟨u.a, u.cp, u.p + m1, u.b⟩ else u)) := fun j u hu => by
        by_cases hj : j = k
        · subst hj
          rw [hy] at hu
          injection hu with hu
          subst hu
          rw [List.getElem?_set_self (by omega), if_pos (by omega)]
        · rw [List.getElem?_set_ne (fun e => hj e.symm), HZe.out j u hu]
          by_cases h : j < k
          · rw [if_pos h, if_pos (by omega)]
          · rw [if_neg h, if_neg (by omega)]
      have HZ2 := Lib.hid hZ2
      have HR2 := Lib.hid hrw2
      have HO2 := Lib.hid hof2
      have hlt' : (k : Int) < (N : Int) := by omega
      have hyp' : (y.p : Int) ≤ 1000 := by omega
      have hm1' : (m1 : Int) ≤ 300 := by omega
      clear d0 d1 d2 hZ2 hrw2 hof2 hcs HRW HOf HZs HSY HROW
      go_wp2
      go_roundw
      case rel => exact ⟨k + 1, _, by omega, by go_num, by rw [List.length_set]; exact hZl, HZ2.out, HE2, HO2.out, HR2.out⟩
      case measure => simp [intOf]; omega
    · have hkn : k = N := by omega
      subst hkn
      have hZX : X.map Sg.pb = Z.map Sg.pb := by
        rw [HXY.out]
        refine List.ext_getElem? fun j => ?_
        rw [List.getElem?_map, List.getElem?_map]
        by_cases hj : j < k
        · obtain ⟨y, hy⟩ : ∃ y, Y[j]? = some y := ⟨_, List.getElem?_eq_getElem (by rw [HNN.out]; exact hj)⟩
          rw [HZe.out j y hy, hy, if_pos hj]; rfl
        · rw [List.getElem?_eq_none (by rw [HNN.out]; omega), List.getElem?_eq_none (by omega)]; rfl
      have hof := HOf.out
      have hsr := hof.size
      have hsx : SgsAt wr (Told wd.heap.size (FQ w4.heap.size w4.heap.size none) v5.ownBlock w5) Ax X :=
        HSX6.out.keeps ⟨hsr, fun g hg => hof.block g (by have := hg.2.1; omega) (fun e => by have := hg.2.1; omega)⟩
      have hb6 : Below w.heap.size w6 wr := hof.below (fun g hg => by omega) (by omega)
      have HB := Lib.hid (HB06.out.trans hb6)
      have hXl : X.length = k := HLE.out.trans HNN.out
      have hzs := HZs.out
      have KN := scknown_any wr
      have KS : ∀ wk, Below wr.heap.size wr wk → Calls Try.prog 12 #[.slice Ax k cx, .slice Ay k cy] wk fun e w' => e = .returned (.bool true) ∧ Below wk.heap.size wk w' := fun wk hk =>
        ssame_any wr.heap.size Ax Ay k cx cy _ _ X Z wk hXl hcx hcy (by omega) hZX HBX.out
          (hsx.keeps ⟨hk.size, fun g hg => hk.block g (by have := hg.2.1; omega)⟩) (hzs.keeps ⟨hk.size, fun g hg => hk.block g (by have := hg.2.1; omega)⟩) (fun g hg => by have := hg.2.1; omega) (fun g hg => by have := hg.2.1; omega) hk.size
      have HKS := Lib.hid KS
      have hsw := HB.out.size
      clear hsx hb6 hof hzs hZX KS HZs HZe HOf HRW HSX6 HSY HROW
      go_wp2_with fail
      refine KN.mono ?_
      rintro e wk ⟨rfl, hk⟩
      have hkS := HKS.out wk hk
      have HBk := Lib.hid (HB.out.trans (hk.mono hsw))
      have hsk := hk.size
      clear hk KN
      go_wp2_with fail
      refine hkS.mono ?_
      rintro e wf ⟨rfl, hf⟩
      have HBf := Lib.hid (HBk.out.trans (hf.mono (by omega)))
      clear hf hkS
      go_wp2
      go_ret
      exact ⟨rfl, HBf.out⟩
theorem walk_resets (a0 : Option Addr) (len0 cap0 : Nat) (z0 : List Int) (a1 : Option Addr) (len1 cap1 : Nat) (z1 : List Int) (w : World) (w0 : IsRow .u8 w a0 len0 cap0 z0) (w1 : IsRow .u8 w a1 len1 cap1 z1) :
    Calls Try.prog 6 #[.slice a0 len0 cap0, .slice a1 len1 cap1] w fun e w' => e = .returned (.bool true) ∧ Below w.heap.size w w' := by
  obtain ⟨e0, l0, q0, m0, k0, r0⟩ := w0.elems
  obtain ⟨e1, l1, q1, m1, k1, r1⟩ := w1.elems
  exact resets_go a0 a1 len0 (min len0 300) cap0 len1 (min len1 300) cap1 e0 e1 w l0 q0 (bytes_of r0) k0 l1 q1 (bytes_of r1) k1 (by omega) (by omega) (by omega) (by omega) (by omega) (by omega)
end Go.Proofs.Ytcfgemdpnbimoaa

namespace Go.Proofs.Ytcfgemdpnbimoaa.scanResets
open Go.ChangeShapes Go.WideShapes Go.ChangeAt Go.RowKit
open Go.ChangeMaps (open_string shut_string)
set_option linter.unusedVariables false

theorem own : ownKnob Try.prog.godebug = none := by kernel_rfl
theorem laidOut : laidOutB Try.prog = true := by kernel_rfl

theorem walk (a0 : Option Addr) (len0 cap0 : Nat) (z0 : List Int) (a1 : Option Addr) (len1 cap1 : Nat) (z1 : List Int) (w : World) (w0 : IsRow .u8 w a0 len0 cap0 z0) (w1 : IsRow .u8 w a1 len1 cap1 z1) :
    Calls Try.prog 6 #[.slice a0 len0 cap0, .slice a1 len1 cap1] w fun e w' => e = .returned (.bool true) ∧ Below w.heap.size w w' := walk_resets a0 len0 cap0 z0 a1 len1 cap1 z1 w w0 w1

set_option maxRecDepth 100000 in
theorem lifted (os : Os) (started : os.Started) (H : Type) (enc : TypeId × Value → H) :
    ReturnsInHanded {} Try.checked os 6 .any (Rows.scanResetsSpec.pre6 enc Try.prog Try.f6 Rows.scanResetsRow.domain false) (Rows.scanResetsSpec.post enc Try.prog Try.f6 false true false false) := by
  refine returnsInHanded_of_change (C := Try.checked) own started (by kernel_rfl) Try.func6
    (ChangeSpec.witness6 (enc := enc) (C := Try.checked) false ⟨#[], #[.slice none 0 0, .slice none 0 0], []⟩ 8 (by kernel_rfl) (by kernel_rfl) (by kernel_rfl) (by kernel_rfl)) ?_
  intro W base args ds gs before hval0 hW hcnd _
  have hval : ∀ (j : Nat) t v, Try.f6.params[j]? = some t → args[j]? = some v → Value.okWide Try.prog W .any base t v := hval0
  have hW' := hW
  obtain ⟨p, q, hA0, hV, rfl, hfz, hnd⟩ := hW
  have hA : DataW.TrodAll enc Try.prog W 0 (fun _ => true) true Try.f6.params.toList args.toList ds p := hA0
  rw [Try.params6] at hA hval
  obtain ⟨v0, vs0, d0, ds0, p0, q0, hargs, rfl, rfl, h0, r0⟩ := trodAll_cons hA
  obtain ⟨v1, vs1, d1, ds1, p1, q1, rfl, rfl, rfl, h1, r1⟩ := trodAll_cons r0
  obtain ⟨rfl, rfl, rfl⟩ := trodAll_nil r1
  obtain rfl : args = #[v0, v1] := by cases args; simp_all
  obtain ⟨rfl, rfl⟩ := trodVars_none hV
  obtain ⟨a0, len0, cap0, rfl⟩ := okWide_slice Try.underlying25 (hval 0 25 v0 rfl rfl)
  have k0 := h0
  have lt0 : ∀ x ∈ p0, x.block < W.heap.size := by obtain ⟨m, hm⟩ := k0; exact DataW.trod_lt m _ _ _ hm
  obtain ⟨z0, w0⟩ : ∃ zs, IsRow .u8 W a0 len0 cap0 zs := by
    obtain ⟨fuel, hf⟩ := h0
    rcases open_ints Try.underlying25 Try.underlying5 (by kernel_rfl) hf with ⟨hcs, _⟩ | ⟨x, l, c, zs, hcs, _, hl, hm, hz, _, hcell, hwz⟩
    · simp [Value.cells] at hcs
      obtain ⟨rfl, rfl, rfl⟩ := hcs
      exact ⟨[], .inl ⟨rfl, rfl, rfl, rfl⟩⟩
    · simp [Value.cells] at hcs
      obtain ⟨rfl, rfl, rfl⟩ := hcs
      exact ⟨zs, .inr ⟨_, rfl, hl, hm, by simpa using hz, hcell, hwz⟩⟩
  obtain ⟨a1, len1, cap1, rfl⟩ := okWide_slice Try.underlying25 (hval 1 25 v1 rfl rfl)
  have k1 := h1
  have lt1 : ∀ x ∈ p1, x.block < W.heap.size := by obtain ⟨m, hm⟩ := k1; exact DataW.trod_lt m _ _ _ hm
  obtain ⟨z1, w1⟩ : ∃ zs, IsRow .u8 W a1 len1 cap1 zs := by
    obtain ⟨fuel, hf⟩ := h1
    rcases open_ints Try.underlying25 Try.underlying5 (by kernel_rfl) hf with ⟨hcs, _⟩ | ⟨x, l, c, zs, hcs, _, hl, hm, hz, _, hcell, hwz⟩
    · simp [Value.cells] at hcs
      obtain ⟨rfl, rfl, rfl⟩ := hcs
      exact ⟨[], .inl ⟨rfl, rfl, rfl, rfl⟩⟩
    · simp [Value.cells] at hcs
      obtain ⟨rfl, rfl, rfl⟩ := hcs
      exact ⟨zs, .inr ⟨_, rfl, hl, hm, by simpa using hz, hcell, hwz⟩⟩
  clear hA0 hval0
  refine (walk a0 len0 cap0 z0 a1 len1 cap1 z1 W w0 w1).mono fun e W' ⟨he, bel⟩ => ?_
  subst he
  exact ⟨_, rfl, _, _, _, [], _, [], hW', trodAll_mk1 (shut_bool Try.underlying4 _), (trodAll_cons_mk (Below.trod laidOut (by kernel_rfl) (of_decide_eq_true (by kernel_rfl)) k0 bel lt0) (trodAll_cons_mk (Below.trod laidOut (by kernel_rfl) (of_decide_eq_true (by kernel_rfl)) k1 bel lt1) trodAll_mk0)), rfl, bel.frame _, fun h => by cases h⟩

theorem over : Rows.scanResetsRow.holds Try.pinned (OpenSpec.ofChange Rows.scanResetsSpec) :=
  OpenClaim.holds_of_wide 6 Try.f6 rfl rfl rfl rfl rfl rfl rfl ⟨rfl, rfl, rfl, rfl, rfl⟩ rfl rfl rfl rfl rfl (by kernel_rfl) Try.func6 (by kernel_rfl)
    (of_decide_eq_true (by kernel_rfl)) (by unfold Func.isWrapper; first | (rw [if_pos (by decide +kernel)]; kernel_rfl) | (rw [if_neg (by decide +kernel)]; exact ⟨rfl, rfl⟩))
    (fun os started H enc _ => lifted os started H enc)

theorem proved : Rows.ScanResetsSaid := over
#print axioms proved
end Go.Proofs.Ytcfgemdpnbimoaa.scanResets
