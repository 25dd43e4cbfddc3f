/-
  The law ScanChunks (in whatever parts, the segments are those of all at once) returns true for every input, under no condition of ours.
-/
import Derived.Test.YtcfgemdpnbimoaaRows
import Derived.Below
import Derived.WalkKit
import Derived.ProofKit
import Derived.OpenShut
import Derived.ShutString
import Derived.ChangeOld
import Derived.Test.YtcfgemdpnbimoaaMB3
namespace Go.Proofs.Ytcfgemdpnbimoaa
open Go.RowKit Go.Shelf
set_option maxRecDepth 100000
attribute [local go_sem] Oper.semAt_some

theorem scan_shift (q : Nat) : ∀ (L : List Int) (p : Nat) (now : List Int), now.length ≤ p → Fc.scan (p + q) now L = (Fc.scan p now L).map (fun x => (x.1 + q, x.2))
  | [], p, now, _ => by simp [Fc.scan]
  | z :: r, p, now, h => by
    by_cases hz : z = 0
    · subst hz
      rw [Fc.scan_zero, Fc.scan_zero, List.map_append, ← scan_shift q r (p + 1) [] (by simp), show p + q + 1 = p + 1 + q by omega]
      congr 1
      split
      · rfl
      · simp; omega
    · rw [Fc.scan_ne hz, Fc.scan_ne hz, ← scan_shift q r (p + 1) (now ++ [z]) (by simp; omega), show p + q + 1 = p + 1 + q by omega]
/-- a segment's place is set -/
theorem SgsAt.set {w : World} {S : Nat → Prop} {A : Option Addr} {xs : List Sg} {k b off p : Nat} {x : Sg} (h : SgsAt w S A xs) (hx : xs[k]? = some x) (hA : A = some ⟨b, off, none⟩) :
    SgsAt (w.setCell ⟨b, off + k * 4 + 3, none⟩ (.int .u64 (p : Int))) S A (xs.set k ⟨x.a, x.cp, p, x.b⟩) := fun j y hy => by
  subst hA
  obtain ⟨b', o', e', _, _, _, _, d3, _, _⟩ := SgsAt.at h hx
  injection e' with e'
  injection e' with e1 e2
  subst e1 e2
  have hpay : ∀ a zs, NumsS .u8 w S a zs → NumsS .u8 (w.setCell ⟨b, off + k * 4 + 3, none⟩ (.int .u64 (p : Int))) S a zs := fun a zs hn h0 => by
    obtain ⟨g, o, e, hg, hc⟩ := hn h0
    refine ⟨g, o, e, hg, fun i z hi => (World.cell?_setCell_other _ _ _ _ (fun e2 => ?_)).trans (hc i z hi)⟩
    have h3 := hc i z hi
    rw [← e2, d3] at h3
    simp at h3
  have hlt := (List.getElem?_eq_some_iff.1 hx).1
  by_cases hj : j = k
  · subst hj
    rw [List.getElem?_set_self hlt] at hy
    injection hy with hy
    subst hy
    obtain ⟨b2, o2, e2, hb, hc, hl, hn⟩ := h j x hx
    injection e2 with e2
    injection e2 with e3 e4
    subst e3 e4
    refine ⟨b, off, rfl, hb, fun q u hq => ?_, hl, hpay _ _ hn⟩
    by_cases h3 : q = 3
    · subst h3
      obtain rfl : (Value.int .u64 (p : Int)) = u := by simpa [Sg.cs] using hq
      exact World.cell?_setCell_same _ _ _ d3
    · refine (World.cell?_setCell_other _ _ _ _ (fun e => by simp only [Addr.mk.injEq] at e; omega)).trans (hc q u ?_)
      have hq4 : q < 4 := (Array.getElem?_eq_some_iff.1 hq).1
      rcases q with _ | _ | _ | _ | q
      · exact hq
      · exact hq
      · exact hq
      · exact absurd rfl h3
      · omega
  · rw [List.getElem?_set_ne (fun e => hj e.symm)] at hy
    obtain ⟨b2, o2, e2, hb, hc, hl, hn⟩ := h j y hy
    injection e2 with e2
    injection e2 with e3 e4
    subst e3 e4
    refine ⟨b, off, rfl, hb, fun q u hq => (World.cell?_setCell_other _ _ _ _ (fun e => ?_)).trans (hc q u hq), hl, hpay _ _ hn⟩
    have hq4 : q < 4 := (Array.getElem?_eq_some_iff.1 hq).1
    simp only [Addr.mk.injEq] at e
    omega
theorem ScTo.belowB {w w' : World} {b lo B p p0 : Nat} {v v' : Value} {now n0 : List Int} (h : ScTo w w' b lo v v' p now) (h0 : ScanAt w b lo v p0 n0) (hb : B ≤ b) (hlo : B ≤ lo) (hB : B ≤ w.heap.size) : Below B w w' :=
  h.off.below (fun k hk => by
    rcases hk with hk | hk
    · omega
    · have := (h0.own.lt k hk).1; omega) hB
theorem nums_data {w : World} {B b : Nat} {own : Option Nat} {a : Option Addr} {zs : List Int} (h : Nums .u8 w B a zs) (hB : B ≤ w.heap.size) (hb : B ≤ b) (ho : ∀ g, own = some g → B ≤ g) : NumsS .u8 w (fun k => k < w.heap.size ∧ k ≠ b ∧ own ≠ some k) a zs :=
  h.numsS fun k hk => ⟨by omega, by omega, fun e => by have := ho k e; omega⟩
set_option maxHeartbeats 8000000 in
theorem resets_go (a1 a2 : Option Addr) (n1 m1 c1 n2 m2 c2 : Nat) (es fs : List Int) (w : World) (hn1 : es.length = n1) (hc1 : n1 ≤ c1) (hz1 : Bytes es) (h1 : Nums .u8 w w.heap.size a1 es)
    (hn2 : fs.length = n2) (hc2 : n2 ≤ c2) (hz2 : Bytes fs) (h2 : Nums .u8 w w.heap.size a2 fs)
    (hm1 : min (n1 : Int) 300 = (m1 : Int)) (hmn1 : m1 ≤ n1) (hm31 : m1 ≤ 300) (hm2 : min (n2 : Int) 300 = (m2 : Int)) (hmn2 : m2 ≤ n2) (hm32 : m2 ≤ 300) :
    Calls Try.prog 6 #[.slice a1 n1 c1, .slice a2 n2 c2] w fun e w' => e = .returned (.bool true) ∧ Below w.heap.size w w' := by
  have hmc1 : (m1 : Int) ≤ (c1 : Int) := by omega
  have hmc2 : (m2 : Int) ≤ (c2 : Int) := by omega
  have hl1 : (es.take m1).length = m1 := by rw [List.length_take]; omega
  have hl2 : (fs.take m2).length = m2 := by rw [List.length_take]; omega
  have hzb1 := hz1.take m1
  have hzb2 := hz2.take m2
  have hnum1 := h1.take m1
  have hnum2 := h2.take m2
  generalize es.take m1 = xs at *
  generalize fs.take m2 = ys at *
  clear hz1 hz2 h1 h2 hn1 hn2
  have HZ1 := Lib.hid hzb1
  have HZ2 := Lib.hid hzb2
  have HL1 := Lib.hid hl1
  have HL2 := Lib.hid hl2
  have HN1 := Lib.hid hnum1
  have HN2 := Lib.hid hnum2
  clear hzb1 hzb2 hl1 hl2 hnum1 hnum2
  go_enter Try.func6, Try.ntmps6
  go_wp2
  go_quiet (fail)
  have hbd : Below w.heap.size w (w.drewN nq) := below_drewN (Below.refl _ _) nq
  generalize w.drewN nq = wd at *
  have hsd := hbd.size
  have HBd := Lib.hid hbd
  clear hbd
  go_wp2_with fail
  refine (snew_any wd).mono ?_
  rintro e w1 ⟨rfl, hat1, hb1, hs1⟩
  go_wp2_with fail
  refine (snew_any w1).mono ?_
  rintro e w2 ⟨rfl, hat2, hb2, hs2⟩
  have hb02 := HBd.out.trans ((hb1.trans (hb2.mono (by omega))).mono hsd)
  have A1 : ScanAt w2 wd.heap.size w2.heap.size (.slice none 0 0) 0 [] := ⟨(hat1.below hb2).blk, World.ownsRow_nil _ _ _ _⟩
  have A2 : ScanAt w2 (wd.heap.size + 1) w2.heap.size (.slice none 0 0) 0 [] := ⟨by rw [← hs1]; exact hat2.blk, World.ownsRow_nil _ _ _ _⟩
  have F1 := feed_any A1 (Nat.le_refl _) a1 m1 c1 xs HL1.out (by omega) (by omega) HZ1.out (by simp) (by omega) (nums_data (HN1.out.below hb02) (by omega) (by omega) (fun g hg => by cases hg))
  have HB02 := Lib.hid hb02
  have HA1 := Lib.hid A1
  have HA2 := Lib.hid A2
  clear hat1 hat2 hb1 hb2 hb02 A1 A2
  go_wp2_with fail
  refine F1.mono ?_
  rintro e w3 ⟨_, _, _, v1, rfl, _, _, hto, _, _⟩
  have hb23 := hto.belowB HA1.out (B := w.heap.size) (by omega) (by omega) (by omega)
  have hs23 := hto.off.size
  have B2 : ScanAt w3 (wd.heap.size + 1) w2.heap.size (.slice none 0 0) 0 [] := HA2.out.off hto.off (fun e => by rcases e with e | e; omega; cases e) (fun g hg => by cases hg)
  have R := reset_any hto.at'
  have HB03 := Lib.hid (HB02.out.trans hb23)
  have HB2 := Lib.hid B2
  clear F1 hto hb23 B2 HA1 HA2 HB02
  go_wp2_with fail
  refine R.mono ?_
  rintro e w4 ⟨⟨x, rfl⟩, hat4, ho4, hs4⟩
  have HB04 := Lib.hid (HB03.out.trans (ho4.below (B := w.heap.size) (fun k hk => by omega) (by omega)))
  have C1 : ScanAt w4 wd.heap.size w4.heap.size (.slice none 0 0) (0 + m1) [] := ⟨hat4.blk, World.ownsRow_nil _ _ _ _⟩
  have C2 : ScanAt w4 (wd.heap.size + 1) w2.heap.size (.slice none 0 0) 0 [] := HB2.out.off ho4 (by omega) (fun g hg => by cases hg)
  have HC1 := Lib.hid C1
  have HC2 := Lib.hid C2
  have T1 := held_any C1
  have T2 := sopen_any C1
  have T3 := fed_any C1
  rw [show (((held []).length : Nat) : Int) = 0 from rfl] at T1
  rw [show decide (([] : List Int) ≠ []) = false from rfl] at T2
  rw [show ((0 + m1 : Nat) : Int) = (m1 : Int) by omega] at T3
  clear R hat4 ho4 C1 C2 HB2 HB03
  go_wp2_with (first
    | (go_at_call 14; refine T1.mono ?_; rintro e wq ⟨rfl, hq⟩; rw [hq]; clear hq)
    | (go_at_call 16; refine T2.mono ?_; rintro e wq ⟨rfl, hq⟩; rw [hq]; clear hq)
    | (go_at_call 15; refine T3.mono ?_; rintro e wq ⟨rfl, hq⟩; rw [hq]; clear hq))
  clear T1 T2 T3
  have F2 := feed_any HC1.out (Nat.le_refl _) a2 m2 c2 ys HL2.out (by omega) (by omega) HZ2.out (by simp) (by omega) (nums_data (HN2.out.below HB04.out) (by omega) (by omega) (fun g hg => by cases hg))
  refine F2.mono ?_
  rintro e w5 ⟨Ax, cx, X, v5, rfl, hcx, hX, hto5, hsx, _⟩
  have hb45 := hto5.belowB HC1.out (B := w.heap.size) (by omega) (by omega) (by omega)
  have hs5 := hto5.off.size
  have D2 : ScanAt w5 (wd.heap.size + 1) w5.heap.size (.slice none 0 0) 0 [] := ⟨(hto5.off.block (wd.heap.size + 1) (by omega) (fun e => by rcases e with e | e; omega; cases e)).trans HC2.out.blk, World.ownsRow_nil _ _ _ _⟩
  have HB05 := Lib.hid (HB04.out.trans hb45)
  have HD2 := Lib.hid D2
  have HSX := Lib.hid hsx
  have HX := Lib.hid hX
  clear F2 hto5 hb45 D2 HC1 HC2 hsx hX HB04
  go_wp2_with fail
  have F3 := feed_any HD2.out (Nat.le_refl _) a2 m2 c2 ys HL2.out (by omega) (by omega) HZ2.out (by simp) (by omega) (nums_data (HN2.out.below HB05.out) (by omega) (by omega) (fun g hg => by cases hg))
  refine F3.mono ?_
  rintro e w6 ⟨Ay, cy, Y, v6, rfl, hcy, hY, hto6, hsy, hrow⟩
  have hb56 := hto6.belowB HD2.out (B := w.heap.size) (by omega) (by omega) (by omega)
  have hs6 := hto6.off.size
  have hkx : KeepS (Told wd.heap.size (FQ w4.heap.size w4.heap.size none) v5.ownBlock w5) w5 w6 := ⟨hs6, fun k hk => hto6.off.block k hk.2.1 (fun e => by
    rcases e with e | e
    · have := hk.1.1; omega
    · cases e)⟩
  have hsx6 := HSX.out.keeps hkx
  have hlen : X.length = Y.length := by
    have e1 := congrArg List.length HX.out
    have e2 := congrArg List.length hY
    rw [scan_shift m1 ys 0 [] (by simp), List.length_map, List.length_map] at e1
    rw [List.length_map] at e2
    omega
  obtain ⟨N, hN⟩ : ∃ N, Y.length = N := ⟨_, rfl⟩
  have hNl : N ≤ 300 := by
    have e2 := congrArg List.length hY
    have := Fc.scan_length ys 0 []
    rw [List.length_map] at e2
    have := HL2.out
    omega
  have HXY : Hid (X.map Sg.pb = Y.map (fun y => (y.p + m1, y.b))) := by
    show _ = _
    rw [HX.out, scan_shift m1 ys 0 [] (by simp), ← hY, List.map_map]
    rfl
  have hbY : ∀ y ∈ Y, y.p ≤ 1000 := fun y hy => by
    have hm : y.pb ∈ Fc.scan 0 [] ys := by rw [← hY]; exact List.mem_map_of_mem hy
    have := Fc.scan_place ys 0 [] (by simp) _ hm
    have h3 := HL2.out
    have h4 : y.pb.1 = y.p := rfl
    omega
  have hbX : ∀ x ∈ X, Bytes x.b := fun x hx => by
    have hm : x.pb ∈ Fc.scan (0 + m1) [] ys := by rw [← HX.out]; exact List.mem_map_of_mem hx
    exact Fc.scan_isBytes ys (0 + m1) [] (fun c hc => by cases hc) HZ2.out _ hm
  rw [hlen, hN] at hcx
  rw [hN] at hcy
  rw [hlen, hN]
  have HB06 := Lib.hid (HB05.out.trans hb56)
  have HSX6 := Lib.hid hsx6
  have HSY := Lib.hid hsy
  have HROW := Lib.hid hrow
  have HNN := Lib.hid hN
  have HLE := Lib.hid hlen
  have HBY := Lib.hid hbY
  have HBX := Lib.hid hbX
  have HY := Lib.hid hY
  clear F3 hto6 hb56 hkx hsx6 hlen hN hbY hbX HX hsy hrow HD2 HSX HB05 hY
  have hcx' : (N : Int) ≤ (cx : Int) := by omega
  have hcy' : (N : Int) ≤ (cy : Int) := by omega
  go_wp2
  go_loopw [9] (fun v wr => ∃ (k : Nat) (Z : List Sg), k ≤ N ∧ v = .int .i64 (k : Int) ∧ Z.length = N ∧ Hid (SgsAt wr (Told (wd.heap.size + 1) (FQ w5.heap.size w5.heap.size none) v6.ownBlock w6) Ay Z) ∧ Hid (∀ (j : Nat) (y : Sg), Y[j]? = some y → Z[j]? = some (if j < k then ⟨y.a, y.cp, y.p + m1, y.b⟩ else y)) ∧ Hid (Off (fun g => w5.heap.size ≤ g) w6 wr) ∧ Hid (SgRow wr Ay))
    (fun v _ => N - (intOf v).toNat)
  case atStart => exact ⟨0, Y, by omega, rfl, HNN.out, HSY.out, fun j y hy => by rw [if_neg (by omega)]; exact hy, Off.refl _ _, HROW.out⟩
  case round =>
    obtain ⟨k, Z, hk, rfl, hZl, HZs, HZe, HOf, HRW⟩ := hrel
    by_cases hlt : k < N
    · obtain ⟨y, hy⟩ : ∃ y, Y[k]? = some y := ⟨_, List.getElem?_eq_getElem (by rw [HNN.out]; exact hlt)⟩
      have hzk : Z[k]? = some y := by rw [HZe.out k y hy, if_neg (by omega)]
      have hyp := HBY.out y (List.mem_of_getElem? hy)
      obtain ⟨b, o, rfl, hb, d0, d1, d2, d3, _, _⟩ := SgsAt.at HZs.out hzk
      have hZ2 := HZs.out.set (p := y.p + m1) hzk rfl
      obtain ⟨cs, hcs⟩ := HRW.out b o none rfl
      have hfz : wr.frozen? ⟨b, o + k * 4 + 3, none⟩ = false := by simp [World.frozen?, hcs]
      have hrw2 : SgRow (wr.setCell ⟨b, o + k * 4 + 3, none⟩ (.int .u64 ((y.p + m1 : Nat) : Int))) (some ⟨b, o, none⟩) := fun g o' s h => by
        injection h with h
        injection h with h1
        subst h1
        exact ⟨_, setCell_at hcs⟩
      have hof2 := HOf.out.setCell (p := ⟨b, o + k * 4 + 3, none⟩) hb.1.1 (.int .u64 ((y.p + m1 : Nat) : Int))
      rw [show ((y.p + m1 : Nat) : Int) = (y.p : Int) + (m1 : Int) by omega] at hZ2 hrw2 hof2
      have HE2 : Hid (∀ (j : Nat) (u : Sg), Y[j]? = some u → (Z.set k ⟨y.a, y.cp, y.p + m1, y.b⟩)[j]? = some (if j < k + 1 then ⟨u.a, u.cp, u.p + m1, u.b⟩ else u)) := fun j u hu => by
        by_cases hj : j = k
        · subst hj
          rw [hy] at hu
          injection hu with hu
          subst hu
          rw [List.getElem?_set_self (by omega), if_pos (by omega)]
        · rw [List.getElem?_set_ne (fun e => hj e.symm), HZe.out j u hu]
          by_cases h : j < k
          · rw [if_pos h, if_pos (by omega)]
          · rw [if_neg h, if_neg (by omega)]
      have HZ2 := Lib.hid hZ2
      have HR2 := Lib.hid hrw2
      have HO2 := Lib.hid hof2
      have hlt' : (k : Int) < (N : Int) := by omega
      have hyp' : (y.p : Int) ≤ 1000 := by omega
      have hm1' : (m1 : Int) ≤ 300 := by omega
      clear d0 d1 d2 hZ2 hrw2 hof2 hcs HRW HOf HZs HSY HROW
      go_wp2
      go_roundw
      case rel => exact ⟨k + 1, _, by omega, by go_num, by rw [List.length_set]; exact hZl, HZ2.out, HE2, HO2.out, HR2.out⟩
      case measure => simp [intOf]; omega
    · have hkn : k = N := by omega
      subst hkn
      have hZX : X.map Sg.pb = Z.map Sg.pb := by
        rw [HXY.out]
        refine List.ext_getElem? fun j => ?_
        rw [List.getElem?_map, List.getElem?_map]
        by_cases hj : j < k
        · obtain ⟨y, hy⟩ : ∃ y, Y[j]? = some y := ⟨_, List.getElem?_eq_getElem (by rw [HNN.out]; exact hj)⟩
          rw [HZe.out j y hy, hy, if_pos hj]; rfl
        · rw [List.getElem?_eq_none (by rw [HNN.out]; omega), List.getElem?_eq_none (by omega)]; rfl
      have hof := HOf.out
      have hsr := hof.size
      have hsx : SgsAt wr (Told wd.heap.size (FQ w4.heap.size w4.heap.size none) v5.ownBlock w5) Ax X :=
        HSX6.out.keeps ⟨hsr, fun g hg => hof.block g (by have := hg.2.1; omega) (fun e => by have := hg.2.1; omega)⟩
      have hb6 : Below w.heap.size w6 wr := hof.below (fun g hg => by omega) (by omega)
      have HB := Lib.hid (HB06.out.trans hb6)
      have hXl : X.length = k := HLE.out.trans HNN.out
      have hzs := HZs.out
      have KN := scknown_any wr
      have KS : ∀ wk, Below wr.heap.size wr wk → Calls Try.prog 12 #[.slice Ax k cx, .slice Ay k cy] wk fun e w' => e = .returned (.bool true) ∧ Below wk.heap.size wk w' := fun wk hk =>
        ssame_any wr.heap.size Ax Ay k cx cy _ _ X Z wk hXl hcx hcy (by omega) hZX HBX.out
          (hsx.keeps ⟨hk.size, fun g hg => hk.block g (by have := hg.2.1; omega)⟩) (hzs.keeps ⟨hk.size, fun g hg => hk.block g (by have := hg.2.1; omega)⟩) (fun g hg => by have := hg.2.1; omega) (fun g hg => by have := hg.2.1; omega) hk.size
      have HKS := Lib.hid KS
      have hsw := HB.out.size
      clear hsx hb6 hof hzs hZX KS HZs HZe HOf HRW HSX6 HSY HROW
      go_wp2_with fail
      refine KN.mono ?_
      rintro e wk ⟨rfl, hk⟩
      have hkS := HKS.out wk hk
      have HBk := Lib.hid (HB.out.trans (hk.mono hsw))
      have hsk := hk.size
      clear hk KN
      go_wp2_with fail
      refine hkS.mono ?_
      rintro e wf ⟨rfl, hf⟩
      have HBf := Lib.hid (HBk.out.trans (hf.mono (by omega)))
      clear hf hkS
      go_wp2
      go_ret
      exact ⟨rfl, HBf.out⟩
theorem walk_resets (a0 : Option Addr) (len0 cap0 : Nat) (z0 : List Int) (a1 : Option Addr) (len1 cap1 : Nat) (z1 : List Int) (w : World) (w0 : IsRow .u8 w a0 len0 cap0 z0) (w1 : IsRow .u8 w a1 len1 cap1 z1) :
    Calls Try.prog 6 #[.slice a0 len0 cap0, .slice a1 len1 cap1] w fun e w' => e = .returned (.bool true) ∧ Below w.heap.size w w' := by
  obtain ⟨e0, l0, q0, m0, k0, r0⟩ := w0.elems
  obtain ⟨e1, l1, q1, m1, k1, r1⟩ := w1.elems
  exact resets_go a0 a1 len0 (min len0 300) cap0 len1 (min len1 300) cap1 e0 e1 w l0 q0 (bytes_of r0) k0 l1 q1 (bytes_of r1) k1 (by omega) (by omega) (by omega) (by omega) (by omega) (by omega)
end Go.Proofs.Ytcfgemdpnbimoaa

namespace Go.Proofs.Ytcfgemdpnbimoaa
open Go.RowKit Go.Shelf
set_option maxRecDepth 100000

theorem seg_parts : ∃ i, Try.prog.info? 44 = some i ∧ i.zero = some (.agg (sgC (.slice none 0 0) false 0 0)) ∧ i.size = 4 ∧ i.bytes = 48 := by
  have := segInfo
  revert this
  generalize Try.prog.info? 44 = oi
  intro h
  cases oi with
  | none => cases h
  | some i => injection h with h; injection h with h1 h2; injection h2 with h2 h3; exact ⟨i, rfl, h1, h2, h3⟩
theorem run_append_sgs {w : World} (base : Nat) (v : Value) (n : Nat) (xs : List Value) (hown : w.ownsRow base 44 4 v n xs) (A : Option Addr) (m c : Nat) (S : Nat → Prop) (ys : List Sg) (hm : ys.length = m) (hs : SgsAt w S A ys)
    (h63 : n + m ≤ 1000000000) (hbase : base ≤ w.heap.size) :
    ∃ v' w', (Builtin.append_ #[29, 29] 29 #[v, .slice A m c]).run Try.prog w = .ok v' w' ∧ w'.ownsRow base 44 4 v' (n + m) (xs ++ flatS ys) ∧ w.grownBy w' v.ownBlock ∧ (v'.ownBlock = v.ownBlock ∨ v'.ownBlock = some w.heap.size) := by
  obtain ⟨i, hi, hz0, hz1, hz2⟩ := seg_parts
  have ht := Try.underlying29
  subst hm
  by_cases hz : ys = []
  · subst hz
    obtain ⟨b, q, rfl, hle⟩ := own_slice_le hown
    refine ⟨_, _, run_append_nothing w 29 29 29 44 i ht hi b n q hle _ ?_, by simpa [flatS] using hown, ⟨rfl, rfl, rfl, Nat.le_refl _, fun _ _ _ => rfl⟩, .inl rfl⟩
    cases A with
    | none => exact ⟨.inl ⟨_, ht⟩, fun _ => rfl, run_firstCells_none w i.size 0 0 c, run_firstCells_none w.drew i.size 0 0 c, by simp, fun _ h => by cases h⟩
    | some ad => exact Src.ofSlice w ht ad 0 c [] (by simp) (by simp) (fun _ h => by cases h)
  · obtain ⟨y0, hy0⟩ : ∃ y, ys[0]? = some y := ⟨_, List.getElem?_eq_getElem (List.length_pos_iff.2 hz)⟩
    obtain ⟨b, off, rfl, _, _⟩ := hs 0 y0 hy0
    obtain ⟨v', w', h1, h2, h3, _, h5⟩ := run_append_own_at (P := Try.prog) (w := w) base 29 29 44 i (.agg (sgC (.slice none 0 0) false 0 0)) 4 48 ht hi hz0 hz1 hz2 rfl (by decide) v n xs hown ⟨b, off, none⟩ ys.length c (flatS ys) (flatS_len ys) (fun j u hj => by
      obtain ⟨x, hx, hu⟩ := flatS_of hj
      obtain ⟨b2, o2, e, _, hc, _⟩ := hs _ x hx
      injection e with e
      injection e with e1 e2
      subst e1 e2
      rw [Addr.add_lit]
      have := hc _ u hu
      rwa [show off + j / 4 * 4 + j % 4 = off + j by omega] at this) flatS_one (by unfold maxLen; omega) (by omega) hbase
    exact ⟨v', w', h1, h2, h3, h5⟩
/-- a scanner that was fed k bytes, another one; the list of what was told -/
structure Ch (B b1 b2 lo : Nat) (w : World) (zs : List Int) (k : Nat) (wr : World) (vl : Value) (X : List Sg) (u : Value) : Prop where
  row : wr.ownsRow lo 44 4 vl X.length (flatS X)
  told : X.map Sg.pb = Fc.scan 0 [] (zs.take k)
  pay : ∀ x ∈ X, (held x.b).length ≤ x.cp ∧ NumsS .u8 wr (fun g => lo ≤ g ∧ g < wr.heap.size ∧ u.ownBlock ≠ some g ∧ vl.ownBlock ≠ some g) x.a (held x.b)
  one : ScanAt wr b1 lo u k (Fc.opn [] (zs.take k))
  two : ScanAt wr b2 lo (.slice none 0 0) 0 []
  below : Below B w wr
theorem rows_apart {W : World} {lo e1 s1 n1 e2 s2 n2 : Nat} {v1 v2 : Value} {x1 x2 : List Value} (h1 : W.ownsRow lo e1 s1 v1 n1 x1) (h2 : W.ownsRow lo e2 s2 v2 n2 x2) (hne : e1 ≠ e2) : ∀ g, v1.ownBlock = some g → v2.ownBlock ≠ some g := fun g h e => by
  rcases h1.2 with ⟨rfl, _⟩ | ⟨g1, c1, u1, rfl, _, hh, _⟩
  · simp [Value.ownBlock] at h
  · rcases h2.2 with ⟨rfl, _⟩ | ⟨g2, c2, u2, rfl, _, hh2, _⟩
    · simp [Value.ownBlock] at e
    · simp only [Value.ownBlock, Option.some.injEq] at h e
      subst h e
      rw [hh] at hh2
      injection hh2 with hh2
      injection hh2 with _ ht
      exact hne ht
section
variable {B b1 b2 lo k n m' : Nat} {w wr w' w2 : World} {zs : List Int} {vl vl' u v : Value} {X Y : List Sg} {A : Option Addr}
/-- behind the Feed -/
theorem Ch.fed (h : Ch B b1 b2 lo w zs k wr vl X u) (hb1 : b1 < lo) (hb2 : b2 < lo) (hne : b1 ≠ b2) (hB1 : B ≤ b1) (hBl : B ≤ lo) (hlo : lo ≤ wr.heap.size) (hk : k ≤ zs.length)
    (hY : Y.map Sg.pb = Fc.scan k (Fc.opn [] (zs.take k)) ((zs.drop k).take n)) (hto : ScTo wr w' b1 lo u v (k + n) (Fc.opn (Fc.opn [] (zs.take k)) ((zs.drop k).take n))) (hs : SgsAt w' (Told b1 (FQ lo wr.heap.size u.ownBlock) v.ownBlock w') A Y) :
    w'.ownsRow lo 44 4 vl X.length (flatS X) ∧ (X ++ Y).map Sg.pb = Fc.scan 0 [] (zs.take (k + n)) ∧
    (∀ x ∈ X ++ Y, (held x.b).length ≤ x.cp ∧ NumsS .u8 w' (fun g => lo ≤ g ∧ g < w'.heap.size ∧ v.ownBlock ≠ some g ∧ vl.ownBlock ≠ some g) x.a (held x.b)) ∧
    ScanAt w' b1 lo v (k + n) (Fc.opn [] (zs.take (k + n))) ∧ ScanAt w' b2 lo (.slice none 0 0) 0 [] ∧ Below B w w' := by
  have hs0 := hto.off.size
  have hap : ∀ g, vl.ownBlock = some g → u.ownBlock ≠ some g := rows_apart h.row h.one.own (by decide)
  have hvl := h.row.lt
  have hul := h.one.own.lt
  have htk : zs.take (k + n) = zs.take k ++ (zs.drop k).take n := by rw [List.take_add]
  refine ⟨own_off h.row hto.off (fun g hg hS => ?_), ?_, fun x hx => ?_, ?_, h.two.off hto.off (fun e => ?_) (fun g hg => by cases hg), h.below.trans (hto.belowB h.one hB1 hBl (by omega))⟩
  · rcases hS with e | e
    · have := (hvl g hg).1; omega
    · exact hap g hg e
  · rw [List.map_append, h.told, hY, htk, Fc.scan_feed, List.length_take, Nat.zero_add, Nat.min_eq_left hk]
  · rcases List.mem_append.1 hx with hx | hx
    · obtain ⟨p1, p2⟩ := h.pay x hx
      refine ⟨p1, (p2.keeps ⟨hs0, fun g hg => hto.off.block g hg.2.1 (fun e => ?_)⟩).more fun g hg => ⟨hg.1, by omega, fun e => ?_, hg.2.2.2⟩⟩
      · rcases e with e | e
        · omega
        · exact hg.2.2.1 e
      · rcases hto.row with e2 | e2 | ⟨q, e2, e3⟩
        · rw [e2] at e; cases e
        · exact hg.2.2.1 (e2.symm.trans e)
        · rw [e2] at e; injection e with e; omega
    · obtain ⟨j, hj⟩ := List.getElem?_of_mem hx
      obtain ⟨_, _, _, _, _, p1, p2⟩ := hs j x hj
      refine ⟨p1, p2.more fun g hg => ⟨hg.1.1, hg.2.1, hg.2.2.2, fun e => ?_⟩⟩
      rcases hg.1.2 with e2 | e2
      · have := (hvl g e).2; omega
      · exact hap g e e2
  · rw [htk, Fc.opn_feed]; exact hto.at'
  · rcases e with e | e
    · omega
    · have := (hul b2 e).1; omega
/-- behind the append -/
theorem Ch.next (hrow : w'.ownsRow lo 44 4 vl X.length (flatS X)) (htold : (X ++ Y).map Sg.pb = Fc.scan 0 [] (zs.take (k + n)))
    (hpay : ∀ x ∈ X ++ Y, (held x.b).length ≤ x.cp ∧ NumsS .u8 w' (fun g => lo ≤ g ∧ g < w'.heap.size ∧ v.ownBlock ≠ some g ∧ vl.ownBlock ≠ some g) x.a (held x.b)) (h1 : ScanAt w' b1 lo v (k + n) (Fc.opn [] (zs.take (k + n)))) (h2 : ScanAt w' b2 lo (.slice none 0 0) 0 []) (hb : Below B w w')
    (hb1 : b1 < lo) (hb2 : b2 < lo) (hBl : B ≤ lo) (hlo : lo ≤ w'.heap.size) (hY : Y.length = m') (hown : w2.ownsRow lo 44 4 vl' (X.length + m') (flatS X ++ flatS Y)) (hg : w'.grownBy w2 vl.ownBlock) (hat : vl'.ownBlock = vl.ownBlock ∨ vl'.ownBlock = some w'.heap.size) :
    Ch B b1 b2 lo w zs (k + n) w2 vl' (X ++ Y) v := by
  have hvl := hrow.lt
  have hs2 := hg.size
  have hO : Off (fun g => vl.ownBlock = some g) w' w2 := ⟨hg.os, hg.tape, hg.output, hg.size, fun g h3 h4 => hg.block g h3 (fun e => h4 e.symm)⟩
  have hap : ∀ g, vl.ownBlock = some g → v.ownBlock ≠ some g := rows_apart hrow h1.own (by decide)
  refine ⟨by rw [List.length_append, hY, flatS_append]; exact hown, htold, fun x hx => ?_, h1.off hO (fun e => ?_) (fun g e1 e2 => hap g e2 e1), h2.off hO (fun e => ?_) (fun g e => by cases e), hb.trans (hO.below (fun g e => by have := (hvl g e).1; omega) (by omega))⟩
  · obtain ⟨p1, p2⟩ := hpay x hx
    refine ⟨p1, (p2.keeps ⟨hs2, fun g hg' => hO.block g hg'.2.1 hg'.2.2.2⟩).more fun g hg' => ⟨hg'.1, by omega, hg'.2.2.1, fun e => ?_⟩⟩
    rcases hat with h3 | h3
    · exact hg'.2.2.2 (h3.symm.trans e)
    · rw [h3] at e; injection e with e; omega
  · have := (hvl b1 e).1; omega
  · have := (hvl b2 e).1; omega
/-- the list as it lies -/
theorem Ch.list (h : Ch B b1 b2 lo w zs k wr vl X u) : ∃ A c, vl = .slice A X.length c ∧ X.length ≤ c ∧ SgsAt wr (fun g => lo ≤ g ∧ g < wr.heap.size) A X := by
  rcases h.row.2 with ⟨rfl, h0⟩ | ⟨g, cap, cur, rfl, hg, hh, hle, _⟩
  · refine ⟨none, 0, by rw [h0], by omega, fun j x hx => ?_⟩
    rw [List.eq_nil_of_length_eq_zero h0] at hx
    simp at hx
  · refine ⟨_, cap, rfl, hle, fun j x hx => ⟨g, 0, rfl, ⟨hg, (Array.getElem?_eq_some_iff.1 hh).1⟩, fun q z hq => ?_, (h.pay x (List.mem_of_getElem? hx)).1, (h.pay x (List.mem_of_getElem? hx)).2.more fun g hg => ⟨hg.1, hg.2.1⟩⟩⟩
    have h9 := h.row.cells (g := g) rfl (j * 4 + q) z (flatS_at hx hq)
    rw [Addr.add_lit] at h9
    rw [Nat.add_assoc]
    exact h9
end
end Go.Proofs.Ytcfgemdpnbimoaa

namespace Go.Proofs.Ytcfgemdpnbimoaa
open Go.RowKit Go.Shelf
set_option maxRecDepth 100000
attribute [local go_sem] Oper.semAt_some

set_option maxHeartbeats 16000000 in
theorem scchunks_go (a1 a2 : Option Addr) (n m c n2 c2 : Nat) (es ss : List Int) (w : World) (hn1 : es.length = n) (hc1 : n ≤ c) (hz1 : Bytes es) (h1 : Nums .u8 w w.heap.size a1 es)
    (hn2 : ss.length = n2) (h2 : Nums .i64 w w.heap.size a2 ss)
    (hm : min (n : Int) 900 = (m : Int)) (hmn : m ≤ n) (hm9 : m ≤ 900) :
    Calls Try.prog 4 #[.slice a1 n c, .slice a2 n2 c2] w fun e w' => e = .returned (.bool true) ∧ Below w.heap.size w w' := by
  have hmc : (m : Int) ≤ (c : Int) := by omega
  have hl1 : (es.take m).length = m := by rw [List.length_take]; omega
  have hzb1 := hz1.take m
  have hnum1 := h1.take m
  generalize es.take m = zs at *
  clear hz1 h1 hn1
  have HZ := Lib.hid hzb1
  have HL := Lib.hid hl1
  have HN := Lib.hid hnum1
  have HN2 := Lib.hid h2
  have HL2 := Lib.hid hn2
  clear hzb1 hl1 hnum1 h2 hn2
  go_enter Try.func4, Try.ntmps4
  go_wp2_with fail
  refine (snew_any w).mono ?_
  rintro e w1 ⟨rfl, hat1, hb1, hs1⟩
  go_wp2_with fail
  refine (snew_any w1).mono ?_
  rintro e w2 ⟨rfl, hat2, hb2, hs2⟩
  have hb02 := hb1.trans (hb2.mono (by omega))
  have A1 : ScanAt w2 w.heap.size w2.heap.size (.slice none 0 0) 0 [] := ⟨(hat1.below hb2).blk, World.ownsRow_nil _ _ _ _⟩
  have A2 : ScanAt w2 (w.heap.size + 1) w2.heap.size (.slice none 0 0) 0 [] := ⟨by rw [← hs1]; exact hat2.blk, World.ownsRow_nil _ _ _ _⟩
  have C0 : Ch w.heap.size w.heap.size (w.heap.size + 1) w2.heap.size w zs 0 w2 (.slice none 0 0) [] (.slice none 0 0) :=
    ⟨World.ownsRow_nil _ _ _ _, by simp [Fc.scan], fun x hx => (by cases hx), by simpa [Fc.opn] using A1, A2, hb02⟩
  have HC0 := Lib.hid C0
  clear hat1 hat2 hb1 hb2 hb02 A1 A2 C0
  go_wp2
  go_loopw [7, 8, 9] (fun vl av iv wr => ∃ (k i : Nat) (X : List Sg) (u : Value), k ≤ m ∧ av = .int .i64 (k : Int) ∧ iv = .int .i64 (i : Int) ∧ i ≤ 301 ∧ (k < m → i ≤ 300) ∧ w2.heap.size ≤ wr.heap.size ∧ Hid (Ch w.heap.size w.heap.size (w.heap.size + 1) w2.heap.size w zs k wr vl X u))
    (fun _ _ iv _ => 301 - (intOf iv).toNat)
  case atStart => exact ⟨0, 0, [], _, by omega, rfl, rfl, by omega, fun _ => by omega, Nat.le_refl _, HC0.out⟩
  case round =>
    obtain ⟨k, i, X, u, hk, rfl, rfl, hi, hki, hw2, HC⟩ := hrel
    have hch := HC.out
    have hlow := hch.below.size
    by_cases hkm : k < m
    · have hkm' : (k : Int) < (m : Int) := by omega
      have hi3 := hki hkm
      have hck : ¬ c = k := by omega
      have hkc : (k : Int) ≤ (c : Int) := by omega
      have hch2 := hch
      obtain ⟨AL, cL, hvl, hcL, _⟩ := hch.list
      have hs2n := (HN2.out.below hch.below)
      subst hvl
      clear hch hch2
      obtain hA | hA | hA : (i < n2 ∧ i < 300) ∨ (i < n2 ∧ ¬ i < 300) ∨ ¬ i < n2 := by omega
      case' inl =>
        obtain ⟨hA1, hA2⟩ := hA
        have hA1' : (i : Int) < (n2 : Int) := by omega
        have hA2' : (i : Int) < 300 := by omega
        obtain ⟨s, hs⟩ : ∃ s, ss[i]? = some s := ⟨_, List.getElem?_eq_getElem (by rw [HL2.out]; exact hA1)⟩
        obtain ⟨b9, o9, rfl, hb9, hc9⟩ := hs2n.open hs
        obtain ⟨r, hr, hr20⟩ : ∃ r : Nat, (IntKind.u64.wrap s).tmod 20 = (r : Int) ∧ r < 20 := by
          have hw : 0 ≤ IntKind.u64.wrap s := by rw [IntKind.wrap_u64]; omega
          refine ⟨((IntKind.u64.wrap s) % 20).toNat, ?_, by omega⟩
          rw [Int.tmod_eq_emod_of_nonneg hw]; omega
        have hr20' : (r : Int) < 20 := by omega
        obtain ⟨N, hN⟩ : ∃ N : Nat, min ((m : Int) - (k : Int)) (r : Int) = (N : Int) := ⟨(min ((m : Int) - (k : Int)) (r : Int)).toNat, by omega⟩
        have HNI : Hid (k + N < m → i + 1 ≤ 300) := fun _ => by omega
        have hkN : (k : Int) + (N : Int) ≤ (m : Int) := by omega
        clear hr20 hs
        go_wp2_with fail
      case' inr.inl =>
        obtain ⟨hA1, hA2⟩ := hA
        have hA1' : (i : Int) < (n2 : Int) := by omega
        have hA2' : ¬ (i : Int) < 300 := by omega
        obtain ⟨N, hN⟩ : ∃ N : Nat, (m : Int) - (k : Int) = (N : Int) := ⟨m - k, by omega⟩
        have HNI : Hid (k + N < m → i + 1 ≤ 300) := fun _ => by omega
        have hkN : (k : Int) + (N : Int) ≤ (m : Int) := by omega
        go_wp2_with fail
      case' inr.inr =>
        have hA1' : ¬ (i : Int) < (n2 : Int) := by omega
        obtain ⟨N, hN⟩ : ∃ N : Nat, (m : Int) - (k : Int) = (N : Int) := ⟨m - k, by omega⟩
        have HNI : Hid (k + N < m → i + 1 ≤ 300) := fun _ => by omega
        have hkN : (k : Int) + (N : Int) ≤ (m : Int) := by omega
        go_wp2_with fail
      all_goals
        have hch := HC.out
        have hkN2 : k + N ≤ m := by omega
        have hlN : ((zs.drop k).take N).length = N := by rw [List.length_take, List.length_drop, HL.out]; omega
        have hnd := ((HN.out.below hch.below).drop (i := k) (cap := c) (by rw [HL.out]; omega)).take N
        rw [if_neg hck] at hnd
        have hbz : Bytes ((zs.drop k).take N) := (HZ.out.drop k).take N
        have hol := Fc.opn_length (zs.take k) []
        rw [List.length_take, HL.out, List.length_nil, Nat.zero_add] at hol
        have F := feed_any hch.one hw2 (a1.map (fun x => x.add k)) N (c - k) ((zs.drop k).take N) hlN (by omega) (by omega) hbz (by omega) (by omega) (nums_data hnd hlow (Nat.le_refl _) (fun g hg => by have := (hch.one.own.lt g hg).1; omega))
        refine F.mono ?_
        rintro e w4 ⟨A, cA, Y, v, rfl, hcA, hY, hto, hsY, _⟩
        have hw4 := hto.off.size
        obtain ⟨g1, g2, g3, g4, g5, g6⟩ := hch.fed (by omega) (by omega) (by omega) (Nat.le_refl _) (by omega) hw2 (by rw [HL.out]; omega) hY hto hsY
        have hXl : X.length ≤ 900 := by
          have := congrArg List.length hch.told
          have h2 := Fc.scan_length (zs.take k) 0 []
          rw [List.length_map] at this
          rw [List.length_take, HL.out] at h2
          omega
        have hYl : Y.length ≤ 900 := by
          have := congrArg List.length hY
          have h2 := Fc.scan_length ((zs.drop k).take N) k (Fc.opn [] (zs.take k))
          rw [List.length_map] at this
          rw [hlN] at h2
          omega
        obtain ⟨vl', w5, hrun, hown, hg, hat⟩ := run_append_sgs w2.heap.size _ X.length (flatS X) g1 A Y.length cA _ Y rfl hsY (by omega) (by omega)
        have hnx := Ch.next g1 g2 g3 g4 g5 g6 (by omega) (by omega) (by omega) (by omega) rfl hown hg hat
        have hw5 := hg.size
        have T1 := held_any hnx.one
        obtain ⟨H, hH⟩ : ∃ H, (held (Fc.opn [] (zs.take (k + N)))).length = H := ⟨_, rfl⟩
        have hH255 := held_len (Fc.opn [] (zs.take (k + N)))
        rw [hH] at T1 hH255
        have hH' : ¬ (255 : Int) < (H : Int) := by omega
        have HNX := Lib.hid hnx
        have HRUN := Lib.hid hrun
        obtain ⟨Av', cv', rfl, _⟩ := own_slice_le hown
        clear F hto hsY g1 g2 g3 g4 g5 g6 hown hg hat hnx hH hY hch hnd hbz hol hrun hcA HC
        go_wp2_with (first
          | (at_builtin; refine Lib.wpList_append_run _ rfl (.tmp 51) (.tmp 59) 29 29 rfl _ _ rfl rfl _ _ HRUN.out ?_)
          | (go_at_call 14; refine T1.mono ?_; rintro e wq ⟨rfl, hq⟩; rw [hq]; clear hq))
        go_roundw
        case rel => exact ⟨k + N, i + 1, X ++ Y, v, hkN2, by go_num, by go_num, by omega, HNI.out, by omega, HNX.out⟩
        case measure => simp [intOf]; omega
    · have hkn : k = m := by omega
      subst hkn
      have hch := HC.out
      have htk : zs.take k = zs := List.take_of_length_le (by rw [HL.out]; exact Nat.le_refl _)
      obtain ⟨AL, cL, rfl, hcL, hlist⟩ := hch.list
      have h1 := hch.one
      have h2 := hch.two
      have hX := hch.told
      have hbw := hch.below
      rw [htk] at h1 hX
      have hXl : X.length ≤ 900 := by
        have := congrArg List.length hX
        have h2 := Fc.scan_length zs 0 []
        rw [List.length_map] at this
        rw [HL.out] at h2
        omega
      have hXb : ∀ x ∈ X, Bytes x.b := fun x hx => by
        have hm : x.pb ∈ Fc.scan 0 [] zs := by rw [← hX]; exact List.mem_map_of_mem hx
        exact Fc.scan_isBytes zs 0 [] (fun c hc => by cases hc) HZ.out _ hm
      have H1 := Lib.hid h1
      have H2 := Lib.hid h2
      have HX := Lib.hid hX
      have HXb := Lib.hid hXb
      have HLS := Lib.hid hlist
      have HBW := Lib.hid hbw
      clear hch h1 h2 hX hbw hlist HC hXb htk
      go_wp2_with fail
      refine (scknown_any wr).mono ?_
      rintro e wk ⟨rfl, hk⟩
      have hsk := hk.size
      have h2k := H2.out.below hk
      have HBk := Lib.hid (HBW.out.trans (hk.mono hlow))
      have F := feed_any h2k (by omega) a1 k c zs HL.out (by omega) (by omega) HZ.out (by simp) (by omega) (nums_data (HN.out.below HBk.out) (by omega) (by omega) (fun g hg => by cases hg))
      have HK := Lib.hid hk
      clear hk
      go_wp2_with fail
      refine F.mono ?_
      rintro e w6 ⟨A, cA, Y, v, rfl, hcA, hY, hto, hsY, _⟩
      have hs6 := hto.off.size
      have hb6 := hto.belowB h2k (B := w.heap.size) (by omega) (by omega) (by omega)
      have h1k := H1.out.below HK.out
      have h16 := h1k.off hto.off (fun e => by rcases e with e | e; omega; cases e) (fun g hg e => by
        rcases e with e | e
        · have := (h1k.own.lt g hg).1; omega
        · cases e)
      have hl6 : SgsAt w6 (fun g => w2.heap.size ≤ g ∧ g < wr.heap.size) AL X := (HLS.out.keeps (KeepS.of_below HK.out fun g hg => hg.2)).keeps ⟨hs6, fun g hg => hto.off.block g (by omega) (fun e => by rcases e with e | e; omega; cases e)⟩
      have hXY : X.map Sg.pb = Y.map Sg.pb := by rw [HX.out, hY]
      have hYl : Y.length = X.length := by have := congrArg List.length hXY; rw [List.length_map, List.length_map] at this; exact this.symm
      rw [hYl] at hcA ⊢
      have S := ssame_any w6.heap.size AL A X.length cL cA _ _ X Y w6 rfl hcL hcA (by omega) hXY HXb.out hl6 hsY (fun g hg => by omega) (fun g hg => hg.2.1) (Nat.le_refl _)
      have h26 := hto.at'
      have HB6 := Lib.hid (HBk.out.trans hb6)
      have H16 := Lib.hid h16
      have H26 := Lib.hid h26
      clear F hto hsY hl6 hXY hYl hb6 h1k h16 h2k h26 HLS
      go_wp2_with fail
      refine S.mono ?_
      rintro e w7 ⟨rfl, h7⟩
      have h17 := H16.out.below h7
      have h27 := H26.out.below h7
      rw [show 0 + k = k by omega] at h27
      have hs7 := h7.size
      have HB7 := Lib.hid (HB6.out.trans (h7.mono (by have := HB6.out.size; omega)))
      have T1 := held_any h17
      have T2 := held_any h27
      have T3 := fed_any h17
      have T4 := fed_any h27
      obtain ⟨q, hq⟩ : ∃ q, (held (Fc.opn [] zs)).length = q := ⟨_, rfl⟩
      rw [hq] at T1 T2
      clear h7 h17 h27 S hq
      go_wp2_with fail
      refine T1.mono ?_
      rintro e wq ⟨rfl, hq⟩
      rw [hq]
      clear hq
      go_wp2_with fail
      refine T2.mono ?_
      rintro e wq ⟨rfl, hq⟩
      rw [hq]
      clear hq
      go_wp2_with fail
      refine T3.mono ?_
      rintro e wq ⟨rfl, hq⟩
      rw [hq]
      clear hq
      go_wp2_with fail
      refine T4.mono ?_
      rintro e wq ⟨rfl, hq⟩
      rw [hq]
      clear hq
      go_wp2
      go_ret
      exact ⟨by simp, HB7.out⟩
theorem walk_scchunks (a0 : Option Addr) (len0 cap0 : Nat) (z0 : List Int) (a1 : Option Addr) (len1 cap1 : Nat) (z1 : List Int) (w : World) (w0 : IsRow .u8 w a0 len0 cap0 z0) (w1 : IsRow .i64 w a1 len1 cap1 z1) :
    Calls Try.prog 4 #[.slice a0 len0 cap0, .slice a1 len1 cap1] w fun e w' => e = .returned (.bool true) ∧ Below w.heap.size w w' := by
  obtain ⟨e0, l0, q0, m0, k0, r0⟩ := w0.elems
  obtain ⟨e1, l1, q1, m1, k1, r1⟩ := w1.elems
  exact scchunks_go a0 a1 len0 (min len0 900) cap0 len1 cap1 e0 e1 w l0 q0 (bytes_of r0) k0 l1 k1 (by omega) (by omega) (by omega)
end Go.Proofs.Ytcfgemdpnbimoaa

namespace Go.Proofs.Ytcfgemdpnbimoaa.scanChunks
open Go.ChangeShapes Go.WideShapes Go.ChangeAt Go.RowKit
open Go.ChangeMaps (open_string shut_string)
set_option linter.unusedVariables false

theorem own : ownKnob Try.prog.godebug = none := by kernel_rfl
theorem laidOut : laidOutB Try.prog = true := by kernel_rfl

theorem walk (a0 : Option Addr) (len0 cap0 : Nat) (z0 : List Int) (a1 : Option Addr) (len1 cap1 : Nat) (z1 : List Int) (w : World) (w0 : IsRow .u8 w a0 len0 cap0 z0) (w1 : IsRow .i64 w a1 len1 cap1 z1) :
    Calls Try.prog 4 #[.slice a0 len0 cap0, .slice a1 len1 cap1] w fun e w' => e = .returned (.bool true) ∧ Below w.heap.size w w' := walk_scchunks a0 len0 cap0 z0 a1 len1 cap1 z1 w w0 w1

set_option maxRecDepth 100000 in
theorem lifted (os : Os) (started : os.Started) (H : Type) (enc : TypeId × Value → H) :
    ReturnsInHanded {} Try.checked os 4 .any (Rows.scanChunksSpec.pre6 enc Try.prog Try.f4 Rows.scanChunksRow.domain false) (Rows.scanChunksSpec.post enc Try.prog Try.f4 false true false false) := by
  refine returnsInHanded_of_change (C := Try.checked) own started (by kernel_rfl) Try.func4
    (ChangeSpec.witness6 (enc := enc) (C := Try.checked) false ⟨#[], #[.slice none 0 0, .slice none 0 0], []⟩ 8 (by kernel_rfl) (by kernel_rfl) (by kernel_rfl) (by kernel_rfl)) ?_
  intro W base args ds gs before hval0 hW hcnd _
  have hval : ∀ (j : Nat) t v, Try.f4.params[j]? = some t → args[j]? = some v → Value.okWide Try.prog W .any base t v := hval0
  have hW' := hW
  obtain ⟨p, q, hA0, hV, rfl, hfz, hnd⟩ := hW
  have hA : DataW.TrodAll enc Try.prog W 0 (fun _ => true) true Try.f4.params.toList args.toList ds p := hA0
  rw [Try.params4] at hA hval
  obtain ⟨v0, vs0, d0, ds0, p0, q0, hargs, rfl, rfl, h0, r0⟩ := trodAll_cons hA
  obtain ⟨v1, vs1, d1, ds1, p1, q1, rfl, rfl, rfl, h1, r1⟩ := trodAll_cons r0
  obtain ⟨rfl, rfl, rfl⟩ := trodAll_nil r1
  obtain rfl : args = #[v0, v1] := by cases args; simp_all
  obtain ⟨rfl, rfl⟩ := trodVars_none hV
  obtain ⟨a0, len0, cap0, rfl⟩ := okWide_slice Try.underlying25 (hval 0 25 v0 rfl rfl)
  have k0 := h0
  have lt0 : ∀ x ∈ p0, x.block < W.heap.size := by obtain ⟨m, hm⟩ := k0; exact DataW.trod_lt m _ _ _ hm
  obtain ⟨z0, w0⟩ : ∃ zs, IsRow .u8 W a0 len0 cap0 zs := by
    obtain ⟨fuel, hf⟩ := h0
    rcases open_ints Try.underlying25 Try.underlying5 (by kernel_rfl) hf with ⟨hcs, _⟩ | ⟨x, l, c, zs, hcs, _, hl, hm, hz, _, hcell, hwz⟩
    · simp [Value.cells] at hcs
      obtain ⟨rfl, rfl, rfl⟩ := hcs
      exact ⟨[], .inl ⟨rfl, rfl, rfl, rfl⟩⟩
    · simp [Value.cells] at hcs
      obtain ⟨rfl, rfl, rfl⟩ := hcs
      exact ⟨zs, .inr ⟨_, rfl, hl, hm, by simpa using hz, hcell, hwz⟩⟩
  obtain ⟨a1, len1, cap1, rfl⟩ := okWide_slice Try.underlying38 (hval 1 38 v1 rfl rfl)
  have k1 := h1
  have lt1 : ∀ x ∈ p1, x.block < W.heap.size := by obtain ⟨m, hm⟩ := k1; exact DataW.trod_lt m _ _ _ hm
  obtain ⟨z1, w1⟩ : ∃ zs, IsRow .i64 W a1 len1 cap1 zs := by
    obtain ⟨fuel, hf⟩ := h1
    rcases open_ints Try.underlying38 Try.underlying3 (by kernel_rfl) hf with ⟨hcs, _⟩ | ⟨x, l, c, zs, hcs, _, hl, hm, hz, _, hcell, hwz⟩
    · simp [Value.cells] at hcs
      obtain ⟨rfl, rfl, rfl⟩ := hcs
      exact ⟨[], .inl ⟨rfl, rfl, rfl, rfl⟩⟩
    · simp [Value.cells] at hcs
      obtain ⟨rfl, rfl, rfl⟩ := hcs
      exact ⟨zs, .inr ⟨_, rfl, hl, hm, by simpa using hz, hcell, hwz⟩⟩
  clear hA0 hval0
  refine (walk a0 len0 cap0 z0 a1 len1 cap1 z1 W w0 w1).mono fun e W' ⟨he, bel⟩ => ?_
  subst he
  exact ⟨_, rfl, _, _, _, [], _, [], hW', trodAll_mk1 (shut_bool Try.underlying4 _), (trodAll_cons_mk (Below.trod laidOut (by kernel_rfl) (of_decide_eq_true (by kernel_rfl)) k0 bel lt0) (trodAll_cons_mk (Below.trod laidOut (by kernel_rfl) (of_decide_eq_true (by kernel_rfl)) k1 bel lt1) trodAll_mk0)), rfl, bel.frame _, fun h => by cases h⟩

theorem over : Rows.scanChunksRow.holds Try.pinned (OpenSpec.ofChange Rows.scanChunksSpec) :=
  OpenClaim.holds_of_wide 4 Try.f4 rfl rfl rfl rfl rfl rfl rfl ⟨rfl, rfl, rfl, rfl, rfl⟩ rfl rfl rfl rfl rfl (by kernel_rfl) Try.func4 (by kernel_rfl)
    (of_decide_eq_true (by kernel_rfl)) (by unfold Func.isWrapper; first | (rw [if_pos (by decide +kernel)]; kernel_rfl) | (rw [if_neg (by decide +kernel)]; exact ⟨rfl, rfl⟩))
    (fun os started H enc _ => lifted os started H enc)

theorem proved : Rows.ScanChunksSaid := over
#print axioms proved
end Go.Proofs.Ytcfgemdpnbimoaa.scanChunks
