/-
  The walk of the law CrcXors: it returns true.
-/
import Derived.Test.YtbhdffefjphphaaCrcZ
import Derived.Test.YtbhdffefjphphaaCrcE
import Derived.Test.YtbhdffefjphphaaQ6
import Derived.Deep.RegionHeld3
import Derived.Deep.AppendLies
namespace Go.Proofs.Ytbhdffefjphphaa
open Go.RowKit
set_option maxRecDepth 100000

theorem Parts.later {w w' : World} {B : Nat} {a : Option Addr} {ps : List Part} (h : Parts w B a ps) (hB : B ≤ w.heap.size) (hb : Below w.heap.size w w') : Parts w' B a ps :=
  ⟨fun p hp => (h.1 p hp).below (hb.mono hB), fun hn => let ⟨b, off, e, hc⟩ := h.2 hn
    ⟨b, off, e, fun j p hj => (hb.cell (p := ⟨b, off + j, none⟩) (block_of_cell (hc j p hj))).trans (hc j p hj)⟩⟩
/-- a slice of one part -/
def FSp (B0 : Nat) (p : Part) (v : Value) (w : World) : Prop := B0 ≤ w.heap.size ∧ ∃ A, v = .slice A 1 1 ∧ Parts w B0 A [p]
theorem FSp.later {B0 : Nat} {p : Part} {v : Value} {w w' : World} (h : FSp B0 p v w) (hb : Below w.heap.size w w') : FSp B0 p v w' :=
  let ⟨h1, A, e, hp⟩ := h
  ⟨Nat.le_trans h1 hb.size, A, e, hp.later h1 hb⟩
theorem FSp.lit {B0 : Nat} {p : Part} {w : World} (hB : B0 ≤ w.heap.size) (hp : p.At w B0) : FSp B0 p (.slice (some ⟨w.heap.size, 0, none⟩) 1 1) (w.alloc (.cells #[.slice p.a p.zs.length p.c] 22)) :=
  ⟨by simp; omega, _, rfl, Parts.new 22 _ (fun q hq => by simp only [List.mem_singleton] at hq; subst hq; exact hp) hB rfl⟩
theorem FSp.sum {B0 b : Nat} {p : Part} {v : Value} {w : World} (h : FSp B0 p v w) (ht : TabAt w B0 b) : Calls Try.prog 16 #[.pointer (some ⟨b, 0, none⟩), v] w fun e w' => e = .returned (.int .u32 ((Cr.sum p.zs : Nat) : Int)) ∧ Below w.heap.size w w' := by
  obtain ⟨_, A, rfl, hp⟩ := h
  refine (sum_any B0 b A 1 1 [p] w ht rfl (by simp) hp).mono ?_
  rintro e w' ⟨rfl, d, rfl⟩
  refine ⟨by simp [flat], below_drewN (Below.refl _ _) d⟩

theorem xor3_more {x y z : List Int} {k : Nat} {p q r : Int} (h1 : x[k]? = some p) (h2 : y[k]? = some q) (h3 : z[k]? = some r) :
    Cr.xor3 (x.take (k + 1)) (y.take (k + 1)) (z.take (k + 1)) = Cr.xor3 (x.take k) (y.take k) (z.take k) ++ [((p.toNat ^^^ q.toNat ^^^ r.toNat : Nat) : Int)] := by
  have l1 : k < x.length := (List.getElem?_eq_some_iff.1 h1).1
  have l2 : k < y.length := (List.getElem?_eq_some_iff.1 h2).1
  have l3 : k < z.length := (List.getElem?_eq_some_iff.1 h3).1
  rw [take_more h1, take_more h2, take_more h3]
  unfold Cr.xor3
  rw [List.zip_append (by simp; omega), List.zip_append (by simp; omega), List.map_append]
  rfl
theorem u8_xor3 (p q r : Int) (hp : 0 ≤ p ∧ p < 256) (hq : 0 ≤ q ∧ q < 256) (hr : 0 ≤ r ∧ r < 256) : bits .xor .u8 (bits .xor .u8 p q) r = ((p.toNat ^^^ q.toNat ^^^ r.toNat : Nat) : Int) := by
  obtain ⟨a, rfl⟩ := Int.eq_ofNat_of_zero_le hp.1
  obtain ⟨b, rfl⟩ := Int.eq_ofNat_of_zero_le hq.1
  obtain ⟨c, rfl⟩ := Int.eq_ofNat_of_zero_le hr.1
  have := Cr.xor_lt 8 (show a < 2 ^ 8 by omega) (show b < 2 ^ 8 by omega)
  rw [u8_xor_nat _ _ (by omega) (by omega), u8_xor_nat _ _ (by omega) (by omega)]
  rfl
theorem xor3_len (x y z : List Int) (h1 : x.length = y.length) (h2 : y.length = z.length) : (Cr.xor3 x y z).length = x.length := by
  unfold Cr.xor3
  simp; omega
theorem xor3_bytes (x y z : List Int) (hx : Bytes x) (hy : Bytes y) (hz : Bytes z) : Bytes (Cr.xor3 x y z) := by
  intro v hv
  obtain ⟨t, ht, rfl⟩ := List.mem_map.1 hv
  obtain ⟨p, q, r⟩ := t
  have h1 := List.of_mem_zip ht
  have h2 := List.of_mem_zip h1.2
  have b1 := hx p h1.1
  have b2 := hy q h2.1
  have b3 := hz r h2.2
  have := Cr.xor_lt 8 (Cr.xor_lt 8 (show p.toNat < 2 ^ 8 by omega) (show q.toNat < 2 ^ 8 by omega)) (show r.toNat < 2 ^ 8 by omega)
  simp only
  omega

theorem run_min4 (ts : Array TypeId) (t : TypeId) (x y z u r : Int) (h : min (min (min x y) z) u = r) (W : World) : (Builtin.min_ ts t #[.int .i64 x, .int .i64 y, .int .i64 z, .int .i64 u]).run Try.prog W = .ok (.int .i64 r) W := by
  have h1 : (if y < x then y else x) = min x y := by split <;> omega
  have h2 : ∀ k : Int, (if z < k then z else k) = min k z := fun k => by split <;> omega
  have h3 : ∀ k : Int, (if u < k then u else k) = min k u := fun k => by split <;> omega
  simp only [Builtin.min_, Builtin.min2, List.foldlM, Sem.run_bind, Sem.run_pure, Result.andThen, h1, h2, h3, h]

set_option maxHeartbeats 1000000 in
theorem xors_go (a1 a2 a3 : Option Addr) (n1 n2 n3 m c1 c2 c3 : Nat) (x y z : List Int) (w : World) (hx : x.length = n1) (hy : y.length = n2) (hz : z.length = n3) (hc1 : n1 ≤ c1) (hc2 : n2 ≤ c2) (hc3 : n3 ≤ c3)
    (hl1 : n1 ≤ 9223372036854775807) (_hl2 : n2 ≤ 9223372036854775807) (_hl3 : n3 ≤ 9223372036854775807) (bx : Bytes x) (b_y : Bytes y) (bz : Bytes z) (h1 : Nums .u8 w w.heap.size a1 x) (h2 : Nums .u8 w w.heap.size a2 y) (h3 : Nums .u8 w w.heap.size a3 z)
    (hm : min (min (min (n1 : Int) (n2 : Int)) (n3 : Int)) 100 = (m : Int)) (hm1 : m ≤ n1) (hm2 : m ≤ n2) (hm3 : m ≤ n3) (hm4 : m ≤ 100) :
    Calls Try.prog 6 #[.slice a1 n1 c1, .slice a2 n2 c2, .slice a3 n3 c3] w fun e w' => e = .returned (.bool true) ∧ Below w.heap.size w w' := by
  obtain ⟨i0, hi, hz0, hz1, hz2⟩ := info_parts byteInfo
  have HX := Lib.hid hx
  have HY := Lib.hid hy
  have HZ := Lib.hid hz
  have BX := Lib.hid bx
  have BY := Lib.hid b_y
  have BZ := Lib.hid bz
  clear hx hy hz bx b_y bz
  have hmin := run_min4 #[3, 3, 3, 3] 3 n1 n2 n3 100 m hm
  clear hm
  go_enter Try.func6, Try.ntmps6
  go_wp2_with fail
  refine (new_any _).mono ?_
  rintro e w1 ⟨rfl, htab, hb, hsz⟩
  have HT : Hid (TabAt w1 w1.heap.size w.heap.size) := by show TabAt _ _ _; rw [hsz]; exact htab
  clear hsz htab
  go_wp2
  go_loopw [9, 10] (fun s9 i wr => ∃ (k : Nat) (v : Value), k ≤ m ∧ i = .int .i64 k ∧ v = s9 ∧ Hid (MadeK 5 .u8 w1 wr (Cr.xor3 (x.take k) (y.take k) (z.take k)) v)) (fun _ i _ => m - (intOf i).toNat)
  case atStart => exact ⟨0, _, by omega, rfl, rfl, MadeK.nil _ _ (Below.refl _ _)⟩
  case round =>
    obtain ⟨k, v, hk, rfl, rfl, HM⟩ := hrel
    by_cases hlt : k < m
    · obtain ⟨p, hp⟩ : ∃ p, x[k]? = some p := ⟨_, List.getElem?_eq_getElem (by rw [HX.out]; omega)⟩
      obtain ⟨q, hq⟩ : ∃ p, y[k]? = some p := ⟨_, List.getElem?_eq_getElem (by rw [HY.out]; omega)⟩
      obtain ⟨r, hr⟩ : ∃ p, z[k]? = some p := ⟨_, List.getElem?_eq_getElem (by rw [HZ.out]; omega)⟩
      have HMore := Lib.hid (xor3_more hp hq hr)
      have HV := Lib.hid (u8_xor3 p q r (BX.out p (List.mem_of_getElem? hp)) (BY.out q (List.mem_of_getElem? hq)) (BZ.out r (List.mem_of_getElem? hr)))
      have hbw : Below w.heap.size w wr := hb.trans (HM.out.2.mono hb.size)
      obtain ⟨b1, o1, rfl, g1, d1⟩ := (h1.below hbw).open hp
      obtain ⟨b2, o2, rfl, g2, d2⟩ := (h2.below hbw).open hq
      obtain ⟨b3, o3, rfl, g3, d3⟩ := (h3.below hbw).open hr
      have hs1 := hb.size
      have hs2 := HM.out.2.size
      have hlenL : Hid ((Cr.xor3 (x.take k) (y.take k) (z.take k)).length = k) := by
        have e1 := HX.out
        have e2 := HY.out
        have e3 := HZ.out
        show _ = _
        rw [xor3_len _ _ _ (by rw [List.length_take, List.length_take]; omega) (by rw [List.length_take, List.length_take]; omega), List.length_take]
        omega
      have n1' : Hid (v.ownBlock ≠ some b1) := fun e => by have := (HM.out.own_ge e).1; omega
      have n2' : Hid (v.ownBlock ≠ some b2) := fun e => by have := (HM.out.own_ge e).1; omega
      have n3' : Hid (v.ownBlock ≠ some b3) := fun e => by have := (HM.out.own_ge e).1; omega
      have hown := HM.out.1
      rw [hlenL.out] at hown
      have HO := Lib.hid hown
      have q1 : b1 < wr.heap.size := by omega
      have q2 : b2 < wr.heap.size := by omega
      have q3 : b3 < wr.heap.size := by omega
      have i0' : (0 : Int) ≤ (k : Int) := Int.natCast_nonneg _
      have i1' : (k : Int) < (n1 : Int) := by omega
      have i2' : (k : Int) < (n2 : Int) := by omega
      have i3' : (k : Int) < (n3 : Int) := by omega
      have im : (k : Int) < (m : Int) := by omega
      clear hown h1 h2 h3 hp hq hr
      go_wp2
      go_region_held3 (fun w' => w'.cell? ⟨b1, o1 + k, none⟩ = some (.int .u8 p) ∧ w'.cell? ⟨b2, o2 + k, none⟩ = some (.int .u8 q) ∧ w'.cell? ⟨b3, o3 + k, none⟩ = some (.int .u8 r))
        (first
          | go_keep
          | (go_split_ands
             refine ⟨?_, ?_, ?_⟩
             · (rw [hgrow.cell_far _ (by simp; omega) (Ne.symm n1'.out)]; assumption)
             · (rw [hgrow.cell_far _ (by simp; omega) (Ne.symm n2'.out)]; assumption)
             · (rw [hgrow.cell_far _ (by simp; omega) (Ne.symm n3'.out)]; assumption)))
        ((refine step_append_lies _ (by rfl) _ _ _ (by rfl) w1.heap.size 5 i0 _ 1 1 Try.underlying22 hi hz0 hz1 hz2 rfl (by omega) v k _ (by rfl) ((HO.out.alloc _).drew)
            ⟨wr.heap.size, 0, none⟩ 1 1 [.int .u8 (bits .xor .u8 (bits .xor .u8 p q) r)] (by rfl) (by rfl) (World.news_of_block (cs := #[.int .u8 (bits .xor .u8 (bits .xor .u8 p q) r)]) (t := 5) (fr := (0, 0)) (heap_alloc_new wr _)) (by simp [Value.oneCell'])
            (by omega) (by unfold maxLen; omega) (by omega) (by simp; omega) (wr.heap.size + 1) (by simp) ?_; intro gg cap w5 hown1 hgrow hat hlt2))
      have HN : Hid (MadeK 5 .u8 w1 w5 (Cr.xor3 (x.take (k + 1)) (y.take (k + 1)) (z.take (k + 1))) (.slice (some ⟨gg, 0, none⟩) (k + 1) cap)) := by
        show MadeK _ _ _ _ _ _
        rw [HMore.out]
        exact HM.out.app (o := .cells #[.int .u8 (bits .xor .u8 (bits .xor .u8 p q) r)] 5) (by rw [hlenL.out]; exact hown1) ⟨hgrow.os, hgrow.tape, hgrow.output, hgrow.size, hgrow.block⟩ HV.out
      clear hown1 hgrow hat hlt2 HO HMore HV HM
      go_wp2
      go_roundw
      case rel => exact ⟨k + 1, _, by omega, by go_num, rfl, HN⟩
      case measure => simp [intOf]; omega
    · obtain rfl : k = m := by omega
      have lx : (x.take k).length = k := by rw [List.length_take, HX.out]; omega
      have ly : (y.take k).length = k := by rw [List.length_take, HY.out]; omega
      have lz : (z.take k).length = k := by rw [List.length_take, HZ.out]; omega
      have lL : (Cr.xor3 (x.take k) (y.take k) (z.take k)).length = k := by rw [xor3_len _ _ _ (by omega) (by omega), lx]
      have bL := xor3_bytes _ _ _ (BX.out.take k) (BY.out.take k) (BZ.out.take k)
      have hsum := Cr.sum_xor3 _ _ _ (by omega) (by omega) (BX.out.take k).lt (BY.out.take k).lt (BZ.out.take k).lt bL.lt
      obtain ⟨A, cL, rfl, hcL, hnL⟩ := HM.out.slice
      rw [lL] at hcL ⊢
      have hbw : Below w.heap.size w wr := hb.trans (HM.out.2.mono hb.size)
      have htab : TabAt wr wr.heap.size w.heap.size := (HT.out.below HM.out.2).mono HM.out.2.size
      have P1 : Part.At wr wr.heap.size ⟨A, cL, Cr.xor3 (x.take k) (y.take k) (z.take k)⟩ := ⟨by simp only; omega, by simp only; omega, bL, hnL⟩
      have P2 : Part.At wr wr.heap.size ⟨a1, c1, x.take k⟩ := ⟨by simp only; omega, by simp only; omega, BX.out.take k, ((h1.take k).below hbw).mono hbw.size⟩
      have P3 : Part.At wr wr.heap.size ⟨a2, c2, y.take k⟩ := ⟨by simp only; omega, by simp only; omega, BY.out.take k, ((h2.take k).below hbw).mono hbw.size⟩
      have P4 : Part.At wr wr.heap.size ⟨a3, c3, z.take k⟩ := ⟨by simp only; omega, by simp only; omega, BZ.out.take k, ((h3.take k).below hbw).mono hbw.size⟩
      generalize Cr.xor3 (x.take k) (y.take k) (z.take k) = L at *
      generalize x.take k = X at *
      generalize y.take k = Y at *
      generalize z.take k = Z at *
      have hxs : bits .xor .u32 (bits .xor .u32 ((Cr.sum X : Nat) : Int) ((Cr.sum Y : Nat) : Int)) ((Cr.sum Z : Nat) : Int) = ((Cr.sum L : Nat) : Int) := by
        have e1 := Cr.sum_lt X
        have e2 := Cr.sum_lt Y
        have e3 := Cr.sum_lt Z
        have e4 := Cr.xor_lt 32 e1 e2
        rw [u32_xor_nat _ _ (by omega) (by omega), u32_xor_nat _ _ (by omega) (by omega), hsum]
      clear hsum h1 h2 h3 hnL HM HT bL
      have k1 : (k : Int) ≤ (c1 : Int) := by omega
      have k2 : (k : Int) ≤ (c2 : Int) := by omega
      have k3 : (k : Int) ≤ (c3 : Int) := by omega
      go_wp2
      refine wp_region_F 69 [45, 51, 57, 64] (fun s => FSp wr.heap.size (if s = 45 then ⟨A, cL, L⟩ else if s = 51 then ⟨a1, c1, X⟩ else if s = 57 then ⟨a2, c2, Y⟩ else ⟨a3, c3, Z⟩)) (fun W => Below wr.heap.size wr W) (by kernel_rfl) (by kernel_rfl) (by rfl) (by simp) (fun W W' h hb => h.trans (hb.mono h.size)) (fun s v W W' h hb => h.later hb) (Below.refl _ _).drew ?_
      refine wpF_call (f := 15) (args := #[]) (.bool true) rfl rfl (fun x => by first | rfl | (simp [go_sem]; done)) (fun W _ => known_any W) ?_
      simp only [Act.put, List.setIfInBounds_toArray, List.set_cons_succ, List.set_cons_zero]
      repeat (refine wpF_pure rfl rfl ?_; go_big_quiet_step (fail); refine wpQuiet_nil ?_)
      refine wpF_src 45 (by simp) rfl rfl rfl (fun W hW => ⟨_, _, ?_, FSp.lit (p := ⟨A, cL, L⟩) hW.size (P1.below hW), (Below.refl _ _).alloc (Nat.le_refl _) _⟩) ?_
      · simp only [lL]
        simp [go_sem]
      simp only [Act.put, List.setIfInBounds_toArray, List.set_cons_succ, List.set_cons_zero]
      refine wpF_use 45 4 (f := 16) (fun v => #[.pointer (some ⟨w.heap.size, 0, none⟩), v]) (.int .u32 ((Cr.sum L : Nat) : Int)) (by simp) rfl (by kernel_rfl) (by kernel_rfl) (by kernel_rfl) (fun _ => rfl) (fun v x => by first | rfl | (simp [go_sem]; done)) (fun v W hW hv => FSp.sum (p := ⟨A, cL, L⟩) hv (htab.below hW)) ?_
      simp only [Act.put, List.setIfInBounds_toArray, List.set_cons_succ, List.set_cons_zero]
      repeat (refine wpF_pure rfl rfl ?_; go_big_quiet_step (fail); refine wpQuiet_nil ?_)
      refine wpF_src 51 (by simp) rfl rfl rfl (fun W hW => ⟨_, _, ?_, FSp.lit (p := ⟨a1, c1, X⟩) hW.size (P2.below hW), (Below.refl _ _).alloc (Nat.le_refl _) _⟩) ?_
      · simp only [lx]
        simp [go_sem]
      simp only [Act.put, List.setIfInBounds_toArray, List.set_cons_succ, List.set_cons_zero]
      refine wpF_use 51 10 (f := 16) (fun v => #[.pointer (some ⟨w.heap.size, 0, none⟩), v]) (.int .u32 ((Cr.sum X : Nat) : Int)) (by simp) rfl (by kernel_rfl) (by kernel_rfl) (by kernel_rfl) (fun _ => rfl) (fun v x => by first | rfl | (simp [go_sem]; done)) (fun v W hW hv => FSp.sum (p := ⟨a1, c1, X⟩) hv (htab.below hW)) ?_
      simp only [Act.put, List.setIfInBounds_toArray, List.set_cons_succ, List.set_cons_zero]
      repeat (refine wpF_pure rfl rfl ?_; go_big_quiet_step (fail); refine wpQuiet_nil ?_)
      refine wpF_src 57 (by simp) rfl rfl rfl (fun W hW => ⟨_, _, ?_, FSp.lit (p := ⟨a2, c2, Y⟩) hW.size (P3.below hW), (Below.refl _ _).alloc (Nat.le_refl _) _⟩) ?_
      · simp only [ly]
        simp [go_sem]
      simp only [Act.put, List.setIfInBounds_toArray, List.set_cons_succ, List.set_cons_zero]
      refine wpF_use 57 16 (f := 16) (fun v => #[.pointer (some ⟨w.heap.size, 0, none⟩), v]) (.int .u32 ((Cr.sum Y : Nat) : Int)) (by simp) rfl (by kernel_rfl) (by kernel_rfl) (by kernel_rfl) (fun _ => rfl) (fun v x => by first | rfl | (simp [go_sem]; done)) (fun v W hW hv => FSp.sum (p := ⟨a2, c2, Y⟩) hv (htab.below hW)) ?_
      simp only [Act.put, List.setIfInBounds_toArray, List.set_cons_succ, List.set_cons_zero]
      repeat (refine wpF_pure rfl rfl ?_; go_big_quiet_step (fail); refine wpQuiet_nil ?_)
      refine wpF_src 64 (by simp) rfl rfl rfl (fun W hW => ⟨_, _, ?_, FSp.lit (p := ⟨a3, c3, Z⟩) hW.size (P4.below hW), (Below.refl _ _).alloc (Nat.le_refl _) _⟩) ?_
      · simp only [lz]
        simp [go_sem]
      simp only [Act.put, List.setIfInBounds_toArray, List.set_cons_succ, List.set_cons_zero]
      refine wpF_use 64 23 (f := 16) (fun v => #[.pointer (some ⟨w.heap.size, 0, none⟩), v]) (.int .u32 ((Cr.sum Z : Nat) : Int)) (by simp) rfl (by kernel_rfl) (by kernel_rfl) (by kernel_rfl) (fun _ => rfl) (fun v x => by first | rfl | (simp [go_sem]; done)) (fun v W hW hv => FSp.sum (p := ⟨a3, c3, Z⟩) hv (htab.below hW)) ?_
      simp only [Act.put, List.setIfInBounds_toArray, List.set_cons_succ, List.set_cons_zero]
      repeat (refine wpF_pure rfl rfl ?_; go_big_quiet_step (fail); refine wpQuiet_nil ?_)
      intro xs W hW _
      simp only [fill, Act.put, List.setIfInBounds_toArray, List.set_cons_succ, List.set_cons_zero]
      have hbW : Below w.heap.size w W := hbw.trans (hW.mono hbw.size)
      go_wp2
      go_ret
      exact ⟨rfl, hbW⟩

theorem walk_xors (a0 : Option Addr) (len0 cap0 : Nat) (z0 : List Int) (a1 : Option Addr) (len1 cap1 : Nat) (z1 : List Int) (a2 : Option Addr) (len2 cap2 : Nat) (z2 : List Int) (w : World) (w0 : IsRow .u8 w a0 len0 cap0 z0) (w1 : IsRow .u8 w a1 len1 cap1 z1) (w2 : IsRow .u8 w a2 len2 cap2 z2) :
    Calls Try.prog 6 #[.slice a0 len0 cap0, .slice a1 len1 cap1, .slice a2 len2 cap2] w fun e w' => e = .returned (.bool true) ∧ Below w.heap.size w w' := by
  obtain ⟨e0, l0, q0, m0, k0, r0⟩ := w0.elems
  obtain ⟨e1, l1, q1, m1, k1, r1⟩ := w1.elems
  obtain ⟨e2, l2, q2, m2, k2, r2⟩ := w2.elems
  exact xors_go a0 a1 a2 len0 len1 len2 (min (min (min len0 len1) len2) 100) cap0 cap1 cap2 e0 e1 e2 w l0 l1 l2 q0 q1 q2 (Nat.le_trans q0 m0) (Nat.le_trans q1 m1) (Nat.le_trans q2 m2)
    (bytes_of r0) (bytes_of r1) (bytes_of r2) k0 k1 k2 (by omega) (by omega) (by omega) (by omega) (by omega)
end Go.Proofs.Ytbhdffefjphphaa
