/-
  A frame has on the wire just as many bytes as Wire tells, and Room is the greatest payload that an MTU lets: FrameSizes returns true at every input, and leaves its arguments as they were.
-/
import Derived.Test.YtbohdmconeebeaaRows
import Derived.Below
import Derived.WalkKit
import Derived.ProofKit
import Derived.OpenShut
import Derived.ShutString
import Derived.ChangeOld
import Derived.Test.YtbohdmconeebeaaMB3
namespace Go.Proofs.Ytbohdmconeebeaa
open Go.RowKit Go.Shelf
set_option maxRecDepth 100000
attribute [local go_sem] Oper.semAt_some

/-- what the loop asks of each number -/
theorem room_fits (mtu : Int) (k : Nat) (h1 : 1 ≤ k) : ((k : Int) ≤ roomZ mtu) ↔ (k ≤ 242 ∧ (k : Int) + 15 ≤ mtu) := by
  unfold roomZ
  split
  · constructor <;> omega
  · split
    · constructor <;> omega
    · constructor <;> omega

set_option maxHeartbeats 8000000 in
theorem sizes_go (v k s i c : Int) (A : Option Addr) (n m cp : Nat) (es : List Int) (mtu : Int) (w : World) (hs : 0 ≤ s ∧ s ≤ 4294967295) (hmt : mtu ≤ 9223372036854775807) (hn : es.length = n) (hc : n ≤ cp) (hz : Bytes es) (h1 : Nums .u8 w w.heap.size A es)
    (hm : min (n : Int) 242 = (m : Int)) (hmn : m ≤ n) (hm2 : m ≤ 242) :
    Calls Try.prog 5 #[hdV v k s i c, .slice A n cp, .int .i64 mtu] w fun e w' => e = .returned (.bool true) ∧ Below w.heap.size w w' := by
  have hmc : (m : Int) ≤ (cp : Int) := by omega
  have hlen : (es.take m).length = m := by rw [List.length_take]; omega
  have hzb := hz.take m
  have hnum := h1.take m
  generalize es.take m = zs at *
  clear hz h1 hn
  unfold hdV
  obtain ⟨w1, hw1⟩ : ∃ w1, (w.alloc (.cells #[.int .i64 v, .int .i64 k, .int .u32 s, .int .i64 i, .int .i64 c] 27)).alloc (.cells #[.int .i64 v, .int .i64 k, .int .u32 s, .int .i64 i, .int .i64 c, .slice A m cp] 29) = w1 := ⟨_, rfl⟩
  have hs1 : w1.heap.size = w.heap.size + 2 := by rw [← hw1]; simp
  have hb1 : Below w.heap.size w w1 := by rw [← hw1]; exact ((Below.refl _ w).alloc (Nat.le_refl _) _).alloc (by simp) _
  have hbx : w1.heap[w.heap.size + 1]? = some (.cells (frC v k s i c (.slice A m cp)) 29 (0, 0)) := by
    rw [← hw1]
    have := World.alloc_heap_new (w.alloc (.cells #[.int .i64 v, .int .i64 k, .int .u32 s, .int .i64 i, .int .i64 c] 27)) (.cells (frC v k s i c (.slice A m cp)) 29)
    rwa [World.size_alloc] at this
  have HW1 := Lib.hid hw1
  have HB1 := Lib.hid hb1
  have HBk : Hid (∀ W, Below w1.heap.size w1 W → W.cell? ⟨w.heap.size + 1, 0, none⟩ = some (.int .i64 v) ∧ W.cell? ⟨w.heap.size + 1, 1, none⟩ = some (.int .i64 k) ∧ W.cell? ⟨w.heap.size + 1, 2, none⟩ = some (.int .u32 s) ∧ W.cell? ⟨w.heap.size + 1, 3, none⟩ = some (.int .i64 i) ∧ W.cell? ⟨w.heap.size + 1, 4, none⟩ = some (.int .i64 c) ∧ W.cell? ⟨w.heap.size + 1, 5, none⟩ = some (.slice A m cp)) := fun W hW =>
    fr_block ((hW.block _ (by omega)).trans hbx)
  clear hw1 hb1 hbx hs1
  go_enter Try.func5, Try.ntmps5
  go_wp2_with fail
  rw [HW1.out]
  refine (fnew_any _).mono ?_
  rintro e w2 ⟨rfl, hcod, hb2, -⟩
  generalize w1.heap.size + 1 = cb at *
  obtain ⟨d0, d1, d2, d3, d4, d5⟩ := HBk.out w2 hb2
  go_wp2_with fail
  refine (fcheck_any _ v k s i c A m cp w2).mono ?_
  rintro e w3 ⟨rfl, hb3⟩
  have hb13 := hb2.trans (hb3.mono hb2.size)
  have hcod3 := (hcod.below hb3).mono hb3.size
  clear d0 d1 d2 d3 d4 d5 hb2 hcod hb3
  by_cases h0 : fchk v k i c m = 0
  · rw [h0]
    obtain ⟨hk0, hm1, _⟩ := fchk_zero h0
    have hf : (Fr.mk v k s i c A cp zs).chk = 0 := by unfold Fr.chk; simp only; rw [hlen]; exact h0
    have hb03 := HB1.out.trans (hb13.mono HB1.out.size)
    have hfat : Fr.At w3 w3.heap.size (Fr.mk v k s i c A cp zs) := ⟨hs.1, hs.2, by simp only; omega, by simp only; omega, hzb, (hnum.below hb03).mono hb03.size⟩
    have hls : FrsAt (w3.alloc (.cells (frC v k s i c (.slice A m cp)) 29)) (w3.alloc (.cells (frC v k s i c (.slice A m cp)) 29)).heap.size (some ⟨w3.heap.size, 0, none⟩) [Fr.mk v k s i c A cp zs] := by
      have hB := (Below.refl w3.heap.size w3).alloc (Nat.le_refl _) (.cells (frC v k s i c (.slice A m cp)) 29)
      refine ⟨fun f hf => ?_, fun j f hj => ?_⟩
      · obtain rfl : f = Fr.mk v k s i c A cp zs := by simpa using hf
        exact (hfat.below hB).mono hB.size
      · rcases j with _ | j
        · obtain rfl : Fr.mk v k s i c A cp zs = f := by simpa using hj
          refine ⟨w3.heap.size, 0, rfl, by simp, fun q u hq => ?_⟩
          rw [World.cell?_alloc_at _ _ _ _ rfl, ← hlen]
          simpa [Fr.cs] using hq
        · simp at hj
    have hbA := (Below.refl w3.heap.size w3).alloc (Nat.le_refl _) (.cells (frC v k s i c (.slice A m cp)) 29)
    have KP := fpack_any cb (some ⟨w3.heap.size, 0, none⟩) 1 1 [Fr.mk v k s i c A cp zs] _ ((hcod3.below hbA).mono hbA.size) rfl (Nat.le_refl _) (by decide) hls
    have hfb : firstBad [Fr.mk v k s i c A cp zs] = 0 := firstBad_zero fun g hg => by
      obtain rfl : g = _ := by simpa using hg
      exact hf
    have hwl : (Fc.wrap ([Fr.mk v k s i c A cp zs].map Fr.seg)).length = m + 15 := by
      have h := Fr.seg_len hf
      rw [List.map_cons, List.map_nil, Fc.wrap_one]
      simp only [List.length_append, List.length_singleton, h]
      omega
    rw [hfb] at KP
    have HWL := Lib.hid hwl
    have HBA := Lib.hid hbA
    have HB13 := Lib.hid hb13
    obtain ⟨d0, d1, d2, d3, d4, d5⟩ := HBk.out w3 hb13
    unfold frC at KP
    clear hf hfat hls hfb hwl hbA hk0 hb03 hcod3 hb13
    go_wp2_with fail
    refine KP.mono ?_
    rintro e w4 (⟨h, _⟩ | ⟨_, vv, rfl, hm4⟩)
    · exact absurd rfl h
    obtain ⟨A4, c4, rfl, _, _⟩ := hm4.slice
    rw [HWL.out]
    have HB14 := Lib.hid (HB13.out.trans ((HBA.out.trans (hm4.2.mono (by simp))).mono HB13.out.size))
    clear hm4 KP d0 d1 d2 d3 d4 d5
    have hwz : wireZ (m : Int) = (m : Int) + 15 := by unfold wireZ; rw [if_neg (by omega)]
    have KW := wire_any (m : Int) w4
    rw [hwz] at KW
    go_wp2_with fail
    refine KW.mono ?_
    rintro e w5 ⟨rfl, hw5⟩
    subst hw5
    have hq : ((m : Int) + 12 + 253) / 254 = 1 := by omega
    go_wp2_with fail
    have HBND := HB1.out.trans (HB14.out.mono HB1.out.size)
    clear HB14
    refine (room_any mtu hmt _).mono ?_
    rintro e w7 ⟨rfl, hw7⟩
    subst hw7
    have HR := Lib.hid (room_fits mtu)
    have hr0 : 0 ≤ roomZ mtu := by unfold roomZ; split <;> (try split) <;> omega
    have hr1 : roomZ mtu ≤ 242 := by unfold roomZ; split <;> (try split) <;> omega
    generalize roomZ mtu = r at *
    have HX := Lib.hid HBND
    clear HB13 HBA HWL
    go_wp2
    go_loopw [13, 14] (fun i _ wr => ∃ kk : Nat, kk ≤ 300 ∧ i = .int .i64 kk ∧ Hid (Below w.heap.size w wr)) (fun i _ _ => 300 - (intOf i).toNat)
    case atStart => exact ⟨0, by omega, rfl, HX⟩
    case round =>
      obtain ⟨kk, hkk, rfl, HY⟩ := hrel
      by_cases hlt : kk < 300
      · have hlt' : (kk : Int) < 300 := by omega
        have fin : Hid (kk + 1 ≤ 300) := by show _ ≤ _; omega
        have KW := wire_any (kk : Int) wr
        rcases Nat.eq_zero_or_pos kk with hz | hz
        · subst hz
          rw [show wireZ ((0 : Nat) : Int) = 0 from rfl] at KW
          rw [show ((0 : Nat) : Int) = 0 from rfl] at *
          go_wp2_with fail
          refine KW.mono ?_
          rintro e w8 ⟨rfl, hw8⟩
          subst hw8
          go_wp2
          go_roundw
          case rel => exact ⟨1, by omega, by go_num, HY⟩
          case measure => simp [intOf]
        · have hz' : 1 ≤ (kk : Int) := by omega
          have hfit := HR.out kk hz
          by_cases h242 : kk ≤ 242
          · have h242' : (kk : Int) ≤ 242 := by omega
            have hwz : wireZ (kk : Int) = (kk : Int) + 15 := by unfold wireZ; rw [if_neg (by omega)]
            rw [hwz] at KW
            have hwn : ((kk : Int) + 15 != 0) = true := by simp; omega
            by_cases hm3 : (kk : Int) + 15 ≤ mtu
            · have hkr : (kk : Int) ≤ r := hfit.2 ⟨h242, hm3⟩
              clear hfit hwz
              go_wp2_with fail
              refine KW.mono ?_
              rintro e w8 ⟨rfl, hw8⟩
              subst hw8
              go_wp2
              go_roundw
              case rel => exact ⟨kk + 1, by omega, by go_num, HY⟩
              case measure => simp [intOf]; omega
            · have hkr : ¬ (kk : Int) ≤ r := fun h => hm3 (hfit.1 h).2
              clear hfit hwz
              go_wp2_with fail
              refine KW.mono ?_
              rintro e w8 ⟨rfl, hw8⟩
              subst hw8
              go_wp2
              go_roundw
              case rel => exact ⟨kk + 1, by omega, by go_num, HY⟩
              case measure => simp [intOf]; omega
          · have h242' : ¬ (kk : Int) ≤ 242 := by omega
            have hwz : wireZ (kk : Int) = 0 := by unfold wireZ; rw [if_pos (by omega)]
            rw [hwz] at KW
            have hkr : ¬ (kk : Int) ≤ r := by omega
            clear hfit hwz
            go_wp2_with fail
            refine KW.mono ?_
            rintro e w8 ⟨rfl, hw8⟩
            subst hw8
            go_wp2
            go_roundw
            case rel => exact ⟨kk + 1, by omega, by go_num, HY⟩
            case measure => simp [intOf]; omega
      · have hkn : kk = 300 := by omega
        subst hkn
        rw [show ((300 : Nat) : Int) = 300 from rfl] at *
        go_wp2_with fail
        refine (fknown_any _).mono ?_
        rintro e w8 ⟨rfl, hb8⟩
        have HZ8 := Lib.hid (HY.out.trans (hb8.mono HY.out.size))
        have KW := wire_any (-1) w8
        rw [show wireZ (-1) = 0 from rfl] at KW
        clear hb8
        go_wp2_with fail
        refine KW.mono ?_
        rintro e w9 ⟨rfl, hw9⟩
        subst hw9
        go_wp2
        go_ret
        exact ⟨rfl, HZ8.out⟩
  · have h0' : (fchk v k i c m == 0) = false := by simpa using h0
    have HBND := HB1.out.trans (hb13.mono HB1.out.size)
    clear h0 hb13 hcod3
    go_wp2_with fail
    refine (room_any mtu hmt _).mono ?_
    rintro e w7 ⟨rfl, hw7⟩
    subst hw7
    have HR := Lib.hid (room_fits mtu)
    have hr0 : 0 ≤ roomZ mtu := by unfold roomZ; split <;> (try split) <;> omega
    have hr1 : roomZ mtu ≤ 242 := by unfold roomZ; split <;> (try split) <;> omega
    generalize roomZ mtu = r at *
    have HX := Lib.hid HBND
    go_wp2
    go_loopw [13, 14] (fun i _ wr => ∃ kk : Nat, kk ≤ 300 ∧ i = .int .i64 kk ∧ Hid (Below w.heap.size w wr)) (fun i _ _ => 300 - (intOf i).toNat)
    case atStart => exact ⟨0, by omega, rfl, HX⟩
    case round =>
      obtain ⟨kk, hkk, rfl, HY⟩ := hrel
      by_cases hlt : kk < 300
      · have hlt' : (kk : Int) < 300 := by omega
        have fin : Hid (kk + 1 ≤ 300) := by show _ ≤ _; omega
        have KW := wire_any (kk : Int) wr
        rcases Nat.eq_zero_or_pos kk with hz | hz
        · subst hz
          rw [show wireZ ((0 : Nat) : Int) = 0 from rfl] at KW
          rw [show ((0 : Nat) : Int) = 0 from rfl] at *
          go_wp2_with fail
          refine KW.mono ?_
          rintro e w8 ⟨rfl, hw8⟩
          subst hw8
          go_wp2
          go_roundw
          case rel => exact ⟨1, by omega, by go_num, HY⟩
          case measure => simp [intOf]
        · have hz' : 1 ≤ (kk : Int) := by omega
          have hfit := HR.out kk hz
          by_cases h242 : kk ≤ 242
          · have h242' : (kk : Int) ≤ 242 := by omega
            have hwz : wireZ (kk : Int) = (kk : Int) + 15 := by unfold wireZ; rw [if_neg (by omega)]
            rw [hwz] at KW
            have hwn : ((kk : Int) + 15 != 0) = true := by simp; omega
            by_cases hm3 : (kk : Int) + 15 ≤ mtu
            · have hkr : (kk : Int) ≤ r := hfit.2 ⟨h242, hm3⟩
              clear hfit hwz
              go_wp2_with fail
              refine KW.mono ?_
              rintro e w8 ⟨rfl, hw8⟩
              subst hw8
              go_wp2
              go_roundw
              case rel => exact ⟨kk + 1, by omega, by go_num, HY⟩
              case measure => simp [intOf]; omega
            · have hkr : ¬ (kk : Int) ≤ r := fun h => hm3 (hfit.1 h).2
              clear hfit hwz
              go_wp2_with fail
              refine KW.mono ?_
              rintro e w8 ⟨rfl, hw8⟩
              subst hw8
              go_wp2
              go_roundw
              case rel => exact ⟨kk + 1, by omega, by go_num, HY⟩
              case measure => simp [intOf]; omega
          · have h242' : ¬ (kk : Int) ≤ 242 := by omega
            have hwz : wireZ (kk : Int) = 0 := by unfold wireZ; rw [if_pos (by omega)]
            rw [hwz] at KW
            have hkr : ¬ (kk : Int) ≤ r := by omega
            clear hfit hwz
            go_wp2_with fail
            refine KW.mono ?_
            rintro e w8 ⟨rfl, hw8⟩
            subst hw8
            go_wp2
            go_roundw
            case rel => exact ⟨kk + 1, by omega, by go_num, HY⟩
            case measure => simp [intOf]; omega
      · have hkn : kk = 300 := by omega
        subst hkn
        rw [show ((300 : Nat) : Int) = 300 from rfl] at *
        go_wp2_with fail
        refine (fknown_any _).mono ?_
        rintro e w8 ⟨rfl, hb8⟩
        have HZ8 := Lib.hid (HY.out.trans (hb8.mono HY.out.size))
        have KW := wire_any (-1) w8
        rw [show wireZ (-1) = 0 from rfl] at KW
        clear hb8
        go_wp2_with fail
        refine KW.mono ?_
        rintro e w9 ⟨rfl, hw9⟩
        subst hw9
        go_wp2
        go_ret
        exact ⟨rfl, HZ8.out⟩

theorem walk_fsizes (v k s i c : Int) (a1 : Option Addr) (len1 cap1 : Nat) (e1 : List Int) (a2 : Int) (w : World) (hs : 0 ≤ s ∧ s ≤ 4294967295) (ha : (Lit.int .i64 a2).wf = true)
    (hn : e1.length = len1) (hc : len1 ≤ cap1) (h1 : Nums .u8 w w.heap.size a1 e1) (hz : ∀ z ∈ e1, (Lit.int .u8 z).wf = true) :
    Calls Try.prog 5 #[hdV v k s i c, .slice a1 len1 cap1, .int .i64 a2] w fun e w' => e = .returned (.bool true) ∧ Below w.heap.size w w' := by
  exact sizes_go v k s i c a1 len1 (min len1 242) cap1 e1 a2 w hs (bounds_i64 ha).2 hn hc (bytes_of hz) h1 (by omega) (by omega) (by omega)
end Go.Proofs.Ytbohdmconeebeaa

namespace Go.Proofs.Ytbohdmconeebeaa.frameSizes
open Go.ChangeShapes Go.WideShapes Go.ChangeAt Go.RowKit
open Go.ChangeMaps (open_string shut_string)
set_option linter.unusedVariables false

theorem own : ownKnob Try.prog.godebug = none := by kernel_rfl
theorem laidOut : laidOutB Try.prog = true := by kernel_rfl

set_option maxRecDepth 100000 in
theorem lifted (os : Os) (started : os.Started) (H : Type) (enc : TypeId × Value → H) :
    ReturnsInHanded {} Try.checked os 5 .any (Rows.frameSizesSpec.pre6 enc Try.prog Try.f5 Rows.frameSizesRow.domain false) (Rows.frameSizesSpec.post enc Try.prog Try.f5 false true false false) := by
  refine returnsInHanded_of_change (C := Try.checked) own started (by kernel_rfl) Try.func5
    (ChangeSpec.witness6 (enc := enc) (C := Try.checked) false ⟨#[], #[.agg #[.int .i64 0, .int .i64 0, .int .u32 0, .int .i64 0, .int .i64 0], .slice none 0 0, .int .i64 0], []⟩ 8 (by kernel_rfl) (by kernel_rfl) (by kernel_rfl) (by kernel_rfl)) ?_
  intro W base args ds gs before hval0 hW hcnd _
  have hval : ∀ (j : Nat) t v, Try.f5.params[j]? = some t → args[j]? = some v → Value.okWide Try.prog W .any base t v := hval0
  have hW' := hW
  obtain ⟨p, q, hA0, hV, rfl, hfz, hnd⟩ := hW
  have hA : DataW.TrodAll enc Try.prog W 0 (fun _ => true) true Try.f5.params.toList args.toList ds p := hA0
  rw [Try.params5] at hA hval
  obtain ⟨v0, vs0, d0, ds0, p0, q0, hargs, rfl, rfl, h0, r0⟩ := trodAll_cons hA
  obtain ⟨v1, vs1, d1, ds1, p1, q1, rfl, rfl, rfl, h1, r1⟩ := trodAll_cons r0
  obtain ⟨v2, vs2, d2, ds2, p2, q2, rfl, rfl, rfl, h2, r2⟩ := trodAll_cons r1
  obtain ⟨rfl, rfl, rfl⟩ := trodAll_nil r2
  obtain rfl : args = #[v0, v1, v2] := by cases args; simp_all
  obtain ⟨rfl, rfl⟩ := trodVars_none hV
  have k0 := h0
  have lt0 : ∀ x ∈ p0, x.block < W.heap.size := by obtain ⟨m, hm⟩ := k0; exact DataW.trod_lt m _ _ _ hm
  obtain ⟨x0_1, x0_2, x0_3, x0_4, x0_5, rfl, y0_1, y0_2, y0_3, y0_4, y0_5⟩ := open_head (hval 0 27 v0 rfl rfl) h0
  obtain ⟨a1, len1, cap1, rfl⟩ := okWide_slice Try.underlying22 (hval 1 22 v1 rfl rfl)
  have k1 := h1
  have lt1 : ∀ x ∈ p1, x.block < W.heap.size := by obtain ⟨m, hm⟩ := k1; exact DataW.trod_lt m _ _ _ hm
  obtain ⟨e1, hd1, hm1, w1⟩ : ∃ es : List Int, es.length = len1 ∧ len1 ≤ cap1 ∧ Nums .u8 W W.heap.size a1 es ∧ ∀ z ∈ es, (Lit.int .u8 z).wf = true := by
    obtain ⟨fuel, hf⟩ := h1
    obtain ⟨_, _, _, es, he, q⟩ := row_of Try.underlying22 Try.underlying5 (by kernel_rfl) hf
    injection he with e1 e2 e3
    subst e1 e2 e3
    exact ⟨es, q⟩
  obtain ⟨a2, rfl, rfl, rfl, w2⟩ := open_int Try.underlying3 (hval 2 3 v2 rfl rfl) h2
  clear hA0 hval0
  refine (walk_fsizes x0_1 x0_2 x0_3 x0_4 x0_5 a1 len1 cap1 e1 a2 W (bounds_u32 y0_3) w2 hd1 hm1 w1.1 w1.2).mono fun e W' ⟨he, bel⟩ => ?_
  subst he
  exact ⟨_, rfl, _, _, _, [], _, [], hW', trodAll_mk1 (shut_bool Try.underlying4 _), (trodAll_cons_mk (Below.trod laidOut (by kernel_rfl) (of_decide_eq_true (by kernel_rfl)) k0 bel lt0) (trodAll_cons_mk (Below.trod laidOut (by kernel_rfl) (of_decide_eq_true (by kernel_rfl)) k1 bel lt1) (trodAll_cons_mk (shut_int Try.underlying3 w2) trodAll_mk0))), rfl, bel.frame _, fun h => by cases h⟩

theorem over : Rows.frameSizesRow.holds Try.pinned (OpenSpec.ofChange Rows.frameSizesSpec) :=
  OpenClaim.holds_of_wide 5 Try.f5 rfl rfl rfl rfl rfl rfl rfl ⟨rfl, rfl, rfl, rfl, rfl⟩ rfl rfl rfl rfl rfl (by kernel_rfl) Try.func5 (by kernel_rfl)
    (of_decide_eq_true (by kernel_rfl)) (by unfold Func.isWrapper; first | (rw [if_pos (by decide +kernel)]; kernel_rfl) | (rw [if_neg (by decide +kernel)]; exact ⟨rfl, rfl⟩))
    (fun os started H enc _ => lifted os started H enc)

theorem proved : Rows.FrameSizesSaid := over
#print axioms proved
end Go.Proofs.Ytbohdmconeebeaa.frameSizes
