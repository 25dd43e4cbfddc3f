/-
  The walk of the law HeadTells: it returns true.
-/
import Derived.Test.YtmmffifndheafaaDoorHdT
import Derived.Test.YtmmffifndheafaaDoorRhL
import Derived.Test.YtmmffifndheafaaDoorRhB
namespace Go.Proofs.YtmmffifndheafaaDoor
open Go.RowKit
set_option maxRecDepth 100000

/-- the bytes of a head that may be are parsed as it was -/
theorem prs_hd {v k s i c : Int} (h : chk v k i c = 0) : prs (hdB v k s i c) = ((v, k, s, i, c), 0) := by
  have hle : le [s % 256, s / 256 % 256, s / 65536 % 256, s / 16777216] = s := by simp only [le]; omega
  unfold hdB
  rw [prs_8, if_pos h, hle]
theorem hd_bytes {v k s i c : Int} (h : chk v k i c = 0) (hs : 0 ≤ s ∧ s ≤ 4294967295) : Bytes (hdB v k s i c) := by
  have := chk_zero h
  intro z hz
  simp only [hdB, List.mem_cons, List.not_mem_nil, or_false] at hz
  omega

set_option maxHeartbeats 8000000 in
theorem tells_go (v k s i c : Int) (hv : -9223372036854775808 ≤ v ∧ v ≤ 9223372036854775807) (hk : -9223372036854775808 ≤ k ∧ k ≤ 9223372036854775807) (hi : -9223372036854775808 ≤ i ∧ i ≤ 9223372036854775807) (hc : -9223372036854775808 ≤ c ∧ c ≤ 9223372036854775807)
    (hs : 0 ≤ s ∧ s ≤ 4294967295) (w : World) (ht : Tens w w.heap.size) :
    Calls Tryd.prog 3 #[hdV v k s i c] w fun e w' => e = .returned (.bool true) ∧ Below w.heap.size w w' := by
  unfold hdV
  obtain ⟨w0, hw0⟩ : ∃ w0, w.alloc (.cells #[.int .i64 v, .int .i64 k, .int .u32 s, .int .i64 i, .int .i64 c] 24) = w0 := ⟨_, rfl⟩
  have hs0 : w0.heap.size = w.heap.size + 1 := by rw [← hw0]; simp
  have hb0 : Below w.heap.size w w0 := by rw [← hw0]; exact (Below.refl _ w).alloc (Nat.le_refl _) _
  have hH0 : w0.heap[w.heap.size]? = some (.cells #[.int .i64 v, .int .i64 k, .int .u32 s, .int .i64 i, .int .i64 c] 24 (0, 0)) := by rw [← hw0]; exact World.alloc_heap_new _ _
  have HW := Lib.hid hw0
  clear hw0
  by_cases h0 : chk v k i c = 0
  · have H0 := Lib.hid h0
    have hq := chk_zero h0
    have hz : (0 ≤ v ∧ v ≤ 255) ∧ (0 ≤ k ∧ k ≤ 255) ∧ (0 ≤ i ∧ i ≤ 255) ∧ (0 ≤ c ∧ c ≤ 255) := by omega
    have hc1 : 1 ≤ c ∧ c ≤ 255 := by omega
    clear h0 hq
    go_enter Tryd.func3, Tryd.ntmps3
    go_wp2_with fail
    rw [HW.out]
    have HC := hbytes_any v k s i c hs w0
    unfold hdV at HC
    refine HC.mono ?_
    rintro e w1 ⟨hr, hb1⟩
    clear HC
    obtain ⟨g, rfl, hn⟩ : ∃ g, e = .returned (.tuple #[.slice (some ⟨g, 0, none⟩) 8 8, .int .i64 0]) ∧ Nums .u8 w1 w1.heap.size (some ⟨g, 0, none⟩) (hdB v k s i c) := by
      rcases hr with ⟨h, _⟩ | ⟨_, g, _, h2, h3⟩
      · exact absurd H0.out h
      · exact ⟨g, h2, h3⟩
    clear hr
    have hb01 := hb0.trans (hb1.mono (by omega))
    have hH1 := (hb1.block w.heap.size (by omega)).trans hH0
    obtain ⟨d0, d1, d2, d3, d4⟩ := hd_block hH1
    have HB1 := Lib.hid hb01
    have HH1 := Lib.hid hH1
    have HN1 := Lib.hid hn
    clear hb1 hb01 hH1 hH0 hb0 hn
    go_wp2_with fail
    have HC := rcheck_any v k s i c w1
    unfold hdV at HC
    rw [H0.out] at HC
    refine HC.mono ?_
    rintro e w2 ⟨rfl, hb2⟩
    clear HC d0 d1 d2 d3 d4
    have HB2 := Lib.hid (HB1.out.trans (hb2.mono HB1.out.size))
    have HN2 := Lib.hid ((HN1.out.below hb2).mono hb2.size)
    have hl2 : w.heap.size < w2.heap.size := by have := (Array.getElem?_eq_some_iff.1 HH1.out).1; have := hb2.size; omega
    have hH2 := (hb2.block w.heap.size (Array.getElem?_eq_some_iff.1 HH1.out).1).trans HH1.out
    have hH : ∀ W, Below w2.heap.size w2 W → W.heap[w.heap.size]? = some (.cells #[.int .i64 v, .int .i64 k, .int .u32 s, .int .i64 i, .int .i64 c] 24 (0, 0)) := fun W hW => (hW.block _ hl2).trans hH2
    have HT : Hid (∀ W, Below w2.heap.size w2 W → Tens W w.heap.size) := fun W hW => (ht.below HB2.out).below (hW.mono (by omega))
    clear hb2 HB1 HH1 HN1
    go_wp2_with fail
    refine wp_region_F 76 [] (fun _ _ _ => False) (fun W => Below w2.heap.size w2 W) (by kernel_rfl) (by kernel_rfl) (by rfl) (by simp) (fun W W' h hb => h.trans (hb.mono h.size)) (fun s v W W' h hb => h) (Below.refl _ _).drew ?_
    refine wpF_load (.agg #[.int .i64 v, .int .i64 k, .int .u32 s, .int .i64 i, .int .i64 c]) rfl (by rfl) (by rfl) (by rfl) (fun W hW => by obtain ⟨a0, a1, a2, a3, a4⟩ := hd_block (hH W hW); simp [Instr.loadAt, go_sem, a0, a1, a2, a3, a4]) ?_
    simp only [Act.put, List.setIfInBounds_toArray, List.set_cons_succ, List.set_cons_zero]
    refine wpF_call (f := 8) (args := #[.agg #[.int .i64 v, .int .i64 k, .int .u32 s, .int .i64 i, .int .i64 c]]) (.int .i64 0) rfl rfl (fun x => by first | rfl | (simp [go_sem]; done)) (fun W hW => by have := check_any v k s i c W; rw [H0.out] at this; exact this) ?_
    simp only [Act.put, List.setIfInBounds_toArray, List.set_cons_succ, List.set_cons_zero]
    refine wpF_pure rfl rfl ?_; go_big_quiet_step (fail); refine wpQuiet_nil ?_
    refine wpF_pure rfl rfl ?_; go_big_quiet_step (fail); refine wpQuiet_nil ?_
    refine wpF_pure rfl rfl ?_; go_big_quiet_step (fail); refine wpQuiet_nil ?_
    refine wpF_pure rfl rfl ?_; go_big_quiet_step (fail); refine wpQuiet_nil ?_
    refine wpF_pure rfl rfl ?_; go_big_quiet_step (fail); refine wpQuiet_nil ?_
    refine wpF_pure rfl rfl ?_; go_big_quiet_step (fail); refine wpQuiet_nil ?_
    refine wpF_pure rfl rfl ?_; go_big_quiet_step (fail); refine wpQuiet_nil ?_
    refine wpF_pure rfl rfl ?_; go_big_quiet_step (fail); refine wpQuiet_nil ?_
    refine wpF_load (.agg #[.int .i64 v, .int .i64 k, .int .u32 s, .int .i64 i, .int .i64 c]) rfl (by rfl) (by rfl) (by rfl) (fun W hW => by obtain ⟨a0, a1, a2, a3, a4⟩ := hd_block (hH W hW); simp [Instr.loadAt, go_sem, a0, a1, a2, a3, a4]) ?_
    simp only [Act.put, List.setIfInBounds_toArray, List.set_cons_succ, List.set_cons_zero]
    refine wpF_call (f := 9) (args := #[.agg #[.int .i64 v, .int .i64 k, .int .u32 s, .int .i64 i, .int .i64 c]]) (.string (lineZ v k s i c)) rfl rfl (fun x => by first | rfl | (simp [go_sem]; done)) (fun W hW => hline_any v k s i c hv hk hi hc hs w.heap.size W (HT.out W hW) (by have := hW.size; omega)) ?_
    simp only [Act.put, List.setIfInBounds_toArray, List.set_cons_succ, List.set_cons_zero]
    refine wpF_load (.agg #[.int .i64 v, .int .i64 k, .int .u32 s, .int .i64 i, .int .i64 c]) rfl (by rfl) (by rfl) (by rfl) (fun W hW => by obtain ⟨a0, a1, a2, a3, a4⟩ := hd_block (hH W hW); simp [Instr.loadAt, go_sem, a0, a1, a2, a3, a4]) ?_
    simp only [Act.put, List.setIfInBounds_toArray, List.set_cons_succ, List.set_cons_zero]
    refine wpF_call (f := 10) (args := #[.agg #[.int .i64 v, .int .i64 k, .int .u32 s, .int .i64 i, .int .i64 c]]) (.string (lineZ v k s i c)) rfl rfl (fun x => by first | rfl | (simp [go_sem]; done)) (fun W hW => rline_any v k s i c hv hk hi hc hs W) ?_
    simp only [Act.put, List.setIfInBounds_toArray, List.set_cons_succ, List.set_cons_zero]
    refine wpF_pure rfl rfl ?_; go_big_quiet_step (fail); refine wpQuiet_nil ?_
    refine wpF_pure rfl rfl ?_; go_big_quiet_step (fail); refine wpQuiet_nil ?_
    intro xs W3 hW3 _
    simp only [fill]
    have KP := hparse_any (some ⟨g, 0, none⟩) 8 8 (hdB v k s i c) W3 rfl (hd_bytes H0.out hs) ((HN2.out.below hW3).mono hW3.size)
    rw [prs_hd H0.out] at KP
    simp only [hdP] at KP
    unfold hdV at KP
    have hs3 := hW3.size
    have hH3 := hH W3 hW3
    have HB3 := Lib.hid (HB2.out.trans (hW3.mono (by omega)))
    have HN3 := Lib.hid ((HN2.out.below hW3).mono hs3)
    clear hW3 hH hH2 HB2 HN2 HT
    go_wp2_with fail
    refine KP.mono ?_
    rintro e w4 ⟨rfl, hb4⟩
    clear KP
    go_wp2_with fail
    have hs4 := hb4.size
    have ha := (Below.refl _ w4).alloc (Nat.le_refl _) (.cells #[.int .i64 v, .int .i64 k, .int .u32 s, .int .i64 i, .int .i64 c] 24)
    have hX5 := World.alloc_heap_new w4 (.cells #[.int .i64 v, .int .i64 k, .int .u32 s, .int .i64 i, .int .i64 c] 24)
    have hH5 := (Below.heap_alloc w4 (.cells #[.int .i64 v, .int .i64 k, .int .u32 s, .int .i64 i, .int .i64 c] 24) w.heap.size (by omega)).trans ((hb4.block w.heap.size (by omega)).trans hH3)
    have HB5 := Lib.hid ((HB3.out.trans (hb4.mono (by omega))).trans (ha.mono (by omega)))
    have hn5 := (((HN3.out.below hb4).mono hb4.size).below ha).mono ha.size
    have hs5 : w4.heap.size < (w4.alloc (.cells #[.int .i64 v, .int .i64 k, .int .u32 s, .int .i64 i, .int .i64 c] 24)).heap.size := by simp
    generalize w4.alloc (.cells #[.int .i64 v, .int .i64 k, .int .u32 s, .int .i64 i, .int .i64 c] 24) = w5 at hX5 hH5 HB5 hn5 hs5 ⊢
    have hH : ∀ W, Below w5.heap.size w5 W → W.heap[w.heap.size]? = some (.cells #[.int .i64 v, .int .i64 k, .int .u32 s, .int .i64 i, .int .i64 c] 24 (0, 0)) := fun W hW => (hW.block _ (by omega)).trans hH5
    have hX : ∀ W, Below w5.heap.size w5 W → W.heap[w4.heap.size]? = some (.cells #[.int .i64 v, .int .i64 k, .int .u32 s, .int .i64 i, .int .i64 c] 24 (0, 0)) := fun W hW => (hW.block _ hs5).trans hX5
    have HT5 : Hid (∀ W, Below w5.heap.size w5 W → Tens W w.heap.size) := fun W hW => (ht.below HB5.out).below (hW.mono (by omega))
    have HN5 : Hid (∀ W, Below w5.heap.size w5 W → Nums .u8 W W.heap.size (some ⟨g, 0, none⟩) (hdB v k s i c)) := fun W hW => (hn5.below hW).mono hW.size
    clear hb4 ha hX5 hH5 hn5 HB3 HN3 hH3
    refine wp_region_F 76 [48] (fun _ x W => ∃ A cc, x = .slice A 8 cc ∧ Nums .u8 W W.heap.size A (hdB v k s i c)) (fun W => Below w5.heap.size w5 W) (by kernel_rfl) (by kernel_rfl) (by rfl) (by simp) (fun W W' h hb => h.trans (hb.mono h.size)) (fun q x W W' h hb => by obtain ⟨A, cc, e, hn⟩ := h; exact ⟨A, cc, e, (hn.below hb).mono hb.size⟩) (Below.refl _ _).drew ?_
    refine wpF_call (f := 11) (args := #[]) (.bool true) rfl rfl (fun x => by first | rfl | (simp [go_sem]; done)) (fun W hW => known_any w.heap.size W (HT5.out W hW) (by have := hW.size; omega)) ?_
    simp only [Act.put, List.setIfInBounds_toArray, List.set_cons_succ, List.set_cons_zero]
    refine wpF_pure rfl rfl ?_; go_big_quiet_step (fail); refine wpQuiet_nil ?_
    refine wpF_pure rfl rfl ?_; go_big_quiet_step (fail); refine wpQuiet_nil ?_
    refine wpF_load (.agg #[.int .i64 v, .int .i64 k, .int .u32 s, .int .i64 i, .int .i64 c]) rfl (by rfl) (by rfl) (by rfl) (fun W hW => by obtain ⟨a0, a1, a2, a3, a4⟩ := hd_block (hH W hW); simp [Instr.loadAt, go_sem, a0, a1, a2, a3, a4]) ?_
    simp only [Act.put, List.setIfInBounds_toArray, List.set_cons_succ, List.set_cons_zero]
    refine wpF_callsrc 48 (f := 14) (args := #[.agg #[.int .i64 v, .int .i64 k, .int .u32 s, .int .i64 i, .int .i64 c]]) (by simp) rfl rfl rfl (fun x => by first | rfl | (simp [go_sem]; done)) (fun W hW => (rbytes_any v k s i c hz.1 hz.2.1 hz.2.2.1 hz.2.2.2 hs W).mono fun e W' ⟨x, he, hm⟩ => by obtain ⟨A, cc, rfl, _, hn⟩ := MadeK.slice hm; exact ⟨_, he, ⟨A, cc, rfl, hn⟩, hm.2⟩) ?_
    simp only [Act.put, List.setIfInBounds_toArray, List.set_cons_succ, List.set_cons_zero]
    refine wpF_use 48 4 (f := 13) (fun x => #[.slice (some ⟨g, 0, none⟩) 8 8, x]) (.bool true) (by simp) rfl (by kernel_rfl) (by kernel_rfl) (by kernel_rfl) (fun _ => rfl) (fun x W => by first | rfl | (simp [go_sem]; done)) (fun x W hW hx => by
      obtain ⟨A, cc, rfl, hn⟩ := hx
      refine (same_len W.heap.size (some ⟨g, 0, none⟩) A 8 8 8 cc (hdB v k s i c) (hdB v k s i c) W rfl rfl rfl (by omega) (HN5.out W hW) hn).mono ?_
      rintro e W' ⟨he, d, hd⟩
      exact ⟨he, by rw [hd]; exact below_drewN (Below.refl _ _) d⟩) ?_
    simp only [Act.put, List.setIfInBounds_toArray, List.set_cons_succ, List.set_cons_zero]
    refine wpF_pure rfl rfl ?_; go_big_quiet_step (fail); refine wpQuiet_nil ?_
    refine wpF_pure rfl rfl ?_; go_big_quiet_step (fail); refine wpQuiet_nil ?_
    refine wpF_load (.agg #[.int .i64 v, .int .i64 k, .int .u32 s, .int .i64 i, .int .i64 c]) rfl (by rfl) (by rfl) (by rfl) (fun W hW => by obtain ⟨a0, a1, a2, a3, a4⟩ := hd_block (hX W hW); simp [Instr.loadAt, go_sem, a0, a1, a2, a3, a4]) ?_
    simp only [Act.put, List.setIfInBounds_toArray, List.set_cons_succ, List.set_cons_zero]
    refine wpF_load (.agg #[.int .i64 v, .int .i64 k, .int .u32 s, .int .i64 i, .int .i64 c]) rfl (by rfl) (by rfl) (by rfl) (fun W hW => by obtain ⟨a0, a1, a2, a3, a4⟩ := hd_block (hH W hW); simp [Instr.loadAt, go_sem, a0, a1, a2, a3, a4]) ?_
    simp only [Act.put, List.setIfInBounds_toArray, List.set_cons_succ, List.set_cons_zero]
    refine wpF_pure rfl rfl ?_; go_big_quiet_step (fail); refine wpQuiet_nil ?_
    refine wpF_pure rfl rfl ?_; go_big_quiet_step (fail); refine wpQuiet_nil ?_
    refine wpF_pure rfl rfl ?_; go_big_quiet_step (fail); refine wpQuiet_nil ?_
    refine wpF_pure rfl rfl ?_; go_big_quiet_step (fail); refine wpQuiet_nil ?_
    refine wpF_pure rfl rfl ?_; go_big_quiet_step (fail); refine wpQuiet_nil ?_
    refine wpF_pure rfl rfl ?_; go_big_quiet_step (fail); refine wpQuiet_nil ?_
    refine wpF_pure rfl rfl ?_; go_big_quiet_step (fail); refine wpQuiet_nil ?_
    refine wpF_pure rfl rfl ?_; go_big_quiet_step (fail); refine wpQuiet_nil ?_
    refine wpF_pure rfl rfl ?_; go_big_quiet_step (fail); refine wpQuiet_nil ?_
    refine wpF_pure rfl rfl ?_; go_big_quiet_step (fail); refine wpQuiet_nil ?_
    refine wpF_pure rfl rfl ?_; go_big_quiet_step (fail); refine wpQuiet_nil ?_
    refine wpF_pure rfl rfl ?_; go_big_quiet_step (fail); refine wpQuiet_nil ?_
    refine wpF_load (.agg #[.int .i64 v, .int .i64 k, .int .u32 s, .int .i64 i, .int .i64 c]) rfl (by rfl) (by rfl) (by rfl) (fun W hW => by obtain ⟨a0, a1, a2, a3, a4⟩ := hd_block (hH W hW); simp [Instr.loadAt, go_sem, a0, a1, a2, a3, a4]) ?_
    simp only [Act.put, List.setIfInBounds_toArray, List.set_cons_succ, List.set_cons_zero]
    refine wpF_call (f := 15) (args := #[.agg #[.int .i64 v, .int .i64 k, .int .u32 s, .int .i64 i, .int .i64 c]]) (.bool (i == c - 1)) rfl rfl (fun x => by first | rfl | (simp [go_sem]; done)) (fun W hW => last_any v k s i c hz.2.2.1 W) ?_
    simp only [Act.put, List.setIfInBounds_toArray, List.set_cons_succ, List.set_cons_zero]
    refine wpF_pure rfl rfl ?_; go_big_quiet_step (fail); refine wpQuiet_nil ?_
    refine wpF_load (.int .i64 i) rfl (by rfl) (by rfl) (by rfl) (fun W hW => by have := (hd_block (hH W hW)).2.2.2.1; simp [Instr.loadAt, go_sem, this]) ?_
    simp only [Act.put, List.setIfInBounds_toArray, List.set_cons_succ, List.set_cons_zero]
    refine wpF_pure rfl rfl ?_; go_big_quiet_step (fail); refine wpQuiet_nil ?_
    refine wpF_load (.int .i64 c) rfl (by rfl) (by rfl) (by rfl) (fun W hW => by have := (hd_block (hH W hW)).2.2.2.2; simp [Instr.loadAt, go_sem, this]) ?_
    simp only [Act.put, List.setIfInBounds_toArray, List.set_cons_succ, List.set_cons_zero]
    refine wpF_pure rfl rfl ?_; go_big_quiet_step (fail); refine wpQuiet_nil ?_
    refine wpF_pure rfl rfl ?_; go_big_quiet_step (fail); refine wpQuiet_nil ?_
    refine wpF_pure rfl rfl ?_; go_big_quiet_step (fail); refine wpQuiet_nil ?_
    refine wpF_pure rfl rfl ?_; go_big_quiet_step (fail); refine wpQuiet_nil ?_
    refine wpF_pure rfl rfl ?_; go_big_quiet_step (fail); refine wpQuiet_nil ?_
    intro xs W hW _
    simp only [fill, Act.put, List.setIfInBounds_toArray, List.set_cons_succ, List.set_cons_zero]
    have HF := Lib.hid (HB5.out.trans (hW.mono (by omega)))
    clear hW
    go_wp2
    go_ret
    exact ⟨rfl, HF.out⟩
  · have h1 : (chk v k i c != 0) = true := by simpa using h0
    have H0 := Lib.hid h0
    clear h0
    go_enter Tryd.func3, Tryd.ntmps3
    go_wp2_with fail
    rw [HW.out]
    have HC := hbytes_any v k s i c hs w0
    unfold hdV at HC
    refine HC.mono ?_
    rintro e w1 ⟨hr, hb1⟩
    clear HC
    obtain rfl : e = .returned (.tuple #[.slice none 0 0, .int .i64 (chk v k i c)]) := by
      rcases hr with ⟨_, e1⟩ | ⟨h, _⟩
      · exact e1
      · exact absurd h H0.out
    clear hr
    have hb01 := hb0.trans (hb1.mono (by omega))
    have hH1 := (hb1.block w.heap.size (by omega)).trans hH0
    obtain ⟨d0, d1, d2, d3, d4⟩ := hd_block hH1
    have HB1 := Lib.hid hb01
    have HH1 := Lib.hid hH1
    clear hb1 hb01 hH1 hH0 hb0
    go_wp2_with fail
    have HC := rcheck_any v k s i c w1
    unfold hdV at HC
    refine HC.mono ?_
    rintro e w2 ⟨rfl, hb2⟩
    clear HC d0 d1 d2 d3 d4
    have HB2 := Lib.hid (HB1.out.trans (hb2.mono HB1.out.size))
    have hl2 : w.heap.size < w2.heap.size := by have := (Array.getElem?_eq_some_iff.1 HH1.out).1; have := hb2.size; omega
    have hH2 := (hb2.block w.heap.size (Array.getElem?_eq_some_iff.1 HH1.out).1).trans HH1.out
    have hH : ∀ W, Below w2.heap.size w2 W → W.heap[w.heap.size]? = some (.cells #[.int .i64 v, .int .i64 k, .int .u32 s, .int .i64 i, .int .i64 c] 24 (0, 0)) := fun W hW => (hW.block _ hl2).trans hH2
    have HT : Hid (∀ W, Below w2.heap.size w2 W → Tens W w.heap.size) := fun W hW => (ht.below HB2.out).below (hW.mono (by omega))
    clear hb2 HB1 HH1
    go_wp2_with fail
    refine wp_region_F 76 [] (fun _ _ _ => False) (fun W => Below w2.heap.size w2 W) (by kernel_rfl) (by kernel_rfl) (by rfl) (by simp) (fun W W' h hb => h.trans (hb.mono h.size)) (fun s v W W' h hb => h) (Below.refl _ _).drew ?_
    refine wpF_load (.agg #[.int .i64 v, .int .i64 k, .int .u32 s, .int .i64 i, .int .i64 c]) rfl (by rfl) (by rfl) (by rfl) (fun W hW => by obtain ⟨a0, a1, a2, a3, a4⟩ := hd_block (hH W hW); simp [Instr.loadAt, go_sem, a0, a1, a2, a3, a4]) ?_
    simp only [Act.put, List.setIfInBounds_toArray, List.set_cons_succ, List.set_cons_zero]
    refine wpF_call (f := 8) (args := #[.agg #[.int .i64 v, .int .i64 k, .int .u32 s, .int .i64 i, .int .i64 c]]) (.int .i64 (chk v k i c)) rfl rfl (fun x => by first | rfl | (simp [go_sem]; done)) (fun W hW => check_any v k s i c W) ?_
    simp only [Act.put, List.setIfInBounds_toArray, List.set_cons_succ, List.set_cons_zero]
    refine wpF_pure rfl rfl ?_; go_big_quiet_step (fail); refine wpQuiet_nil ?_
    refine wpF_pure rfl rfl ?_; go_big_quiet_step (fail); refine wpQuiet_nil ?_
    refine wpF_pure rfl rfl ?_; go_big_quiet_step (fail); refine wpQuiet_nil ?_
    refine wpF_pure rfl rfl ?_; go_big_quiet_step (fail); refine wpQuiet_nil ?_
    refine wpF_pure rfl rfl ?_; go_big_quiet_step (fail); refine wpQuiet_nil ?_
    refine wpF_pure rfl rfl ?_; go_big_quiet_step (fail); refine wpQuiet_nil ?_
    refine wpF_pure rfl rfl ?_; go_big_quiet_step (fail); refine wpQuiet_nil ?_
    refine wpF_pure rfl rfl ?_; go_big_quiet_step (fail); refine wpQuiet_nil ?_
    refine wpF_load (.agg #[.int .i64 v, .int .i64 k, .int .u32 s, .int .i64 i, .int .i64 c]) rfl (by rfl) (by rfl) (by rfl) (fun W hW => by obtain ⟨a0, a1, a2, a3, a4⟩ := hd_block (hH W hW); simp [Instr.loadAt, go_sem, a0, a1, a2, a3, a4]) ?_
    simp only [Act.put, List.setIfInBounds_toArray, List.set_cons_succ, List.set_cons_zero]
    refine wpF_call (f := 9) (args := #[.agg #[.int .i64 v, .int .i64 k, .int .u32 s, .int .i64 i, .int .i64 c]]) (.string (lineZ v k s i c)) rfl rfl (fun x => by first | rfl | (simp [go_sem]; done)) (fun W hW => hline_any v k s i c hv hk hi hc hs w.heap.size W (HT.out W hW) (by have := hW.size; omega)) ?_
    simp only [Act.put, List.setIfInBounds_toArray, List.set_cons_succ, List.set_cons_zero]
    refine wpF_load (.agg #[.int .i64 v, .int .i64 k, .int .u32 s, .int .i64 i, .int .i64 c]) rfl (by rfl) (by rfl) (by rfl) (fun W hW => by obtain ⟨a0, a1, a2, a3, a4⟩ := hd_block (hH W hW); simp [Instr.loadAt, go_sem, a0, a1, a2, a3, a4]) ?_
    simp only [Act.put, List.setIfInBounds_toArray, List.set_cons_succ, List.set_cons_zero]
    refine wpF_call (f := 10) (args := #[.agg #[.int .i64 v, .int .i64 k, .int .u32 s, .int .i64 i, .int .i64 c]]) (.string (lineZ v k s i c)) rfl rfl (fun x => by first | rfl | (simp [go_sem]; done)) (fun W hW => rline_any v k s i c hv hk hi hc hs W) ?_
    simp only [Act.put, List.setIfInBounds_toArray, List.set_cons_succ, List.set_cons_zero]
    refine wpF_pure rfl rfl ?_; go_big_quiet_step (fail); refine wpQuiet_nil ?_
    refine wpF_pure rfl rfl ?_; go_big_quiet_step (fail); refine wpQuiet_nil ?_
    intro xs W hW _
    simp only [fill]
    go_wp2_with fail
    refine (known_any w.heap.size W (HT.out W hW) (by have := hW.size; omega)).mono ?_
    rintro e w4 ⟨rfl, hb4⟩
    have HF := Lib.hid (HB2.out.trans ((hW.trans (hb4.mono hW.size)).mono (by omega)))
    clear hb4 hW
    go_wp2
    go_ret
    exact ⟨rfl, HF.out⟩
end Go.Proofs.YtmmffifndheafaaDoor
